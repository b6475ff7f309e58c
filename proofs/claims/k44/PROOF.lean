import PyProof.Rows.All
import Wide.All
import OpenK.AllK
import Wide.FinOn
import HandS.ForMost
import HandS.Wide
import HandS.Codes
import HandS.EndBits
import KE.KStateDown
import HandS.Defaults
import HandS.Words
import HandS.ExcInit
import HandS.Head0
import HandS.Head1
import HandS.Head2
import HandS.Head3
import HandS.HeadHook1
import HandS.HeadHook2
import HandS.HeadHook3
import HandS.HeadHook4
import HandS.Lambda
import HandS.IsInst
import HandS.Walk
import HandS.ClsMeth
import HandS.SlotsOwn
import KE.KOpsOwn
import PyProof.TwoTypes
import PyProof.IsiBase
import KE.KIsAll
import HandS.StrMore
import PyProof.StrOps2
import HandS.Text
import KE.IntTextText
import HandS.Dict
import HandS.Style
import HandS.Star
import HandS.FStr
import HandS.RaiseMore
import KE.KCallOwn
import PyProof.Methods
import HandS.Exc
import HandS.ExcField
import HandS.ExcIs
import HandS.OwnEq
import PyProof.InstEq
import PyProof.Raises
import PyProof.TypeEq
import HandS.MakeKw
import HandS.MakeKwOnly
import HandS.EndTab
import PySem.Challenge.RW_latechunks_k44_rules_made_and_refused
set_option Elab.async false
set_option linter.all false
set_option maxRecDepth 100000
set_option maxHeartbeats 4000000
namespace Lw
open PySem PySem.Spec PyProof.Rows L2
def tq (i : Nat) : Stmt := PySem.Challenge.pw_latechunks_k44_rules_made_and_refused.main.body.getD i (.Pass ⟨0, 0, 0, 0⟩)
/-! ### the head told by one run: defs at paths, tests of K, tables of lambdas -/
namespace Hz
open PySem PySem.Spec PyProof.Rows L2 He
def mcOf (K : PySem.W.Frag) (C : Addr) : Value := match PySem.W.typeIn K (.ref C) with
  | some v => v
  | none => .none
def pAd (K : PySem.W.Frag) (C : Addr) (n : Str) : Addr := match PySem.W.findCls K (.ref C) (mcOf K C) n with
  | some (.get _ (.ref p) _ _) => p
  | _ => 0
def rAd (K : PySem.W.Frag) (p : Addr) (T : String) : Addr := match PySem.W.recIn K p T with
  | some (.ref f :: _) => f
  | _ => 0
def typB (K : PySem.W.Frag) (C : Addr) : Bool := match PySem.W.typeIn K (.ref C) with
  | some _ => true
  | none => false
theorem typB_ok {K : PySem.W.Frag} {C : Addr} (h : typB K C = true) : PySem.W.typeIn K (.ref C) = some (mcOf K C) := by
  unfold typB at h
  unfold mcOf
  cases e : PySem.W.typeIn K (.ref C) with
  | none => rw [e] at h; cases h
  | some v => rfl
def getB (K : PySem.W.Frag) (C : Addr) (n : Str) (g : String) : Bool := match PySem.W.findCls K (.ref C) (mcOf K C) n with
  | some (.get (.builtin g') (.ref _) .none (.ref C')) => g' == g && C' == C
  | _ => false
theorem getB_ok {K : PySem.W.Frag} {C : Addr} {n : Str} {g : String} (h : getB K C n g = true) : PySem.W.findCls K (.ref C) (mcOf K C) n = some (.get (.builtin g) (.ref (pAd K C n)) .none (.ref C)) := by
  unfold getB at h
  unfold pAd
  split at h
  · rename_i g' p C' e
    obtain ⟨h1, h2⟩ := ba h
    rw [e, beq_iff_eq.mp h1, beq_iff_eq.mp h2]
  · cases h
def recB (K : PySem.W.Frag) (p : Addr) (T : String) : Bool := match PySem.W.recIn K p T with
  | some (.ref _ :: _) => true
  | _ => false
theorem recB_ok {K : PySem.W.Frag} {p : Addr} {T : String} (h : recB K p T = true) : ∃ rs, PySem.W.recIn K p T = some (.ref (rAd K p T) :: rs) := by
  unfold recB at h
  unfold rAd
  split at h
  · rename_i f rs e
    rw [e]
    exact ⟨rs, rfl⟩
  · cases h
def intB (K : PySem.W.Frag) (x : Str) (i : Int) : Bool := match PySem.W.nsIn K mainGlobals x with
  | some (some (.int j _)) => decide (j = i)
  | _ => false
theorem intB_ok {K : PySem.W.Frag} {x : Str} {i : Int} (h : intB K x i = true) : ∃ t, PySem.W.nsIn K mainGlobals x = some (some (.int i t)) := by
  unfold intB at h
  split at h
  · rename_i j t e
    rw [← of_decide_eq_true h]
    exact ⟨t, e⟩
  · cases h
def clsB (K : PySem.W.Frag) (C : Addr) (n : Str) (i : Int) : Bool := match PySem.W.findCls K (.ref C) (mcOf K C) n with
  | some (.val (.int j _)) => decide (j = i)
  | _ => false
theorem clsB_ok {K : PySem.W.Frag} {C : Addr} {n : Str} {i : Int} (h : clsB K C n i = true) : ∃ t, PySem.W.findCls K (.ref C) (mcOf K C) n = some (.val (.int i t)) := by
  unfold clsB at h
  split at h
  · rename_i j t e
    rw [← of_decide_eq_true h]
    exact ⟨t, e⟩
  · cases h
def strB (K : PySem.W.Frag) (x z : Str) : Bool := match PySem.W.nsIn K mainGlobals x with
  | some (some (.str y _)) => decide (y = z)
  | _ => false
theorem strB_ok {K : PySem.W.Frag} {x z : Str} (h : strB K x z = true) : ∃ t, PySem.W.nsIn K mainGlobals x = some (some (.str z t)) := by
  unfold strB at h
  split at h
  · rename_i y t e
    rw [← of_decide_eq_true h]
    exact ⟨t, e⟩
  · cases h
def tupB (K : PySem.W.Frag) (a : Addr) (vs : List V) : Bool := match K.lookup a with
  | some ⟨.type c, _, .seq its _, _⟩ => c == "tuple" && relAll vs its.toList
  | _ => false
theorem tupB_ok {K : PySem.W.Frag} {a : Addr} {vs : List V} (h : tupB K a vs = true) : ∃ od ws n sl, K.lookup a = some ⟨.type "tuple", od, .seq ws n, sl⟩ ∧ Vals vs ws.toList ∧ ws.size = vs.length := by
  unfold tupB at h
  split at h
  · rename_i c od its n sl e
    obtain ⟨h1, h2⟩ := ba h
    rw [beq_iff_eq.mp h1] at e
    exact ⟨od, its, n, sl, e, relAll_ok h2, (relAll_ok h2).length.symm⟩
  · cases h
def exB (K : PySem.W.Frag) (C : Addr) (own : String) : Bool := match K.lookup C with
  | some ⟨.type "type", _, .cls cd, sl⟩ => (match cd.mro, sl.toList with
    | .ref C' :: bm, [_, _, _, _, some (.builtin n), _] => C' == C && n == own && !cd.hasDel && cd.hasDict && PySem.HandSPX.refsVE bm
    | _, _ => false)
  | _ => false
theorem exB_ok {K : PySem.W.Frag} {C : Addr} {own : String} (q : exB K C own = true) : ∃ nm qn N bs bm sn sub ab col dd k0 k1 k2 k3 k5, K.lookup C = some (excClassObj nm qn C N bs bm true sn sub ab col dd k0 k1 k2 k3 k5 own) ∧ PySem.HandSPX.refsVE bm = true := by
  unfold exB at q
  split at q
  · rename_i dd cd sl ho
    split at q
    · rename_i C' bm k0 k1 k2 k3 n k5 hm hs
      simp only [Bool.and_eq_true, beq_iff_eq, Bool.not_eq_true'] at q
      obtain ⟨⟨⟨⟨rfl, rfl⟩, hdel⟩, hd⟩, ht⟩ := q
      obtain ⟨nm, bs, mro, ns, qn, hd', sn, sub, ab, col, del⟩ := cd
      dsimp only at hm hdel hd
      subst hm hdel hd
      have hsl : sl = #[k0, k1, k2, k3, some (.builtin n), k5] := by
        obtain ⟨l⟩ := sl
        simp only at hs
        rw [hs]
      subst hsl
      exact ⟨nm, qn, ns, bs, bm, sn, sub, ab, col, dd, k0, k1, k2, k3, k5, ho, ht⟩
    · cases q
  · cases q
/-- a def: where it stands, its name, qualified name, statement, defaults -/
structure DefA where
  adr : PySem.W.Frag → Addr
  name : Str
  qual : Str
  st : Stmt
  dfl : List V := []
def DefA.val (d : DefA) : FnW := some (d.name, d.qual, C8.fnArgs d.st, .stmts (C8.fnBody d.st), C8.fnScope d.st, mainGlobals, [], builtinsNs)
def fnAt (K : PySem.W.Frag) (a : Addr) : FnW := match K.lookup a with
  | some ⟨_, _, .func fd, _⟩ => some (fd.name, fd.qualname, fd.params, fd.body, fd.scope, fd.globals, fd.closure, fd.builtins)
  | _ => none
def DefA.ok (K : PySem.W.Frag) (d : DefA) : Bool := match K.lookup (d.adr K) with
  | some ⟨_, _, .func fd, _⟩ => PySem.W.codeIn K fd.code d.qual && dflB K fd.defaults d.dfl
  | _ => false
theorem DefA.get {K : PySem.W.Frag} {d : DefA} (e : fnAt K (d.adr K) = d.val) (c : d.ok K = true) : ∃ oc od dV kV doc pm an cdv ct osl,
    K.lookup (d.adr K) = some ⟨oc, od, .func (PySem.W.fnOf d.name d.qual (C8.fnArgs d.st) (C8.fnBody d.st) (C8.fnScope d.st) dV kV doc pm an cdv ct), osl⟩ ∧ PySem.W.codeIn K cdv d.qual = true ∧ DflV K dV d.dfl := by
  unfold DefA.ok at c
  unfold fnAt at e
  cases q : K.lookup (d.adr K) with
  | none =>
    rw [q] at c
    cases c
  | some o =>
    obtain ⟨oc, od, dt, osl⟩ := o
    rw [q] at c e
    cases dt with
    | func fd =>
      obtain ⟨n1, n2, n3, n4, n5, n6, n7, n8, n9, n10, n11, n12, n13, n14, n15⟩ := fd
      have e2 : (some (n1, n2, n3, n4, n5, n6, n7, n15) : FnW) = some (d.name, d.qual, C8.fnArgs d.st, .stmts (C8.fnBody d.st), C8.fnScope d.st, mainGlobals, [], builtinsNs) := e
      simp only [Option.some.injEq, Prod.mk.injEq] at e2
      obtain ⟨h1, h2, h3, h4, h5, h6, h7, h8⟩ := e2
      subst h1 h2 h3 h4 h5 h6 h7 h8
      obtain ⟨k1, k2⟩ := ba (show (PySem.W.codeIn K n13 d.qual && dflB K n8 d.dfl) = true from c)
      exact ⟨oc, od, n8, n9, n10, n11, n12, n13, n14, osl, rfl, k1, dflB_ok k2⟩
    | _ => cases c
structure SaysZ (fn : List DefA) (tf : List Defn) (ex : PySem.W.Frag → List (List Bool)) (h : Heap) (K : PySem.W.Frag) : Prop where
  d1 : fn.all (fun d => d.ok K) = true
  d2 : fn.map (fun d => fnAt K (d.adr K)) = fn.map DefA.val
  more : (ex K).all (fun l => l.all id) = true
  hd : ∀ p ∈ tf, PySem.W.codeHdIn K (cT K p).1 (cT K p).2 = true
  out : ∀ p ∈ tf, K.lookup (cT K p).2 = none
  empty : ∀ p ∈ tf, h.get? (cT K p).2 = some { cls := .none, data := .fields #[] }
theorem SaysZ.get {fn : List DefA} {tf : List Defn} {ex : PySem.W.Frag → List (List Bool)} {h : Heap} {K : PySem.W.Frag} (c : SaysZ fn tf ex h K) (i : Nat) {d : DefA} (hi : fn[i]? = some d) : ∃ oc od dV kV doc pm an cdv ct osl,
    K.lookup (d.adr K) = some ⟨oc, od, .func (PySem.W.fnOf d.name d.qual (C8.fnArgs d.st) (C8.fnBody d.st) (C8.fnScope d.st) dV kV doc pm an cdv ct), osl⟩ ∧ PySem.W.codeIn K cdv d.qual = true ∧ DflV K dV d.dfl := by
  have e2 : (fn.map fun d => fnAt K (d.adr K))[i]? = (fn.map DefA.val)[i]? := by rw [c.d2]
  rw [List.getElem?_map, List.getElem?_map, hi] at e2
  exact DefA.get (Option.some.inj e2) (List.all_eq_true.mp c.d1 d (List.mem_of_getElem? hi))
theorem SaysZ.get0 {fn : List DefA} {tf : List Defn} {ex : PySem.W.Frag → List (List Bool)} {h : Heap} {K : PySem.W.Frag} (c : SaysZ fn tf ex h K) (i : Nat) {d : DefA} (hi : fn[i]? = some d) (h0 : d.dfl = []) : ∃ oc od kV doc pm an cdv ct osl,
    K.lookup (d.adr K) = some ⟨oc, od, .func (PySem.W.fnOf d.name d.qual (C8.fnArgs d.st) (C8.fnBody d.st) (C8.fnScope d.st) .none kV doc pm an cdv ct), osl⟩ ∧ PySem.W.codeIn K cdv d.qual = true := by
  obtain ⟨oc, od, dV, kV, doc, pm, an, cdv, ct, osl, lk, hc, hd⟩ := c.get i hi
  have e : dV = .none := by
    rcases hd with ⟨_, e⟩ | ⟨n, _⟩
    · exact e
    · exact absurd h0 n
  subst e
  exact ⟨oc, od, kV, doc, pm, an, cdv, ct, osl, lk, hc⟩
theorem SaysZ.getD {fn : List DefA} {tf : List Defn} {ex : PySem.W.Frag → List (List Bool)} {h : Heap} {K : PySem.W.Frag} (c : SaysZ fn tf ex h K) (i : Nat) {d : DefA} (hi : fn[i]? = some d) (h0 : d.dfl ≠ []) : ∃ oc od T kV doc pm an cdv ct osl oT odT its n slT,
    K.lookup (d.adr K) = some ⟨oc, od, .func (PySem.W.fnOf d.name d.qual (C8.fnArgs d.st) (C8.fnBody d.st) (C8.fnScope d.st) (.ref T) kV doc pm an cdv ct), osl⟩ ∧ PySem.W.codeIn K cdv d.qual = true ∧ K.lookup T = some ⟨oT, odT, .seq (List.toArray its) n, slT⟩ ∧ Vals d.dfl its := by
  obtain ⟨oc, od, dV, kV, doc, pm, an, cdv, ct, osl, lk, hc, hd⟩ := c.get i hi
  rcases hd with ⟨e, _⟩ | ⟨_, T, o, its, m, rfl, lT, oT, rT⟩
  · exact absurd e h0
  · obtain ⟨a1, a2, a3, a4⟩ := o
    dsimp only at oT
    subst oT
    exact ⟨oc, od, T, kV, doc, pm, an, cdv, ct, osl, a1, a2, its, m, a4, lk, hc, lT, rT⟩
theorem ints1 {i : Int} {its : List Value} (h : Vals [V.int i] its) : ∃ t, its = [.int i t] := by
  cases h with
  | cons r0 r1 =>
    cases r1
    obtain ⟨t, rfl⟩ := (show ∃ t, _ = Value.int i t from r0)
    exact ⟨t, rfl⟩
theorem ints3 {i j k : Int} {its : List Value} (h : Vals [V.int i, V.int j, V.int k] its) : ∃ t u v, its = [.int i t, .int j u, .int k v] := by
  cases h with
  | cons r0 r1 =>
    cases r1 with
    | cons r2 r3 =>
      cases r3 with
      | cons r4 r5 =>
        cases r5
        obtain ⟨t, rfl⟩ := (show ∃ t, _ = Value.int i t from r0)
        obtain ⟨u, rfl⟩ := (show ∃ t, _ = Value.int j t from r2)
        obtain ⟨v, rfl⟩ := (show ∃ t, _ = Value.int k t from r4)
        exact ⟨t, u, v, rfl⟩
theorem nons1 {its : List Value} (h : Vals [V.non] its) : its = [.none] := by
  cases h with
  | cons r0 r1 =>
    cases r1
    rw [show _ = Value.none from r0]
theorem at_ {ls : List (List Bool)} (h : ls.all (fun l => l.all id) = true) (i j : Nat) {l : List Bool} {b : Bool} (hi : ls[i]? = some l) (hj : l[j]? = some b) : b = true :=
  List.all_eq_true.mp (List.all_eq_true.mp h l (List.mem_of_getElem? hi)) b (List.mem_of_getElem? hj)
/-- what several runs tell, together -/
theorem comb {α β γ : Type} {R : Option α} {A1 : α → Bool} {A2 : α → β} {Dm : α → γ} {c e : α → Bool} {g : β} {d : γ} (h1 : R.map (fun x => (A1 x, A2 x, Dm x)) = some (true, g, d)) (h2 : R.map (fun x => c x) = some true) (h3 : R.map (fun x => e x) = some true) : R.map (fun x => (A1 x, A2 x, (Dm x, c x && e x))) = some (true, g, (d, true)) := by
  cases R with
  | none => cases h1
  | some x =>
    have e1 := Option.some.inj (show some (A1 x, A2 x, Dm x) = some (true, g, d) from h1)
    have e2 : c x = true := Option.some.inj (show some (c x) = some true from h2)
    have e3 : e x = true := Option.some.inj (show some (e x) = some true from h3)
    obtain ⟨q1, q2⟩ := Prod.mk.inj e1
    obtain ⟨q3, q4⟩ := Prod.mk.inj q2
    show some (A1 x, A2 x, (Dm x, c x && e x)) = _
    rw [q1, q3, q4, e2, e3]
    rfl
def obsZ (as : List Addr) (fn : List DefA) (tf : List Defn) (ex : PySem.W.Frag → List (List Bool)) (g : Addr → Option Obj) : List FnW × Bool := (fn.map fun d => fnAt (frT g as) (d.adr (frT g as)), (fn.all fun d => d.ok (frT g as)) && ((ex (frT g as)).all (fun l => l.all id) && tabsB g tf (frT g as)))
theorem saysZ_of {as : List Addr} {fn : List DefA} {tf : List Defn} {ex : PySem.W.Frag → List (List Bool)} {h : Heap} (e : obsZ as fn tf ex h.get? = (fn.map DefA.val, true)) : SaysZ fn tf ex h (frT h.get? as) := by
  have e1 : fn.map (fun d => fnAt (frT h.get? as) (d.adr (frT h.get? as))) = fn.map DefA.val := congrArg (fun z : List FnW × Bool => z.1) e
  have e2 : ((fn.all fun d => d.ok (frT h.get? as)) && ((ex (frT h.get? as)).all (fun l => l.all id) && tabsB h.get? tf (frT h.get? as))) = true := congrArg (fun z : List FnW × Bool => z.2) e
  obtain ⟨h0, e3⟩ := ba e2
  obtain ⟨h1, h2⟩ := ba e3
  have key : ∀ p ∈ tf, PySem.W.codeHdIn (frT h.get? as) (cT (frT h.get? as) p).1 (cT (frT h.get? as) p).2 = true ∧ ∃ o, h.get? (cT (frT h.get? as) p).2 = some o ∧ emptyTab o = true := fun p hp => by
    obtain ⟨h3, h4⟩ := ba (List.all_eq_true.mp h2 p hp)
    refine ⟨h3, ?_⟩
    cases q : h.get? (cT (frT h.get? as) p).2 with
    | none =>
      rw [q] at h4
      cases h4
    | some o =>
      rw [q] at h4
      exact ⟨o, rfl, h4⟩
  exact ⟨h0, e1, h1, fun p hp => (key p hp).1, fun p hp => by
    obtain ⟨_, o, q, z⟩ := key p hp
    exact frT_none q z, fun p hp => by
    obtain ⟨_, o, q, z⟩ := key p hp
    rw [q, emptyTab_eq z]⟩
def hookZ (as : List Addr) (fn : List DefA) (tf : List Defn) (ex : PySem.W.Frag → List (List Bool)) : PySem.W.Hook where
  α := List FnW × Bool
  obs := fun s => obsZ as fn tf ex s.heap.get?
  val := fun _ => (fn.map DefA.val, true)
  says := fun _ h => ∃ K : PySem.W.Frag, K.In h ∧ SaysZ fn tf ex h K
  of := fun _ _ e => ⟨_, frT_in, saysZ_of e⟩
  keeps := fun _ _ _ ⟨K, hK, c⟩ k => ⟨K, PySem.W.Frag.In.keeps hK k, ⟨c.d1, c.d2, c.more, c.hd, c.out, fun p hp => k _ _ (c.empty p hp)⟩⟩
theorem obsZ_eq {as : List Addr} {fn : List DefA} {tf : List Defn} {ex : PySem.W.Frag → List (List Bool)} {g : Addr → Option Obj} {s : Shared} (h : ∀ a, g a = s.heap.get? a) : obsZ as fn tf ex g = (hookZ as fn tf ex).obs s := by
  have e : g = s.heap.get? := funext h
  rw [e] <;> rfl
end Hz
abbrev hd0 : Hz.DefA := ⟨fun K => (He.ga K "is_integer"), "is_integer", "is_integer", (tq 4), []⟩
abbrev hd1 : Hz.DefA := ⟨fun K => (He.ga K "is_within"), "is_within", "is_within", (tq 5), []⟩
abbrev hd2 : Hz.DefA := ⟨fun K => (He.ga K "is_size"), "is_size", "is_size", (tq 6), []⟩
abbrev hd3 : Hz.DefA := ⟨fun K => (He.ga K "is_factor"), "is_factor", "is_factor", (tq 26), []⟩
abbrev hd4 : Hz.DefA := ⟨fun K => (He.ga K "is_start"), "is_start", "is_start", (tq 27), []⟩
abbrev hd5 : Hz.DefA := ⟨fun K => (He.ga K "_law_pen"), "_law_pen", "_law_pen", (tq 45), []⟩
abbrev hd6 : Hz.DefA := ⟨fun K => (He.ga K "_law_draw"), "_law_draw", "_law_draw", (tq 46), []⟩
abbrev hd7 : Hz.DefA := ⟨fun K => (He.ga K "_law_pick"), "_law_pick", "_law_pick", (tq 47), []⟩
abbrev hd8 : Hz.DefA := ⟨fun K => (He.ga K "_law_heard"), "_law_heard", "_law_heard", (tq 48), []⟩
abbrev hd9 : Hz.DefA := ⟨fun K => (He.ga K "_law_is"), "_law_is", "_law_is", (tq 49), []⟩
abbrev hd10 : Hz.DefA := ⟨fun K => (He.ga K "_law_fixed_right"), "_law_fixed_right", "_law_fixed_right", (tq 50), []⟩
abbrev hd11 : Hz.DefA := ⟨fun K => (He.ga K "_law_divided_right"), "_law_divided_right", "_law_divided_right", (tq 51), []⟩
abbrev hd12 : Hz.DefA := ⟨fun K => (He.ga K "_law_up_right"), "_law_up_right", "_law_up_right", (tq 52), []⟩
abbrev hd13 : Hz.DefA := ⟨fun K => (He.ga K "law"), "law", "law", (tq 53), []⟩
abbrev hd14 : Hz.DefA := ⟨fun K => (He.ma K (He.ga K "Fixed") "__init__"), "__init__", "Fixed.__init__", (inClass (tq 34) 0), []⟩
abbrev hd15 : Hz.DefA := ⟨fun K => (He.ma K (He.ga K "Fixed") "__eq__"), "__eq__", "Fixed.__eq__", (inClass (tq 34) 7), []⟩
abbrev hd16 : Hz.DefA := ⟨fun K => (He.ma K (He.ga K "Divided") "__init__"), "__init__", "Divided.__init__", (inClass (tq 35) 0), []⟩
abbrev hd17 : Hz.DefA := ⟨fun K => (He.ma K (He.ga K "Divided") "__eq__"), "__eq__", "Divided.__eq__", (inClass (tq 35) 8), []⟩
abbrev hd18 : Hz.DefA := ⟨fun K => (Hz.rAd K (Hz.pAd K (He.ga K "Divided") "up") "staticmethod"), "up", "Divided.up", (inClass (tq 35) 1), []⟩
abbrev hd19 : Hz.DefA := ⟨fun K => (He.ma K (He.ga K "By") "__init__"), "__init__", "By.__init__", (inClass (tq 38) 0), []⟩
abbrev hd20 : Hz.DefA := ⟨fun K => (He.ma K (He.ga K "By") "__eq__"), "__eq__", "By.__eq__", (inClass (tq 38) 7), []⟩
abbrev hd21 : Hz.DefA := ⟨fun K => (He.ma K (He.ga K "BadRule") "__init__"), "__init__", "BadRule.__init__", (inClass (tq 12) 0), []⟩
abbrev hd22 : Hz.DefA := ⟨fun K => (He.ma K (He.ga K "BadSize") "__init__"), "__init__", "BadSize.__init__", (inClass (tq 9) 0), []⟩
abbrev hd23 : Hz.DefA := ⟨fun K => (He.ma K (He.ga K "BadRest") "__init__"), "__init__", "BadRest.__init__", (inClass (tq 11) 0), []⟩
abbrev hd24 : Hz.DefA := ⟨fun K => (He.ma K (He.ga K "BadTotal") "__init__"), "__init__", "BadTotal.__init__", (inClass (tq 10) 0), []⟩
abbrev hd25 : Hz.DefA := ⟨fun K => (He.ma K (He.ga K "BadText") "__init__"), "__init__", "BadText.__init__", (inClass (tq 13) 0), []⟩
abbrev hd26 : Hz.DefA := ⟨fun K => (He.ma K (He.ga K "TooMany") "__init__"), "__init__", "TooMany.__init__", (inClass (tq 14) 0), []⟩
def hfn : List Hz.DefA := ([hd0, hd1, hd2, hd3, hd4, hd5, hd6, hd7, hd8, hd9, hd10, hd11, hd12, hd13, hd14, hd15, hd16, hd17, hd18, hd19, hd20, hd21, hd22, hd23, hd24, hd25, hd26] : List Hz.DefA)
def htf : List He.Defn := [("_law_fixed_right", none), ("_law_divided_right", none), ("_law_up_right", none), ("law", none)]
def ex0 (K : PySem.W.Frag) : List Bool := [
  decide (PySem.W.nsIn K mainGlobals "LateError" = some (some (.ref (He.ga K "LateError")))),
  decide (PySem.W.nsIn K mainGlobals "Rule" = some (some (.ref (He.ga K "Rule")))),
  decide (PySem.W.nsIn K mainGlobals "is_integer" = some (some (.ref (He.ga K "is_integer")))),
  PySem.W.keepIn K (.ref (He.ga K "is_integer")),
  decide (PySem.W.nsIn K mainGlobals "is_within" = some (some (.ref (He.ga K "is_within")))),
  PySem.W.keepIn K (.ref (He.ga K "is_within")),
  decide (PySem.W.nsIn K mainGlobals "is_size" = some (some (.ref (He.ga K "is_size")))),
  PySem.W.keepIn K (.ref (He.ga K "is_size")),
  decide (PySem.W.nsIn K mainGlobals "is_factor" = some (some (.ref (He.ga K "is_factor")))),
  PySem.W.keepIn K (.ref (He.ga K "is_factor")),
  decide (PySem.W.nsIn K mainGlobals "is_start" = some (some (.ref (He.ga K "is_start")))),
  PySem.W.keepIn K (.ref (He.ga K "is_start")),
  decide (PySem.W.nsIn K mainGlobals "_law_pen" = some (some (.ref (He.ga K "_law_pen")))),
  PySem.W.keepIn K (.ref (He.ga K "_law_pen")),
  decide (PySem.W.nsIn K mainGlobals "_law_draw" = some (some (.ref (He.ga K "_law_draw")))),
  PySem.W.keepIn K (.ref (He.ga K "_law_draw")),
  decide (PySem.W.nsIn K mainGlobals "_law_pick" = some (some (.ref (He.ga K "_law_pick")))),
  PySem.W.keepIn K (.ref (He.ga K "_law_pick")),
  decide (PySem.W.nsIn K mainGlobals "_law_heard" = some (some (.ref (He.ga K "_law_heard")))),
  PySem.W.keepIn K (.ref (He.ga K "_law_heard")),
  decide (PySem.W.nsIn K mainGlobals "_law_is" = some (some (.ref (He.ga K "_law_is")))),
  PySem.W.keepIn K (.ref (He.ga K "_law_is")),
  decide (PySem.W.nsIn K mainGlobals "_law_fixed_right" = some (some (.ref (He.ga K "_law_fixed_right")))),
  PySem.W.keepIn K (.ref (He.ga K "_law_fixed_right")),
  decide (PySem.W.nsIn K mainGlobals "_law_divided_right" = some (some (.ref (He.ga K "_law_divided_right")))),
  PySem.W.keepIn K (.ref (He.ga K "_law_divided_right")),
  decide (PySem.W.nsIn K mainGlobals "_law_up_right" = some (some (.ref (He.ga K "_law_up_right")))),
  PySem.W.keepIn K (.ref (He.ga K "_law_up_right")),
  decide (PySem.W.nsIn K mainGlobals "law" = some (some (.ref (He.ga K "law")))),
  PySem.W.keepIn K (.ref (He.ga K "law")),
  decide ((He.cT K ("_law_divided_right", none)).2 ≠ (He.cT K ("_law_fixed_right", none)).2),
  decide ((He.cT K ("_law_up_right", none)).2 ≠ (He.cT K ("_law_fixed_right", none)).2),
  decide ((He.cT K ("_law_up_right", none)).2 ≠ (He.cT K ("_law_divided_right", none)).2),
  decide ((He.cT K ("law", none)).2 ≠ (He.cT K ("_law_fixed_right", none)).2),
  decide ((He.cT K ("law", none)).2 ≠ (He.cT K ("_law_divided_right", none)).2),
  decide ((He.cT K ("law", none)).2 ≠ (He.cT K ("_law_up_right", none)).2),
  decide (PySem.W.nsIn K mainGlobals "Fixed" = some (some (.ref (He.ga K "Fixed")))),
  PySem.W.plainGet K (He.ga K "Fixed") Str.empty,
  PySem.W.hasDictIn K (He.ga K "Fixed"),
  PySem.W.plainOver K (He.ga K "Fixed")]
def ex1 (K : PySem.W.Frag) : List Bool := [
  decide (PySem.W.findIn K (.ref (He.ga K "Fixed")) "__setattr__" = some (some (.builtin "object.__setattr__"))),
  PySem.W.makesIn K (He.ga K "Fixed"),
  PySem.W.keepIn K (.ref (He.ga K "Fixed")),
  decide (PySem.W.findIn K (.ref (He.ga K "Fixed")) "size" = some none),
  decide (PySem.W.findIn K (.ref (He.ga K "Fixed")) "parts" = some none),
  decide (PySem.W.findIn K (.ref (He.ga K "Fixed")) "modulus" = some none),
  decide (PySem.W.findIn K (.ref (He.ga K "Fixed")) "__class__" = some (some (.builtin "object.__class__"))),
  decide (PySem.W.mroIn K (He.ga K "Fixed") (.type "object") = some true),
  decide (PySem.W.specialIn K (.builtin "object.__class__") "__get__" = some (some (.builtin "getset_descriptor.__get__"))),
  decide (PySem.W.takesIn K (.builtin "object.__class__") = some true),
  decide (PySem.W.findIn K (.ref (He.ga K "Fixed")) "__ne__" = some (some (.builtin "object.__ne__"))),
  decide (PySem.W.findIn K (.ref (He.ga K "Fixed")) "__init__" = some (some (.ref (He.ma K (He.ga K "Fixed") "__init__")))),
  PySem.W.isFn K (.ref (He.ma K (He.ga K "Fixed") "__init__")),
  PySem.W.keepIn K (.ref (He.ma K (He.ga K "Fixed") "__init__")),
  decide (PySem.W.findIn K (.ref (He.ga K "Fixed")) "__eq__" = some (some (.ref (He.ma K (He.ga K "Fixed") "__eq__")))),
  PySem.W.isFn K (.ref (He.ma K (He.ga K "Fixed") "__eq__")),
  PySem.W.keepIn K (.ref (He.ma K (He.ga K "Fixed") "__eq__")),
  decide (PySem.W.nsIn K mainGlobals "Divided" = some (some (.ref (He.ga K "Divided")))),
  Hz.typB K (He.ga K "Divided"),
  PySem.W.readsIn K (He.ga K "Divided") (Hz.mcOf K (He.ga K "Divided")),
  decide (PySem.W.specialIn K (.ref (He.ga K "Divided")) "__getattribute__" = some (some (.builtin "type.__getattribute__"))),
  PySem.W.plainGet K (He.ga K "Divided") Str.empty,
  PySem.W.hasDictIn K (He.ga K "Divided"),
  PySem.W.plainOver K (He.ga K "Divided"),
  decide (PySem.W.findIn K (.ref (He.ga K "Divided")) "__setattr__" = some (some (.builtin "object.__setattr__"))),
  PySem.W.makesIn K (He.ga K "Divided"),
  PySem.W.keepIn K (.ref (He.ga K "Divided")),
  decide (PySem.W.findIn K (.ref (He.ga K "Divided")) "x" = some none),
  decide (PySem.W.findIn K (.ref (He.ga K "Divided")) "y" = some none),
  decide (PySem.W.findIn K (.ref (He.ga K "Divided")) "w" = some none),
  decide (PySem.W.findIn K (.ref (He.ga K "Divided")) "parts" = some none),
  decide (PySem.W.findIn K (.ref (He.ga K "Divided")) "modulus" = some none),
  decide (PySem.W.findIn K (.ref (He.ga K "Divided")) "__class__" = some (some (.builtin "object.__class__"))),
  decide (PySem.W.mroIn K (He.ga K "Divided") (.type "object") = some true),
  decide (PySem.W.findIn K (.ref (He.ga K "Divided")) "__init__" = some (some (.ref (He.ma K (He.ga K "Divided") "__init__")))),
  PySem.W.isFn K (.ref (He.ma K (He.ga K "Divided") "__init__")),
  PySem.W.keepIn K (.ref (He.ma K (He.ga K "Divided") "__init__")),
  decide (PySem.W.findIn K (.ref (He.ga K "Divided")) "__eq__" = some (some (.ref (He.ma K (He.ga K "Divided") "__eq__")))),
  PySem.W.isFn K (.ref (He.ma K (He.ga K "Divided") "__eq__")),
  PySem.W.keepIn K (.ref (He.ma K (He.ga K "Divided") "__eq__"))]
def ex2 (K : PySem.W.Frag) : List Bool := [
  PySem.W.keepIn K (.ref (Hz.rAd K (Hz.pAd K (He.ga K "Divided") "up") "staticmethod")),
  Hz.getB K (He.ga K "Divided") "up" "staticmethod.__get__",
  Hz.recB K (Hz.pAd K (He.ga K "Divided") "up") "staticmethod",
  decide (PySem.W.nsIn K mainGlobals "By" = some (some (.ref (He.ga K "By")))),
  PySem.W.plainGet K (He.ga K "By") Str.empty,
  PySem.W.hasDictIn K (He.ga K "By"),
  PySem.W.plainOver K (He.ga K "By"),
  decide (PySem.W.findIn K (.ref (He.ga K "By")) "__setattr__" = some (some (.builtin "object.__setattr__"))),
  PySem.W.makesIn K (He.ga K "By"),
  PySem.W.keepIn K (.ref (He.ga K "By")),
  decide (PySem.W.findIn K (.ref (He.ga K "By")) "function" = some none),
  decide (PySem.W.findIn K (.ref (He.ga K "By")) "parts" = some none),
  decide (PySem.W.findIn K (.ref (He.ga K "By")) "modulus" = some none),
  decide (PySem.W.findIn K (.ref (He.ga K "By")) "__class__" = some (some (.builtin "object.__class__"))),
  decide (PySem.W.mroIn K (He.ga K "By") (.type "object") = some true),
  decide (PySem.W.findIn K (.ref (He.ga K "By")) "__init__" = some (some (.ref (He.ma K (He.ga K "By") "__init__")))),
  PySem.W.isFn K (.ref (He.ma K (He.ga K "By") "__init__")),
  PySem.W.keepIn K (.ref (He.ma K (He.ga K "By") "__init__")),
  decide (PySem.W.findIn K (.ref (He.ga K "By")) "__eq__" = some (some (.ref (He.ma K (He.ga K "By") "__eq__")))),
  PySem.W.isFn K (.ref (He.ma K (He.ga K "By") "__eq__")),
  PySem.W.keepIn K (.ref (He.ma K (He.ga K "By") "__eq__")),
  decide (PySem.W.kitOne K (.ref (He.ga K "Fixed")) (.ref (He.ga K "Rule")) = some true),
  decide (PySem.W.kitOne K (.ref (He.ga K "Divided")) (.ref (He.ga K "Rule")) = some true),
  decide (PySem.W.kitOne K (.ref (He.ga K "By")) (.ref (He.ga K "Rule")) = some true),
  PySem.W.notFirst K (He.ga K "Fixed") (.type "int"),
  PySem.W.notFirst K (He.ga K "Fixed") (.ref (He.ga K "Divided")),
  decide (PySem.W.kitOne K (.type "int") (.ref (He.ga K "Fixed")) = some false),
  decide (PySem.W.kitOne K (.ref (He.ga K "Divided")) (.ref (He.ga K "Fixed")) = some false),
  decide (PySem.W.nsIn K mainGlobals "BadRule" = some (some (.ref (He.ga K "BadRule")))),
  Hz.exB K (He.ga K "BadRule") "ValueError.__new__",
  decide (PySem.W.findIn K (.ref (He.ga K "BadRule")) "__setattr__" = some (some (.builtin "object.__setattr__"))),
  decide (PySem.W.subIn K (.ref (He.ga K "BadRule")) (.type "BaseException") = some true),
  decide (PySem.W.typeIn K (.ref (He.ga K "BadRule")) = some (.type "type")),
  PySem.W.keepIn K (.ref (He.ga K "BadRule")),
  decide (PySem.W.findIn K (.ref (He.ga K "BadRule")) "__init__" = some (some (.ref (He.ma K (He.ga K "BadRule") "__init__")))),
  decide (PySem.W.typeIn K (.ref (He.ma K (He.ga K "BadRule") "__init__")) = some (.type "function")),
  decide (PySem.W.findIn K (.ref (He.ga K "BadRule")) "part" = some none),
  decide (PySem.W.findIn K (.ref (He.ga K "BadRule")) "__getattribute__" = some (some (.builtin "BaseException.__getattribute__"))),
  decide (PySem.W.findIn K (.ref (He.ga K "BadRule")) "__getattr__" = some none),
  PySem.W.hasDictIn K (He.ga K "BadRule")]
def ex3 (K : PySem.W.Frag) : List Bool := [
  decide (PySem.W.findIn K (.ref (He.ga K "BadRule")) "__class__" = some (some (.builtin "object.__class__"))),
  decide (PySem.W.mroIn K (He.ga K "BadRule") (.type "object") = some true),
  decide (PySem.W.kitOne K (.ref (He.ga K "BadRule")) (.ref (He.ga K "BadRule")) = some true),
  decide (PySem.W.exmOne K (.ref (He.ga K "BadRule")) (.ref (He.ga K "LateError")) = some true),
  decide (PySem.W.nsIn K mainGlobals "BadSize" = some (some (.ref (He.ga K "BadSize")))),
  Hz.exB K (He.ga K "BadSize") "ValueError.__new__",
  decide (PySem.W.findIn K (.ref (He.ga K "BadSize")) "__setattr__" = some (some (.builtin "object.__setattr__"))),
  decide (PySem.W.subIn K (.ref (He.ga K "BadSize")) (.type "BaseException") = some true),
  decide (PySem.W.typeIn K (.ref (He.ga K "BadSize")) = some (.type "type")),
  PySem.W.keepIn K (.ref (He.ga K "BadSize")),
  decide (PySem.W.findIn K (.ref (He.ga K "BadSize")) "__init__" = some (some (.ref (He.ma K (He.ga K "BadSize") "__init__")))),
  decide (PySem.W.typeIn K (.ref (He.ma K (He.ga K "BadSize") "__init__")) = some (.type "function")),
  decide (PySem.W.findIn K (.ref (He.ga K "BadSize")) "value" = some none),
  decide (PySem.W.findIn K (.ref (He.ga K "BadSize")) "__getattribute__" = some (some (.builtin "BaseException.__getattribute__"))),
  decide (PySem.W.findIn K (.ref (He.ga K "BadSize")) "__getattr__" = some none),
  PySem.W.hasDictIn K (He.ga K "BadSize"),
  decide (PySem.W.findIn K (.ref (He.ga K "BadSize")) "__class__" = some (some (.builtin "object.__class__"))),
  decide (PySem.W.mroIn K (He.ga K "BadSize") (.type "object") = some true),
  decide (PySem.W.kitOne K (.ref (He.ga K "BadSize")) (.ref (He.ga K "BadSize")) = some true),
  decide (PySem.W.exmOne K (.ref (He.ga K "BadSize")) (.ref (He.ga K "LateError")) = some true),
  decide (PySem.W.nsIn K mainGlobals "BadRest" = some (some (.ref (He.ga K "BadRest")))),
  Hz.exB K (He.ga K "BadRest") "ValueError.__new__",
  decide (PySem.W.findIn K (.ref (He.ga K "BadRest")) "__setattr__" = some (some (.builtin "object.__setattr__"))),
  decide (PySem.W.subIn K (.ref (He.ga K "BadRest")) (.type "BaseException") = some true),
  decide (PySem.W.typeIn K (.ref (He.ga K "BadRest")) = some (.type "type")),
  PySem.W.keepIn K (.ref (He.ga K "BadRest")),
  decide (PySem.W.findIn K (.ref (He.ga K "BadRest")) "__init__" = some (some (.ref (He.ma K (He.ga K "BadRest") "__init__")))),
  decide (PySem.W.typeIn K (.ref (He.ma K (He.ga K "BadRest") "__init__")) = some (.type "function")),
  decide (PySem.W.findIn K (.ref (He.ga K "BadRest")) "value" = some none),
  decide (PySem.W.findIn K (.ref (He.ga K "BadRest")) "__getattribute__" = some (some (.builtin "BaseException.__getattribute__"))),
  decide (PySem.W.findIn K (.ref (He.ga K "BadRest")) "__getattr__" = some none),
  PySem.W.hasDictIn K (He.ga K "BadRest"),
  decide (PySem.W.findIn K (.ref (He.ga K "BadRest")) "__class__" = some (some (.builtin "object.__class__"))),
  decide (PySem.W.mroIn K (He.ga K "BadRest") (.type "object") = some true),
  decide (PySem.W.kitOne K (.ref (He.ga K "BadRest")) (.ref (He.ga K "BadRest")) = some true),
  decide (PySem.W.exmOne K (.ref (He.ga K "BadRest")) (.ref (He.ga K "LateError")) = some true),
  decide (PySem.W.nsIn K mainGlobals "BadTotal" = some (some (.ref (He.ga K "BadTotal")))),
  Hz.exB K (He.ga K "BadTotal") "ValueError.__new__",
  decide (PySem.W.findIn K (.ref (He.ga K "BadTotal")) "__setattr__" = some (some (.builtin "object.__setattr__"))),
  decide (PySem.W.subIn K (.ref (He.ga K "BadTotal")) (.type "BaseException") = some true)]
def ex4 (K : PySem.W.Frag) : List Bool := [
  decide (PySem.W.typeIn K (.ref (He.ga K "BadTotal")) = some (.type "type")),
  PySem.W.keepIn K (.ref (He.ga K "BadTotal")),
  decide (PySem.W.findIn K (.ref (He.ga K "BadTotal")) "__init__" = some (some (.ref (He.ma K (He.ga K "BadTotal") "__init__")))),
  decide (PySem.W.typeIn K (.ref (He.ma K (He.ga K "BadTotal") "__init__")) = some (.type "function")),
  decide (PySem.W.findIn K (.ref (He.ga K "BadTotal")) "value" = some none),
  decide (PySem.W.findIn K (.ref (He.ga K "BadTotal")) "__getattribute__" = some (some (.builtin "BaseException.__getattribute__"))),
  decide (PySem.W.findIn K (.ref (He.ga K "BadTotal")) "__getattr__" = some none),
  PySem.W.hasDictIn K (He.ga K "BadTotal"),
  decide (PySem.W.findIn K (.ref (He.ga K "BadTotal")) "__class__" = some (some (.builtin "object.__class__"))),
  decide (PySem.W.mroIn K (He.ga K "BadTotal") (.type "object") = some true),
  decide (PySem.W.kitOne K (.ref (He.ga K "BadTotal")) (.ref (He.ga K "BadTotal")) = some true),
  decide (PySem.W.exmOne K (.ref (He.ga K "BadTotal")) (.ref (He.ga K "LateError")) = some true),
  decide (PySem.W.nsIn K mainGlobals "BadText" = some (some (.ref (He.ga K "BadText")))),
  Hz.exB K (He.ga K "BadText") "ValueError.__new__",
  decide (PySem.W.findIn K (.ref (He.ga K "BadText")) "__setattr__" = some (some (.builtin "object.__setattr__"))),
  decide (PySem.W.subIn K (.ref (He.ga K "BadText")) (.type "BaseException") = some true),
  decide (PySem.W.typeIn K (.ref (He.ga K "BadText")) = some (.type "type")),
  PySem.W.keepIn K (.ref (He.ga K "BadText")),
  decide (PySem.W.findIn K (.ref (He.ga K "BadText")) "__init__" = some (some (.ref (He.ma K (He.ga K "BadText") "__init__")))),
  decide (PySem.W.typeIn K (.ref (He.ma K (He.ga K "BadText") "__init__")) = some (.type "function")),
  decide (PySem.W.findIn K (.ref (He.ga K "BadText")) "line" = some none),
  decide (PySem.W.findIn K (.ref (He.ga K "BadText")) "word" = some none),
  decide (PySem.W.findIn K (.ref (He.ga K "BadText")) "__getattribute__" = some (some (.builtin "BaseException.__getattribute__"))),
  decide (PySem.W.findIn K (.ref (He.ga K "BadText")) "__getattr__" = some none),
  PySem.W.hasDictIn K (He.ga K "BadText"),
  decide (PySem.W.findIn K (.ref (He.ga K "BadText")) "__class__" = some (some (.builtin "object.__class__"))),
  decide (PySem.W.mroIn K (He.ga K "BadText") (.type "object") = some true),
  decide (PySem.W.kitOne K (.ref (He.ga K "BadText")) (.ref (He.ga K "BadText")) = some true),
  decide (PySem.W.exmOne K (.ref (He.ga K "BadText")) (.ref (He.ga K "LateError")) = some true),
  decide (PySem.W.nsIn K mainGlobals "TooMany" = some (some (.ref (He.ga K "TooMany")))),
  Hz.exB K (He.ga K "TooMany") "ValueError.__new__",
  decide (PySem.W.findIn K (.ref (He.ga K "TooMany")) "__setattr__" = some (some (.builtin "object.__setattr__"))),
  decide (PySem.W.subIn K (.ref (He.ga K "TooMany")) (.type "BaseException") = some true),
  decide (PySem.W.typeIn K (.ref (He.ga K "TooMany")) = some (.type "type")),
  PySem.W.keepIn K (.ref (He.ga K "TooMany")),
  decide (PySem.W.findIn K (.ref (He.ga K "TooMany")) "__init__" = some (some (.ref (He.ma K (He.ga K "TooMany") "__init__")))),
  decide (PySem.W.typeIn K (.ref (He.ma K (He.ga K "TooMany") "__init__")) = some (.type "function")),
  decide (PySem.W.findIn K (.ref (He.ga K "TooMany")) "what" = some none),
  decide (PySem.W.findIn K (.ref (He.ga K "TooMany")) "most" = some none),
  decide (PySem.W.findIn K (.ref (He.ga K "TooMany")) "__getattribute__" = some (some (.builtin "BaseException.__getattribute__")))]
def ex5 (K : PySem.W.Frag) : List Bool := [
  decide (PySem.W.findIn K (.ref (He.ga K "TooMany")) "__getattr__" = some none),
  PySem.W.hasDictIn K (He.ga K "TooMany"),
  decide (PySem.W.findIn K (.ref (He.ga K "TooMany")) "__class__" = some (some (.builtin "object.__class__"))),
  decide (PySem.W.mroIn K (He.ga K "TooMany") (.type "object") = some true),
  decide (PySem.W.kitOne K (.ref (He.ga K "TooMany")) (.ref (He.ga K "TooMany")) = some true),
  decide (PySem.W.exmOne K (.ref (He.ga K "TooMany")) (.ref (He.ga K "LateError")) = some true),
  decide (PySem.W.kitOne K (.ref (He.ga K "BadRule")) (.ref (He.ga K "BadSize")) = some false),
  decide (PySem.W.kitOne K (.ref (He.ga K "BadRule")) (.ref (He.ga K "BadRest")) = some false),
  decide (PySem.W.kitOne K (.ref (He.ga K "BadRule")) (.ref (He.ga K "BadTotal")) = some false),
  decide (PySem.W.kitOne K (.ref (He.ga K "BadRule")) (.ref (He.ga K "BadText")) = some false),
  decide (PySem.W.kitOne K (.ref (He.ga K "BadRule")) (.ref (He.ga K "TooMany")) = some false),
  decide (PySem.W.kitOne K (.ref (He.ga K "BadSize")) (.ref (He.ga K "BadRule")) = some false),
  decide (PySem.W.kitOne K (.ref (He.ga K "BadSize")) (.ref (He.ga K "BadRest")) = some false),
  decide (PySem.W.kitOne K (.ref (He.ga K "BadSize")) (.ref (He.ga K "BadTotal")) = some false),
  decide (PySem.W.kitOne K (.ref (He.ga K "BadSize")) (.ref (He.ga K "BadText")) = some false),
  decide (PySem.W.kitOne K (.ref (He.ga K "BadSize")) (.ref (He.ga K "TooMany")) = some false),
  decide (PySem.W.kitOne K (.ref (He.ga K "BadRest")) (.ref (He.ga K "BadRule")) = some false),
  decide (PySem.W.kitOne K (.ref (He.ga K "BadRest")) (.ref (He.ga K "BadSize")) = some false),
  decide (PySem.W.kitOne K (.ref (He.ga K "BadRest")) (.ref (He.ga K "BadTotal")) = some false),
  decide (PySem.W.kitOne K (.ref (He.ga K "BadRest")) (.ref (He.ga K "BadText")) = some false),
  decide (PySem.W.kitOne K (.ref (He.ga K "BadRest")) (.ref (He.ga K "TooMany")) = some false),
  decide (PySem.W.kitOne K (.ref (He.ga K "BadTotal")) (.ref (He.ga K "BadRule")) = some false),
  decide (PySem.W.kitOne K (.ref (He.ga K "BadTotal")) (.ref (He.ga K "BadSize")) = some false),
  decide (PySem.W.kitOne K (.ref (He.ga K "BadTotal")) (.ref (He.ga K "BadRest")) = some false),
  decide (PySem.W.kitOne K (.ref (He.ga K "BadTotal")) (.ref (He.ga K "BadText")) = some false),
  decide (PySem.W.kitOne K (.ref (He.ga K "BadTotal")) (.ref (He.ga K "TooMany")) = some false),
  decide (PySem.W.kitOne K (.ref (He.ga K "BadText")) (.ref (He.ga K "BadRule")) = some false),
  decide (PySem.W.kitOne K (.ref (He.ga K "BadText")) (.ref (He.ga K "BadSize")) = some false),
  decide (PySem.W.kitOne K (.ref (He.ga K "BadText")) (.ref (He.ga K "BadRest")) = some false),
  decide (PySem.W.kitOne K (.ref (He.ga K "BadText")) (.ref (He.ga K "BadTotal")) = some false),
  decide (PySem.W.kitOne K (.ref (He.ga K "BadText")) (.ref (He.ga K "TooMany")) = some false),
  decide (PySem.W.kitOne K (.ref (He.ga K "TooMany")) (.ref (He.ga K "BadRule")) = some false),
  decide (PySem.W.kitOne K (.ref (He.ga K "TooMany")) (.ref (He.ga K "BadSize")) = some false),
  decide (PySem.W.kitOne K (.ref (He.ga K "TooMany")) (.ref (He.ga K "BadRest")) = some false),
  decide (PySem.W.kitOne K (.ref (He.ga K "TooMany")) (.ref (He.ga K "BadTotal")) = some false),
  decide (PySem.W.kitOne K (.ref (He.ga K "TooMany")) (.ref (He.ga K "BadText")) = some false),
  Hz.intB K "MOST_FACTOR" (24),
  Hz.intB K "MOST_START" (1000),
  Hz.intB K "GREATEST_SIZE" (10 ^ 30),
  decide (PySem.W.nsIn K mainGlobals "int" = some none)]
def ex6 (K : PySem.W.Frag) : List Bool := [
  decide (PySem.W.nsIn K mainGlobals "list" = some none),
  decide (PySem.W.nsIn K mainGlobals "len" = some none),
  decide (PySem.W.nsIn K mainGlobals "abs" = some none),
  decide (PySem.W.nsIn K mainGlobals "bool" = some none),
  decide (PySem.W.nsIn K mainGlobals "str" = some none),
  decide (PySem.W.nsIn K mainGlobals "isinstance" = some none),
  decide (PySem.W.nsIn K mainGlobals "range" = some none),
  decide (PySem.W.nsIn K mainGlobals "repr" = some none),
  decide (PySem.W.nsIn K mainGlobals "all" = some none),
  decide (PySem.W.tabIn K "_law_fixed_right" = some (He.cT K ("_law_fixed_right", none))),
  decide (PySem.W.tabIn K "_law_divided_right" = some (He.cT K ("_law_divided_right", none))),
  decide (PySem.W.tabIn K "_law_up_right" = some (He.cT K ("_law_up_right", none))),
  decide (PySem.W.tabIn K "law" = some (He.cT K ("law", none)))]
def exK (K : PySem.W.Frag) : List (List Bool) := [ex0 K, ex1 K, ex2 K, ex3 K, ex4 K, ex5 K, ex6 K]
def hAS : List Addr := (mainGlobals :: (List.range 1200).reverse)
abbrev hR : PySem.W.OpenRow := PySem.W.OpenLaw.row PySem.Challenge.rw_latechunks_k44_rules_made_and_refused
abbrev hkZ : PySem.W.Hook := Hz.hookZ hAS hfn htf exK
def hob (s : PySem.W.SharedT) : List He.FnW × Bool := Hz.obsZ hAS hfn htf exK (HandSHeadRun.getT s)
theorem hob_eq (s : PySem.W.SharedT) : hob s = hkZ.obs s.abs := Hz.obsZ_eq (HandSHeadRun.getT_eq s)
set_option maxHeartbeats 0
theorem map3 {α β γ δ : Type _} {o : Option α} {f : α → β} {g : α → γ} {k : α → δ} {b : β} {c : γ} {d : δ} (h1 : o.map (fun x => (f x, g x)) = some (b, c)) (h2 : o.map k = some d) : o.map (fun x => (f x, g x, k x)) = some (b, c, d) := by
  cases o with
  | none => cases h1
  | some x =>
    have e1 : (f x, g x) = (b, c) := Option.some.inj h1
    have e2 : k x = d := Option.some.inj h2
    exact congrArg some (Prod.ext (Prod.mk.inj e1).1 (Prod.ext (Prod.mk.inj e1).2 e2))
theorem run_1a (w : World) : (HandSHeadRun.wholeF (fun p => HandSHeadRun.stepQ (HandSHeadRun.denQ HandSHeadRun.tabQ) p w) HandSHeadRun.fenceQ 12000 hR.prog).map (fun x => (HandSHeadRun.looksF hR.prog x.1.heap x.2.abs, HandSHeadRun.seenQ (PySem.W.view hR.prog [0, 53]) ((["_wall", "GREATEST_SIZE", "is_integer", "is_within", "is_size", "LateError", "BadSize", "BadTotal", "BadRest", "BadRule", "BadText", "TooMany", "PIECE_FIGURES", "PIECE_WORTH", "integer_of", "number_of", "Reader", "MOST_PARTS", "MOST_FACTOR", "MOST_START", "SIGNS", "is_factor", "is_start", "read_rule", "read_part", "read_sign", "MOST_RESIDUES", "Rule", "Fixed", "Divided"] : List PySem.Str) ++ (["Lesser", "Greater", "By", "check_rest", "check_joined", "check_modulus", "chunk_for", "rule_of", "_law_pen", "_law_draw", "_law_pick", "_law_heard", "_law_is", "_law_fixed_right", "_law_divided_right", "_law_up_right"] : List PySem.Str)) (PySem.importedModules hR.prog.main.body) (fun s => PySem.W.xlAt (PySem.W.view hR.prog [0, 53]) [] s && PySem.W.recOk hR.toRowW.records s) x.2.abs)) = some (true, (PySem.W.openGood (PySem.W.view hR.prog [0, 53]) ((["_wall", "GREATEST_SIZE", "is_integer", "is_within", "is_size", "LateError", "BadSize", "BadTotal", "BadRest", "BadRule", "BadText", "TooMany", "PIECE_FIGURES", "PIECE_WORTH", "integer_of", "number_of", "Reader", "MOST_PARTS", "MOST_FACTOR", "MOST_START", "SIGNS", "is_factor", "is_start", "read_rule", "read_part", "read_sign", "MOST_RESIDUES", "Rule", "Fixed", "Divided"] : List PySem.Str) ++ (["Lesser", "Greater", "By", "check_rest", "check_joined", "check_modulus", "chunk_for", "rule_of", "_law_pen", "_law_draw", "_law_pick", "_law_heard", "_law_is", "_law_fixed_right", "_law_divided_right", "_law_up_right"] : List PySem.Str)))) := by
  kernel_rfl
theorem run_1b (w : World) : (HandSHeadRun.wholeF (fun p => HandSHeadRun.stepQ (HandSHeadRun.denQ HandSHeadRun.tabQ) p w) HandSHeadRun.fenceQ 12000 hR.prog).map (fun x => hfn.map fun d => Hz.fnAt (He.frT (HandSHeadRun.getT x.2) hAS) (d.adr (He.frT (HandSHeadRun.getT x.2) hAS))) = some (hfn.map Hz.DefA.val) := by
  kernel_rfl
theorem run_1 (w : World) : (HandSHeadRun.wholeF (fun p => HandSHeadRun.stepQ (HandSHeadRun.denQ HandSHeadRun.tabQ) p w) HandSHeadRun.fenceQ 12000 hR.prog).map (fun x => (HandSHeadRun.looksF hR.prog x.1.heap x.2.abs, HandSHeadRun.seenQ (PySem.W.view hR.prog [0, 53]) ((["_wall", "GREATEST_SIZE", "is_integer", "is_within", "is_size", "LateError", "BadSize", "BadTotal", "BadRest", "BadRule", "BadText", "TooMany", "PIECE_FIGURES", "PIECE_WORTH", "integer_of", "number_of", "Reader", "MOST_PARTS", "MOST_FACTOR", "MOST_START", "SIGNS", "is_factor", "is_start", "read_rule", "read_part", "read_sign", "MOST_RESIDUES", "Rule", "Fixed", "Divided"] : List PySem.Str) ++ (["Lesser", "Greater", "By", "check_rest", "check_joined", "check_modulus", "chunk_for", "rule_of", "_law_pen", "_law_draw", "_law_pick", "_law_heard", "_law_is", "_law_fixed_right", "_law_divided_right", "_law_up_right"] : List PySem.Str)) (PySem.importedModules hR.prog.main.body) (fun s => PySem.W.xlAt (PySem.W.view hR.prog [0, 53]) [] s && PySem.W.recOk hR.toRowW.records s) x.2.abs, hfn.map fun d => Hz.fnAt (He.frT (HandSHeadRun.getT x.2) hAS) (d.adr (He.frT (HandSHeadRun.getT x.2) hAS)))) = some (true, (PySem.W.openGood (PySem.W.view hR.prog [0, 53]) ((["_wall", "GREATEST_SIZE", "is_integer", "is_within", "is_size", "LateError", "BadSize", "BadTotal", "BadRest", "BadRule", "BadText", "TooMany", "PIECE_FIGURES", "PIECE_WORTH", "integer_of", "number_of", "Reader", "MOST_PARTS", "MOST_FACTOR", "MOST_START", "SIGNS", "is_factor", "is_start", "read_rule", "read_part", "read_sign", "MOST_RESIDUES", "Rule", "Fixed", "Divided"] : List PySem.Str) ++ (["Lesser", "Greater", "By", "check_rest", "check_joined", "check_modulus", "chunk_for", "rule_of", "_law_pen", "_law_draw", "_law_pick", "_law_heard", "_law_is", "_law_fixed_right", "_law_divided_right", "_law_up_right"] : List PySem.Str))), hfn.map Hz.DefA.val) := map3 (run_1a w) (run_1b w)
theorem all2 {α β : Type _} {o : Option α} {l : List β} {p : α → β → Bool} (n : Nat) (h1 : o.map (fun x => (l.take n).all (p x)) = some true) (h2 : o.map (fun x => (l.drop n).all (p x)) = some true) : o.map (fun x => l.all (p x)) = some true := by
  cases o with
  | none => cases h1
  | some x =>
    have e1 : (l.take n).all (p x) = true := Option.some.inj h1
    have e2 : (l.drop n).all (p x) = true := Option.some.inj h2
    show some (l.all (p x)) = some true
    have e := List.take_append_drop n l
    rw [← e, List.all_append, e1, e2]; rfl
theorem run_2a (w : World) : (HandSHeadRun.wholeF (fun p => HandSHeadRun.stepQ (HandSHeadRun.denQ HandSHeadRun.tabQ) p w) HandSHeadRun.fenceQ 12000 hR.prog).map (fun x => (hfn.take 13).all fun d => d.ok (He.frT (HandSHeadRun.getT x.2) hAS)) = some true := by
  kernel_rfl
theorem run_2b (w : World) : (HandSHeadRun.wholeF (fun p => HandSHeadRun.stepQ (HandSHeadRun.denQ HandSHeadRun.tabQ) p w) HandSHeadRun.fenceQ 12000 hR.prog).map (fun x => (hfn.drop 13).all fun d => d.ok (He.frT (HandSHeadRun.getT x.2) hAS)) = some true := by
  kernel_rfl
theorem run_2 (w : World) : (HandSHeadRun.wholeF (fun p => HandSHeadRun.stepQ (HandSHeadRun.denQ HandSHeadRun.tabQ) p w) HandSHeadRun.fenceQ 12000 hR.prog).map (fun x => hfn.all fun d => d.ok (He.frT (HandSHeadRun.getT x.2) hAS)) = some true := all2 13 (run_2a w) (run_2b w)
theorem run_3 (w : World) : (HandSHeadRun.wholeF (fun p => HandSHeadRun.stepQ (HandSHeadRun.denQ HandSHeadRun.tabQ) p w) HandSHeadRun.fenceQ 12000 hR.prog).map (fun x => (exK (He.frT (HandSHeadRun.getT x.2) hAS)).all (fun l => l.all id) && He.tabsB (HandSHeadRun.getT x.2) htf (He.frT (HandSHeadRun.getT x.2) hAS)) = some true := by
  kernel_rfl
theorem head_run (w : World) : HandSHeadRun.RunEqI hR (PySem.W.view hR.prog [0, 53]) hkZ hob 12000 ((["_wall", "GREATEST_SIZE", "is_integer", "is_within", "is_size", "LateError", "BadSize", "BadTotal", "BadRest", "BadRule", "BadText", "TooMany", "PIECE_FIGURES", "PIECE_WORTH", "integer_of", "number_of", "Reader", "MOST_PARTS", "MOST_FACTOR", "MOST_START", "SIGNS", "is_factor", "is_start", "read_rule", "read_part", "read_sign", "MOST_RESIDUES", "Rule", "Fixed", "Divided"] : List PySem.Str) ++ (["Lesser", "Greater", "By", "check_rest", "check_joined", "check_modulus", "chunk_for", "rule_of", "_law_pen", "_law_draw", "_law_pick", "_law_heard", "_law_is", "_law_fixed_right", "_law_divided_right", "_law_up_right"] : List PySem.Str)) w := by
  unfold HandSHeadRun.RunEqI
  exact Hz.comb (run_1 w) (run_2 w) (run_3 w)
end Lw
namespace Lw
open PySem PySem.Spec PyProof.Rows L2
def top (i : Nat) : Stmt := PySem.Challenge.pw_latechunks_k44_rules_made_and_refused.main.body.getD i (.Pass ⟨0, 0, 0, 0⟩)

theorem stir {x s : Int} (hx0 : 0 ≤ x) (hx : x < 2147483648) (hs0 : 0 ≤ s) (hs : s ≤ 1000000) (e f g : Int) (he0 : 0 ≤ e) (he : e ≤ 1000) (hf0 : 0 ≤ f) (hf : f ≤ 1000000) (hg0 : 0 ≤ g) (hg : g ≤ 1000000) :
    (x * (2 * s + e) + f * s * s + g).natAbs < 2 ^ 64 := by
  have a0 : 0 ≤ x * (2 * s + e) := Int.mul_nonneg hx0 (by omega)
  have a1 : x * (2 * s + e) ≤ 2147483648 * 2001000 := Int.mul_le_mul (by omega) (by omega) (by omega) (by omega)
  have b0 : 0 ≤ f * s := Int.mul_nonneg hf0 hs0
  have b1 : f * s ≤ 1000000 * 1000000 := Int.mul_le_mul hf hs hs0 (by omega)
  have c0 : 0 ≤ f * s * s := Int.mul_nonneg b0 hs0
  have c1 : f * s * s ≤ 1000000 * 1000000 * 1000000 := Int.mul_le_mul b1 hs hs0 (by omega)
  omega
theorem fsmall {f s : Int} (hf0 : 0 ≤ f) (hf : f ≤ 1000000) (hs0 : 0 ≤ s) (hs : s ≤ 1000000) : -(2 ^ 64) < f * s ∧ f * s < 2 ^ 64 := by
  have b0 : 0 ≤ f * s := Int.mul_nonneg hf0 hs0
  have b1 : f * s ≤ 1000000 * 1000000 := Int.mul_le_mul hf hs hs0 (by omega)
  omega
theorem fm0 {a d : Int} (hd : 0 < d) : 0 ≤ Int.fmod a d := Int.fmod_nonneg_of_pos _ hd
theorem fm1 {a d : Int} (hd : 0 < d) (h : d ≤ 2147483648) : Int.fmod a d < 2147483648 := Int.lt_of_lt_of_le (Int.fmod_lt_of_pos _ hd) h
theorem fm64 {a d : Int} (hd : 0 < d) (h : d ≤ 2147483648) : -(2 ^ 64) < Int.fmod a d ∧ Int.fmod a d < 2 ^ 64 := by
  have h0 := fm0 (a := a) hd
  have h1 := fm1 (a := a) hd h
  omega
theorem ite_false_of {c : Bool} {A B : Prop} (h : ¬ c = true) (hb : B) : if c = true then A else B := by rw [if_neg h]; exact hb
/-- behind an if: what both ways end in -/
theorem join_if {t u : TS} {D : Ends} {b : Bool} {σ : L2.St} {H : Hp} (Pj : L2.St → Hp → Prop) (hr : ∀ σ' H', Pj σ' H' → D.nx σ' H') (h : (∀ σ' H', Pj σ' H' → D.nx σ' H') → if b = true then t D σ H else u D σ H) : if b = true then t D σ H else u D σ H := h hr
theorem lay_ints : ∀ xs : List Int, PyData.canLayAll0 (xs.map PyData.int) = true
  | [] => rfl
  | x :: r => by
    show (PyData.canLay0 (.int x) && PyData.canLayAll0 (r.map PyData.int)) = true
    rw [lay_ints r]; rfl
theorem depth_ints : ∀ xs : List Int, PyData.depthAll (xs.map PyData.int) = 0
  | [] => rfl
  | x :: r => by
    show max (PyData.depth (.int x)) (PyData.depthAll (r.map PyData.int)) = 0
    rw [depth_ints r]; rfl
theorem shaped_ints (xs : List Int) : SeqAt.shaped (.list (xs.map PyData.int)) = true := by
  unfold SeqAt.shaped
  have h1 : PyData.canLay0 (.list (xs.map PyData.int)) = true := lay_ints xs
  have h2 : PyData.depth (.list (xs.map PyData.int)) = 1 := by
    show PyData.depthAll (xs.map PyData.int) + 1 = 1
    rw [depth_ints]
  rw [h1, h2]; rfl
theorem dp_ints {K : PySem.W.Frag} {H : Hp} : ∀ xs : List Int, DpAll K H (xs.map V.int) (xs.map PyData.int)
  | [] => .nil
  | x :: r => .cons (.int x) (dp_ints r)
theorem eqv_nil (xs : List Int) : PyData.eqv (.list (xs.map PyData.int)) (.list []) = decide (xs = []) := by
  cases xs <;> rfl
abbrev sPen : Stmt := top 45
abbrev sDraw : Stmt := top 46
abbrev sPick : Stmt := top 47
/-- all but what stands at p is as it was -/
def Kp (p : Addr) (H H' : Hp) : Prop := ∀ b o, b ≠ p → H b = some o → H' b = some o
/-- a pen at p: its numbers at l, its place, its rest -/
structure PenAt (H : Hp) (p l : Addr) (xs : List Int) (s g : Int) : Prop where
  at_ : H p = some (.lst [.ref l, .int s, .int g])
  ls : H l = some (.lst (xs.map V.int))
  ne : p ≠ l
  s0 : 0 ≤ s
  g0 : 0 ≤ g
def Pen (H : Hp) (p l : Addr) (n : Nat) : Prop := ∃ xs s g, PenAt H p l xs s g ∧ s ≤ n
def spDraw : Sp := fun vs H Q _ => ∃ (p l : Addr) (n : Nat) (m : Int), vs = [.ref p, .int m] ∧ 0 < m ∧ m < 2 ^ 200 ∧ Pen H p l n ∧ n ≤ 1000000 ∧
  ∀ (r : Int) (H' : Hp), 0 ≤ r → r < m → Pen H' p l (n + 1) → Kp p H H' → Q (.int r) H'
structure Txt0 (mg : Str → Option Value) : Prop where
  n_int : mg "int" = none
  n_list : mg "list" = none
  n_len : mg "len" = none
  n_abs : mg "abs" = none
section
variable {P : Program} {w : World} {K : PySem.W.Frag} {mg : Str → Option Value} {base : Heap}
theorem scDraw : FnScope ["_law_pen_here", "_law_many", "_law_digit", "_law_spot", "_law_cell", "_law_great", "_law_stirred"] ["_law_pen_here", "_law_many"] (C8.fnScope sDraw) := C8.fnScope_by (by decide +kernel)
theorem cal_draw {f : Addr} {fd : FuncData} (F : C8.Def K mg "_law_draw" sDraw f fd) (b : Binds K fd ["_law_pen_here", "_law_many"] []) (T : Txt0 mg) : C8.Cal P w K mg base 1 "_law_draw" spDraw [] := by
  refine C8.cal0 F b .nil scDraw (fun vs H Q E h => ?_) (fun cdv A outer st H vs Q E hr h => ?_)
  · obtain ⟨p, l, n, m, rfl, _⟩ := h
    rfl
  · obtain ⟨p, l, n, m, rfl, hm, hm2, ⟨xs, s, g, ⟨hp, hl, ne, s0, g0⟩, hs⟩, hn, k⟩ := h
    refine ⟨_, (pss_cons (ps_if (pt_cmpR op_gt (pe_ix ix_list (pv 0) pe_int (fun _ _ => rfl)) pe_int (nomark _)) (pss_cons (ps_set (i := 2) scDraw.nd rfl (Or.inl rfl) (pe_op op_modN (pe_callTy call_int1 (by rfl) T.n_int (by decide +kernel) (pa_cons (pe_ix ix_list (pv 0) pe_int (fun _ _ => rfl)) pa_nil)) (pv 1)))
  (pss_cons (ps_asg (pe_op op_fdivW (pe_callTy call_int1 (by rfl) T.n_int (by decide +kernel) (pa_cons (pe_ix ix_list (pv 0) pe_int (fun _ _ => rfl)) pa_nil)) (pv 1)) (pg_sub (pv 0) pe_int set_list))
  (pss_one (ps_ret (pv 2))))) pss_nil)
  (pss_cons (ps_set (i := 3) scDraw.nd rfl (Or.inl rfl) (pe_ix ix_list (pv 0) pe_int (fun _ _ => rfl)))
  (pss_cons (ps_asg (pe_op op_add (pv 3) pe_int) (pg_sub (pv 0) pe_int set_list))
  (pss_cons (ps_set (i := 4) scDraw.nd rfl (Or.inl rfl) (pe_op op_add (pe_op op_mul pe_int (pv 3)) pe_int))
  (pss_cons (ps_if (pt_cmpR (op_neD hr.units) (pe_ix ix_list (pv 0) pe_int (fun _ _ => rfl)) (pe_lst pa_nil) (nomark _)) (pss_one (ps_set (i := 4) scDraw.nd rfl (Or.inl rfl) (pe_ix ix_list (pe_ix ix_list (pv 0) pe_int (fun _ _ => rfl)) (pe_op op_modN (pe_callTy call_int1 (by rfl) T.n_int (by decide +kernel) (pa_cons (pv 3) pa_nil)) (pe_callB call_len_seq (by rfl) T.n_len (by decide +kernel) (pa_cons (pe_ix ix_list (pv 0) pe_int (fun _ _ => rfl)) pa_nil))) (fun _ _ => rfl)))) pss_nil)
  (pss_cons (ps_if (PW.pt (pw_and (pt_cmpR op_lt (pv 3) (pe_callB call_len_seq (by rfl) T.n_len (by decide +kernel) (pa_cons (pe_ix ix_list (pv 0) pe_int (fun _ _ => rfl)) pa_nil)) (nomark _)) (pw_and1 (pt_cmpR op_ge (pe_callB call_abs (by rfl) T.n_abs (by decide +kernel) (pa_cons (pv 4) pa_nil)) (pe_op op_pow pe_int pe_int) (nomark _))))) (pss_cons (ps_set (i := 5) scDraw.nd rfl (Or.inl rfl) (pe_op op_add (pe_op op_mul pe_int (pe_op op_sub (pe_callB call_abs (by rfl) T.n_abs (by decide +kernel) (pa_cons (pv 4) pa_nil)) (pe_op op_pow pe_int pe_int))) (pe_callTy call_int1 (by rfl) T.n_int (by decide +kernel) (pa_cons (pe_cmpR op_lt (pv 4) pe_int (nomark _)) pa_nil))))
  (pss_cons (ps_asg (pe_op op_fdivW (pe_callTy call_int1 (by rfl) T.n_int (by decide +kernel) (pa_cons (pv 5) pa_nil)) (pv 1)) (pg_sub (pv 0) pe_int set_list))
  (pss_one (ps_ret (pe_op op_modN (pe_callTy call_int1 (by rfl) T.n_int (by decide +kernel) (pa_cons (pv 5) pa_nil)) (pv 1)))))) pss_nil)
  (pss_cons (ps_set (i := 6) scDraw.nd rfl (Or.inl rfl) (pe_op op_modN (pe_callTy call_int1 (by rfl) T.n_int (by decide +kernel) (pa_cons (pe_op op_pow (pe_op op_add (pe_op op_add (pe_op op_modN (pe_callTy call_int1 (by rfl) T.n_int (by decide +kernel) (pa_cons (pv 4) pa_nil)) pe_int) (pe_op op_mul pe_int (pv 3))) pe_int) pe_int) pa_nil)) pe_int))
  (pss_cons (ps_set (i := 6) scDraw.nd rfl (Or.inl rfl) (pe_op op_modN (pe_callTy call_int1 (by rfl) T.n_int (by decide +kernel) (pa_cons (pe_op op_pow (pe_op op_add (pe_op op_add (pe_op op_mul (pv 6) (pe_op op_add (pe_op op_mul pe_int (pv 3)) pe_int)) (pe_op op_mul (pe_op op_mul pe_int (pv 3)) (pv 3))) pe_int) pe_int) pa_nil)) pe_int))
  (pss_one (ps_ret (pe_op op_modN (pe_callTy call_int1 (by rfl) T.n_int (by decide +kernel) (pa_cons (pe_op op_fdivW (pv 6) pe_int) pa_nil)) (pv 1)))))))))))), ?_⟩
    have hmb : CDivW 0 m := wide_div (b := 200) hm (by omega) (by decide) (by decide)
    refine ⟨_, rfl, p, _, _, _, rfl, rfl, SqL.of hp, rfl, _, _, rfl, rfl, _, rfl, ite2 (fun c => ?_) (fun c => ?_)⟩
    · -- the rest is above 0: a digit of it
      refine ⟨_, rfl, p, _, _, _, rfl, rfl, SqL.of hp, rfl, Or.inl ⟨_, rfl, ?_⟩⟩
      refine ⟨_, rfl, _, _, rfl, rfl, (by omega), ?_⟩
      refine ⟨_, rfl, p, _, _, _, rfl, rfl, SqL.of hp, rfl, Or.inl ⟨_, rfl, ?_⟩⟩
      refine ⟨_, rfl, _, _, rfl, rfl, hmb, ?_⟩
      refine ⟨_, rfl, p, _, _, _, rfl, rfl, hp, rfl, ?_⟩
      refine ⟨_, rfl, ?_⟩
      refine k _ _ (Int.fmod_nonneg_of_pos _ hm) (Int.fmod_lt_of_pos _ hm) ⟨xs, s, g / m, ⟨?_, ?_, ne, s0, Int.ediv_nonneg g0 (Int.le_of_lt hm)⟩, by omega⟩ fun b o hb e => ?_
      · rw [upd_same]; rfl
      · rw [upd_ne (Ne.symm ne)]; exact hl
      · rw [upd_ne hb]; exact e
    · -- the next place
      refine ⟨_, rfl, p, _, _, _, rfl, rfl, SqL.of hp, rfl, ?_⟩
      refine ⟨_, rfl, _, _, rfl, rfl, _, rfl, p, _, _, _, rfl, rfl, hp, rfl, ?_⟩
      have hp1 : upd H p (.lst [V.ref l, V.int (s + 1), V.int g]) p = some (.lst [V.ref l, V.int (s + 1), V.int g]) := upd_same
      have hl1 : upd H p (.lst [V.ref l, V.int (s + 1), V.int g]) l = some (.lst (xs.map V.int)) := by rw [upd_ne (Ne.symm ne)]; exact hl
      have k1 : Kp p H (upd H p (.lst [V.ref l, V.int (s + 1), V.int g])) := fun b o hb e => by rw [upd_ne hb]; exact e
      show tSeq _ _ _ _ (upd H p (.lst [V.ref l, V.int (s + 1), V.int g]))
      generalize upd H p (.lst [V.ref l, V.int (s + 1), V.int g]) = H1 at hp1 hl1 k1 ⊢
      have fin : ∀ (r g' : Int) (H' : Hp), 0 ≤ r → r < m → 0 ≤ g' → H' p = some (.lst [V.ref l, V.int (s + 1), V.int g']) → Kp p H1 H' → Q (.int r) H' := fun r g' H' h0 h1 h2 h3 h4 =>
        k r H' h0 h1 ⟨xs, s + 1, g', ⟨h3, h4 _ _ (Ne.symm ne) hl1, ne, by omega, h2⟩, by omega⟩ fun b o hb e => h4 b o hb (k1 b o hb e)
      refine ⟨_, rfl, _, _, rfl, rfl, Or.inl (by decide), _, _, rfl, rfl, ?_⟩
      refine ⟨_, rfl, p, _, _, _, rfl, rfl, SqL.of hp1, rfl, (by show 0 ≤ sizeLine; decide), fun q hq => ?_⟩
      have lq : l ≠ q := ne_of_none hl1 hq
      have pq : p ≠ q := ne_of_none hp1 hq
      have hl2 : upd H1 q (.lst []) l = some (.lst (xs.map V.int)) := by rw [upd_ne lq]; exact hl1
      have hp2 : upd H1 q (.lst []) p = some (.lst [V.ref l, V.int (s + 1), V.int g]) := by rw [upd_ne pq]; exact hp1
      have k2 : Kp p H1 (upd H1 q (.lst [])) := fun b o hb e => by rw [upd_ne (ne_of_none e hq)]; exact e
      refine ⟨.list (xs.map PyData.int), .list [], .lst (SqL.of hl2) (dp_ints xs), .lst (SqL.of upd_same) .nil, shaped_ints xs, rfl, _, rfl, ?_⟩
      generalize upd H1 q (.lst []) = H2 at hl2 hp2 k2 ⊢
      refine join_if (fun σ' H' => ∃ cell : Int, σ' = [some (V.ref p), some (V.int m), none, some (V.int s), some (V.int cell), none, none] ∧ H' = H2) ?rest (fun go => ?_)
      case rest =>
        rintro σ' H' ⟨cell, rfl, rfl⟩
        refine ⟨_, rfl, _, rfl, p, _, _, _, rfl, rfl, SqL.of hp2, rfl, l, xs.map V.int, rfl, .inl (SqL.of hl2), _, _, rfl, rfl, _, rfl, ?_⟩
        refine ite2 (fun c2 => ?_) (fun c2 => ?_)
        · refine ⟨_, rfl, _, rfl, _, _, rfl, rfl, ⟨by decide, by decide, by decide⟩, _, _, rfl, rfl, _, rfl, ?_⟩
          refine ite2 (fun c3 => ?_) (fun c3 => ?_)
          · refine ⟨_, rfl, _, rfl, _, _, rfl, rfl, ⟨by decide, by decide, by decide⟩, _, _, rfl, rfl, _, _, rfl, rfl, Or.inl (by decide), _, rfl, _, _, rfl, rfl, Or.inr ⟨_, rfl, _, _, rfl, rfl, ?_⟩⟩
            have hge : (10 : Int) ^ (18 : Int).toNat ≤ (if cell < 0 then -cell else cell) := of_decide_eq_true c3
            generalize hG : 2 * ((if cell < 0 then -cell else cell) - 10 ^ (18 : Int).toNat) + (if decide (cell < 0) = true then (1 : Int) else 0) = G
            have hG0 : 0 ≤ G := by
              rw [← hG]
              have h1 : 0 ≤ (if decide (cell < 0) = true then (1 : Int) else 0) := by split <;> decide
              omega
            refine ⟨_, rfl, Or.inl ⟨_, rfl, _, rfl, _, _, rfl, rfl, (by exact hmb), _, rfl, p, _, _, _, rfl, rfl, hp2, rfl, ?_⟩⟩
            refine ⟨_, rfl, Or.inl ⟨_, rfl, _, rfl, _, _, rfl, rfl, (by show ¬ (_ = _); omega), ?_⟩⟩
            refine fin _ (G / m) _ (fm0 hm) (Int.fmod_lt_of_pos _ hm) (Int.ediv_nonneg hG0 (Int.le_of_lt hm)) ?_ fun b o hb e => ?_
            · rw [upd_same, ← hG]; rfl
            · rw [upd_ne hb]; exact k2 b o hb e
          · refine ⟨_, rfl, Or.inl ⟨_, rfl, ?_⟩⟩
            refine ⟨_, _, rfl, rfl, (by show ¬ (_ = _); decide), _, rfl, _, _, rfl, rfl, Or.inl (by decide), _, _, rfl, rfl, _, _, rfl, rfl, ?_⟩
            generalize hz : Int.fmod cell _ = z
            have hz0 : 0 ≤ z := by rw [← hz]; exact fm0 (by decide)
            have hz1 : z < 2147483648 := by rw [← hz]; exact fm1 (by decide) (by decide)
            refine ⟨_, _, rfl, rfl, ⟨by decide, by decide, by omega⟩, Or.inl ⟨_, rfl, ?_⟩⟩
            refine ⟨_, _, rfl, rfl, (by show ¬ (_ = _); decide), ?_⟩
            refine ⟨_, rfl, _, rfl, _, _, rfl, rfl, Or.inl (by decide), _, _, rfl, rfl, _, _, rfl, rfl, Or.inl (by exact fm64 (by decide) (by decide)), ?_⟩
            refine ⟨_, rfl, _, _, rfl, rfl, Or.inl (by decide), _, rfl, _, _, rfl, rfl, Or.inl (by exact fsmall (by decide) (by decide) s0 (by omega)), _, _, rfl, rfl, _, _, rfl, rfl, ?_⟩
            refine ⟨_, _, rfl, rfl, ⟨by decide, by decide, by exact stir (fm0 (by decide)) (fm1 (by decide) (by decide)) s0 (by omega) _ _ _ (by decide) (by decide) (by decide) (by decide) (by decide) (by decide)⟩, Or.inl ⟨_, rfl, ?_⟩⟩
            refine ⟨_, _, rfl, rfl, (by show ¬ (_ = _); decide), ?_⟩
            refine ⟨_, rfl, _, _, rfl, rfl, ⟨by decide, by decide⟩, Or.inl ⟨_, rfl, _, rfl, _, _, rfl, rfl, (by show ¬ (_ = _); omega), ?_⟩⟩
            exact fin _ g _ (fm0 hm) (Int.fmod_lt_of_pos _ hm) g0 hp2 k2
        · refine iteF ?_
          refine ⟨_, rfl, Or.inl ⟨_, rfl, ?_⟩⟩
          refine ⟨_, _, rfl, rfl, (by show ¬ (_ = _); decide), _, rfl, _, _, rfl, rfl, Or.inl (by decide), _, _, rfl, rfl, _, _, rfl, rfl, ?_⟩
          generalize hz : Int.fmod cell _ = z
          have hz0 : 0 ≤ z := by rw [← hz]; exact fm0 (by decide)
          have hz1 : z < 2147483648 := by rw [← hz]; exact fm1 (by decide) (by decide)
          refine ⟨_, _, rfl, rfl, ⟨by decide, by decide, by omega⟩, Or.inl ⟨_, rfl, ?_⟩⟩
          refine ⟨_, _, rfl, rfl, (by show ¬ (_ = _); decide), ?_⟩
          refine ⟨_, rfl, _, rfl, _, _, rfl, rfl, Or.inl (by decide), _, _, rfl, rfl, _, _, rfl, rfl, Or.inl (by exact fm64 (by decide) (by decide)), ?_⟩
          refine ⟨_, rfl, _, _, rfl, rfl, Or.inl (by decide), _, rfl, _, _, rfl, rfl, Or.inl (by exact fsmall (by decide) (by decide) s0 (by omega)), _, _, rfl, rfl, _, _, rfl, rfl, ?_⟩
          refine ⟨_, _, rfl, rfl, ⟨by decide, by decide, by exact stir (fm0 (by decide)) (fm1 (by decide) (by decide)) s0 (by omega) _ _ _ (by decide) (by decide) (by decide) (by decide) (by decide) (by decide)⟩, Or.inl ⟨_, rfl, ?_⟩⟩
          refine ⟨_, _, rfl, rfl, (by show ¬ (_ = _); decide), ?_⟩
          refine ⟨_, rfl, _, _, rfl, rfl, ⟨by decide, by decide⟩, Or.inl ⟨_, rfl, _, rfl, _, _, rfl, rfl, (by show ¬ (_ = _); omega), ?_⟩⟩
          exact fin _ g _ (fm0 hm) (Int.fmod_lt_of_pos _ hm) g0 hp2 k2
      refine ite2 (fun c1 => ?_) (fun c1 => ?_)
      · rw [eqv_nil] at c1
        have hx : xs ≠ [] := by simpa using c1
        have hlen : 0 < xs.length := List.length_pos_iff.mpr hx
        refine ⟨_, rfl, p, _, _, _, rfl, rfl, SqL.of hp2, rfl, ?_⟩
        refine ⟨_, rfl, Or.inl ⟨_, rfl, ?_⟩⟩
        refine ⟨_, rfl, p, _, _, _, rfl, rfl, SqL.of hp2, rfl, l, xs.map V.int, rfl, .inl (SqL.of hl2), ?_⟩
        have hL : ((xs.map V.int).length : Int) = (xs.length : Int) := by rw [List.length_map]
        have hb1 : 0 ≤ s.fmod ((xs.map V.int).length : Int) := Int.fmod_nonneg_of_pos _ (by omega)
        have hb2 : s.fmod ((xs.map V.int).length : Int) < ((xs.map V.int).length : Int) := Int.fmod_lt_of_pos _ (by omega)
        obtain ⟨j, hj⟩ : ∃ j : Nat, s.fmod ((xs.map V.int).length : Int) = (j : Int) := ⟨(s.fmod ((xs.map V.int).length : Int)).toNat, by omega⟩
        have hjl : j < xs.length := by omega
        have hat : atI (xs.map V.int) (s.fmod ((xs.map V.int).length : Int)) = some (V.int xs[j]) := by
          rw [hj]; exact atI_nat (by simp [hjl])
        refine ⟨_, _, rfl, rfl, (by omega), ?_⟩
        refine ⟨l, _, _, V.int xs[j], rfl, rfl, SqL.of hl2, hat, ?_⟩
        exact go _ _ ⟨xs[j], rfl, rfl⟩
      · exact go _ _ ⟨_, rfl, rfl⟩
end
end Lw
namespace Lw
open PySem PySem.Spec PyProof.Rows L2

theorem Kp.refl (p : Addr) (H : Hp) : Kp p H H := fun _ _ _ e => e
theorem Kp.trans {p : Addr} {H H1 H2 : Hp} (a : Kp p H H1) (b : Kp p H1 H2) : Kp p H H2 := fun c o hc e => b c o hc (a c o hc e)
theorem Kp.of {p : Addr} {H H' : Hp} (s : Same H H') : Kp p H H' := fun b o _ e => s b o e
theorem Kp.seq {K : PySem.W.Frag} {p a : Addr} {H H' : Hp} {ys : List V} (k : Kp p H H') (ne : a ≠ p) (h : SqL K H a ys) : SqL K H' a ys := by
  rcases h with (h | ⟨o, h⟩) | h
  · exact .inl (.inl (k _ _ ne h))
  · exact .inl (.inr ⟨o, k _ _ ne h⟩)
  · exact .inr h
theorem same_new {H : Hp} {q : Addr} {o : HO} (hq : H q = none) : Same H (upd H q o) := fun b u e => by rw [upd_ne (ne_of_none e hq)]; exact e
theorem Pen.keep {H H' : Hp} {p l : Addr} {n : Nat} (h : Pen H p l n) (s : Same H H') : Pen H' p l n := by
  obtain ⟨xs, a, g, ⟨h1, h2, h3, h4, h5⟩, h6⟩ := h
  exact ⟨xs, a, g, ⟨s _ _ h1, s _ _ h2, h3, h4, h5⟩, h6⟩
theorem Pen.at {H : Hp} {p l : Addr} {n : Nat} (h : Pen H p l n) : ∃ o, H p = some o := by
  obtain ⟨xs, a, g, h, _⟩ := h
  exact ⟨_, h.at_⟩
theorem Pen.ne_new {H : Hp} {p l q : Addr} {n : Nat} (h : Pen H p l n) (hq : H q = none) : q ≠ p := by
  obtain ⟨o, h1⟩ := h.at
  exact (ne_of_none h1 hq).symm
theorem Pen.more {H : Hp} {p l : Addr} {n m : Nat} (h : Pen H p l n) (hm : n ≤ m) : Pen H p l m := by
  obtain ⟨xs, a, g, h1, h2⟩ := h
  exact ⟨xs, a, g, h1, by omega⟩
def spPick (K : PySem.W.Frag) : Sp := fun vs H Q _ => ∃ (p l a : Addr) (n : Nat) (ys : List V), vs = [.ref p, .ref a] ∧ Pen H p l n ∧ n ≤ 1000000 ∧ SqL K H a ys ∧ a ≠ p ∧ 0 < ys.length ∧ ys.length < 1000000 ∧
  ∀ (j : Nat) (v : V) (H' : Hp), ys[j]? = some v → Pen H' p l (n + 1) → Kp p H H' → Q v H'
def spPen (K : PySem.W.Frag) : Sp := fun vs H Q _ => ∃ (a : Addr) (ns : List Int), vs = [.ref a] ∧ SqL K H a (ns.map V.int) ∧ ns.length ≤ 63 ∧ ∀ (p l : Addr) (H' : Hp), Pen H' p l 0 → Same H H' → H p = none → Q (.ref p) H'
theorem Pen.over {H : Hp} {p l q : Addr} {n : Nat} {o : HO} (h : Pen H p l n) (h1 : q ≠ p) (h2 : q ≠ l) : Pen (upd H q o) p l n := by
  obtain ⟨xs, a, g, ⟨e1, e2, e3, e4, e5⟩, h6⟩ := h
  exact ⟨xs, a, g, ⟨by rw [upd_ne h1.symm]; exact e1, by rw [upd_ne h2.symm]; exact e2, e3, e4, e5⟩, h6⟩
theorem Pen.ne_new2 {H : Hp} {p l q : Addr} {n : Nat} (h : Pen H p l n) (hq : H q = none) : q ≠ l := by
  obtain ⟨xs, a, g, h, _⟩ := h
  exact (ne_of_none h.ls hq).symm
section
variable {P : Program} {w : World} {K : PySem.W.Frag} {mg : Str → Option Value} {base : Heap}
theorem scPick : FnScope ["_law_pen_here", "_law_some"] ["_law_pen_here", "_law_some"] (C8.fnScope sPick) := C8.fnScope_by (by decide +kernel)
theorem cal_pick {f : Addr} {fd : FuncData} (F : C8.Def K mg "_law_pick" sPick f fd) (b : Binds K fd ["_law_pen_here", "_law_some"] []) (T : Txt0 mg) (D : C8.Cal P w K mg base 1 "_law_draw" spDraw []) : C8.Cal P w K mg base 2 "_law_pick" (spPick K) [] := by
  refine C8.cal0 F b .nil scPick (fun vs H Q E h => ?_) (fun cdv A outer st H vs Q E hr h => ?_)
  · obtain ⟨p, l, a, n, ys, rfl, _⟩ := h
    rfl
  · obtain ⟨p, l, a, n, ys, rfl, hp, hn, hs, ne, h0, h1, k⟩ := h
    refine ⟨_, (pss_one (ps_ret (pe_ix ix_list (pv 1) (C8.pe_c D hr (by decide) (by rfl) (pa_cons (pv 0) (pa_cons (pe_callB call_len_seq (by rfl) T.n_len (by decide +kernel) (pa_cons (pv 1) pa_nil)) pa_nil))) (fun _ _ => rfl)))), ?_⟩
    refine ⟨_, rfl, _, rfl, _, rfl, a, ys, rfl, .inl hs, ?_⟩
    refine ⟨p, l, n, _, rfl, (by omega), (by omega), hp, hn, fun r H' r0 r1 hp' k' => ?_⟩
    obtain ⟨j, hj⟩ : ∃ j : Nat, r = (j : Int) := ⟨r.toNat, by omega⟩
    subst hj
    have hjl : j < ys.length := by omega
    refine ⟨a, ys, _, ys[j], rfl, rfl, k'.seq ne hs, atI_nat (by simp [hjl]), ?_⟩
    exact k j _ H' (by simp [hjl]) hp' k'
theorem scPen : FnScope ["_law_script"] ["_law_script"] (C8.fnScope sPen) := C8.fnScope_by (by decide +kernel)
theorem cut_ints (xs : List Int) (lo hi : Option Int) : cutV (xs.map V.int) lo hi = ((xs.drop (HT.sIx xs.length 0 lo)).take (HT.sIx xs.length xs.length hi - HT.sIx xs.length 0 lo)).map V.int := by
  unfold cutV
  rw [List.length_map, List.map_take, List.map_drop]
theorem cal_pen {f : Addr} {fd : FuncData} (F : C8.Def K mg "_law_pen" sPen f fd) (b : Binds K fd ["_law_script"] []) (T : Txt0 mg) : C8.Cal P w K mg base 1 "_law_pen" (spPen K) [] := by
  refine C8.cal0 F b .nil scPen (fun vs H Q E h => ?_) (fun cdv A outer st H vs Q E hr h => ?_)
  · obtain ⟨a, ns, rfl, _⟩ := h
    rfl
  · obtain ⟨a, ns, rfl, hs, hl, k⟩ := h
    refine ⟨_, (pss_one (ps_ret (pe_lst (pa_cons (pe_callTy call_list_of (by rfl) T.n_list (by decide +kernel) (pa_cons (pe_slice sl_list (pv 0) po_none (po_some pe_int)) pa_nil)) (pa_cons pe_int (pa_cons pe_int pa_nil)))))), ?_⟩
    refine ⟨_, rfl, _, rfl, a, _, rfl, hs, fun c hc => ?_⟩
    refine ⟨c, _, rfl, .inl (SqL.of upd_same), fun l hl2 => ?_⟩
    refine ⟨(by show 3 ≤ sizeLine; decide), fun p hp => ?_⟩
    have s1 := same_new (o := HO.lst (cutV (ns.map V.int) none (some 63))) hc
    have s2 := same_new (o := HO.lst (cutV (ns.map V.int) none (some 63))) hl2
    have s3 := same_new (o := HO.lst [V.ref l, V.int 0, V.int 0]) hp
    have pl : p ≠ l := fun e => by rw [e, upd_same] at hp; cases hp
    refine k p l _ ⟨((ns.drop (HT.sIx ns.length 0 none)).take (HT.sIx ns.length ns.length (some 63) - HT.sIx ns.length 0 none)), 0, 0, ⟨upd_same, ?_, pl, by omega, by omega⟩, by omega⟩ ((s1.trans s2).trans s3) ((s1.trans s2).free hp)
    rw [upd_ne pl.symm, upd_same, cut_ints]
end
end Lw
namespace Lw
open PySem PySem.Spec PyProof.Rows L2

/-! ### C.m(e, ..), m a static method -/
structure SMet (K : PySem.W.Frag) (C : Addr) (m : Str) (p g : Addr) : Prop where
  mc : ∃ mc, PySem.W.typeIn K (.ref C) = some mc ∧ PySem.W.readsIn K C mc = true ∧ PySem.W.findCls K (.ref C) mc m = some (.get (.builtin "staticmethod.__get__") (.ref p) .none (.ref C))
  ga : PySem.W.specialIn K (.ref C) "__getattribute__" = some (some (.builtin "type.__getattribute__"))
  rc : ∃ rest, PySem.W.recIn K p "staticmethod" = some (.ref g :: rest)
  kp : PySem.W.keepIn K (.ref g) = true
def tStatic (C : Addr) (sp : Sp) (dvs : List V) (E : XK) (ta : TE) (t : TA) : TE := fun σ H Q => ta σ H fun x H1 => x = .ref C ∧ t σ H1 fun vs H2 => sp (vs ++ dvs) H2 Q E
section
variable {X : Cx} {CX : CXT} {C p g : Addr} {k : Nat} {fd : FuncData} {ps : List Str} {sp : Sp} {E : XK} {ds : List Value} {dvs : List V} {o e : Expr} {es : List Expr} {m : Str} {pos apos : Pos} {ta : TE} {t : TA} {pl : Sem Bool}
theorem pe_static (he : PE X o ta) (c : SMet X.K C m p g) (F : FnOk X.prog X.w X.K X.mg X.base CX k g fd ps sp) (hr : Room k X.A) (b : Binds X.K fd ps ds) (d : Vals dvs ds) (hx : Passes CX X E) (ha : PA X (e :: es) t)
    (hst : starEach (e :: es) X.env = (false, eval e X.env) :: starEach es X.env := by rfl) (hpl : (backTo pos (starEach es X.env)).any (·.1) = false := by rfl)
    (ht : eval (.Call (.Attribute o m apos) (e :: es) [] pos) X.env = (do
      let ov ← eval o X.env
      standAt apos.atName
      let (f, first) ← holding [ov] (getMethod ov m pl)
      callWith pos f first (backTo pos (starEach (e :: es) X.env)) (backToKw pos (keywordEach [] X.env))) := by rfl) :
    PE X (.Call (.Attribute o m apos) (e :: es) [] pos) (tStatic C sp dvs E ta t) := by
  refine ⟨fun pins s σ H Q I h => ?_⟩
  refine PySem.W.methodCall_KW (pl := pl) (thn (he.run pins s σ H _ I h) fun u s1 ⟨x, H1, I1, rx, ex, q⟩ => ?_) ht
  subst ex
  obtain rfl : u = Value.ref C := rx
  obtain ⟨mc, h1, h2, h3⟩ := c.mc
  obtain ⟨rest, h4⟩ := c.rc
  obtain ⟨fm, hF⟩ := I1.fr
  refine PySem.W.method_cls I1.kIn c.ga (PySem.W.cls_sm hF I1.ok.mod.kin h1 h2 h3 h4 rfl ?_)
  have I2 : Inv X pins σ H1 { s1 with toks := s1.toks + 1 } := I1.tok _
  refine PySem.W.callWith_K (h₀ := X.base) I2.ok.mod.kin c.kp (thn (ha.run pos pins _ σ H1 _ I2 q) fun us s3 ⟨vs, H2, I3, rv, q2⟩ => ⟨I3.kIn, ?_⟩) hst hpl
  exact run_fn F hr b d hx I3 rv q2
end
end Lw
namespace Lw
open PySem PySem.Spec PyProof.Rows L2

/-! ### own operators: + - * // % and the sign, of instances of one class and of a built-in value beside -/
section
variable {X : Cx} {C : Addr} {k j : Nat} {sp : Sp} {pins : List (Addr × Obj)} {σ : L2.St} {H : Hp} {s : Shared}
theorem ins_at {a dx : Addr} {fs : List (Str × V)} (I : Inv X pins σ H s) (h : H a = some (.ins C dx fs)) : ∃ ox od, PySem.W.InstAt s.heap a ox C (some od) := by
  obtain ⟨mA, O, _⟩ := ins_get I.hok h
  obtain ⟨od, J, _⟩ := O.look
  exact ⟨_, od, J⟩
/-- a method of the class, called with an instance and another value -/
theorem run_two {m : Str} {us : List Value} {vs : List V} {Q : VK} (M : C8.Met X.prog X.w X.K X.mg X.base k C m sp []) (hr : Room j X.A) (hk : k ≤ j) (I : Inv X pins σ H s) (r : Vals vs us) (q : sp vs H Q C8.E0) :
    ∃ g : Addr, Meth X.K C m g ∧ wpAny (model X.prog X.w) X.A (call (.ref g) us) (PySem.W.CmpBack (EP X pins σ Q)) X.xe s := by
  obtain ⟨g, fd, ps, ds, hC, hm, F, b, d⟩ := M.ex
  have q' : sp (vs ++ []) H Q C8.E0 := by rw [List.append_nil]; exact q
  refine ⟨g, hm, wpAny_mono (run_fn F (hr.mono hk) b d C8.pass0 I r q') (fun w s' z => ?_) fun _ _ x => x⟩
  obtain ⟨z', H', I', rz, qz⟩ := z
  exact SlX.cmpback rz ⟨z', H', I', rz, qz⟩
def rSame (C : Addr) (sp : Sp) : R2 := fun x y H Q => ∃ a dx fs b dy gs, x = .ref a ∧ y = .ref b ∧ H a = some (.ins C dx fs) ∧ H b = some (.ins C dy gs) ∧ sp [x, y] H Q C8.E0
theorem op_same {op : Operator} (M : C8.Met X.prog X.w X.K X.mg X.base k C (PySem.dunder op.info.2) sp []) (hc : PySem.W.selfFirst X.K C = true) (hr : Room j X.A) (hk : k ≤ j) : OpR X (binaryOp op) (rSame C sp) := by
  intro pins s σ H x y v u Q I rx ry h
  obtain ⟨a, dx, fs, b, dy, gs, rfl, rfl, ha, hb, q⟩ := h
  cases (show v = Value.ref a from rx)
  cases (show u = Value.ref b from ry)
  obtain ⟨_, _, J⟩ := ins_at I ha
  obtain ⟨_, _, J'⟩ := ins_at I hb
  obtain ⟨g, hm, w⟩ := run_two (us := [.ref a, .ref b]) (vs := [.ref a, .ref b]) M hr hk I (.cons rfl (.cons rfl .nil)) q
  obtain ⟨m, hF⟩ := I.fr
  exact PySem.W.binop_K hF I.ok.mod.kin J J'.type hc hm.at_ hm.fn w
/-- what the operator asks of the class and of a built-in type beside it -/
structure Beside (K : PySem.W.Frag) (C : Addr) (op : Operator) (T : String) : Prop where
  first : PySem.W.selfFirst K C = true
  back : ∃ rc, PySem.W.findIn K (.ref C) (dunderR op.info.2) = some rc ∧ (rc = none ∨ ∃ g : Addr, rc = some (.ref g))
  ahead : ∃ fo, PySem.W.findIn K (.type T) (PySem.dunder op.info.2) = some fo
  behind : ∃ ro, PySem.W.findIn K (.type T) (dunderR op.info.2) = some ro
  sub : PySem.W.subIn K (.type T) (.ref C) = some false
/-- a built-in value's kind, as typeOf tells it -/
inductive Kind : V → String → Prop where
  | int (i : Int) : Kind (.int i) "int"
  | bl (b : Bool) : Kind (.bl b) "bool"
  | non : Kind .non "NoneType"
  | str (z : Str) : Kind (.str z) "str"
theorem Kind.type {y : V} {T : String} {u : Value} (h : Kind y T) (r : RelV y u) : typeOf u = pure (.type T) := by
  cases h with
  | int i => obtain ⟨t, e⟩ := (show ∃ t, u = Value.int i t from r); subst e; rfl
  | bl b => cases (show u = Value.bool b from r); rfl
  | non => cases (show u = Value.none from r); rfl
  | str z => obtain ⟨t, e⟩ := (show ∃ t, u = Value.str z t from r); subst e; rfl
def rBeside (K : PySem.W.Frag) (C : Addr) (op : Operator) (sp : Sp) : R2 := fun x y H Q => ∃ a dx fs T, x = .ref a ∧ H a = some (.ins C dx fs) ∧ Kind y T ∧ Beside K C op T ∧ sp [x, y] H Q C8.E0
theorem op_beside {op : Operator} (M : C8.Met X.prog X.w X.K X.mg X.base k C (PySem.dunder op.info.2) sp []) (hr : Room j X.A) (hk : k ≤ j) : OpR X (binaryOp op) (rBeside X.K C op sp) := by
  intro pins s σ H x y v u Q I rx ry h
  obtain ⟨a, dx, fs, T, rfl, ha, hT, hB, q⟩ := h
  cases (show v = Value.ref a from rx)
  obtain ⟨_, _, J⟩ := ins_at I ha
  obtain ⟨g, hm, w⟩ := run_two (us := [.ref a, u]) (vs := [.ref a, y]) M hr hk I (.cons rfl (.cons ry .nil)) q
  obtain ⟨m, hF⟩ := I.fr
  obtain ⟨rc, r1, r2⟩ := hB.back
  obtain ⟨fo, f1⟩ := hB.ahead
  obtain ⟨ro, o1⟩ := hB.behind
  exact PySem.W.ksp_binT hF I.ok.mod.kin J (hT.type ry) hB.first hm.at_ hm.fn r1 r2 f1 o1 hB.sub w
def rSign (C : Addr) (sp : Sp) : V → Hp → VK → Prop := fun x H Q => ∃ a dx fs, x = .ref a ∧ H a = some (.ins C dx fs) ∧ sp [x] H Q C8.E0
theorem un_sign (M : C8.Met X.prog X.w X.K X.mg X.base k C "__neg__" sp []) (hr : Room j X.A) (hk : k ≤ j) : UnR X (unaryOp .USub) (rSign C sp) := by
  intro pins s σ H x v Q I rx h
  obtain ⟨a, dx, fs, rfl, ha, q⟩ := h
  cases (show v = Value.ref a from rx)
  obtain ⟨_, _, J⟩ := ins_at I ha
  obtain ⟨g, fd, ps, ds, hC, hm, F, b, d⟩ := M.ex
  obtain ⟨m, hF⟩ := I.fr
  have q' : sp ([V.ref a] ++ []) H Q C8.E0 := q
  exact PySem.W.ksp_neg hF I.ok.mod.kin J hm.at_ hm.fn (run_fn (us := [.ref a]) (vs := [.ref a]) F (hr.mono hk) b d C8.pass0 I (.cons rfl .nil) q')
end
end Lw
namespace Lw.Ow
open PySem PySem.Spec PyProof.Rows PySem.W PySem.Calls

/-! ### own operators, the instance on the right -/
section
variable {prog : Program} {w : World} {A : Around} {E : Value → Shared → Prop} {s : Shared} {K : Frag} {x C f g : Addr} {ox : Obj} {od : Option Obj}
theorem right_bare {op : Operator} {a : Value} {T : String} {Q : Value → Shared → Prop} (X : K.In s.heap) (I : InstAt s.heap x ox C od) (ht : Looks (model prog w) s.heap (typeOf a) (.type T)) (hc : selfFirst K C = true) (hs : findIn K (.ref C) (PySem.dunder op.info.2) = some (some (.ref f))) (hr : findIn K (.ref C) (dunderR op.info.2) = some (some (.ref g)))
    (hg : isFn K (.ref g) = true) (hL : fillsNumberSlot (.type T) op.info.2 = pure false) (h : wpAny (model prog w) A (call (.ref g) [.ref x, a]) (PySem.W.CmpBack Q) E s) : wpAny (model prog w) A (binaryOp op a (.ref x)) Q E s := by
  obtain ⟨cd, rest, hcd, hm⟩ := ksp_first hc
  rcases hi : op.info with ⟨sym, nm⟩
  rw [hi] at hs hr hL
  dsimp only at hs hr hL
  have one := ksp_try X I hr hg h
  obtain ⟨hh, gg, d, tt, os⟩ := s
  have L2 : Looks (model prog w) hh (typeOf (.ref x)) (.ref C) := I.type
  have L3 : Looks (model prog w) hh (fillsNumberSlot (.ref C) nm) true := fills_K X hcd hm hs
  have hne : (Value.type T == Value.ref C) = false := Bool.eq_false_iff.mpr fun q => by cases beq_iff_eq.mp q
  simp only [binaryOp, hi]
  refine wpAny_holding (wpAny_bind ?_)
  unfold binaryOp1
  refine wpAny_bind (ht.at (wpAny_bind (L2.at (wpAny_bind (wpAny_of_eq hL ?_)))))
  simp only [hne, Bool.false_eq_true, if_false]
  refine wpAny_bind (L3.at ?_)
  simp only [Bool.false_and, Bool.false_eq_true, if_false, pure_bind, Bool.not_false, Bool.and_true, if_true]
  refine wpAny_bind (wpAny_mono one (fun r s' hr' => ?_) fun _ _ e => e)
  obtain ⟨v, rfl, hq⟩ := hr'
  exact wpAny_bind (wpAny_rule (wpAny_pure (wpAny_pure hq)))
theorem right_number {op : Operator} {a : Value} {T id : String} {Q : Value → Shared → Prop} (X : K.In s.heap) (I : InstAt s.heap x ox C od) (ht : typeOf a = pure (.type T)) (hT : s.TypeIs a T) (hc : selfFirst K C = true) (hs : findIn K (.ref C) (PySem.dunder op.info.2) = some (some (.ref f))) (hr : findIn K (.ref C) (dunderR op.info.2) = some (some (.ref g)))
    (hg : isFn K (.ref g) = true) (hL : fillsNumberSlot (.type T) op.info.2 = pure true) (hsub : subIn K (.ref C) (.type T) = some false) (sl : Slot T (PySem.dunder op.info.2) id) (hd : ∀ Q' : Value → Shared → Prop, Q' .notImplemented s → wpAny (model prog w) A (call (.builtin id) [a, .ref x]) Q' E s)
    (h : wpAny (model prog w) A (call (.ref g) [.ref x, a]) (PySem.W.CmpBack Q) E s) : wpAny (model prog w) A (binaryOp op a (.ref x)) Q E s := by
  obtain ⟨cd, rest, hcd, hm⟩ := ksp_first hc
  rcases hi : op.info with ⟨sym, nm⟩
  rw [hi] at hs hr hL sl
  dsimp only at hs hr hL sl
  have one := ksp_try X I hr hg h
  have two := wpAny_tryMethod_declines (Q := fun r s' => r = none ∧ s' = s) hT sl (hd _ ⟨rfl, rfl, rfl⟩)
  obtain ⟨hh, gg, d, tt, os⟩ := s
  have L2 : Looks (model prog w) hh (typeOf (.ref x)) (.ref C) := I.type
  have L3 : Looks (model prog w) hh (fillsNumberSlot (.ref C) nm) true := fills_K X hcd hm hs
  have L4 : Looks (model prog w) hh (isSubtype (.ref C) (.type T)) false := looks_subIn X hsub
  have hpy : numberSlotInPython (.type T) nm = pure false := rfl
  have hne : (Value.type T == Value.ref C) = false := Bool.eq_false_iff.mpr fun q => by cases beq_iff_eq.mp q
  simp only [binaryOp, hi]
  refine wpAny_holding (wpAny_bind ?_)
  unfold binaryOp1
  refine wpAny_bind (wpAny_of_eq ht (wpAny_bind (L2.at (wpAny_bind (wpAny_of_eq hL ?_)))))
  simp only [hne, Bool.false_eq_true, if_false]
  refine wpAny_bind (L3.at ?_)
  simp only [Bool.and_self, if_true]
  refine wpAny_bind (L4.at ?_)
  simp only [Bool.false_eq_true, if_false, pure_bind, Bool.not_false, Bool.and_self, if_true, hpy]
  refine wpAny_bind (wpAny_mono two (fun r s' z => ?_) fun _ _ e => e)
  obtain ⟨rfl, rfl⟩ := z
  refine wpAny_bind (wpAny_mono one (fun r s' hr' => ?_) fun _ _ e => e)
  obtain ⟨v, rfl, hq⟩ := hr'
  exact wpAny_bind (wpAny_rule (wpAny_pure (wpAny_pure hq)))
end
end Lw.Ow
namespace Lw.Ow
open PySem PySem.Spec PyProof.Rows

section
variable {prog : Program} {w : World} {A : Around} {E : Value → Shared → Prop} {s : Shared}
theorem binary_no {nm : String} {f : Int → Int → Sem Fin} {i : Int} {t : Tok} {x : Addr} {o : Obj} {Q : Value → Shared → Prop} (ho : s.heap.get? x = some o) (hp : o.data = .plain) (h : Q .notImplemented s) :
    wpAny (model prog w) A (Builtin.Int.intBinary nm f false ⟨[.int i t, .ref x], []⟩) (fun fin s' => ∃ v, fin = .done (.ret v) ∧ Q v s') E s := by
  unfold Builtin.Int.intBinary
  refine wpAny_bind (wpAny_of_eq (a := (Value.int i t, [Value.ref x])) rfl ?_)
  refine wpAny_bind (wpAny_of_eq (a := i) rfl ?_)
  refine wpAny_bind ?_
  show wpAny _ _ (load x >>= fun ob => match ob.data with | .prim (.int i _) => pure (some i) | _ => pure none) _ _ _
  refine wpAny_bind (wpAny_load ho ?_)
  rw [hp]
  exact wpAny_pure (wpAny_bind (wpAny_rule (wpAny_pure ⟨_, rfl, h⟩)))
theorem no_add {i : Int} {t : Tok} {x : Addr} {o : Obj} {Q : Value → Shared → Prop} (ho : s.heap.get? x = some o) (hp : o.data = .plain) (h : Q .notImplemented s) : wpAny (model prog w) A (call (.builtin "int.__add__") [.int i t, .ref x]) Q E s :=
  wpAny_call_entry F.slot_int_add (typeIs_int s i t) F.entry_int_add (binary_no ho hp h) (F.args_int_add_2 _ _)
theorem no_sub {i : Int} {t : Tok} {x : Addr} {o : Obj} {Q : Value → Shared → Prop} (ho : s.heap.get? x = some o) (hp : o.data = .plain) (h : Q .notImplemented s) : wpAny (model prog w) A (call (.builtin "int.__sub__") [.int i t, .ref x]) Q E s :=
  wpAny_call_entry F.slot_int_sub (typeIs_int s i t) F.entry_int_sub (binary_no ho hp h) (F.args_int_sub_2 _ _)
theorem no_mul {i : Int} {t : Tok} {x : Addr} {o : Obj} {Q : Value → Shared → Prop} (ho : s.heap.get? x = some o) (hp : o.data = .plain) (h : Q .notImplemented s) : wpAny (model prog w) A (call (.builtin "int.__mul__") [.int i t, .ref x]) Q E s :=
  wpAny_call_entry F.slot_int_mul (typeIs_int s i t) F.entry_int_mul (binary_no ho hp h) (F.args_int_mul_2 _ _)
theorem no_mod {i : Int} {t : Tok} {x : Addr} {o : Obj} {Q : Value → Shared → Prop} (ho : s.heap.get? x = some o) (hp : o.data = .plain) (h : Q .notImplemented s) : wpAny (model prog w) A (call (.builtin "int.__mod__") [.int i t, .ref x]) Q E s :=
  wpAny_call_entry F.slot_int_mod (typeIs_int s i t) F.entry_int_mod (binary_no ho hp h) (F.args_int_mod_2 _ _)
theorem no_floordiv {i : Int} {t : Tok} {x : Addr} {o : Obj} {Q : Value → Shared → Prop} (ho : s.heap.get? x = some o) (hp : o.data = .plain) (h : Q .notImplemented s) : wpAny (model prog w) A (call (.builtin "int.__floordiv__") [.int i t, .ref x]) Q E s := by
  refine wpAny_call_entry F.slot_int_floordiv (typeIs_int s i t) F.entry_int_floordiv ?_ (F.args_int_floordiv_2 _ _)
  unfold Builtin.«int.__floordiv__»
  refine wpAny_bind ?_
  unfold Builtin.exactOperandsForPylong
  rw [if_pos (by rfl)]
  dsimp only
  refine wpAny_bind (wpAny_of_eq (a := some i) rfl ?_)
  refine wpAny_bind ?_
  show wpAny _ _ (load x >>= fun ob => match ob.data with | .prim (.int i _) => pure (some i) | _ => pure none) _ _ _
  refine wpAny_bind (wpAny_load ho ?_)
  rw [hp]
  exact wpAny_pure (wpAny_pure (binary_no ho hp h))
end

end Lw.Ow
namespace Lw
open PySem PySem.Spec PyProof.Rows L2
section
variable {X : Cx} {C f : Addr} {k j : Nat} {sp : Sp}
def rRight (C : Addr) (P : V → Prop) (sp : Sp) : R2 := fun x y H Q => ∃ a dx fs, P x ∧ y = .ref a ∧ H a = some (.ins C dx fs) ∧ sp [y, x] H Q C8.E0
theorem ins_plain {pins : List (Addr × Obj)} {σ : L2.St} {H : Hp} {s : Shared} {a dx : Addr} {fs : List (Str × V)} (I : Inv X pins σ H s) (h : H a = some (.ins C dx fs)) : ∃ ox od, PySem.W.InstAt s.heap a ox C (some od) ∧ s.heap.get? a = some ox ∧ ox.data = .plain := by
  obtain ⟨mA, O, _⟩ := ins_get I.hok h
  obtain ⟨od, J, _⟩ := O.look
  exact ⟨_, od, J, J.at_, rfl⟩
/-- an int beside an instance on the right -/
theorem op_rightI {op : Operator} {id : String} (M : C8.Met X.prog X.w X.K X.mg X.base k C (dunderR op.info.2) sp []) (hc : PySem.W.selfFirst X.K C = true) (hs : PySem.W.findIn X.K (.ref C) (PySem.dunder op.info.2) = some (some (.ref f))) (hL : fillsNumberSlot (.type "int") op.info.2 = pure true)
    (hsub : PySem.W.subIn X.K (.ref C) (.type "int") = some false) (sl : Slot "int" (PySem.dunder op.info.2) id) (hd : ∀ {A : Around} {E : Value → Shared → Prop} {s : Shared} {i : Int} {t : Tok} {x : Addr} {o : Obj} {Q' : Value → Shared → Prop}, s.heap.get? x = some o → o.data = .plain → Q' .notImplemented s → wpAny (model X.prog X.w) A (call (.builtin id) [.int i t, .ref x]) Q' E s)
    (hr : Room j X.A) (hk : k ≤ j) : OpR X (binaryOp op) (rRight C (fun x => ∃ i, x = .int i) sp) := by
  intro pins s σ H x y v u Q I rx ry h
  obtain ⟨a, dx, fs, ⟨i, rfl⟩, rfl, ha, q⟩ := h
  cases (show u = Value.ref a from ry)
  obtain ⟨t, rfl⟩ := (show ∃ t, v = Value.int i t from rx)
  obtain ⟨ox, od, J, hx, hp⟩ := ins_plain I ha
  obtain ⟨g, hm, w⟩ := run_two (us := [.ref a, .int i t]) (vs := [.ref a, .int i]) M hr hk I (.cons rfl (.cons ⟨t, rfl⟩ .nil)) q
  exact Ow.right_number I.kIn J rfl (typeIs_int s i t) hc hs hm.at_ hm.fn hL hsub sl (fun Q' z => hd hx hp z) w
/-- a value whose type has no number slot for the operator -/
theorem op_rightB {op : Operator} {T : String} (M : C8.Met X.prog X.w X.K X.mg X.base k C (dunderR op.info.2) sp []) (hc : PySem.W.selfFirst X.K C = true) (hs : PySem.W.findIn X.K (.ref C) (PySem.dunder op.info.2) = some (some (.ref f))) (hL : fillsNumberSlot (.type T) op.info.2 = pure false)
    (hr : Room j X.A) (hk : k ≤ j) : OpR X (binaryOp op) (rRight C (fun x => Kind x T) sp) := by
  intro pins s σ H x y v u Q I rx ry h
  obtain ⟨a, dx, fs, hT, rfl, ha, q⟩ := h
  cases (show u = Value.ref a from ry)
  obtain ⟨ox, od, J, hx, hp⟩ := ins_plain I ha
  obtain ⟨g, hm, w⟩ := run_two (us := [.ref a, v]) (vs := [.ref a, x]) M hr hk I (.cons rfl (.cons rx .nil)) q
  exact Ow.right_bare I.kIn J (PySem.W.Looks.of_pure (hT.type rx)) hc hs hm.at_ hm.fn hL w
end
end Lw
namespace Lw.Ow
open PySem PySem.Spec PyProof.Rows PySem.W PySem.Calls

/-! ### x op= y of instances whose class has no operator of that kind -/
section
variable {prog : Program} {w : World} {A : Around} {E : Value → Shared → Prop} {s : Shared} {K : Frag} {x C f g : Addr} {ox : Obj} {od : Option Obj}
/-- the operator's first half tells a value -/
def Told (Q : Value → Shared → Prop) (r : Option Value) (s' : Shared) : Prop := ∃ v, r = some v ∧ Q v s'
theorem half_same {nm : String} {b : Value} {Q : Value → Shared → Prop} (X : K.In s.heap) (I : InstAt s.heap x ox C od) (hb : Looks (model prog w) s.heap (typeOf b) (.ref C)) (hc : selfFirst K C = true) (hs : findIn K (.ref C) (PySem.dunder nm) = some (some (.ref f))) (hf : isFn K (.ref f) = true)
    (h : wpAny (model prog w) A (call (.ref f) [.ref x, b]) (PySem.W.CmpBack Q) E s) : wpAny (model prog w) A (binaryOp1 nm (.ref x) b) (Told Q) E s := by
  obtain ⟨cd, rest, hcd, hm⟩ := ksp_first hc
  have one := ksp_try X I hs hf h
  obtain ⟨hh, gg, d, tt, os⟩ := s
  have L1 : Looks (model prog w) hh (typeOf (.ref x)) (.ref C) := I.type
  have L2 : Looks (model prog w) hh (typeOf b) (.ref C) := hb
  have L3 : Looks (model prog w) hh (fillsNumberSlot (.ref C) nm) true := fills_K X hcd hm hs
  unfold binaryOp1
  refine wpAny_bind (L1.at (wpAny_bind (L2.at (wpAny_bind (L3.at ?_)))))
  simp only [beq_self_eq_true, if_true]
  refine wpAny_bind (wpAny_pure ?_)
  simp only [Bool.and_false, Bool.false_and, Bool.false_eq_true, if_false, if_true, pure_bind]
  refine wpAny_bind (wpAny_mono one (fun r s' z => ?_) fun _ _ e => e)
  obtain ⟨v, rfl, hq⟩ := z
  exact wpAny_pure ⟨v, rfl, hq⟩
/-- no class above has the operator of that kind -/
theorem bare_inplace {nm : String} {add : Bool} {cd : ClassData} {h : Heap} {M : Model} (X : K.In h) (hc : clsIn K C = some cd) (hm : cd.mro = [.ref C, .type "object"]) (h1 : findIn K (.ref C) (dunderI nm) = some none) (h2 : findIn K (.type "object") (dunderI nm) = some none) : Looks M h (fillsInplaceSlot (.ref C) nm add) false := by
  intro A Q E s k q
  have Lm : Looks M h (mroOf (.ref C)) cd.mro := (looks_clsIn X hc).andThen (f := fun cd => pure cd.mro) .now
  have Lm2 := Lm.keeps k
  obtain ⟨hh, gg, d, tt, os⟩ := s
  have X2 : K.In hh := X.keeps k
  have L1 : Looks M hh (typeLookup (.ref C) (dunderI nm)) none := looks_findIn X2 h1
  have L2 : Looks M hh (typeLookup (.type "object") (dunderI nm)) none := looks_findIn X2 h2
  unfold fillsInplaceSlot
  refine wpAny_bind (Lm2.at ?_)
  rw [hm, List.anyM_cons]
  refine wpAny_bind (wpAny_bind (L1.at ?_))
  refine wpAny_pure ?_
  rw [List.anyM_cons]
  refine wpAny_bind (wpAny_bind (L2.at ?_))
  refine wpAny_pure ?_
  rw [List.anyM_nil]
  exact wpAny_pure q
theorem inplace_of {op : Operator} {b : Value} {cd : ClassData} {Q : Value → Shared → Prop} (X : K.In s.heap) (I : InstAt s.heap x ox C od) (hc : clsIn K C = some cd) (hm : cd.mro = [.ref C, .type "object"]) (h1 : findIn K (.ref C) (dunderI op.info.2) = some none) (h2 : findIn K (.type "object") (dunderI op.info.2) = some none)
    (h : wpAny (model prog w) A (binaryOp1 op.info.2 (.ref x) b) (Told Q) E s) : wpAny (model prog w) A (inplaceOp op (.ref x) b) Q E s := by
  have L1 : Looks (model prog w) s.heap (typeOf (.ref x)) (.ref C) := I.type
  have L2 : Looks (model prog w) s.heap (fillsInplaceSlot (.ref C) op.info.2 (op == .Add)) false := bare_inplace X hc hm h1 h2
  unfold inplaceOp
  refine wpAny_holding ?_
  refine wpAny_bind (L1.here (wpAny_bind (L2.here ?_)))
  simp only [Bool.false_eq_true, if_false, pure_bind]
  refine wpAny_bind (wpAny_mono h (fun r s' z => ?_) fun _ _ e => e)
  obtain ⟨v, rfl, hq⟩ := z
  exact wpAny_pure hq
end
end Lw.Ow
namespace Lw.Ow
open PySem PySem.Spec PyProof.Rows PySem.W PySem.Calls

section
variable {prog : Program} {w : World} {A : Around} {E : Value → Shared → Prop} {s : Shared} {K : Frag} {x C f g : Addr} {ox : Obj} {od : Option Obj}
theorem half_left {nm : String} {b : Value} {T : String} {fo ro rc : Option Value} {Q : Value → Shared → Prop} (X : K.In s.heap) (I : InstAt s.heap x ox C od) (hb : Looks (model prog w) s.heap (typeOf b) (.type T)) (hc : selfFirst K C = true) (hs : findIn K (.ref C) (PySem.dunder nm) = some (some (.ref f))) (hf : isFn K (.ref f) = true)
    (hr : findIn K (.ref C) (dunderR nm) = some rc) (hp : rc = none ∨ ∃ g : Addr, rc = some (.ref g)) (h1 : findIn K (.type T) (PySem.dunder nm) = some fo) (h2 : findIn K (.type T) (dunderR nm) = some ro) (hsub : subIn K (.type T) (.ref C) = some false)
    (h : wpAny (model prog w) A (call (.ref f) [.ref x, b]) (PySem.W.CmpBack Q) E s) : wpAny (model prog w) A (binaryOp1 nm (.ref x) b) (Told Q) E s := by
  obtain ⟨cd, rest, hcd, hm⟩ := ksp_first hc
  have one := ksp_try X I hs hf h
  obtain ⟨hh, gg, d, tt, os⟩ := s
  have L1 : Looks (model prog w) hh (typeOf (.ref x)) (.ref C) := I.type
  have L3 : Looks (model prog w) hh (fillsNumberSlot (.ref C) nm) true := fills_K X hcd hm hs
  have L4 : Looks (model prog w) hh (fillsNumberSlot (.type T) nm) ((fo.isSome && !isSeqSlot fo) || (ro.isSome && !isSeqSlot ro)) := ksp_fillsT X h1 h2
  have L5 : Looks (model prog w) hh (isSubtype (.type T) (.ref C)) false := looks_subIn X hsub
  have L6 : Looks (model prog w) hh (numberSlotInPython (.ref C) nm) true := ksp_inPy X hs hr hp
  have L7 : Looks (model prog w) hh (numberSlotInPython (.type T) nm) false := Looks.of_pure rfl
  have L8 : Looks (model prog w) hh (typeLookup (.type T) (dunderR nm)) ro := looks_findIn X h2
  have hne : (Value.ref C == Value.type T) = false := Bool.eq_false_iff.mpr fun q => by cases beq_iff_eq.mp q
  have done : ∀ {r : Option Value} {s' : Shared}, (∃ v, r = some v ∧ Q v s') → ∃ v, r = some v ∧ Told Q r s' := fun ⟨v, e, q⟩ => ⟨v, e, v, e, q⟩
  generalize ((fo.isSome && !isSeqSlot fo) || (ro.isSome && !isSeqSlot ro)) = right at L4
  unfold binaryOp1
  refine wpAny_bind (L1.at (wpAny_bind (hb.at (wpAny_bind (L3.at ?_)))))
  simp only [hne, Bool.false_eq_true, if_false]
  refine wpAny_bind (L4.at ?_)
  cases right with
  | false =>
    simp only [Bool.and_false, Bool.false_and, Bool.false_eq_true, if_false, if_true, pure_bind]
    refine wpAny_bind (wpAny_mono one (fun r s' z => ?_) fun _ _ e => e)
    obtain ⟨v, rfl, hq⟩ := z
    exact wpAny_pure ⟨v, rfl, hq⟩
  | true =>
    simp only [Bool.and_self, if_true]
    refine wpAny_bind (L5.at ?_)
    simp only [Bool.false_eq_true, if_false, if_true, Bool.not_false, Bool.and_self]
    refine wpAny_bind (L6.at ?_)
    simp only [if_true]
    refine wpAny_bind (L7.at ?_)
    simp only [Bool.not_false, if_true]
    refine wpAny_bind (L8.at ?_)
    refine wpAny_bind (wpAny_mono one (fun r s' z => ?_) fun _ _ e => e)
    obtain ⟨v, rfl, hq⟩ := z
    exact wpAny_pure ⟨v, rfl, hq⟩
theorem half_number {nm : String} {a : Value} {T id : String} {Q : Value → Shared → Prop} (X : K.In s.heap) (I : InstAt s.heap x ox C od) (ht : typeOf a = pure (.type T)) (hT : s.TypeIs a T) (hc : selfFirst K C = true) (hs : findIn K (.ref C) (PySem.dunder nm) = some (some (.ref f))) (hr : findIn K (.ref C) (dunderR nm) = some (some (.ref g)))
    (hg : isFn K (.ref g) = true) (hL : fillsNumberSlot (.type T) nm = pure true) (hsub : subIn K (.ref C) (.type T) = some false) (sl : Slot T (PySem.dunder nm) id) (hd : ∀ Q' : Value → Shared → Prop, Q' .notImplemented s → wpAny (model prog w) A (call (.builtin id) [a, .ref x]) Q' E s)
    (h : wpAny (model prog w) A (call (.ref g) [.ref x, a]) (PySem.W.CmpBack Q) E s) : wpAny (model prog w) A (binaryOp1 nm a (.ref x)) (Told Q) E s := by
  obtain ⟨cd, rest, hcd, hm⟩ := ksp_first hc
  have one := ksp_try X I hr hg h
  have two := wpAny_tryMethod_declines (Q := fun r s' => r = none ∧ s' = s) hT sl (hd _ ⟨rfl, rfl, rfl⟩)
  obtain ⟨hh, gg, d, tt, os⟩ := s
  have L2 : Looks (model prog w) hh (typeOf (.ref x)) (.ref C) := I.type
  have L3 : Looks (model prog w) hh (fillsNumberSlot (.ref C) nm) true := fills_K X hcd hm hs
  have L4 : Looks (model prog w) hh (isSubtype (.ref C) (.type T)) false := looks_subIn X hsub
  have hpy : numberSlotInPython (.type T) nm = pure false := rfl
  have hne : (Value.type T == Value.ref C) = false := Bool.eq_false_iff.mpr fun q => by cases beq_iff_eq.mp q
  unfold binaryOp1
  refine wpAny_bind (wpAny_of_eq ht (wpAny_bind (L2.at (wpAny_bind (wpAny_of_eq hL ?_)))))
  simp only [hne, Bool.false_eq_true, if_false]
  refine wpAny_bind (L3.at ?_)
  simp only [Bool.and_self, if_true]
  refine wpAny_bind (L4.at ?_)
  simp only [Bool.false_eq_true, if_false, pure_bind, Bool.not_false, Bool.and_self, if_true, hpy]
  refine wpAny_bind (wpAny_mono two (fun r s' z => ?_) fun _ _ e => e)
  obtain ⟨rfl, rfl⟩ := z
  refine wpAny_bind (wpAny_mono one (fun r s' z => ?_) fun _ _ e => e)
  obtain ⟨v, rfl, hq⟩ := z
  exact wpAny_bind (wpAny_rule (wpAny_pure ⟨v, rfl, hq⟩))
end
end Lw.Ow
namespace Lw
open PySem PySem.Spec PyProof.Rows L2

/-- a class right below object that has no operator of the kind op= -/
structure NoInplace (K : PySem.W.Frag) (C : Addr) (op : Operator) : Prop where
  mro : ∃ cd, PySem.W.clsIn K C = some cd ∧ cd.mro = [.ref C, .type "object"]
  own : PySem.W.findIn K (.ref C) (dunderI op.info.2) = some none
  obj : PySem.W.findIn K (.type "object") (dunderI op.info.2) = some none
section
variable {X : Cx} {C f : Addr} {k j : Nat} {sp : Sp}
theorem iop_same {op : Operator} (M : C8.Met X.prog X.w X.K X.mg X.base k C (PySem.dunder op.info.2) sp []) (hc : PySem.W.selfFirst X.K C = true) (ni : NoInplace X.K C op) (hr : Room j X.A) (hk : k ≤ j) : OpR X (inplaceOp op) (rSame C sp) := by
  intro pins s σ H x y v u Q I rx ry h
  obtain ⟨a, dx, fs, b, dy, gs, rfl, rfl, ha, hb, q⟩ := h
  cases (show v = Value.ref a from rx)
  cases (show u = Value.ref b from ry)
  obtain ⟨_, _, J⟩ := ins_at I ha
  obtain ⟨_, _, J'⟩ := ins_at I hb
  obtain ⟨g, hm, w⟩ := run_two (us := [.ref a, .ref b]) (vs := [.ref a, .ref b]) M hr hk I (.cons rfl (.cons rfl .nil)) q
  obtain ⟨cd, h1, h2⟩ := ni.mro
  exact Ow.inplace_of I.kIn J h1 h2 ni.own ni.obj (Ow.half_same I.kIn J J'.type hc hm.at_ hm.fn w)
theorem iop_beside {op : Operator} (M : C8.Met X.prog X.w X.K X.mg X.base k C (PySem.dunder op.info.2) sp []) (ni : NoInplace X.K C op) (hr : Room j X.A) (hk : k ≤ j) : OpR X (inplaceOp op) (rBeside X.K C op sp) := by
  intro pins s σ H x y v u Q I rx ry h
  obtain ⟨a, dx, fs, T, rfl, ha, hT, hB, q⟩ := h
  cases (show v = Value.ref a from rx)
  obtain ⟨_, _, J⟩ := ins_at I ha
  obtain ⟨g, hm, w⟩ := run_two (us := [.ref a, u]) (vs := [.ref a, y]) M hr hk I (.cons rfl (.cons ry .nil)) q
  obtain ⟨cd, h1, h2⟩ := ni.mro
  obtain ⟨rc, r1, r2⟩ := hB.back
  obtain ⟨fo, f1⟩ := hB.ahead
  obtain ⟨ro, o1⟩ := hB.behind
  exact Ow.inplace_of I.kIn J h1 h2 ni.own ni.obj (Ow.half_left I.kIn J (PySem.W.Looks.of_pure (hT.type ry)) hB.first hm.at_ hm.fn r1 r2 f1 o1 hB.sub w)
/-- i op= x, i an int, x an instance -/
theorem iop_rightI {op : Operator} {id : String} (M : C8.Met X.prog X.w X.K X.mg X.base k C (dunderR op.info.2) sp []) (hc : PySem.W.selfFirst X.K C = true) (hs : PySem.W.findIn X.K (.ref C) (PySem.dunder op.info.2) = some (some (.ref f))) (hL : fillsNumberSlot (.type "int") op.info.2 = pure true) (hI : fillsInplaceSlot (.type "int") op.info.2 (op == .Add) = pure false)
    (hsub : PySem.W.subIn X.K (.ref C) (.type "int") = some false) (sl : Slot "int" (PySem.dunder op.info.2) id) (hd : ∀ {A : Around} {E : Value → Shared → Prop} {s : Shared} {i : Int} {t : Tok} {x : Addr} {o : Obj} {Q' : Value → Shared → Prop}, s.heap.get? x = some o → o.data = .plain → Q' .notImplemented s → wpAny (model X.prog X.w) A (call (.builtin id) [.int i t, .ref x]) Q' E s)
    (hr : Room j X.A) (hk : k ≤ j) : OpR X (inplaceOp op) (rRight C (fun x => ∃ i, x = .int i) sp) := by
  intro pins s σ H x y v u Q I rx ry h
  obtain ⟨a, dx, fs, ⟨i, rfl⟩, rfl, ha, q⟩ := h
  cases (show u = Value.ref a from ry)
  obtain ⟨t, rfl⟩ := (show ∃ t, v = Value.int i t from rx)
  obtain ⟨ox, od, J, hx, hp⟩ := ins_plain I ha
  obtain ⟨g, hm, w⟩ := run_two (us := [.ref a, .int i t]) (vs := [.ref a, .int i]) M hr hk I (.cons rfl (.cons ⟨t, rfl⟩ .nil)) q
  have half := Ow.half_number I.kIn J rfl (typeIs_int s i t) hc hs hm.at_ hm.fn hL hsub sl (fun Q' z => hd hx hp z) w
  unfold inplaceOp
  refine wpAny_holding ?_
  refine wpAny_bind (wpAny_of_eq (a := Value.type "int") rfl (wpAny_bind (wpAny_of_eq hI ?_)))
  simp only [Bool.false_eq_true, if_false, pure_bind]
  refine wpAny_bind (wpAny_mono half (fun r s' z => ?_) fun _ _ e => e)
  obtain ⟨v, rfl, hq⟩ := z
  exact wpAny_pure hq
theorem int_no_inplace : fillsInplaceSlot (.type "int") "add" true = pure false ∧ fillsInplaceSlot (.type "int") "sub" false = pure false ∧ fillsInplaceSlot (.type "int") "mul" false = pure false := by
  refine ⟨?_, ?_, ?_⟩ <;> · simp only [fillsInplaceSlot, typeLookup_type]; rfl
end
end Lw
namespace Lw
open PySem PySem.Spec PyProof.Rows L2

/-! ### the same operators, their methods may raise -/
/-- a method of the class that may raise what E tells -/
structure MetX (P : Program) (w : World) (K : PySem.W.Frag) (mg : Str → Option Value) (base : Heap) (k : Nat) (C : Addr) (m : Str) (sp : Sp) : Prop where
  ex : ∃ (g : Addr) (fd : FuncData) (ps : List Str), Meth K C m g ∧ FnOk P w K mg base (L2.CX P w) k g fd ps sp ∧ Binds K fd ps []
section
variable {X : Cx} {C f : Addr} {k j : Nat} {sp : Sp} {E : XK} {pins : List (Addr × Obj)} {σ : L2.St} {H : Hp} {s : Shared}
theorem run_met {m : Str} {us : List Value} {vs : List V} {Q : VK} (M : MetX X.prog X.w X.K X.mg X.base k C m sp) (hx : Passes (L2.CX X.prog X.w) X E) (hr : Room j X.A) (hk : k ≤ j) (I : Inv X pins σ H s) (r : Vals vs us) (q : sp vs H Q E) :
    ∃ g : Addr, Meth X.K C m g ∧ wpAny (model X.prog X.w) X.A (call (.ref g) us) (PySem.W.CmpBack (EP X pins σ Q)) X.xe s ∧ wpAny (model X.prog X.w) X.A (call (.ref g) us) (EP X pins σ Q) X.xe s := by
  obtain ⟨g, fd, ps, hm, F, b⟩ := M.ex
  have q' : sp (vs ++ []) H Q E := by rw [List.append_nil]; exact q
  have ran := run_fn F (hr.mono hk) b .nil hx I r q'
  refine ⟨g, hm, wpAny_mono ran (fun w s' z => ?_) (fun _ _ x => x), ran⟩
  obtain ⟨z', H', I', rz, qz⟩ := z
  exact SlX.cmpback rz ⟨z', H', I', rz, qz⟩
def rSameX (C : Addr) (sp : Sp) (E : XK) : R2 := fun x y H Q => ∃ a dx fs b dy gs, x = .ref a ∧ y = .ref b ∧ H a = some (.ins C dx fs) ∧ H b = some (.ins C dy gs) ∧ sp [x, y] H Q E
theorem op_sameX {op : Operator} (M : MetX X.prog X.w X.K X.mg X.base k C (PySem.dunder op.info.2) sp) (hx : Passes (L2.CX X.prog X.w) X E) (hc : PySem.W.selfFirst X.K C = true) (hr : Room j X.A) (hk : k ≤ j) : OpR X (binaryOp op) (rSameX C sp E) := by
  intro pins s σ H x y v u Q I rx ry h
  obtain ⟨a, dx, fs, b, dy, gs, rfl, rfl, ha, hb, q⟩ := h
  cases (show v = Value.ref a from rx)
  cases (show u = Value.ref b from ry)
  obtain ⟨_, _, J⟩ := ins_at I ha
  obtain ⟨_, _, J'⟩ := ins_at I hb
  obtain ⟨g, hm, w, _⟩ := run_met (us := [.ref a, .ref b]) (vs := [.ref a, .ref b]) M hx hr hk I (.cons rfl (.cons rfl .nil)) q
  obtain ⟨m, hF⟩ := I.fr
  exact PySem.W.binop_K hF I.ok.mod.kin J J'.type hc hm.at_ hm.fn w
def rBesideX (K : PySem.W.Frag) (C : Addr) (op : Operator) (sp : Sp) (E : XK) : R2 := fun x y H Q => ∃ a dx fs T, x = .ref a ∧ H a = some (.ins C dx fs) ∧ Kind y T ∧ Beside K C op T ∧ sp [x, y] H Q E
theorem op_besideX {op : Operator} (M : MetX X.prog X.w X.K X.mg X.base k C (PySem.dunder op.info.2) sp) (hx : Passes (L2.CX X.prog X.w) X E) (hr : Room j X.A) (hk : k ≤ j) : OpR X (binaryOp op) (rBesideX X.K C op sp E) := by
  intro pins s σ H x y v u Q I rx ry h
  obtain ⟨a, dx, fs, T, rfl, ha, hT, hB, q⟩ := h
  cases (show v = Value.ref a from rx)
  obtain ⟨_, _, J⟩ := ins_at I ha
  obtain ⟨g, hm, w, _⟩ := run_met (us := [.ref a, u]) (vs := [.ref a, y]) M hx hr hk I (.cons rfl (.cons ry .nil)) q
  obtain ⟨m, hF⟩ := I.fr
  obtain ⟨rc, r1, r2⟩ := hB.back
  obtain ⟨fo, f1⟩ := hB.ahead
  obtain ⟨ro, o1⟩ := hB.behind
  exact PySem.W.ksp_binT hF I.ok.mod.kin J (hT.type ry) hB.first hm.at_ hm.fn r1 r2 f1 o1 hB.sub w
def rSignX (C : Addr) (sp : Sp) (E : XK) : V → Hp → VK → Prop := fun x H Q => ∃ a dx fs, x = .ref a ∧ H a = some (.ins C dx fs) ∧ sp [x] H Q E
theorem un_signX (M : MetX X.prog X.w X.K X.mg X.base k C "__neg__" sp) (hx : Passes (L2.CX X.prog X.w) X E) (hr : Room j X.A) (hk : k ≤ j) : UnR X (unaryOp .USub) (rSignX C sp E) := by
  intro pins s σ H x v Q I rx h
  obtain ⟨a, dx, fs, rfl, ha, q⟩ := h
  cases (show v = Value.ref a from rx)
  obtain ⟨_, _, J⟩ := ins_at I ha
  obtain ⟨g, hm, _, w⟩ := run_met (us := [.ref a]) (vs := [.ref a]) M hx hr hk I (.cons rfl .nil) q
  obtain ⟨m, hF⟩ := I.fr
  exact PySem.W.ksp_neg hF I.ok.mod.kin J hm.at_ hm.fn w
end
end Lw
namespace Lw
open PySem PySem.Spec PyProof.Rows L2

/-! ### defs that are called where no repr runs -/
/-- a def's promise where nothing is being shown -/
structure FnG (P : Program) (w : World) (K : PySem.W.Frag) (mg : Str → Option Value) (base : Heap) (k : Nat) (f : Addr) (fd : FuncData) (ps : List Str) (sp : Sp) : Prop where
  len : ∀ vs H Q E, sp vs H Q E → vs.length = ps.length
  run : ∀ (A : Around) (outer : List Env) (s : Shared) (H : Hp) (args : Args) (us : List Value) (vs : List V) (Q : VK) (E : XK), A.guards = some [] → Room k A → Env0 P w K mg base A outer s H →
    BindsTo s fd args (ps.zip us) → Vals vs us → sp vs H Q E → codeAny (model P w) A (.call (.ref f) args) (CR C8.CX0 outer P w H s Q E) s
structure CalG (P : Program) (w : World) (K : PySem.W.Frag) (mg : Str → Option Value) (base : Heap) (k : Nat) (x : Str) (sp : Sp) (dvs : List V) : Prop where
  ex : ∃ (f : Addr) (fd : FuncData) (ps : List Str) (ds : List Value), FnG P w K mg base k f fd ps sp ∧ mg x = some (.ref f) ∧ PySem.W.keepIn K (.ref f) = true ∧ Binds K fd ps ds ∧ Vals dvs ds
section
variable {P : Program} {w : World} {K : PySem.W.Frag} {mg : Str → Option Value} {base : Heap}
theorem calG {x : Str} {st : Stmt} {f : Addr} {fd : FuncData} {N ps : List Str} {ds : List Value} {dvs : List V} {k : Nat} {sp : Sp} (F : C8.Def K mg x st f fd) (b : Binds K fd ps ds) (d : Vals dvs ds) (S : FnScope N ps (C8.fnScope st))
    (len : ∀ vs H Q E, sp vs H Q E → vs.length = ps.length)
    (body : ∀ (cdv : Value) (A : Around) (outer : List Env) (s : Shared) (H : Hp) (vs : List V) (Q : VK) (E : XK), (A.deeper (envOfC x (C8.fnScope st) s.heap.objs.size f cdv)).guards = some [] → Room k (A.deeper (envOfC x (C8.fnScope st) s.heap.objs.size f cdv)) → sp vs H Q E →
      ∃ t, PSs (cxOf C8.CX0 P w K mg base N x (C8.fnScope st) f cdv A outer s H E).nox (C8.fnBody st) t ∧ t { nx := fun _ H' => Q .non H', rt := Q } (start N vs) H) : CalG P w K mg base (k + 1) x sp dvs := by
  refine ⟨f, fd, ps, ds, ⟨len, ?_⟩, F.mgf, F.kp, b, d⟩
  intro A outer s H args us vs Q E hg hr e0 hb r hs
  obtain ⟨oc, od, dV, kV, doc, pm, an, cdv, ct, osl, rfl, lk, hcd⟩ := F.fn.ex
  refine LamX.run_ofS lk hcd S hr e0 hb r (len _ _ _ _ hs) fun hr' => ?_
  obtain ⟨t, h1, h2⟩ := body cdv A outer s H vs Q E hg hr' hs
  exact ⟨t, h1.nox, h2⟩
end
section
variable {X : Cx} {k j : Nat} {x : Str} {sp : Sp} {dvs : List V} {p pos : Pos} {e : Expr} {es : List Expr} {t : TA}
theorem pe_g (c : CalG X.prog X.w X.K X.mg X.base k x sp dvs) (hG : X.A.guards = some []) (hr : Room j X.A) (hk : k ≤ j) (hg : Gl X x) (ha : PA X (e :: es) t)
    (hdb : (x == ("__debug__" : Str)) = false := by decide) (he : starEach (e :: es) X.env = (false, eval e X.env) :: starEach es X.env := by rfl) (hpl : (backTo pos (starEach es X.env)).any (·.1) = false := by rfl) :
    PE X (.Call (.Name x p) (e :: es) [] pos) (tCall sp dvs C8.E0 t) := by
  obtain ⟨f, fd, ps, ds, F, hm, kp, b, d⟩ := c.ex
  refine ⟨fun pins s σ H Q I h => ?_⟩
  refine wpAny_Call_Name_kw (ld_glob I hg hm ?_ hdb)
  refine PySem.W.callWith_K (h₀ := X.base) I.ok.mod.kin kp (thn (ha.run pos pins s σ H _ I h) fun us s1 g => ?_) he hpl
  obtain ⟨vs, H1, I1, r, q⟩ := g
  refine ⟨I1.kIn, ?_⟩
  have r2 := r.append d
  have hl : (us ++ ds).length = ps.length := r2.length.symm.trans (F.len _ _ _ _ q)
  refine wpAny_call (codeAny_mono (F.run X.A X.stack s1 H1 ⟨us, []⟩ (us ++ ds) (vs ++ dvs) Q C8.E0 hG (hr.mono hk) I1.env0 (b s1 us I1.kIn hl) r2 q) fun r s' hq => ?_)
  match r, hq with
  | .error e, hq => exact hq.elim
  | .ok (.ret u), hq => exact I1.after hq
  | .ok .next, hq => exact hq.elim
  | .ok .brk, hq => exact hq.elim
  | .ok .cont, hq => exact hq.elim
/-! ### repr of data -/
def rRepr (K : PySem.W.Frag) : List V → Hp → VK → Prop := fun xs H Q => ∃ (a : Addr) (d : PyData), xs = [.ref a] ∧ Dp K H (.ref a) d ∧ d.showable = true ∧ d.hasDict = false ∧ d.depth ≤ 100 ∧ d.shown.length ≤ sizeLine ∧ Q (.str d.shown) H
theorem call_reprD (hG : X.A.guards = some []) (hr : Room 0 X.A) : CallR X (.builtin "repr") (rRepr X.K) := by
  intro pins s σ H xs us Q I r h
  obtain ⟨a, d, rfl, hd, h1, h2, h3, h4, q⟩ := h
  obtain ⟨u, rfl, ru⟩ := vals1 r
  have e : u = Value.ref a := ru
  subst e
  obtain ⟨as, rd⟩ := Dp.reads I d _ _ hd rfl
  have hun := hr.un
  exact repr_of_reads' rd h1 (fun z => by rw [h2] at z; cases z) hG (by omega) (fun _ _ e => e) (fun h' u' tk kp => ⟨.str d.shown, H, I.kept kp, ⟨u', rfl⟩, q⟩) h4
end
end Lw
namespace Lw
open PySem PySem.Spec PyProof.Rows L2

open LamX
/-! ### a lambda as a value -/
def FnO (f : Addr) : HO := .ext fun h => ∃ o : Obj, h.get? f = some o ∧ o.cls = .type "function"
section
variable {X : Cx} {pins : List (Addr × Obj)} {σ : L2.St} {H : Hp} {s : Shared}
theorem lay_fn {h' : Heap} {t' : Nat} {o : Obj} (I : Inv X pins σ H { s with heap := h', toks := t' }) (ho : o.cls = .type "function") (hs : o.isFreed = false) :
    Inv X pins σ (upd H h'.objs.size (FnO h'.objs.size)) { s with heap := h'.push o, toks := t' } := by
  refine I.laid (h' := h'.push o) (t' := t') (fun b u e => Heap.get?_push_of_some _ e) (Nat.le_refl _) ?_
  have g : (h'.push o).get? h'.objs.size = some o := Heap.get?_push_size _ hs
  refine ⟨⟨o, g, ho⟩, ⟨o, g⟩, ?_⟩
  rintro h1 h2 ⟨u, e1, e2⟩ st
  exact ⟨u, st u e1, e2⟩
theorem lam_val {T : List (Addr × Str)} {c B : Addr} {params : Arguments} {body : Expr} {scope : Scope} {pos : Pos} {E Q : Value → Shared → Prop} (I : Inv X pins σ H s) (TB : TabB X.base X.mg c B) (hcode : X.env.code = .ref c)
    (hm : (B, X.env.qual ++ "<lambda>") ∈ T) (hu : ∀ p ∈ T, p.1 = B → p.2 = X.env.qual ++ "<lambda>") (hT : Tabs T H) (hdef : defaultsOf params X.env = ([], []))
    (hfree : ∀ y ∈ scope.names, y.2 = .free → ∃ c, X.env.cells.lookup y.1 = some c)
    (h : ∀ (f : Addr) (H1 : Hp) (s' : Shared), Inv X pins σ (upd H1 f (FnO f)) s' → ExtN H H1 → Tabs T H1 → H1 f = none → Q (.ref f) s') :
    wpAny (model X.prog X.w) X.A (eval (.Lambda params body scope pos) X.env) Q E s := by
  have known := hT _ hm
  obtain ⟨ps, hB, trip, amg⟩ := known
  refine PySem.W.kla_eval hdef ?_
  have hat : s.heap.get? B = some { cls := .none, data := .fields ps } := I.hok B _ hB
  have blt := TB.bm.keeps I.bk
  have hdc := TB.code.keeps I.bk
  have glb := I.mod.glob.keeps I.bk
  rcases hc : codeAmong pos ps.toList with _ | cv
  · refine PySem.W.kla_makeFunction (mg := X.mg) (c := c) (P := B) (ps := ps) (closure_ok hfree) I.ok.glob glb hcode hdc hat trip hc TB.gP blt ?_
    intro c2 ctv h' tk hx hge hlt hrec htb
    obtain ⟨c3, oc, vs, t, e3, g1, g2, g3⟩ := hrec
    cases e3
    have nC : H c2 = none := I.hok.fresh hge
    have I0 := inv_table (t' := tk) (more := #[rawInt pos.line, rawInt pos.col, .ref c2]) (h' := h') I hB hx htb hge ⟨oc, vs, t, g1, g2, g3⟩
    have stays : ExtN H (upd (upd H B (.tbl (ps ++ #[rawInt pos.line, rawInt pos.col, .ref c2]))) c2 (CodeO c2 (X.env.qual ++ "<lambda>"))) := by
      intro b o e n
      rw [upd_ne (ne_of_none e nC)]
      by_cases hb : b = B
      · subst hb
        rw [hB] at e
        exact absurd (Option.some.inj e).symm (n ps)
      · rw [upd_ne hb]; exact e
    refine h h'.objs.size _ _ (lay_fn (t' := tk) I0 rfl rfl) stays ?_ ?_
    · intro p hp
      by_cases hb : p.1 = B
      · rw [hu p hp hb, hb]
        refine ⟨ps ++ #[rawInt pos.line, rawInt pos.col, .ref c2], ?_, ?_, ?_⟩
        · rw [upd_ne (ne_of_none hB nC), upd_same]
        · rw [show (ps ++ #[rawInt pos.line, rawInt pos.col, .ref c2]).toList = ps.toList ++ [rawInt pos.line, rawInt pos.col, .ref c2] by simp]
          exact PySem.TriplesOk_snoc _ _ _ _ trip
        · intro p' cv' hcv
          rw [show (ps ++ #[rawInt pos.line, rawInt pos.col, .ref c2]).toList = ps.toList ++ [rawInt pos.line, rawInt pos.col, .ref c2] by simp] at hcv
          rcases among_app _ trip hcv with z | z
          · obtain ⟨c0, a1, a2⟩ := amg p' cv' z
            exact ⟨c0, a1, stays _ _ a2 codeO_ne⟩
          · exact ⟨c2, z, upd_same⟩
      · obtain ⟨qs, a1, a2, a3⟩ := hT p hp
        refine ⟨qs, ?_, a2, ?_⟩
        · rw [upd_ne (ne_of_none a1 nC), upd_ne hb]; exact a1
        · intro p' cv' hcv
          obtain ⟨c0, b1, b2⟩ := a3 p' cv' hcv
          exact ⟨c0, b1, stays _ _ b2 codeO_ne⟩
    · have n1 : h'.objs.size ≠ c2 := Nat.ne_of_gt hlt
      have n2 : h'.objs.size ≠ B := Nat.ne_of_gt (Nat.lt_of_lt_of_le (Heap.lt_size hat) (Nat.le_trans hge (Nat.le_of_lt hlt)))
      rw [upd_ne n1, upd_ne n2]
      exact I.hok.fresh (Nat.le_trans hge (Nat.le_of_lt hlt))
  · obtain ⟨c2, e, hco⟩ := amg pos cv hc
    subst e
    refine PySem.W.kla_makeFunctionHit (mg := X.mg) (c := c) (P := B) (ps := ps) (closure_ok hfree) I.ok.glob glb hcode hdc hat trip hc blt ?_
    intro ctv h' tk hx hsz
    have I0 : Inv X pins σ H { s with heap := h', toks := tk } := I.kept hx
    exact h h'.objs.size H _ (lay_fn (t' := tk) I0 rfl rfl) (ExtN.refl H) hT (I.hok.fresh hsz)
end
def tLamV (T : List (Addr × Str)) : TE := fun _ H Q => Tabs T H ∧ ∀ (f : Addr) (H1 : Hp), ExtN H H1 → Tabs T H1 → H1 f = none → Q (.ref f) (upd H1 f (FnO f))
section
variable {X : Cx}
theorem pe_lamV {T : List (Addr × Str)} {c B : Addr} {params : Arguments} {body : Expr} {scope : Scope} {pos : Pos} (TB : TabB X.base X.mg c B) (hcode : X.env.code = .ref c)
    (hm : (B, X.env.qual ++ "<lambda>") ∈ T) (hu : ∀ p ∈ T, p.1 = B → p.2 = X.env.qual ++ "<lambda>") (hdef : defaultsOf params X.env = ([], [])) (L : ∀ y ∈ scope.names, y.2 ≠ .free) :
    PE X (.Lambda params body scope pos) (tLamV T) := by
  refine ⟨fun pins s σ H Q I h => ?_⟩
  refine lam_val I TB hcode hm hu h.1 hdef (fun y hy e => absurd e (L y hy)) fun f H1 s' I1 eN T1 nf => ?_
  exact ⟨.ref f, _, I1, rfl, h.2 f H1 eN T1 nf⟩
end
end Lw
namespace Lf
open PySem
open Sem (wp)

theorem ga : Slot "function" "__getattribute__" "object.__getattribute__" := by
  refine .of (owner := "object") (n := "__getattribute__") ?_ (by decide +kernel) (by decide +kernel) (by decide +kernel) ?_ ?_
  · rw [typeLookup_type, builtinLookup_eq_fast]
    kernel_rfl
  · first
      | exact .inl (by decide +kernel)
      | exact .inr (by decide +kernel)
  · rw [isSubtype_type]
    kernel_rfl
theorem lkc : typeLookup (.type "function") "__class__" = pure (some (.builtin "object.__class__")) := by
  rw [typeLookup_type, builtinLookup_eq_fast]
  kernel_rfl
theorem sub_own : isSubtype (.type "function") (.type (".".intercalate ("object.__class__".cutAt '.').dropLast)) = pure true := by
  rw [F.owner_object_class]
  rw [isSubtype_type]
  kernel_rfl
section
variable {prog : Program} {w : World} {A : Around} {E : Value → Shared → Prop} {h : Heap} {g : Array GenState} {d : Drawn} {t : Nat} {os : OsState} {a : Addr} {o : Obj}
theorem fn_get {R : Result → Shared → Prop} (hx : h.get? a = some o) (hc : o.cls = .type "function")
    (hq : R (.ok (.ret (.type "function"))) ⟨h, g, d, t, os⟩) :
    codeAny (model prog w) A (.call (.builtin "getset_descriptor.__get__") ⟨[.builtin "object.__class__", .ref a, .type "function"], []⟩) R ⟨h, g, d, t, os⟩ := by
  have i1 : (⟨h, g, d, t, os⟩ : Shared).TypeIs (.ref a) "function" := ⟨o, hx, hc⟩
  have i2 : (⟨h, g, d, t, os⟩ : Shared).TypeIs (.builtin "object.__class__") "getset_descriptor" := F.typeOf_object_class
  have i3 := sub_own
  refine codeAny_call_builtin F.slot_gs_get.plain F.entry_gs_get ?_
  refine F.slot_gs_get.check _ _ _ _ _ _ _ _ i2 (F.args_gs_get _ _ _) ?_
  repeat (any_goals (first | assumption | wp_step))
  refine ⟨Code.quiet_builtin _ (by decide +kernel), ?_⟩
  refine codeAny_builtin F.entry_object_class ?_
  repeat (any_goals (first | assumption | wp_step))
theorem fn_ga {tk : Tok} {Q : Fin → Shared → Prop} (hx : h.get? a = some o) (hc : o.cls = .type "function")
    (hq : Q (.done (.ret (.type "function"))) ⟨h, g, d, t, os⟩) :
    wpAny (model prog w) A (Builtin.«object.__getattribute__» ⟨[.ref a, .str "__class__" tk], []⟩) Q E ⟨h, g, d, t, os⟩ := by
  have i1 : (⟨h, g, d, t, os⟩ : Shared).TypeIs (.ref a) "function" := ⟨o, hx, hc⟩
  have i2 : (⟨h, g, d, t, os⟩ : Shared).TypeIs (.builtin "object.__class__") "getset_descriptor" := F.typeOf_object_class
  have i3 := lkc
  have i4 := F.typeOf_object_class
  have i5 := F.slot_gs_get.lookup
  have i6 := F.slot_gs_set.lookup
  repeat (any_goals (first | assumption | wp_step))
  refine fn_get hx hc ?_
  repeat (any_goals (first | assumption | wp_step))
theorem fn_call {tk : Tok} {R : Result → Shared → Prop} (hx : h.get? a = some o) (hc : o.cls = .type "function")
    (hq : R (.ok (.ret (.type "function"))) ⟨h, g, d, t, os⟩) :
    codeAny (model prog w) A (.call (.builtin "object.__getattribute__") ⟨[.ref a, .str "__class__" tk], []⟩) R ⟨h, g, d, t, os⟩ := by
  refine codeAny_call_builtin ga.plain F.entry_object_getattribute ?_
  exact ga.check _ _ _ _ _ _ _ _ (show (⟨h, g, d, t, os⟩ : Shared).TypeIs (.ref a) "function" from ⟨o, hx, hc⟩) (F.args_object_getattribute_2 _ _) (fn_ga hx hc hq)
theorem fn_by {tk : Tok} {Q : Value → Shared → Prop} (hx : h.get? a = some o) (hc : o.cls = .type "function") (hq : Q (.type "function") ⟨h, g, d, t, os⟩) :
    wpAny (model prog w) A (getAttrBy (.ref a) (.str "__class__" tk) false) Q E ⟨h, g, d, t, os⟩ := by
  have i1 : (⟨h, g, d, t, os⟩ : Shared).TypeIs (.ref a) "function" := ⟨o, hx, hc⟩
  have i2 := ga.lookup
  have i3 := ga.bind (.ref a)
  repeat (any_goals (first | assumption | wp_step))
  refine fn_call hx hc ?_
  repeat (any_goals (first | assumption | wp_step))
theorem fn_attr {Q : Option Value → Shared → Prop} (hx : h.get? a = some o) (hc : o.cls = .type "function") (hq : Q (some (.type "function")) ⟨h, g, d, t + 1, os⟩) :
    wpAny (model prog w) A (getAttr? (.ref a) "__class__") Q E ⟨h, g, d, t, os⟩ := by
  unfold getAttr? getAttrBy?
  repeat (any_goals (first | assumption | with_reducible apply fn_by hx hc | wp_step))
end
end Lf
namespace Lw
open PySem PySem.Spec PyProof.Rows L2

open LamX
theorem kitx_fn {K : PySem.W.Frag} {a : Addr} : PySem.W.KitX K (.ref a) (.type "function") (PySem.W.KitAt a "function") := PySem.W.kitx_of PySem.W.kitAt_ty (fun {_ _ _ _ _ s} p k => by
  obtain ⟨h, g, d, t, os⟩ := s
  obtain ⟨o, h1, h2⟩ := p
  exact Lf.fn_attr h1 h2 k)
/-- a value's type: a def's, too -/
inductive TyZ (K : PySem.W.Frag) (H : Hp) : V → Value → Prop where
  | x {v : V} {t : Value} (h : TyX K H v t) : TyZ K H v t
  | fn {a : Addr} (e : H a = some (FnO a)) : TyZ K H (.ref a) (.type "function")
def rIsz (K : PySem.W.Frag) : List V → Hp → VK → Prop := fun xs H Q => ∃ (x c : V) (t u : Value) (b : Bool), xs = [x, c] ∧ ClsV c u ∧ TyZ K H x t ∧ PySem.W.kitOne K t u = some b ∧ Q (.bl b) H
theorem call_isz {X : Cx} : CallR X (.builtin "isinstance") (rIsz X.K) := by
  intro pins s σ H xs us Q I r h
  obtain ⟨x, c, t, u, b, rfl, k, ty, e, q⟩ := h
  obtain ⟨u1, u2, rfl, r1, r2⟩ := vals2 r
  have e2 := k.eq r2
  subst e2
  cases ty with
  | x ty =>
    obtain ⟨W, Z, p, hx⟩ := kit_of I r1 ty
    exact PySem.W.kia_one Z I.kIn p e hx fun tk => ⟨.bl b, H, I.tok tk, rfl, q⟩
  | @fn a ea =>
    have e3 : u1 = Value.ref a := r1
    subst e3
    obtain ⟨⟨o, h1, h2⟩, _⟩ := I.hok a _ ea
    exact PySem.W.kia_one kitx_fn I.kIn ⟨o, h1, h2⟩ e (fun z => by cases z) fun tk => ⟨.bl b, H, I.tok tk, rfl, q⟩
end Lw
namespace Lw
open PySem PySem.Spec PyProof.Rows L2

open LamX
abbrev sIsInt : Stmt := top 4
abbrev sWithin : Stmt := top 5
/-- what the top has told of the module's names -/
structure Txt (mg : Str → Option Value) : Prop extends Txt0 mg where
  n_bool : mg "bool" = none
  n_str : mg "str" = none
  n_isinstance : mg "isinstance" = none
  n_range : mg "range" = none
  n_repr : mg "repr" = none
  n_all : mg "all" = none
/-- any value that a caller may pass here -/
inductive Anyv (K : PySem.W.Frag) (H : Hp) : V → Prop where
  | int (i : Int) : Anyv K H (.int i)
  | non : Anyv K H .non
  | bl (b : Bool) : Anyv K H (.bl b)
  | str (z : Str) : Anyv K H (.str z)
  | obj {a : Addr} {t : Value} (h : TyZ K H (.ref a) t) (h1 : PySem.W.kitOne K t (.type "int") = some false) (h2 : PySem.W.kitOne K t (.type "bool") = some false) (h3 : PySem.W.kitOne K t (.type "str") = some false) : Anyv K H (.ref a)
def isI : V → Bool
  | .int _ => true
  | _ => false
def clsI : V → Bool
  | .int _ => true
  | .bl _ => true
  | _ => false
def clsB : V → Bool
  | .bl _ => true
  | _ => false
def isS : V → Bool
  | .str _ => true
  | _ => false
def inB (x : V) (lo hi : Int) : Bool := match x with
  | .int i => decide (lo ≤ i) && decide (i ≤ hi)
  | _ => false
def spIsInt (K : PySem.W.Frag) : Sp := fun vs H Q _ => ∃ x, vs = [x] ∧ Anyv K H x ∧ Q (.bl (isI x)) H
def spWithin (K : PySem.W.Frag) : Sp := fun vs H Q _ => ∃ x lo hi, vs = [x, .int lo, .int hi] ∧ Anyv K H x ∧ Q (.bl (inB x lo hi)) H
def spSize (K : PySem.W.Frag) : Sp := fun vs H Q _ => ∃ x, vs = [x] ∧ Anyv K H x ∧ Q (.bl (inB x 1 (10 ^ 30))) H
section
variable {P : Program} {w : World} {K : PySem.W.Frag} {mg : Str → Option Value} {base : Heap}
theorem isz_int {H : Hp} {x : V} {Q : V → Hp → Prop} (a : Anyv K H x) (q : Q (.bl (clsI x)) H) : rIsz K [x, .ty "int"] H Q := by
  cases a with
  | int i => exact ⟨_, _, .type "int", .type "int", true, rfl, .ty "int", .x (.base (.int i)), kit_ty (r := true) (by decide +kernel), q⟩
  | non => exact ⟨_, _, .type "NoneType", .type "int", false, rfl, .ty "int", .x (.base .non), kit_ty (r := false) (by decide +kernel), q⟩
  | bl b => exact ⟨_, _, .type "bool", .type "int", true, rfl, .ty "int", .x (.base (.bl b)), kit_ty (r := true) (by decide +kernel), q⟩
  | str z => exact ⟨_, _, .type "str", .type "int", false, rfl, .ty "int", .x (.base (.str z)), kit_ty (r := false) (by decide +kernel), q⟩
  | obj h h1 h2 h3 => exact ⟨_, _, _, .type "int", _, rfl, .ty "int", h, h1, q⟩
theorem isz_bool {H : Hp} {x : V} {Q : V → Hp → Prop} (a : Anyv K H x) (q : Q (.bl (clsB x)) H) : rIsz K [x, .ty "bool"] H Q := by
  cases a with
  | int i => exact ⟨_, _, .type "int", .type "bool", false, rfl, .ty "bool", .x (.base (.int i)), kit_ty (r := false) (by decide +kernel), q⟩
  | non => exact ⟨_, _, .type "NoneType", .type "bool", false, rfl, .ty "bool", .x (.base .non), kit_ty (r := false) (by decide +kernel), q⟩
  | bl b => exact ⟨_, _, .type "bool", .type "bool", true, rfl, .ty "bool", .x (.base (.bl b)), kit_ty (r := true) (by decide +kernel), q⟩
  | str z => exact ⟨_, _, .type "str", .type "bool", false, rfl, .ty "bool", .x (.base (.str z)), kit_ty (r := false) (by decide +kernel), q⟩
  | obj h h1 h2 h3 => exact ⟨_, _, _, .type "bool", _, rfl, .ty "bool", h, h2, q⟩
theorem isz_str {H : Hp} {x : V} {Q : V → Hp → Prop} (a : Anyv K H x) (q : Q (.bl (isS x)) H) : rIsz K [x, .ty "str"] H Q := by
  cases a with
  | int i => exact ⟨_, _, .type "int", .type "str", false, rfl, .ty "str", .x (.base (.int i)), kit_ty (r := false) (by decide +kernel), q⟩
  | non => exact ⟨_, _, .type "NoneType", .type "str", false, rfl, .ty "str", .x (.base .non), kit_ty (r := false) (by decide +kernel), q⟩
  | bl b => exact ⟨_, _, .type "bool", .type "str", false, rfl, .ty "str", .x (.base (.bl b)), kit_ty (r := false) (by decide +kernel), q⟩
  | str z => exact ⟨_, _, .type "str", .type "str", true, rfl, .ty "str", .x (.base (.str z)), kit_ty (r := true) (by decide +kernel), q⟩
  | obj h h1 h2 h3 => exact ⟨_, _, _, .type "str", _, rfl, .ty "str", h, h3, q⟩
theorem scIsInt : FnScope ["value"] ["value"] (C8.fnScope sIsInt) := C8.fnScope_by (by decide +kernel)
theorem fn_isint {f : Addr} {fd : FuncData} (F : C8.Def K mg "is_integer" sIsInt f fd) (T : Txt mg) : FnOk P w K mg base C8.CX0 1 f fd ["value"] (spIsInt K) := by
  refine C8.fn0 F.fn scIsInt (fun vs H Q E h => ?_) (fun cdv A outer st H vs Q E hr h => ?_)
  · obtain ⟨x, rfl, _⟩ := h
    rfl
  · obtain ⟨x, rfl, a, k⟩ := h
    refine ⟨_, (pss_one (ps_ret (pe_and (pe_callB call_isz (by rfl) T.n_isinstance (by decide +kernel) (pa_cons (pv 0) (pa_cons (pe_bltn (v := .ty "int") (by rfl) T.n_int (by decide +kernel) rfl) pa_nil))) (pe_one (pe_not (pe_callB call_isz (by rfl) T.n_isinstance (by decide +kernel) (pa_cons (pv 0) (pa_cons (pe_bltn (v := .ty "bool") (by rfl) T.n_bool (by decide +kernel) rfl) pa_nil)))))))), ?_⟩
    refine ⟨_, rfl, ?_⟩
    dsimp only [tCons, tC, tNil]
    refine isz_int a ⟨_, rfl, ?_⟩
    cases a with
    | int i =>
      refine iteT ⟨_, rfl, ?_⟩
      dsimp only [tCons, tC, tNil]
      exact isz_bool (.int i) ⟨_, rfl, k⟩
    | bl b =>
      refine iteT ⟨_, rfl, ?_⟩
      dsimp only [tCons, tC, tNil]
      exact isz_bool (.bl b) ⟨_, rfl, k⟩
    | non => exact iteF k
    | str z => exact iteF k
    | obj h h1 h2 h3 => exact iteF k
theorem cal_isint {f : Addr} {fd : FuncData} (F : C8.Def K mg "is_integer" sIsInt f fd) (b : Binds K fd ["value"] []) (T : Txt mg) : C8.Cal P w K mg base 1 "is_integer" (spIsInt K) [] :=
  ⟨f, fd, _, [], fn_isint F T, F.mgf, F.kp, b, .nil⟩
theorem scWithin : FnScope ["value", "least", "most"] ["value", "least", "most"] (C8.fnScope sWithin) := C8.fnScope_by (by decide +kernel)
theorem fn_within {f : Addr} {fd : FuncData} (F : C8.Def K mg "is_within" sWithin f fd) (T : Txt mg) (D : C8.Cal P w K mg base 1 "is_integer" (spIsInt K) []) : FnOk P w K mg base C8.CX0 2 f fd ["value", "least", "most"] (spWithin K) := by
  refine C8.fn0 F.fn scWithin (fun vs H Q E h => ?_) (fun cdv A outer st H vs Q E hr h => ?_)
  · obtain ⟨x, lo, hi, rfl, _⟩ := h
    rfl
  · obtain ⟨x, lo, hi, rfl, a, k⟩ := h
    refine ⟨_, (pss_one (ps_ret (pe_and (C8.pe_c D hr (by decide) (by rfl) (pa_cons (pv 0) pa_nil)) (pe_one (pe_chain op_le op_le (pv 1) (pv 0) (pv 2)))))), ?_⟩
    refine ⟨_, rfl, x, rfl, a, _, rfl, ?_⟩
    cases a with
    | int i =>
      refine iteT ⟨_, rfl, _, rfl, _, _, rfl, rfl, _, rfl, ite2 (fun c => ?_) (fun c => ?_)⟩
      · refine ⟨_, rfl, _, _, rfl, rfl, ?_⟩
        rw [show inB (.int i) lo hi = decide (i ≤ hi) by simp [inB, of_decide_eq_true c]] at k
        exact k
      · rw [show inB (.int i) lo hi = false by simp [inB, of_decide_eq_false (Bool.eq_false_iff.mpr c)]] at k
        exact k
    | bl b => exact iteF k
    | non => exact iteF k
    | str z => exact iteF k
    | obj h h1 h2 h3 => exact iteF k
theorem cal_within {f : Addr} {fd : FuncData} (F : C8.Def K mg "is_within" sWithin f fd) (b : Binds K fd ["value", "least", "most"] []) (T : Txt mg) (D : C8.Cal P w K mg base 1 "is_integer" (spIsInt K) []) : C8.Cal P w K mg base 2 "is_within" (spWithin K) [] :=
  ⟨f, fd, _, [], fn_within F T D, F.mgf, F.kp, b, .nil⟩
end
end Lw
namespace Lw
open PySem PySem.Spec PyProof.Rows L2

open LamX
/-- a comprehension over a text, whose tests and element leave the heap as it is -/
theorem lc_text {z : Str} {g : TG} {tt : TT} {te : TE} {vs : List Nat} {σ : L2.St} {H1 : Hp} {D : Addr} {Qd : Hp → Prop} (σc : Nat → L2.St) (flt : Nat → Bool) (f : Nat → V)
    (hg : ∀ c H (R : L2.St → Hp → Prop), R (σc c) H → g (.str ⟨#[c]⟩) (wipe σ vs) H R) (hw : ∀ c, wipe (σc c) vs = wipe σ vs) (ht : ∀ c H (R : Bool → Hp → Prop), R (flt c) H → tt (σc c) H R)
    (he : ∀ c H (R : V → Hp → Prop), flt c = true → R (f c) H → te (σc c) H R) (hz : z.cps.size ≤ 1000000) (hd : Qd (upd H1 D (.lst ((z.cps.toList.filter flt).map f)))) :
    ∃ W : Nat → Nat → Hp → Prop, (∃ m, W 0 m (upd H1 D (.lst []))) ∧ ∀ i m H, W i m H →
      ((Its z).stop i H ∧ Qd H) ∨ ((Its z).go i H ∧ ∃ Nx : Hp → Prop, (∀ H', Nx H' → ∃ m', m' < m ∧ W (i + 1) m' H') ∧ ∀ x H', (Its z).yld i H x H' → g x (wipe σ vs) H' fun σ2 H2 => wipe σ2 vs = wipe σ vs ∧ tt σ2 H2 fun b H3 =>
        if b = true then te σ2 H3 fun y H4 => ∃ acc, H4 D = some (.lst acc) ∧ acc.length < sizeLine ∧ Nx (upd H4 D (.lst (acc ++ [y]))) else Nx H3) := by
  refine lc_it (walk_str (z := z)) (fun i H => H = upd H1 D (.lst (((z.cps.toList.take i).filter flt).map f))) (by simp) (fun _ _ _ _ => trivial) ?_ ?_
  · intro i x H H' hi hP hY
    obtain ⟨rfl, c, hc, rfl⟩ := hY
    have hc' : z.cps.toList[i]? = some c := by rw [Array.getElem?_toList]; exact hc
    have htake : z.cps.toList.take (i + 1) = z.cps.toList.take i ++ [c] := by
      rw [List.take_add_one, hc']; rfl
    refine hg c _ _ ⟨hw c, ht c _ _ ?_⟩
    rw [hP]
    cases hf : flt c with
    | true =>
      refine iteT (he c _ _ hf ⟨_, upd_same, ?_, ?_⟩)
      · have h1 : (((z.cps.toList.take i).filter flt).map f).length ≤ z.cps.toList.length := by
          rw [List.length_map]
          exact Nat.le_trans (List.length_filter_le _ _) (List.length_take_le' _ _)
        rw [Array.length_toList] at h1
        exact Nat.lt_of_le_of_lt (Nat.le_trans h1 hz) (by show 1000000 < sizeLine; decide)
      · rw [upd_upd, htake, List.filter_append, List.map_append]
        simp [hf]
    | false =>
      refine iteF ?_
      rw [htake, List.filter_append, List.map_append]
      simp [hf]
  · rintro H rfl
    have e : z.cps.toList.take z.cps.size = z.cps.toList := List.take_of_length_le (by rw [Array.length_toList]; exact Nat.le_refl _)
    rw [e]
    exact hd
theorem inV_str (z : Str) : ∀ ws : List Str, inV (.str z) (ws.map V.str) = decide (z ∈ ws)
  | [] => rfl
  | x :: r => by
    show (eqV (.str x) (.str z) || inV (.str z) (r.map V.str)) = decide (z ∈ x :: r)
    rw [inV_str z r]
    show ((x == z) || decide (z ∈ r)) = _
    by_cases h : z = x
    · subst h; simp
    · have h2 : ¬ x = z := fun e => h e.symm
      simp [h, h2]
theorem flat_strs (ws : List Str) : (ws.map V.str).all flatV = true := by
  induction ws with
  | nil => rfl
  | cons x r ih => show (true && (r.map V.str).all flatV) = true; rw [ih]; rfl
theorem dp_signs {K : PySem.W.Frag} {H : Hp} : ∀ cs : List Nat, DpAll K H (cs.map fun c => V.str ⟨#[c]⟩) (cs.map fun c => PyData.str ⟨#[c]⟩)
  | [] => .nil
  | c :: r => .cons (.str _) (dp_signs r)
theorem lay_signs : ∀ cs : List Nat, (∀ c ∈ cs, c < 1114112) → PyData.canLayAll0 (cs.map fun c => PyData.str ⟨#[c]⟩) = true
  | [], _ => rfl
  | c :: r, h => by
    have h1 : PyData.canLay0 (.str ⟨#[c]⟩) = true := by
      show (#[c] : Array Nat).all (· < 1114112) = true
      simp [h c List.mem_cons_self]
    show (PyData.canLay0 (.str ⟨#[c]⟩) && PyData.canLayAll0 (r.map fun c => PyData.str ⟨#[c]⟩)) = true
    rw [h1, lay_signs r fun d hd => h d (List.mem_cons_of_mem _ hd)]; rfl
theorem depth_signs : ∀ cs : List Nat, PyData.depthAll (cs.map fun c => PyData.str ⟨#[c]⟩) = 0
  | [] => rfl
  | c :: r => by
    show max 0 (PyData.depthAll (r.map fun c => PyData.str ⟨#[c]⟩)) = 0
    rw [depth_signs r]; rfl
theorem shaped_signs (cs : List Nat) (h : ∀ c ∈ cs, c < 1114112) : SeqAt.shaped (.list (cs.map fun c => PyData.str ⟨#[c]⟩)) = true := by
  unfold SeqAt.shaped
  have h1 : PyData.canLay0 (.list (cs.map fun c => PyData.str ⟨#[c]⟩)) = true := lay_signs cs h
  have h2 : PyData.depth (.list (cs.map fun c => PyData.str ⟨#[c]⟩)) = 1 := by
    show PyData.depthAll (cs.map fun c => PyData.str ⟨#[c]⟩) + 1 = 1
    rw [depth_signs]
  rw [h1, h2]; rfl
theorem eqv_signs (cs : List Nat) : PyData.eqv (.list (cs.map fun c => PyData.str ⟨#[c]⟩)) (.list []) = cs.isEmpty := by
  cases cs <;> rfl
theorem filt_nil (p : Nat → Bool) : ∀ l : List Nat, (l.filter fun c => !p c).isEmpty = l.all p
  | [] => rfl
  | c :: r => by
    have ih := filt_nil p r
    cases h : p c with
    | true => simp only [List.filter_cons, h, Bool.not_true, List.all_cons, Bool.true_and]; exact ih
    | false => simp [h]
end Lw
namespace Lw
open PySem PySem.Spec PyProof.Rows L2

open SX PySem.NumText
/-! ### texts as lists of signs -/
def figs : List Nat → List Nat
  | 45 :: r => r
  | cs => cs
theorem figs_minus (r : List Nat) : figs (45 :: r) = r := rfl
theorem figs_other {c : Nat} (r : List Nat) (h : c ≠ 45) : figs (c :: r) = c :: r := by
  unfold figs
  split
  · rename_i e
    exact absurd (List.cons.inj e).1 h
  · rfl
theorem len1 : Str.length (S [45]) = 1 := rfl
theorem sub_head (c d : Nat) (r : List Nat) : Builtin.Str.subAt (S (c :: r)) (S [d]) 0 = decide (c = d) := by
  unfold Builtin.Str.subAt
  show ((c :: r).toArray.extract 0 (0 + 1) == #[d]) = _
  simp
  by_cases h : c = d <;> simp [h]
theorem rm_minus (cs : List Nat) : Txt.removeprefix (S cs) (S [45]) = S (figs cs) := by
  unfold Txt.removeprefix
  cases cs with
  | nil => rfl
  | cons c r =>
    rw [sub_head]
    by_cases h : c = 45
    · subst h
      rw [figs_minus]
      simp only [decide_true, if_true]
      show (if (((45 :: r).toArray.size - 1) == (45 :: r).toArray.size) = true then S (45 :: r) else Builtin.Str.strSub (S (45 :: r)) 1 ((45 :: r).toArray.size)) = S r
      have e : ((45 :: r).toArray.size - 1 == (45 :: r).toArray.size) = false := by simp
      rw [e]
      simp [Builtin.Str.strSub, S]
    · rw [figs_other r h]
      simp only [decide_eq_false h, Bool.false_eq_true, if_false]
      rfl
theorem sw_head (c d : Nat) (r : List Nat) : Txt.startswith (S (c :: r)) (S [d]) = decide (c = d) := by
  unfold Txt.startswith
  rw [sub_head]
  have e : decide (0 + (S [d]).length ≤ (S (c :: r)).length) = true := decide_eq_true (by rw [S_len, S_len]; simp)
  rw [e, Bool.true_and]
theorem sw_nil (d : Nat) : Txt.startswith (S []) (S [d]) = false := by
  unfold Txt.startswith
  have e : decide (0 + (S [d]).length ≤ (S []).length) = false := decide_eq_false (by rw [S_len, S_len]; simp)
  rw [e, Bool.false_and]
theorem ascii_S {cs : List Nat} (h : ∀ c ∈ cs, c < 128) : Txt.isascii (S cs) = true := by
  unfold Txt.isascii
  show cs.toArray.all (· < 128) = true
  simp only [List.all_toArray, List.all_eq_true, decide_eq_true_eq]
  exact h
theorem dig128 : ∀ c, c < 128 → Unicode.isDigit c = (decide (48 ≤ c) && decide (c ≤ 57)) := by decide +kernel
/-- all are figures, and there is one -/
def digB (cs : List Nat) : Bool := !cs.isEmpty && cs.all fun c => decide (48 ≤ c) && decide (c ≤ 57)
theorem isdigit_S {cs : List Nat} (h : ∀ c ∈ cs, c < 128) : Txt.isdigit (S cs) = digB cs := by
  unfold Txt.isdigit digB
  have e1 : decide ((S cs).length > 0) = !cs.isEmpty := by
    rw [S_len]
    cases cs <;> simp
  have e2 : (S cs).cps.all Unicode.isDigit = cs.all fun c => decide (48 ≤ c) && decide (c ≤ 57) := by
    show cs.toArray.all Unicode.isDigit = _
    rw [List.all_toArray]
    induction cs with
    | nil => rfl
    | cons c r ih =>
      rw [List.all_cons, List.all_cons, dig128 c (h c List.mem_cons_self), ih (fun d hd => h d (List.mem_cons_of_mem _ hd)) (by rw [S_len]; cases r <;> simp)]
  rw [e1, e2]
theorem digB_all {cs : List Nat} (h : digB cs = true) : AllDigits cs ∧ cs ≠ [] := by
  unfold digB at h
  rw [Bool.and_eq_true] at h
  refine ⟨fun c hc => ?_, fun e => by rw [e] at h; exact absurd h.1 (by decide)⟩
  have := List.all_eq_true.mp h.2 c hc
  rw [Bool.and_eq_true, decide_eq_true_eq, decide_eq_true_eq] at this
  exact this
theorem figs_sub {cs : List Nat} {c : Nat} (h : c ∈ figs cs) : c ∈ cs := by
  unfold figs at h
  split at h
  · exact List.mem_cons_of_mem _ h
  · exact h
theorem figs_len (cs : List Nat) : (figs cs).length ≤ cs.length := by
  unfold figs
  split
  · simp
  · exact Nat.le_refl _
/-! ### what figures are worth -/
theorem fold_app (a b : List Nat) (x : Nat) : (a ++ b).foldl (fun acc c => acc * 10 + (c - 48)) x = b.foldl (fun acc c => acc * 10 + (c - 48)) (a.foldl (fun acc c => acc * 10 + (c - 48)) x) := List.foldl_append
theorem fold_from : ∀ (b : List Nat) (x : Nat), b.foldl (fun acc c => acc * 10 + (c - 48)) x = x * 10 ^ b.length + digitsVal b
  | [], x => by simp [digitsVal]
  | c :: r, x => by
    show r.foldl _ (x * 10 + (c - 48)) = x * 10 ^ (r.length + 1) + r.foldl _ (0 * 10 + (c - 48))
    rw [fold_from r, fold_from r (0 * 10 + (c - 48)), Nat.pow_succ, Nat.zero_mul, Nat.zero_add, Nat.add_mul, Nat.mul_assoc, Nat.mul_comm 10 (10 ^ r.length), Nat.add_assoc]
theorem val_app (a b : List Nat) : digitsVal (a ++ b) = digitsVal a * 10 ^ b.length + digitsVal b := by
  show (a ++ b).foldl _ 0 = _
  rw [fold_app, fold_from b]; rfl
theorem val_zeros : ∀ k : Nat, digitsVal (List.replicate k 48) = 0
  | 0 => rfl
  | k + 1 => val_zeros k
theorem val_lt : ∀ cs : List Nat, AllDigits cs → digitsVal cs < 10 ^ cs.length
  | [], _ => by decide
  | c :: r, h => by
    have h1 := h c List.mem_cons_self
    have ih := val_lt r fun d hd => h d (List.mem_cons_of_mem _ hd)
    have e : digitsVal (c :: r) = (c - 48) * 10 ^ r.length + digitsVal r := by
      rw [show c :: r = [c] ++ r from rfl, val_app]
      show (0 * 10 + (c - 48)) * _ + _ = _
      rw [Nat.zero_mul, Nat.zero_add]
    rw [e, List.length_cons, Nat.pow_succ]
    have h2 : (c - 48) * 10 ^ r.length ≤ 9 * 10 ^ r.length := Nat.mul_le_mul_right _ (by omega)
    omega
theorem ten_two (n : Nat) : 10 ^ n ≤ 2 ^ (4 * n) := by
  rw [Nat.pow_mul]
  exact Nat.pow_le_pow_left (by decide) n
theorem all_zeros (k : Nat) : AllDigits (List.replicate k 48) := fun c hc => by
  rw [List.eq_of_mem_replicate hc]
  decide
theorem AllDigits.app {a b : List Nat} (ha : AllDigits a) (hb : AllDigits b) : AllDigits (a ++ b) := fun c hc => (List.mem_append.mp hc).elim (ha c) (hb c)
/-- the integer that a text writes just as str does -/
def intOf (cs : List Nat) : Option Int :=
  if digB (figs cs) = true then
    if (figs cs).head? = some 48 ∧ cs ≠ [48] then none
    else if cs.head? = some 45 then some (-((digitsVal (figs cs) : Nat) : Int)) else some ((digitsVal (figs cs) : Nat) : Int)
  else none
def optV : Option Int → V
  | none => .non
  | some i => .int i
end Lw
namespace Lw
open PySem PySem.Spec PyProof.Rows L2

open SX PySem.NumText
abbrev sIntOf : Stmt := top 18
theorem rep_list (z : Array Nat) : ∀ n : Nat, ∀ acc : Array Nat, ((List.replicate n z).foldl (· ++ ·) acc).toList = acc.toList ++ (List.replicate n z.toList).flatten
  | 0, acc => by simp
  | n + 1, acc => by
    rw [List.replicate_succ, List.foldl_cons, rep_list z n, List.replicate_succ, List.flatten_cons, Array.toList_append, List.append_assoc]
/-- a text, so many times -/
theorem op_mulS {X : Cx} : OpR X (binaryOp .Mult) (fun x y H Q => ∃ (cs : List Nat) (n : Int), x = .str (S cs) ∧ y = .int n ∧ 0 ≤ n ∧ n ≤ 10000 ∧ cs.length ≤ 1000 ∧ Q (.str (S (List.replicate n.toNat cs).flatten)) H) := by
  intro pins s σ H x y v u Q I rx ry h
  obtain ⟨cs, n, rfl, rfl, h0, h1, h2, q⟩ := h
  obtain ⟨t, rfl⟩ := rx
  obtain ⟨t2, rfl⟩ := ry
  refine PySem.P.mul_str ?_ ?_ ?_ ?_
  · rw [decide_eq_false (show ¬ n < -(2 ^ 63 : Int) by omega), decide_eq_false (show ¬ n ≥ 2 ^ 63 by omega)]; rfl
  · intro hn _ hz
    rw [S_len] at hz
    have : (9223372036854775807 : Int) / n ≥ 922337203685477 := by
      rw [ge_iff_le, Int.le_ediv_iff_mul_le (by omega)]
      omega
    have e : ((2 : Int) ^ 63 - 1) = 9223372036854775807 := by decide
    rw [e] at hz
    omega
  · intro hn _
    rw [S_len]
    have : cs.length * n.toNat ≤ 1000 * 10000 := Nat.mul_le_mul h2 (by omega)
    refine decide_eq_false ?_
    exact Nat.not_lt.mpr (Nat.le_trans this (by rw [sizeLine_eq]; decide))
  · by_cases hn : n < 1
    · rw [if_pos hn]
      have e : n.toNat = 0 := by omega
      rw [e] at q
      exact ⟨by decide, ⟨.str (S []), H, I.tok _, ⟨_, rfl⟩, q⟩⟩
    · rw [if_neg hn]
      by_cases hc : (n == 1 || (S cs).length == 0) = true
      · rw [if_pos hc]
        have e : (List.replicate n.toNat cs).flatten = cs := by
          rw [Bool.or_eq_true, beq_iff_eq, beq_iff_eq, S_len] at hc
          rcases hc with e | e
          · subst e; simp
          · rw [List.length_eq_zero_iff.mp e]; simp
        rw [e] at q
        exact ⟨.str (S cs), H, I, ⟨t, rfl⟩, q⟩
      · rw [if_neg hc]
        have e : (⟨(List.replicate n.toNat (S cs).cps).foldl (· ++ ·) #[]⟩ : Str) = S (List.replicate n.toNat cs).flatten := by
          refine congrArg Str.mk ?_
          refine Array.toList_inj.mp ?_
          rw [rep_list]; simp [S]
        rw [e]
        refine ⟨?_, ⟨.str _, H, I.tok _, ⟨_, rfl⟩, q⟩⟩
        rw [S_len, List.length_flatten, List.map_replicate, List.sum_replicate_nat]
        exact Nat.le_trans (Nat.mul_le_mul (show n.toNat ≤ 10000 by omega) h2) (by rw [sizeLine_eq]; decide)
theorem join_ifS {c : TT} {t u : TS} {D : Ends} {σ : L2.St} {H : Hp} (Pj : L2.St → Hp → Prop) (hr : ∀ σ' H', Pj σ' H' → D.nx σ' H') (h : (∀ σ' H', Pj σ' H' → D.nx σ' H') → tIfS c t u D σ H) : tIfS c t u D σ H := h hr
theorem nxt {t u : TS} {D D' : Ends} {σ : L2.St} {H : Hp} (e : D'.nx = tSeq t u D) (h : t { D with nx := u D } σ H) : tNext D' σ H := by
  show D'.nx σ H
  rw [e]; exact h
theorem slice_mid {a : List Nat} {i j : Int} (h0 : 0 ≤ i) (h1 : i ≤ j) (h2 : j ≤ (a.length : Int)) : Txt.slice (S a) (some i) (some j) = S ((a.drop i.toNat).take (j - i).toNat) :=
  beq_iff_eq.mp (PyProof.Rows.slice_closesL (x := S a) h0 h1 (by rw [S_len]; exact h2))
theorem rg60 (m : Nat) (hm : m ≤ 1000) : RgC 0 ((60 * m : Nat) : Int) 60 m := by
  refine ⟨by decide, by decide, ?_, ?_⟩
  · have key : ∀ x : Int, 0 ≤ x → x ≤ 100000 → Builtin.Range.rangeFitsLong x = true := fun x h0 h1 => by
      unfold Builtin.Range.rangeFitsLong
      rw [decide_eq_true (show -(2 ^ 63) ≤ x by omega), decide_eq_true (show x < 2 ^ 63 by omega)]; rfl
    have size : Builtin.Range.rangeSize 0 ((60 * m : Nat) : Int) 60 = (m : Int) := by
      unfold Builtin.Range.rangeSize
      rw [if_pos (show (60 : Int) > 0 by decide)]
      split <;> omega
    unfold Builtin.Range.small
    rw [size, if_pos (show (60 : Int) > 0 by decide), key 0 (by omega) (by omega), key _ (by omega) (by omega), key 60 (by omega) (by omega), key _ (by omega) (by omega), key _ (by omega) (by omega)]
    simp
  · unfold Builtin.Range.rangeSize
    rw [if_pos (show (60 : Int) > 0 by decide)]
    split <;> omega
structure TxtN (mg : Str → Option Value) : Prop extends Txt mg where
  c_PF : ∃ t, mg "PIECE_FIGURES" = some (.int 60 t)
  c_PW : ∃ t, mg "PIECE_WORTH" = some (.int (10 ^ 60) t)
def TextOk (x : V) : Prop := ∀ z, x = .str z → ∃ cs, z = S cs ∧ (∀ c ∈ cs, c < 128) ∧ cs.length ≤ 5000
def intV : V → Option Int
  | .str z => intOf z.cps.toList
  | _ => none
def spIntOf (K : PySem.W.Frag) : Sp := fun vs H Q _ => ∃ x, vs = [x] ∧ Anyv K H x ∧ TextOk x ∧ Q (optV (intV x)) H
section
variable {P : Program} {w : World} {K : PySem.W.Frag} {mg : Str → Option Value} {base : Heap}
theorem scIntOf : FnScope ["word", "figures", "filled", "worth", "at"] ["word"] (C8.fnScope sIntOf) := C8.fnScope_by (by decide +kernel)
theorem cal_intof {f : Addr} {fd : FuncData} (F : C8.Def K mg "integer_of" sIntOf f fd) (b : Binds K fd ["word"] []) (T : TxtN mg) : C8.Cal P w K mg base 1 "integer_of" (spIntOf K) [] := by
  refine C8.cal0 F b .nil scIntOf (fun vs H Q E h => ?_) (fun cdv A outer st H vs Q E hr h => ?_)
  · obtain ⟨x, rfl, _⟩ := h
    rfl
  · obtain ⟨x, rfl, a, ok, k⟩ := h
    obtain ⟨t1, hPF⟩ := T.c_PF
    obtain ⟨t2, hPW⟩ := T.c_PW
    refine ⟨_, (pss_cons (ps_if (pt_not (pt_val (pe_callB call_isz (by rfl) T.n_isinstance (by decide +kernel) (pa_cons (pv 0) (pa_cons (pe_bltn (v := .ty "str") (by rfl) T.n_str (by decide +kernel) rfl) pa_nil))))) (pss_one (ps_ret pe_non)) pss_nil)
  (pss_cons (ps_set (i := 1) scIntOf.nd rfl (Or.inl rfl) (pe_m1 PySem.F.slot_str_removeprefix PySem.F.type_str_removeprefix mt_removeprefix (pv 0) pe_str))
  (pss_cons (ps_if (PW.pt (pw_or (pt_not (pt_val (pe_m0 PySem.F.slot_str_isascii PySem.F.type_str_isascii mt_isascii (pv 1)))) (pw_or1 (pt_not (pt_val (pe_m0 PySem.F.slot_str_isdigit PySem.F.type_str_isdigit mt_isdigit (pv 1))))))) (pss_one (ps_ret pe_non)) pss_nil)
  (pss_cons (ps_if (PW.pt (pw_and (pt_val (pe_m1 PySem.F.slot_str_startswith PySem.F.type_str_startswith mt_startswith (pv 1) pe_str)) (pw_and1 (pt_cmpR op_ne (pv 0) pe_str (nomark _))))) (pss_one (ps_ret pe_non)) pss_nil)
  (pss_cons (ps_set (i := 2) scIntOf.nd rfl (Or.inl rfl) (pe_op op_add_str (pe_op op_mulS pe_str (pe_op op_modN (pe_un un_neg (pe_callB call_len_str (by rfl) T.n_len (by decide +kernel) (pa_cons (pv 1) pa_nil))) (pe_glob (v := .int 60) rfl hPF ⟨_, rfl⟩))) (pv 1)))
  (pss_cons (ps_set (i := 3) scIntOf.nd rfl (Or.inl rfl) pe_int)
  (pss_cons (ps_for PassesOwn.never rfl (pi_range3 (by rfl) T.n_range (pa_cons pe_int (pa_cons (pe_callB call_len_str (by rfl) T.n_len (by decide +kernel) (pa_cons (pv 2) pa_nil)) (pa_cons (pe_glob (v := .int 60) rfl hPF ⟨_, rfl⟩) pa_nil)))) (pg_name (i := 4) scIntOf.nd rfl (Or.inl rfl)) (pss_one (ps_set (i := 3) scIntOf.nd rfl (Or.inl rfl) (pe_op op_add (pe_op op_mulW (pv 3) (pe_glob (v := .int (10 ^ 60)) rfl hPW ⟨_, rfl⟩)) (pe_callTy call_int_str (by rfl) T.n_int (by decide +kernel) (pa_cons (pe_slice C8.sl_txt (pv 2) (po_some (pv 4)) (po_some (pe_op op_add (pv 4) (pe_glob (v := .int 60) rfl hPF ⟨_, rfl⟩)))) pa_nil))))))
  (pss_one (ps_ret (pe_ifExp (pt_val (pe_m1 PySem.F.slot_str_startswith PySem.F.type_str_startswith mt_startswith (pv 0) pe_str)) (pe_un un_neg (pv 3)) (pv 3))))))))))), ?_⟩
    refine ⟨_, rfl, ?_⟩
    dsimp only [tCons, tC, tNil]
    refine isz_str a ⟨_, rfl, ?_⟩
    cases a with
    | str z =>
      obtain ⟨cs, rfl, h128, hlen⟩ := ok z rfl
      refine iteF ?_
      have hl : (S cs).length ≤ sizeLine := by rw [S_len]; exact Nat.le_trans hlen (by decide)
      have f128 : ∀ c ∈ figs cs, c < 128 := fun c hc => h128 c (figs_sub hc)
      have flen : (figs cs).length ≤ 5000 := Nat.le_trans (figs_len cs) hlen
      refine ⟨_, rfl, ⟨_, rfl⟩, _, _, rfl, rfl, hl, ?_⟩
      rw [show (Str.ofString "-") = S [45] from rfl, rm_minus]
      refine ⟨_, rfl, ⟨_, rfl⟩, _, rfl, rfl, trivial, _, rfl, ?_⟩
      rw [ascii_S f128]
      refine iteF ⟨_, rfl, ⟨_, rfl⟩, _, rfl, rfl, trivial, _, rfl, ?_⟩
      rw [isdigit_S f128]
      have kk : ∀ o : Option Int, o = intOf cs → Q (optV o) H := fun o e => by rw [e]; exact k
      cases hd : digB (figs cs) with
      | false =>
        refine iteT (kk none ?_)
        unfold intOf
        rw [hd]; rfl
      | true =>
        refine iteF ?_
        obtain ⟨hall, hne⟩ := digB_all hd
        obtain ⟨f, fr, hfig⟩ : ∃ f fr, figs cs = f :: fr := by
          cases e : figs cs with
          | nil => exact absurd e hne
          | cons f fr => exact ⟨f, fr, rfl⟩
        have bad : ¬ ((figs cs).head? = some 48 ∧ cs ≠ [48]) → ∀ o : Option Int, (o = if cs.head? = some 45 then some (-((digitsVal (figs cs) : Nat) : Int)) else some ((digitsVal (figs cs) : Nat) : Int)) → Q (optV o) H := fun hb o e => by
          refine kk o ?_
          unfold intOf
          rw [if_pos hd, if_neg hb]; exact e
        have s0 : Str.ofString "0" = S [48] := rfl
        dsimp only [tNext, tSeq]
        refine join_ifS (fun σ' H' => σ' = [some (.str (S cs)), some (.str (S (figs cs))), none, none, none] ∧ H' = H ∧ ¬ ((figs cs).head? = some 48 ∧ cs ≠ [48])) ?rest (fun go => ?_)
        case rest =>
          rintro σ' H' ⟨rfl, rfl, hb⟩
          have fl : ((S (figs cs)).length : Int) = ((figs cs).length : Int) := by rw [S_len]
          obtain ⟨pad, hpad⟩ : ∃ pad : Nat, Int.fmod (-((S (figs cs)).length : Int)) 60 = (pad : Int) := ⟨(Int.fmod (-((S (figs cs)).length : Int)) 60).toNat, by have := fm0 (a := -((S (figs cs)).length : Int)) (d := 60) (by decide); omega⟩
          have hpad' : (-((figs cs).length : Int)) % 60 = (pad : Int) := by rw [← fl, ← hpad, Int.fmod_eq_emod_of_nonneg _ (by decide)]
          obtain ⟨m, hm⟩ : ∃ m : Nat, pad + (figs cs).length = 60 * m := ⟨(pad + (figs cs).length) / 60, by omega⟩
          have hfl : (S (figs cs)).length ≤ sizeLine := by rw [S_len]; exact Nat.le_trans flen (by decide)
          refine ⟨_, rfl, _, rfl, hfl, _, rfl, _, _, rfl, rfl, (by show ¬ (_ = _); decide), [48], _, s0 ▸ rfl, rfl, ?_⟩
          rw [hpad]
          have pl : pad < 60 := by omega
          have ez : (List.replicate ((pad : Int).toNat) [48]).flatten = List.replicate pad 48 := by
            rw [Int.toNat_natCast]
            induction pad with
            | zero => rfl
            | succ p ih => rw [List.replicate_succ, List.flatten_cons, List.replicate_succ]; simp
          rw [ez]
          obtain ⟨fill, hfill⟩ : ∃ fill, fill = List.replicate pad 48 ++ figs cs := ⟨_, rfl⟩
          have flenF : fill.length = 60 * m := by rw [hfill, List.length_append, List.length_replicate]; exact hm
          have allF : AllDigits fill := by rw [hfill]; exact AllDigits.app (all_zeros pad) hall
          have valF : digitsVal fill = digitsVal (figs cs) := by rw [hfill, val_app, val_zeros, Nat.zero_mul, Nat.zero_add]
          have hm60 : m ≤ 90 := by omega
          have lF : (S fill).length ≤ sizeLine := by rw [S_len, flenF]; exact Nat.le_trans (show 60 * m ≤ 5400 by omega) (by decide)
          refine ⟨by omega, by omega, by decide, _, rfl, _, _, rfl, rfl, ?_, ?_⟩
          · rw [S_len, S_len, List.length_replicate]; exact Nat.le_trans (show pad + (figs cs).length ≤ 5400 by omega) (by decide)
          rw [S_cat, ← hfill]
          refine ⟨_, rfl, _, rfl, lF, 0, _, 60, m, rfl, ?_, for_rangeC (fun i σ' H2 => ∃ at_, σ' = [some (V.str (S cs)), some (V.str (S (figs cs))), some (V.str (S fill)), some (V.int ((digitsVal (fill.take (60 * i)) : Nat) : Int)), at_] ∧ H2 = H') ⟨none, rfl, rfl⟩ ?_ ?_⟩
          · rw [show ((S fill).length : Int) = ((60 * m : Nat) : Int) by rw [S_len, flenF]]
            exact rg60 m (by omega)
          · rintro i σ' H2 hi ⟨at_, rfl, rfl⟩
            have h60 : 60 * i + 60 ≤ 60 * m := by omega
            have sl : Txt.slice (S fill) (some (0 + ((i : Nat) : Int) * 60)) (some (0 + ((i : Nat) : Int) * 60 + 60)) = S ((fill.drop (60 * i)).take 60) := by
              rw [slice_mid (by omega) (by omega) (by rw [flenF]; omega)]
              rw [show (0 + ((i : Nat) : Int) * 60).toNat = 60 * i by omega, show (0 + ((i : Nat) : Int) * 60 + 60 - (0 + ((i : Nat) : Int) * 60)).toNat = 60 by omega]
            have cl : ((fill.drop (60 * i)).take 60).length = 60 := by rw [List.length_take, List.length_drop, flenF]; omega
            have cd : AllDigits ((fill.drop (60 * i)).take 60) := fun c hc => allF c (List.mem_of_mem_drop (List.mem_of_mem_take hc))
            have tk : fill.take (60 * (i + 1)) = fill.take (60 * i) ++ (fill.drop (60 * i)).take 60 := by rw [Nat.mul_succ, List.take_add]
            have td : AllDigits (fill.take (60 * i)) := fun c hc => allF c (List.mem_of_mem_take hc)
            have tl : (fill.take (60 * i)).length = 60 * i := by rw [List.length_take, flenF]; omega
            have big : (((digitsVal (fill.take (60 * i)) : Nat) : Int)).natAbs < 2 ^ (4 * (60 * i) + 1) := by
              have h1 := val_lt _ td
              rw [tl] at h1
              have h2 := ten_two (60 * i)
              have h3 : (2 : Nat) ^ (4 * (60 * i)) < 2 ^ (4 * (60 * i) + 1) := Nat.pow_lt_pow_right (by decide) (by omega)
              rw [Int.natAbs_natCast]
              omega
            refine ⟨_, rfl, _, _, rfl, rfl, wide_mul big (show ((10 : Int) ^ 60).natAbs < 2 ^ 240 by decide) (by omega) (by decide) (by omega), ?_⟩
            have hint : intText? (Txt.slice (S fill) (some (0 + ((i : Nat) : Int) * 60)) (some (0 + ((i : Nat) : Int) * 60 + 60))) = some ((digitsVal ((fill.drop (60 * i)).take 60) : Nat) : Int) := by
              rw [sl]
              exact intText_digits (x := S ((fill.drop (60 * i)).take 60)) cd (fun e => by rw [show (fill.drop (60 * i)).take 60 = [] from e] at cl; exact absurd cl (by decide)) (by rw [S_len, cl]; decide)
            have hsl : (Txt.slice (S fill) (some (0 + ((i : Nat) : Int) * 60)) (some (0 + ((i : Nat) : Int) * 60 + 60))).length ≤ 640 := by rw [sl, S_len, cl]; decide
            have val : ((digitsVal (fill.take (60 * i)) : Nat) : Int) * 10 ^ 60 + ((digitsVal ((fill.drop (60 * i)).take 60) : Nat) : Int) = ((digitsVal (fill.take (60 * (i + 1))) : Nat) : Int) := by
              rw [tk, val_app, cl]
              rw [Int.natCast_add, Int.natCast_mul, Int.natCast_pow]; rfl
            refine ⟨_, rfl, ⟨_, rfl, _, rfl, ⟨_, rfl, _, _, rfl, rfl, _, rfl, _, rfl, lF, _, _, rfl, hint, hsl, _, _, rfl, rfl, some (V.int (0 + ((i : Nat) : Int) * 60)), ?_, rfl⟩⟩⟩
            rw [← val]; rfl
          · rintro σ' H2 ⟨at_, rfl, rfl⟩
            have full : fill.take (60 * m) = fill := List.take_of_length_le (by omega)
            rw [full, valF]
            refine ⟨_, rfl, ⟨_, rfl⟩, _, _, rfl, rfl, _, rfl, ?_⟩
            obtain ⟨c, r, hcs⟩ : ∃ c r, cs = c :: r := by
              cases e : cs with
              | nil => rw [e] at hfig; cases hfig
              | cons c r => exact ⟨c, r, rfl⟩
            have esw : Txt.startswith (S cs) (S [45]) = decide (c = 45) := by rw [hcs]; exact sw_head c 45 r
            rw [esw]
            refine ite2 (fun c2 => ?_) (fun c2 => ?_)
            · have e2 : c = 45 := of_decide_eq_true c2
              refine ⟨_, rfl, _, rfl, bad hb (some (-((digitsVal (figs cs) : Nat) : Int))) ?_⟩
              rw [if_pos (show cs.head? = some 45 by rw [hcs, e2]; rfl)]
            · have e2 : c ≠ 45 := of_decide_eq_false (Bool.eq_false_iff.mpr c2)
              refine ⟨_, rfl, bad hb (some ((digitsVal (figs cs) : Nat) : Int)) ?_⟩
              rw [if_neg (show ¬ cs.head? = some 45 by rw [hcs]; exact fun z => e2 (Option.some.inj z))]
        refine ⟨_, rfl, ⟨_, rfl⟩, _, _, rfl, rfl, _, rfl, ?_⟩
        rw [hfig, s0, sw_head]
        refine ite2 (fun c0 => ?_) (fun c0 => ?_)
        · refine ⟨_, rfl, rfl, _, rfl, ite2 (fun c1 => ?_) (fun c1 => ?_)⟩
          · refine kk none ?_
            unfold intOf
            rw [if_pos hd, if_pos]
            refine ⟨by rw [hfig, of_decide_eq_true c0]; rfl, fun e => ?_⟩
            rw [e] at c1
            exact absurd c1 (by decide)
          · refine go _ _ ⟨by rw [hfig]; rfl, rfl, fun hb => hb.2 ?_⟩
            have e : V.str (S cs) = V.str (S [48]) := by simpa using c1
            exact S_inj (V.str.inj e)
        · refine iteF (go _ _ ⟨by rw [hfig]; rfl, rfl, fun hb => ?_⟩)
          rw [hfig] at hb
          have e : f = 48 := Option.some.inj hb.1
          exact c0 (decide_eq_true e)
    | int i => exact iteT k
    | bl b => exact iteT k
    | non => exact iteT k
    | obj h h1 h2 h3 => exact iteT k
end
end Lw
namespace Lw
open PySem PySem.Spec PyProof.Rows L2
open SX PySem.NumText TL
abbrev sNumOf : Stmt := top 19
theorem dig_back : ∀ cs : List Nat, AllDigits cs → (cs.map Char.ofNat).map Char.toNat = cs
  | [], _ => rfl
  | c :: r, h => by
    have h1 := h c List.mem_cons_self
    have e : (Char.ofNat c).toNat = c := by
      have k : ∀ d : Nat, d < 58 → (Char.ofNat d).toNat = d := by decide
      exact k c (by omega)
    rw [List.map_cons, List.map_cons, e, dig_back r fun d hd => h d (List.mem_cons_of_mem _ hd)]
theorem num_back {c : Nat} {r : List Nat} (h : AllDigits (c :: r)) (hc : 49 ≤ c ∨ r = []) : numL (digitsVal (c :: r)) = c :: r := by
  unfold numL
  rw [toDigits_digitsVal r.length (c :: r) rfl h (hc.elim (fun h => .inr ⟨c, r, rfl, h⟩) fun e => .inl (by rw [e]; rfl)), dig_back _ h]
theorem num_head : ∀ n : Nat, 0 < n → ∃ c r, numL n = c :: r ∧ 49 ≤ c := by
  intro n
  induction n using Nat.strongRecOn with
  | _ n ih =>
    intro h0
    by_cases h : n < 10
    · exact ⟨48 + n, [], numL_lt h, by omega⟩
    · obtain ⟨c, r, e, hc⟩ := ih (n / 10) (by omega) (by omega)
      exact ⟨c, r ++ [48 + n % 10], by rw [numL_step (by omega), e]; rfl, hc⟩
def numV (x : V) (lo hi : Int) : Option Int := match intV x with
  | some i => if lo ≤ i ∧ i ≤ hi then some i else none
  | none => none
theorem join_any {t : TS} {D : Ends} {σ : L2.St} {H : Hp} (Pj : L2.St → Hp → Prop) (hr : ∀ σ' H', Pj σ' H' → D.nx σ' H') (h : (∀ σ' H', Pj σ' H' → D.nx σ' H') → t D σ H) : t D σ H := h hr
def spNumOf (K : PySem.W.Frag) : Sp := fun vs H Q _ => ∃ x lo hi, vs = [x, .int lo, .int hi] ∧ Anyv K H x ∧ TextOk x ∧ Q (optV (numV x lo hi)) H
section
variable {P : Program} {w : World} {K : PySem.W.Frag} {mg : Str → Option Value} {base : Heap}
theorem scNumOf : FnScope ["word", "least", "most", "value"] ["word", "least", "most"] (C8.fnScope sNumOf) := C8.fnScope_by (by decide +kernel)
theorem fn_numof {f : Addr} {fd : FuncData} (F : C8.Def K mg "number_of" sNumOf f fd) (DI : C8.Cal P w K mg base 1 "integer_of" (spIntOf K) []) (DW : C8.Cal P w K mg base 2 "is_within" (spWithin K) []) :
    FnOk P w K mg base C8.CX0 3 f fd ["word", "least", "most"] (spNumOf K) := by
  refine C8.fn0 F.fn scNumOf (fun vs H Q E h => ?_) (fun cdv A outer st H vs Q E hr h => ?_)
  · obtain ⟨x, lo, hi, rfl, _⟩ := h
    rfl
  · obtain ⟨x, lo, hi, rfl, a, ok, k⟩ := h
    refine ⟨_, (pss_cons (ps_set (i := 3) scNumOf.nd rfl (Or.inl rfl) (C8.pe_c DI hr (by decide) (by rfl) (pa_cons (pv 0) pa_nil)))
  (pss_one (ps_ret (pe_ifExp (pt_val (C8.pe_c DW hr (by decide) (by rfl) (pa_cons (pv 3) (pa_cons (pv 1) (pa_cons (pv 2) pa_nil))))) (pv 3) pe_non)))), ?_⟩
    refine ⟨_, rfl, x, rfl, a, ok, ?_⟩
    have av : Anyv K H (optV (intV x)) := by cases intV x with | none => exact .non | some i => exact .int i
    refine ⟨_, rfl, _, rfl, _, rfl, _, _, _, rfl, av, _, rfl, ?_⟩
    unfold numV at k
    cases e : intV x with
    | none =>
      rw [e] at k
      exact iteF k
    | some i =>
      rw [e] at k
      refine ite2 (fun c => ?_) (fun c => ?_)
      · have h2 : lo ≤ i ∧ i ≤ hi := by
          have c' : (decide (lo ≤ i) && decide (i ≤ hi)) = true := c
          rw [Bool.and_eq_true, decide_eq_true_eq, decide_eq_true_eq] at c'
          exact c'
        refine ⟨_, rfl, ?_⟩
        simp only [h2, and_self, if_true] at k
        exact k
      · have h2 : ¬ (lo ≤ i ∧ i ≤ hi) := fun z => c (by
          show (decide (lo ≤ i) && decide (i ≤ hi)) = true
          rw [decide_eq_true z.1, decide_eq_true z.2]; rfl)
        simp only [h2, if_false] at k
        exact k
theorem cal_numof {f : Addr} {fd : FuncData} (F : C8.Def K mg "number_of" sNumOf f fd) (b : Binds K fd ["word", "least", "most"] []) (DI : C8.Cal P w K mg base 1 "integer_of" (spIntOf K) []) (DW : C8.Cal P w K mg base 2 "is_within" (spWithin K) []) :
    C8.Cal P w K mg base 3 "number_of" (spNumOf K) [] :=
  ⟨f, fd, _, [], fn_numof F DI DW, F.mgf, F.kp, b, .nil⟩
end
end Lw
namespace Lw
open PySem PySem.Spec PyProof.Rows L2
open LamX ClX
/-! ### errors of two fields, raised -/
abbrev sTxE : Stmt := inClass (top 13) 0
abbrev sMnE : Stmt := inClass (top 14) 0
/-- what an __init__ that keeps its two arguments promises -/
def spE2 (C : Addr) (f1 f2 : Str) : Sp := fun vs H Q _ => ∃ (a : Addr) (v1 v2 : V), vs = [.ref a, v1, v2] ∧ H a = some (exo a C none) ∧ ∀ dx, H dx = none → dx ≠ a → ∀ fs, fs.lookup f1 = some v1 → fs.lookup f2 = some v2 → Q .non (upd (upd H dx (exd dx fs)) a (exo a C (some dx)))
theorem two_fields {H : Hp} {a C dx : Addr} {f1 f2 : Str} {v1 v2 : V} (ne : dx ≠ a) : upd (upd (upd H dx (exd dx [(f1, v1)])) a (exo a C (some dx))) dx (exd dx [(f2, v2), (f1, v1)]) = upd (upd H dx (exd dx [(f2, v2), (f1, v1)])) a (exo a C (some dx)) := by
  funext b
  by_cases h1 : b = a
  · rw [h1, upd_ne ne.symm, upd_same, upd_same]
  · by_cases h2 : b = dx
    · rw [h2, upd_same, upd_ne ne, upd_same]
    · rw [upd_ne h2, upd_ne h1, upd_ne h2, upd_ne h1, upd_ne h2]
section
variable {P : Program} {w : World} {K : PySem.W.Frag} {mg : Str → Option Value} {base : Heap}
theorem sctxE : FnScope ["self", "line", "word"] ["self", "line", "word"] (C8.fnScope sTxE) := C8.fnScope_by (by decide +kernel)
theorem fn_txE {C f : Addr} {fd : FuncData} (F : C8.Fun K "__init__" "BadText.__init__" sTxE f fd) (T : OexC K C) (no1 : PySem.W.findIn K (.ref C) "line" = some none) (no2 : PySem.W.findIn K (.ref C) "word" = some none) : FnOk P w K mg base C8.CX0 1 f fd ["self", "line", "word"] (spE2 C "line" "word") := by
  refine C8.fn0 F sctxE (fun vs H Q E h => ?_) (fun cdv A outer st H vs Q E hr h => ?_)
  · obtain ⟨a, v1, v2, rfl, _⟩ := h
    rfl
  · obtain ⟨a, v1, v2, rfl, ha, k⟩ := h
    refine ⟨_, pss_cons (ps_ost (pv 0) (pv 1)) (pss_one (ps_ost (pv 0) (pv 2))), ?_⟩
    refine ⟨_, rfl, _, rfl, a, C, rfl, T, no1, .inl ⟨ha, fun dx h1 h2 => ?_⟩⟩
    refine ⟨_, rfl, _, rfl, a, C, rfl, T, no2, .inr ⟨dx, [("line", v1)], upd_same, (by rw [upd_ne h2]; exact upd_same), (by show 1 ≤ 900; decide), ?_⟩⟩
    rw [two_fields h2]
    exact k dx h1 h2 _ (by rw [lookup_put, if_neg (by decide +kernel), lookup_put, if_pos rfl]) (by rw [lookup_put, if_pos rfl])
theorem scmnE : FnScope ["self", "what", "most"] ["self", "what", "most"] (C8.fnScope sMnE) := C8.fnScope_by (by decide +kernel)
theorem fn_mnE {C f : Addr} {fd : FuncData} (F : C8.Fun K "__init__" "TooMany.__init__" sMnE f fd) (T : OexC K C) (no1 : PySem.W.findIn K (.ref C) "what" = some none) (no2 : PySem.W.findIn K (.ref C) "most" = some none) : FnOk P w K mg base C8.CX0 1 f fd ["self", "what", "most"] (spE2 C "what" "most") := by
  refine C8.fn0 F scmnE (fun vs H Q E h => ?_) (fun cdv A outer st H vs Q E hr h => ?_)
  · obtain ⟨a, v1, v2, rfl, _⟩ := h
    rfl
  · obtain ⟨a, v1, v2, rfl, ha, k⟩ := h
    refine ⟨_, pss_cons (ps_ost (pv 0) (pv 1)) (pss_one (ps_ost (pv 0) (pv 2))), ?_⟩
    refine ⟨_, rfl, _, rfl, a, C, rfl, T, no1, .inl ⟨ha, fun dx h1 h2 => ?_⟩⟩
    refine ⟨_, rfl, _, rfl, a, C, rfl, T, no2, .inr ⟨dx, [("what", v1)], upd_same, (by rw [upd_ne h2]; exact upd_same), (by show 1 ≤ 900; decide), ?_⟩⟩
    rw [two_fields h2]
    exact k dx h1 h2 _ (by rw [lookup_put, if_neg (by decide +kernel), lookup_put, if_pos rfl]) (by rw [lookup_put, if_pos rfl])
end
/-- the error's class, ready to be raised -/
structure Err2 (nm f1 f2 : Str) (P : Program) (w : World) (K : PySem.W.Frag) (mg : Str → Option Value) (base : Heap) (D fE : Addr) (fdE : FuncData) : Prop where
  T : OexC K D
  iC : PySem.W.findIn K (.ref D) "__init__" = some (some (.ref fE))
  tI : PySem.W.typeIn K (.ref fE) = some (.type "function")
  F : FnOk P w K mg base C8.CX0 1 fE fdE ["self", f1, f2] (spE2 D f1 f2)
  b : Binds K fdE ["self", f1, f2] []
  hm : mg nm = some (.ref D)
section
variable {X : Cx} {f1 f2 : Str} {C fI : Addr} {fd : FuncData} {W : WX} {j : Nat} {e1 e2 : Expr} {te1 te2 : TE} {p pos pos2 : Pos}
/-- raise X(e1, e2), X such a class -/
def tBad2 (f1 f2 : Str) (C : Addr) (W : WX) (te1 te2 : TE) : TS := fun _ σ H => tMkO C (spE2 C f1 f2) [] (tCons te1 (tCons te2 tNil)) σ H fun cls d H' => W cls d σ H'
theorem ps_bad2 {x : Str} (hc : X.calm = true) (tk : Takes X W) (T : OexC X.K C) (iC : PySem.W.findIn X.K (.ref C) "__init__" = some (some (.ref fI))) (tI : PySem.W.typeIn X.K (.ref fI) = some (.type "function")) (F : FnOk X.prog X.w X.K X.mg X.base C8.CX0 1 fI fd ["self", f1, f2] (spE2 C f1 f2)) (hr : Room (j + 2) X.A) (hb : Binds X.K fd ["self", f1, f2] [])
    (hg : Gl X x) (hm : X.mg x = some (.ref C)) (he1 : PE X e1 te1) (he2 : PE X e2 te2) (hst2 : starEach [e2] X.env = [(false, eval e2 X.env)] := by rfl) (hst : starEach [e1, e2] X.env = (false, eval e1 X.env) :: starEach [e2] X.env := by rfl) (hdb : (x == ("__debug__" : Str)) = false := by decide) (hpl : (backTo pos (starEach [e2] X.env)).any (·.1) = false := by rfl) :
    PS X (.Raise (some (.Call (.Name x p) [e1, e2] [] pos)) none pos2) (tBad2 f1 f2 C W te1 te2) :=
  ps_raise hc tk (pmk_oex T iC tI F (hr.mono (by omega)) hb .nil C8.pass0 hg hm (pa_cons he1 (pa_cons he2 pa_nil hst2) hst) hdb hst hpl)
theorem bad_leaf2 {H1 : Hp} {v1 v2 : V} {Q : XK} (k : ∀ d fs, H1 d = none → fs.lookup f1 = some v1 → fs.lookup f2 = some v2 → Q (.ref C) (some d) (upd H1 d (.xd fs))) :
    ([v1, v2] : List V).length ≤ 1000 ∧ ∀ a, H1 a = none → spE2 C f1 f2 (.ref a :: ([v1, v2] ++ [])) (upd H1 a (exo a C none)) (fun z H2 => z = .non ∧ ∃ (d : Addr) (fs : List (Str × V)), H2 a = some (exo a C (some d)) ∧ H2 d = some (exd d fs) ∧ H1 d = none ∧ Q (.ref C) (some d) (upd (del H2 a) d (.xd fs))) (fun _ _ _ => False) := by
  refine ⟨(by show 2 ≤ 1000; decide), fun a ha => ⟨a, v1, v2, rfl, upd_same, fun dx h1 h2 fs e1 e2 => ?_⟩⟩
  rw [upd_ne h2] at h1
  refine ⟨rfl, dx, fs, upd_same, by rw [upd_ne h2]; exact upd_same, h1, ?_⟩
  have e : upd (del (upd (upd (upd H1 a (exo a C none)) dx (exd dx fs)) a (exo a C (some dx))) a) dx (.xd fs) = upd H1 dx (.xd fs) := by
    funext b
    by_cases q : b = dx
    · rw [q, upd_same, upd_same]
    · rw [upd_ne q, upd_ne q]
      by_cases q2 : b = a
      · rw [q2, del_same, ha]
      · rw [del_ne q2, upd_ne q2, upd_ne q, upd_ne q2]
  rw [e]
  exact k dx fs h1 e1 e2
end
/-! ### a classmethod by keywords -/
section
variable {X : Cx} {CX : CXT} {C p g : Addr} {mc : Value} {k : Nat} {fd : FuncData} {ps ks : List Str} {sp : Sp} {E : XK} {o : Expr} {kws : List Keyword} {m : Str} {pos apos : Pos} {ta : TE} {tkw : TA} {gU : List Value → List Value → List Value} {gV : List V → List V → List V} {pl : Sem Bool}
theorem pe_cmethK (he : PE X o ta) (r : CRead X.K C mc) (c : CMet X.K C mc m p g) (F : FnOk X.prog X.w X.K X.mg X.base CX k g fd ps sp) (hr : Room k X.A) (hb : KBn X.K fd ps 1 ks gU gV) (hx : Passes CX X E) (hkw : PK X kws tkw)
    (hall : (backToKw pos (keywordEach kws X.env)).all (·.1.isSome) = true := by rfl) (hks : (backToKw pos (keywordEach kws X.env)).filterMap (·.1) = ks := by rfl)
    (hpl : ((backTo pos (starEach [] X.env)).any (·.1) || (backToKw pos (keywordEach kws X.env)).any (·.1.isNone)) = false := by rfl)
    (ht : eval (.Call (.Attribute o m apos) [] kws pos) X.env = (do
      let ov ← eval o X.env
      standAt apos.atName
      let (f, first) ← holding [ov] (getMethod ov m pl)
      callWith pos f first (backTo pos (starEach [] X.env)) (backToKw pos (keywordEach kws X.env))) := by rfl) :
    PE X (.Call (.Attribute o m apos) [] kws pos) (fun σ H Q => ta σ H fun x H1 => x = .ref C ∧ tkw σ H1 fun zs H2 => zs.length = ks.length ∧ sp (gV [.ref C] zs) H2 Q E) := by
  refine ⟨fun pins s σ H Q I h => ?_⟩
  refine PySem.W.methodCall_KW (pl := pl) (thn (he.run pins s σ H _ I h) fun u s1 ⟨x, H1, I1, rx, ex, q⟩ => ?_) ht
  subst ex
  obtain rfl : u = Value.ref C := rx
  refine getmethcm_ok I1 r c fun s2 I2 => ?_
  refine PySem.W.callWith_of (P := PySem.W.MethP X.K s1.heap.objs.size g (.ref C)) hpl (PySem.W.keeps_M c.fi) (evalArgs_kw2_nil hall ?_)
  refine thn (hkw.run pos _ s2 σ H1 _ I2 q) fun ws s3 ⟨zs, H2, I3, rz, l2, q2⟩ => ⟨⟨pin_at I3, I3.kIn⟩, ?_⟩
  rw [hks]
  have hl : ws.length = ks.length := rz.length.symm.trans l2
  have z : wpAny (model X.prog X.w) X.A (call (.ref s1.heap.objs.size) [] (ks.zip ws)) (EP X ((s1.heap.objs.size, PySem.W.methodObj (.ref g) (.ref C)) :: pins) σ Q) X.xe s3 := by
    refine wpAny_call (PySem.W.method_call (pin_at I3) ?_)
    have r2 : Vals (gV [.ref C] zs) (gU [.ref C] ws) := hb.rel (.cons rfl .nil) rz
    refine codeAny_mono (F.run X.A X.stack s3 H2 ⟨[.ref C], ks.zip ws⟩ (gU [.ref C] ws) (gV [.ref C] zs) Q E hr I3.env0 (hb.to s3 [.ref C] ws I3.kIn rfl hl) r2 q2) fun r s' hq => ?_
    cases r with
    | error e => exact hx _ σ H2 s3 e s' I3 hq
    | ok fl =>
      cases fl with
      | ret u => exact I3.after hq
      | next => exact False.elim hq
      | brk => exact False.elim hq
      | cont => exact False.elim hq
  exact thn z fun _ _ y => unpinE y
end
end Lw
namespace Lw
open PySem PySem.Spec PyProof.Rows L2
/-! ### str(x) of an own class -/
section
variable {X : Cx} {C f : Addr} {k j : Nat} {sp : Sp} {E : XK} {pins : List (Addr × Obj)} {σ : L2.St} {H : Hp} {s : Shared}
/-- a method that runs one or two levels further in -/
theorem run_metA {A : Around} {m : Str} {us : List Value} {vs : List V} {Q : VK} (M : MetX X.prog X.w X.K X.mg X.base k C m sp) (hx : Passes (L2.CX X.prog X.w) X E) (hr : Room k A) (e0 : Env0 X.prog X.w X.K X.mg X.base A X.stack s H) (I : Inv X pins σ H s) (r : Vals vs us) (q : sp vs H Q E) :
    ∃ g : Addr, Meth X.K C m g ∧ wpAny (model X.prog X.w) A (call (.ref g) us) (EP X pins σ Q) X.xe s := by
  obtain ⟨g, fd, ps, hm, F, b⟩ := M.ex
  have l : us.length = ps.length := r.length.symm.trans (F.len _ _ _ _ q)
  have b' := b s us I.kIn (by rw [List.append_nil]; exact l)
  rw [List.append_nil] at b'
  refine ⟨g, hm, wpAny_call (codeAny_mono (F.run A X.stack s H ⟨us, []⟩ us vs Q E hr e0 b' r q) fun r s' hq => ?_)⟩
  cases r with
  | error e => exact hx pins σ H s e s' I hq
  | ok fl =>
    cases fl with
    | ret u => exact I.after hq
    | next => exact False.elim hq
    | brk => exact False.elim hq
    | cont => exact False.elim hq
/-- str(x) of an instance -/
def rStrOwn (C : Addr) (sp : Sp) (E : XK) : List V → Hp → VK → Prop := fun xs H Q => ∃ a dx fs, xs = [V.ref a] ∧ H a = some (.ins C dx fs) ∧ sp [.ref a] H (fun z H' => ∃ y, z = .str y ∧ Q z H') E
theorem call_strOwn (M : MetX X.prog X.w X.K X.mg X.base k C "__str__" sp) (hx : Passes (L2.CX X.prog X.w) X E) (hr : Room j X.A) (hk : k + 2 ≤ j) : CallR X (.type "str") (rStrOwn C sp E) := by
  intro pins s σ H xs us Q I r h
  obtain ⟨a, dx, fs, rfl, ha, q⟩ := h
  obtain ⟨u, rfl, ru⟩ := r.one
  cases (show u = Value.ref a from ru)
  obtain ⟨_, _, J⟩ := ins_at I ha
  have hr2 : Room k X.A.in1.in1 := (show Room (k + 1) X.A.in1 from Room.in1 (hr.mono hk)).in1
  obtain ⟨g, hm, w⟩ := run_metA (us := [.ref a]) (vs := [.ref a]) M hx hr2 I.env0.in1.in1 I (.cons rfl .nil) q
  refine PySem.W.kso_call hr2.units0 I.kIn J hm.at_ hm.fn (wpAny_mono w (fun v s' z => ?_) fun _ _ x => x)
  obtain ⟨z', H', I', rz, y, rfl, qz⟩ := z
  obtain ⟨t, rfl⟩ := rz
  exact ⟨.str y, H', I', ⟨t, rfl⟩, qz⟩
end
end Lw
namespace Lw.Ow
open PySem PySem.Spec PyProof.Rows PySem.W PySem.Calls
/-! ### != by the own == -/
theorem sl_obj_ne : Slot "object" "__ne__" "object.__ne__" :=
  .of (owner := "object") (n := "__ne__") (by rw [typeLookup_type, builtinLookup_eq_fast]; kernel_rfl) (by decide +kernel) (by decide +kernel) (by decide +kernel)
    (by first | exact .inl (by decide +kernel) | exact .inr (by decide +kernel)) (by rw [isSubtype_type]; kernel_rfl)
section
variable {prog : Program} {w : World} {A : Around} {E : Value → Shared → Prop} {s : Shared} {K : Frag} {x C f : Addr} {ox : Obj} {od : Option Obj}
theorem ifBound_S {M : Model} {name : Str} {id : String} {args : List Value} {Q : Option Value → Shared → Prop} (X : K.In s.heap) (I : InstAt s.heap x ox C od) (hs : findIn K (.ref C) name = some (some (.builtin id))) (hb : ∀ self, bindSpecial (.builtin id) self = pure (.builtin id, [self]))
    (h : wpAny M A (call (.builtin id) (.ref x :: args)) (fun v => Q (some v)) E s) : wpAny M A (callSpecialIfBound? (.ref x) name args) Q E s := by
  simp only [callSpecialIfBound?, bindSpecialIfBound?]
  refine wpAny_holding (wpAny_bind (wpAny_bind (wpAny_bind (I.type.here ((looks_findIn X hs).here ?_)))))
  refine wpAny_bind (wpAny_askSetting (wpAny_ite ?_))
  have fin : wpAny M A (call (.builtin id) ([.ref x] ++ args) >>= fun v => pure (some v)) Q E s := wpAny_bind (wpAny_mono h (fun v s' h' => wpAny_pure h') fun _ _ h' => h')
  split
  · exact wpAny_bind ((Looks.of_pure (hb _)).here (wpAny_pure (by exact fin)))
  · exact wpAny_tryCatch (wpAny_bind ((Looks.of_pure (hb _)).here (wpAny_pure (by exact fin))))
theorem try_ne {b : Value} {Q : Value → Shared → Prop} (hu : A.in1.units < cLine) (X : K.In s.heap) (I : InstAt s.heap x ox C od) (hm : mroIn K C (.type "object") = some true) (hn : findIn K (.ref C) "__ne__" = some (some (.builtin "object.__ne__"))) (he : findIn K (.ref C) "__eq__" = some (some (.ref f))) (hf : isFn K (.ref f) = true)
    (h : wpAny (model prog w) A.in1 (call (.ref f) [.ref x, b]) (fun v s' => ∃ c, v = .bool c ∧ Q (.bool (!c)) s') E s) : wpAny (model prog w) A (tryCompare (.ref x) "__ne__" b) (fun r s' => ∃ v, r = some v ∧ Q v s') E s := by
  unfold tryCompare
  refine wpAny_bind (ifBound_S X I hn sl_obj_ne.bind (wpAny_call (codeAny_call_builtin sl_obj_ne.plain F.cmpEntry_ne (check_slot (i := "object.__ne__") (owner := "object") (n := "__ne__") F.cmpKind_ne F.cmpSplit_ne (I.type.andThen (looks_mroIn X hm)) (F.cmpArgs_ne _ _) ?_))))
  unfold Builtin.«object.__ne__»
  refine wpAny_bind (wpAny_of_eq (a := (Value.ref x, [b])) rfl ?_)
  refine wpAny_bind (m := cRoomFor _ _) (wpAny_cRoomFor hu ?_)
  refine wpAny_bind (m := callSpecialIfBound? (.ref x) (Str.ofString "__eq__") _) (ifBound_K X I he hf (wpAny_mono h (fun r s' hq => ?_) fun _ _ y => y))
  obtain ⟨c, rfl, q⟩ := hq
  refine wpAny_bind (m := truthy (.bool c)) (wpAny_truthy_bool ?_)
  first | exact wpAny_pure (wpAny_pure ⟨_, rfl, q⟩) | exact wpAny_pure ⟨_, rfl, q⟩ | exact ⟨_, rfl, wpAny_pure ⟨_, rfl, q⟩⟩
theorem cmp_ne {b tb : Value} {Q : Value → Shared → Prop} (hu : A.units < cLine) (X : K.In s.heap) (I : InstAt s.heap x ox C od) (hb : Looks (model prog w) s.heap (typeOf b) tb) (hn : notFirst K C tb = true)
    (one : wpAny (model prog w) A (tryCompare (.ref x) "__ne__" b) (fun r s' => ∃ v, r = some v ∧ Q v s') E s) : wpAny (model prog w) A (richCompare .NotEq (.ref x) b) Q E s := by
  unfold richCompare
  simp only [oneThing_ref]
  refine wpAny_holding (wpAny_bind (wpAny_cRoomFor hu ?_))
  refine wpAny_bind (I.type.here (wpAny_bind (hb.here ?_)))
  split
  · rename_i q
    have e : subIn K tb (.ref C) = some false := by
      rcases Bool.or_eq_true_iff.mp hn with e | e
      · rw [beq_iff_eq.mp e] at q; simp at q
      · exact beq_iff_eq.mp e
    refine wpAny_bind ((looks_subIn X e).here ?_)
    simp only [Bool.false_eq_true, if_false]
    refine wpAny_bind (wpAny_mono one (fun r s' z => ?_) fun _ _ e => e)
    obtain ⟨v, rfl, hq⟩ := z
    exact wpAny_pure hq
  · refine wpAny_bind (wpAny_pure ?_)
    simp only [Bool.false_eq_true, if_false]
    refine wpAny_bind (wpAny_mono one (fun r s' z => ?_) fun _ _ e => e)
    obtain ⟨v, rfl, hq⟩ := z
    exact wpAny_pure hq
end
end Lw.Ow
namespace Lw
open PySem PySem.Spec PyProof.Rows L2 LamX
section
variable {X : Cx} {C f : Addr} {k j : Nat} {sp : Sp} {E : XK} {pins : List (Addr × Obj)} {σ : L2.St} {H : Hp} {s : Shared}
structure NeC (K : PySem.W.Frag) (C : Addr) : Prop where
  m : PySem.W.mroIn K C (.type "object") = some true
  n : PySem.W.findIn K (.ref C) "__ne__" = some (some (.builtin "object.__ne__"))
def Nb (Q : VK) : VK := fun v H => ∃ c, v = .bl c ∧ Q (.bl (!c)) H
def rNR (C : Addr) (sp : Sp) (E : XK) : R2 := fun x y H Q => ∃ a dx fs b dy gs, x = .ref a ∧ H a = some (.ins C dx fs) ∧ y = .ref b ∧ H b = some (.ins C dy gs) ∧ sp [x, y] H (Nb Q) E
theorem op_neR (nc : NeC X.K C) (M : MetX X.prog X.w X.K X.mg X.base k C "__eq__" sp) (hx : Passes (L2.CX X.prog X.w) X E) (hr : Room j X.A) (hk : k + 1 ≤ j) : OpR X (compareOp .NotEq) (rNR C sp E) := by
  intro pins s σ H x y v u Q I rx ry h
  obtain ⟨a, dx, fs, b, dy, gs, rfl, ha, rfl, hb, q⟩ := h
  cases (show v = Value.ref a from rx)
  cases (show u = Value.ref b from ry)
  obtain ⟨_, _, J⟩ := ins_at I ha
  obtain ⟨_, _, J'⟩ := ins_at I hb
  have hr1 : Room k X.A.in1 := Room.in1 (hr.mono hk)
  obtain ⟨g, hm, w⟩ := run_metA (us := [.ref a, .ref b]) (vs := [.ref a, .ref b]) M hx hr1 I.env0.in1 I (.cons rfl (.cons rfl .nil)) q
  refine Ow.cmp_ne hr.units0 I.kIn J J'.type (by simp [PySem.W.notFirst]) (Ow.try_ne hr1.units0 I.kIn J nc.m nc.n hm.at_ hm.fn (wpAny_mono w (fun v s' z => ?_) fun _ _ x => x))
  obtain ⟨z', H', I', rz, c, rfl, qz⟩ := z
  cases (show v = Value.bool c from rz)
  exact ⟨c, rfl, .bl (!c), H', I', rfl, qz⟩
end
theorem TyX.same {K : PySem.W.Frag} {H H' : Hp} {v : V} {t : Value} (s : Same H H') (h : TyX K H v t) : TyX K H' v t := by
  cases h with
  | base h =>
    refine .base ?_
    cases h with
    | non => exact .non
    | bl x => exact .bl x
    | int i => exact .int i
    | str x => exact .str x
    | flt x => exact .flt x
    | lst e => exact .lst (s _ _ e)
    | frz e => exact .frz (s _ _ e)
    | tup e => exact .tup (s _ _ e)
    | dK e => exact .dK (s _ _ e)
    | dT e => exact .dT (s _ _ e)
    | ins e cl ha hn htk hm => exact .ins (s _ _ e) cl ha hn htk hm
  | byt b => exact .byt b
  | set e => exact .set (s _ _ e)
  | kList e c => exact .kList e c
  | kTuple e c => exact .kTuple e c
  | kDict e c => exact .kDict e c
  | fTuple e => exact .fTuple (s _ _ e)
  | fDict e => exact .fDict (s _ _ e)
theorem TyZ.same {K : PySem.W.Frag} {H H' : Hp} {v : V} {t : Value} (s : Same H H') (h : TyZ K H v t) : TyZ K H' v t := by
  cases h with
  | x h => exact .x (Lw.TyX.same s h)
  | fn e => exact .fn (s _ _ e)
theorem Anyv.same {K : PySem.W.Frag} {H H' : Hp} {v : V} (s : Same H H') (h : Anyv K H v) : Anyv K H' v := by
  cases h with
  | int i => exact .int i
  | non => exact .non
  | bl b => exact .bl b
  | str z => exact .str z
  | obj h h1 h2 h3 => exact .obj (Lw.TyZ.same s h) h1 h2 h3
open SX PySem.NumText TL
theorem tl_neg {n : Nat} (h : 0 < n) : (Str.ofString (toString (-((n : Nat) : Int)))).cps.toList = 45 :: numL n := by
  obtain ⟨m, rfl⟩ : ∃ m, n = m + 1 := ⟨n - 1, by omega⟩
  rw [PyProof.Rows.signs_ofString]
  have e : toString (-(((m + 1 : Nat) : Int))) = "-" ++ Nat.repr (m + 1) := rfl
  rw [e, String.toList_append, List.map_append, Nat.toList_repr]
  rfl
theorem str_neg {n : Nat} (h : 0 < n) : Str.ofString (toString (-((n : Nat) : Int))) = S (45 :: numL n) := TL.ext_tl (tl_neg h)
/-- the figures of an integer, its sign ahead -/
def intL (i : Int) : List Nat := if i < 0 then 45 :: numL i.natAbs else numL i.natAbs
theorem str_int (i : Int) : Str.ofString (toString i) = S (intL i) := by
  unfold intL
  by_cases h : i < 0
  · rw [if_pos h]
    obtain ⟨n, rfl⟩ : ∃ n : Nat, i = -((n : Nat) : Int) := ⟨i.natAbs, by omega⟩
    rw [show (-((n : Nat) : Int)).natAbs = n by omega]
    exact str_neg (by omega)
  · rw [if_neg h]
    obtain ⟨n, rfl⟩ : ∃ n : Nat, i = ((n : Nat) : Int) := ⟨i.natAbs, by omega⟩
    rw [Int.natAbs_natCast]
    exact num_S n
open SX PySem.NumText TL LamX
structure DefC (K : PySem.W.Frag) (mg : Str → Option Value) (x : Str) (st : Stmt) (f : Addr) (fd : FuncData) (c : Addr) : Prop where
  ex : ∃ (oc : Value) (od : Option Addr) (dV kV doc pm : Value) (an : Option Addr) (ct : Value) (osl : Array (Option Value)),
    fd = PySem.W.fnOf x x (C8.fnArgs st) (C8.fnBody st) (C8.fnScope st) dV kV doc pm an (.ref c) ct ∧ K.lookup f = some ⟨oc, od, .func fd, osl⟩ ∧ PySem.W.codeIn K (.ref c) x = true
  mgf : mg x = some (.ref f)
  kp : PySem.W.keepIn K (.ref f) = true
theorem calGC {P : Program} {w : World} {K : PySem.W.Frag} {mg : Str → Option Value} {base : Heap} {x : Str} {st : Stmt} {f c : Addr} {fd : FuncData} {N ps : List Str} {ds : List Value} {dvs : List V} {k : Nat} {sp : Sp} (F : DefC K mg x st f fd c) (b : Binds K fd ps ds) (d : Vals dvs ds) (S : FnScope N ps (C8.fnScope st)) (len : ∀ vs H Q E, sp vs H Q E → vs.length = ps.length)
    (body : ∀ (A : Around) (outer : List Env) (s : Shared) (H : Hp) (vs : List V) (Q : VK) (E : XK), (A.deeper (envOfC x (C8.fnScope st) s.heap.objs.size f (.ref c))).guards = some [] → Room k (A.deeper (envOfC x (C8.fnScope st) s.heap.objs.size f (.ref c))) → sp vs H Q E →
      ∃ t, PSs (cxOf C8.CX0 P w K mg base N x (C8.fnScope st) f (.ref c) A outer s H E).nox (C8.fnBody st) t ∧ t { nx := fun _ H' => Q .non H', rt := Q } (start N vs) H) : CalG P w K mg base (k + 1) x sp dvs := by
  refine ⟨f, fd, ps, ds, ⟨len, ?_⟩, F.mgf, F.kp, b, d⟩
  intro A outer s H args us vs Q E hg hr e0 hb r hs
  obtain ⟨oc, od, dV, kV, doc, pm, an, ct, osl, rfl, lk, hcd⟩ := F.ex
  refine LamX.run_ofS lk hcd S hr e0 hb r (len _ _ _ _ hs) fun hr' => ?_
  obtain ⟨t, h1, h2⟩ := body A outer s H vs Q E hg hr' hs
  exact ⟨t, h1.nox, h2⟩
theorem Tabs.put {T : List (Addr × Str)} {H : Hp} {l : Addr} {o : HO} {xs : List V} (t : Tabs T H) (hl : H l = some (.lst xs)) : Tabs T (upd H l o) := by
  intro q hq
  obtain ⟨ps, h1, h2, h3⟩ := t q hq
  refine ⟨ps, ?_, h2, fun pos cv hc => ?_⟩
  · rw [upd_ne (fun e => by rw [e, hl] at h1; cases h1)]; exact h1
  · obtain ⟨c, e1, e2⟩ := h3 pos cv hc
    refine ⟨c, e1, ?_⟩
    rw [upd_ne (fun e => by rw [e, hl] at e2; unfold CodeO at e2; cases e2)]; exact e2
theorem Tabs.kp {T : List (Addr × Str)} {p pl : Addr} {n : Nat} {H H' : Hp} (t : Tabs T H) (hp : Pen H p pl n) (k : Kp p H H') : Tabs T H' := by
  intro q hq
  obtain ⟨ps, h1, h2, h3⟩ := t q hq
  obtain ⟨xs, a, g, hh, _⟩ := hp
  refine ⟨ps, k _ _ (fun e => ?_) h1, h2, fun pos cv hc => ?_⟩
  · rw [e, hh.at_] at h1; cases h1
  · obtain ⟨c, e1, e2⟩ := h3 pos cv hc
    refine ⟨c, e1, k _ _ (fun e => ?_) e2⟩
    rw [e, hh.at_] at e2
    unfold CodeO at e2
    cases e2
theorem Pen.extn {H H' : Hp} {p l : Addr} {n : Nat} (h : Pen H p l n) (e : ExtN H H') : Pen H' p l n := by
  obtain ⟨xs, a, g, ⟨h1, h2, h3, h4, h5⟩, h6⟩ := h
  have nl : ∀ (ys : List V) ps, HO.lst ys ≠ .tbl ps := fun ys ps z => by cases z
  exact ⟨xs, a, g, ⟨e _ _ h1 (nl _), e _ _ h2 (nl _), h3, h4, h5⟩, h6⟩
open ClX StX
/-! ### errors of one field, raised -/
def spE1 (C : Addr) (f1 : Str) : Sp := fun vs H Q _ => ∃ (a : Addr) (v1 : V), vs = [.ref a, v1] ∧ H a = some (exo a C none) ∧ ∀ dx, H dx = none → dx ≠ a → ∀ fs, fs.lookup f1 = some v1 → Q .non (upd (upd H dx (exd dx fs)) a (exo a C (some dx)))
/-- the error's class, ready to be raised -/
structure Err1 (nm f1 : Str) (P : Program) (w : World) (K : PySem.W.Frag) (mg : Str → Option Value) (base : Heap) (D fE : Addr) (fdE : FuncData) : Prop where
  T : OexC K D
  iC : PySem.W.findIn K (.ref D) "__init__" = some (some (.ref fE))
  tI : PySem.W.typeIn K (.ref fE) = some (.type "function")
  F : FnOk P w K mg base C8.CX0 1 fE fdE ["self", f1] (spE1 D f1)
  b : Binds K fdE ["self", f1] []
  hm : mg nm = some (.ref D)
section
variable {X : Cx} {f1 : Str} {C fI : Addr} {fd : FuncData} {W : WX} {j : Nat} {e1 : Expr} {te1 : TE} {p pos pos2 : Pos}
/-- raise X(e1), X such a class -/
def tBad1 (f1 : Str) (C : Addr) (W : WX) (te1 : TE) : TS := fun _ σ H => tMkO C (spE1 C f1) [] (tCons te1 tNil) σ H fun cls d H' => W cls d σ H'
theorem ps_bad1 {x : Str} (hc : X.calm = true) (tk : Takes X W) (T : OexC X.K C) (iC : PySem.W.findIn X.K (.ref C) "__init__" = some (some (.ref fI))) (tI : PySem.W.typeIn X.K (.ref fI) = some (.type "function")) (F : FnOk X.prog X.w X.K X.mg X.base C8.CX0 1 fI fd ["self", f1] (spE1 C f1)) (hr : Room (j + 2) X.A) (hb : Binds X.K fd ["self", f1] [])
    (hg : Gl X x) (hm : X.mg x = some (.ref C)) (he1 : PE X e1 te1) (hst : starEach [e1] X.env = (false, eval e1 X.env) :: starEach [] X.env := by rfl) (hdb : (x == ("__debug__" : Str)) = false := by decide) (hpl : (backTo pos (starEach [] X.env)).any (·.1) = false := by rfl) :
    PS X (.Raise (some (.Call (.Name x p) [e1] [] pos)) none pos2) (tBad1 f1 C W te1) :=
  ps_raise hc tk (pmk_oex T iC tI F (hr.mono (by omega)) hb .nil C8.pass0 hg hm (pa_cons he1 pa_nil hst) hdb hst hpl)
theorem bad_leaf1 {H1 : Hp} {v1 : V} {Q : XK} (k : ∀ d fs, H1 d = none → fs.lookup f1 = some v1 → Q (.ref C) (some d) (upd H1 d (.xd fs))) :
    ([v1] : List V).length ≤ 1000 ∧ ∀ a, H1 a = none → spE1 C f1 (.ref a :: ([v1] ++ [])) (upd H1 a (exo a C none)) (fun z H2 => z = .non ∧ ∃ (d : Addr) (fs : List (Str × V)), H2 a = some (exo a C (some d)) ∧ H2 d = some (exd d fs) ∧ H1 d = none ∧ Q (.ref C) (some d) (upd (del H2 a) d (.xd fs))) (fun _ _ _ => False) := by
  refine ⟨(by show 1 ≤ 1000; decide), fun a ha => ⟨a, v1, rfl, upd_same, fun dx h1 h2 fs e1 => ?_⟩⟩
  rw [upd_ne h2] at h1
  refine ⟨rfl, dx, fs, upd_same, by rw [upd_ne h2]; exact upd_same, h1, ?_⟩
  have e : upd (del (upd (upd (upd H1 a (exo a C none)) dx (exd dx fs)) a (exo a C (some dx))) a) dx (.xd fs) = upd H1 dx (.xd fs) := by
    funext b
    by_cases q : b = dx
    · rw [q, upd_same, upd_same]
    · rw [upd_ne q, upd_ne q]
      by_cases q2 : b = a
      · rw [q2, del_same, ha]
      · rw [del_ne q2, upd_ne q2, upd_ne q, upd_ne q2]
  rw [e]
  exact k dx fs h1 e1
end
/-- refused: the error keeps the value -/
def Bf (D : Addr) (f : Str) (x : V) (H : Hp) (E : XK) : Prop := ∀ d fs H', Same H H' → H' d = none → fs.lookup f = some x → E (.ref D) (some d) (upd H' d (.xd fs))
theorem Bf.of {D : Addr} {f : Str} {x : V} {H H' : Hp} {E : XK} (h : Bf D f x H E) (s : Same H H') : Bf D f x H' E := fun d fs H2 s2 hd f1 => h d fs H2 (s.trans s2) hd f1
section
variable {X : Cx} {CX : CXT} {k : Nat} {f C : Addr} {sp : Sp} {E : XK} {x : Str} {p pos : Pos}
theorem pe_makeR0 (M : Mk X.K C f) (F : FnR X.prog X.w X.K X.mg X.base CX k f sp) (hr : Room (k + 1) X.A) (hg : Gl X x) (hm : X.mg x = some (.ref C)) (hx : Passes CX X E) (hdb : (x == ("__debug__" : Str)) = false := by decide) : PE X (.Call (.Name x p) [] [] pos) (tMakeR C sp E tNil) := by
  refine ⟨fun pins s σ H Q I h => ?_⟩
  refine wpAny_Call_Name_kw (ld_glob I hg hm ?_ hdb)
  exact PySem.W.callWith_K0 I.kIn M.kp (run_makeR M F hr hx I .nil h)
end
/-- neither a list nor a tuple -/
def NoSeq (K : PySem.W.Frag) (H : Hp) (v : V) : Prop := ∃ t, TyX K H v t ∧ PySem.W.kitAny K t [.type "list", .type "tuple"] = some false
theorem NoSeq.same {K : PySem.W.Frag} {H H' : Hp} {v : V} (h : NoSeq K H v) (s : Same H H') : NoSeq K H' v := by
  obtain ⟨t, h1, h2⟩ := h
  exact ⟨t, Lw.TyX.same s h1, h2⟩
end Lw
namespace Lw
open PySem PySem.Spec PyProof.Rows L2
end Lw
namespace Lw.Ow
open PySem PySem.Spec PyProof.Rows PySem.W PySem.Calls
section
variable {prog : Program} {w : World} {A : Around} {E : Value → Shared → Prop} {s : Shared} {K : Frag} {x C f : Addr} {ox : Obj} {od : Option Obj}
theorem len_own {Q : Value → Shared → Prop} (X : K.In s.heap) (I : InstAt s.heap x ox C od) (hs : findIn K (.ref C) "__len__" = some (some (.ref f))) (hf : isFn K (.ref f) = true)
    (h : wpAny (model prog w) A.in1 (call (.ref f) [.ref x]) (fun v s' => ∃ (n : Int) (t : Tok), v = .int n t ∧ 0 ≤ n ∧ n < 2 ^ 63 ∧ ∀ t' tk, Q (.int n t') { s' with toks := tk }) E s) : wpAny (model prog w) A (call (.builtin "len") [.ref x]) Q E s := by
  refine call_function_entry kind_len plain_len entry_len (args_len1 _) ?_
  unfold Builtin.«len»
  refine wpAny_bind (m := oneArg "len" _) (wpAny_pure ?_)
  refine wpAny_bind (m := callSpecial? (.ref x) (Str.ofString "__len__")) (special_fn X I hs (beq_iff_eq.mp hf) (wpAny_mono h (fun r s' hr => ?_) fun _ _ y => y))
  obtain ⟨n, t, rfl, h0, h1, q⟩ := hr
  refine wpAny_bind (wpAny_holding (wpAny_pure ?_))
  refine wpAny_bind (wpAny_letGo ?_)
  show wpAny _ _ (if n < 0 then _ else _) _ _ _
  rw [if_neg (by omega)]
  show wpAny _ _ (if n ≥ 2 ^ 63 then _ else _) _ _ _
  rw [if_neg (by omega)]
  exact wpAny_bind (wpAny_mkInt (wpAny_pure ⟨_, rfl, q _ _⟩))
theorem cmp_eq {b tb : Value} {Q : Value → Shared → Prop} (hu : A.units < cLine) (X : K.In s.heap) (I : InstAt s.heap x ox C od) (hb : Looks (model prog w) s.heap (typeOf b) tb) (hn : notFirst K C tb = true)
    (one : wpAny (model prog w) A (tryCompare (.ref x) "__eq__" b) (fun r s' => ∃ v, r = some v ∧ Q v s') E s) : wpAny (model prog w) A (richCompare .Eq (.ref x) b) Q E s := by
  unfold richCompare
  simp only [oneThing_ref]
  refine wpAny_holding (wpAny_bind (wpAny_cRoomFor hu ?_))
  refine wpAny_bind (I.type.here (wpAny_bind (hb.here ?_)))
  split
  · rename_i q
    have e : subIn K tb (.ref C) = some false := by
      rcases Bool.or_eq_true_iff.mp hn with e | e
      · rw [beq_iff_eq.mp e] at q; simp at q
      · exact beq_iff_eq.mp e
    refine wpAny_bind ((looks_subIn X e).here ?_)
    simp only [Bool.false_eq_true, if_false]
    refine wpAny_bind (wpAny_mono one (fun r s' z => ?_) fun _ _ e => e)
    obtain ⟨v, rfl, hq⟩ := z
    exact wpAny_pure hq
  · refine wpAny_bind (wpAny_pure ?_)
    simp only [Bool.false_eq_true, if_false]
    refine wpAny_bind (wpAny_mono one (fun r s' z => ?_) fun _ _ e => e)
    obtain ⟨v, rfl, hq⟩ := z
    exact wpAny_pure hq
theorem try_ownE {nm : Str} {b : Value} {Q : Value → Shared → Prop} (X : K.In s.heap) (I : InstAt s.heap x ox C od) (hs : findIn K (.ref C) nm = some (some (.ref f))) (hf : isFn K (.ref f) = true) (h : wpAny (model prog w) A (call (.ref f) [.ref x, b]) (PySem.W.CmpBack Q) E s) :
    wpAny (model prog w) A (tryCompare (.ref x) nm b) (fun r s' => ∃ v, r = some v ∧ Q v s') E s := by
  unfold tryCompare
  refine wpAny_bind (ifBound_K X I hs hf (wpAny_mono h (fun v s' hv => ?_) fun _ _ e => e))
  cases v <;> first | exact hv.elim | exact wpAny_pure ⟨_, rfl, hv⟩
end
end Lw.Ow
namespace Lw
open PySem PySem.Spec PyProof.Rows L2 LamX
section
variable {X : Cx} {C f : Addr} {k j : Nat} {sp : Sp} {E : XK} {pins : List (Addr × Obj)} {σ : L2.St} {H : Hp} {s : Shared}
/-- x == y by the own == of both -/
def rER (C : Addr) (sp : Sp) (E : XK) : R2 := fun x y H Q => ∃ a dx fs b dy gs, x = .ref a ∧ H a = some (.ins C dx fs) ∧ y = .ref b ∧ H b = some (.ins C dy gs) ∧ sp [x, y] H Q E
theorem op_eqR (M : MetX X.prog X.w X.K X.mg X.base k C "__eq__" sp) (hx : Passes (L2.CX X.prog X.w) X E) (hr : Room j X.A) (hk : k ≤ j) : OpR X (compareOp .Eq) (rER C sp E) := by
  intro pins s σ H x y v u Q I rx ry h
  obtain ⟨a, dx, fs, b, dy, gs, rfl, ha, rfl, hb, q⟩ := h
  cases (show v = Value.ref a from rx)
  cases (show u = Value.ref b from ry)
  obtain ⟨_, _, J⟩ := ins_at I ha
  obtain ⟨_, _, J'⟩ := ins_at I hb
  obtain ⟨g, hm, w, _⟩ := run_met (us := [.ref a, .ref b]) (vs := [.ref a, .ref b]) M hx hr hk I (.cons rfl (.cons rfl .nil)) q
  exact Ow.cmp_eq hr.units0 I.kIn J J'.type (by simp [PySem.W.notFirst]) (Ow.try_ownE I.kIn J hm.at_ hm.fn w)
/-- len(x) by the own __len__ -/
def rLenOwn (C : Addr) (sp : Sp) (E : XK) : List V → Hp → VK → Prop := fun xs H Q => ∃ a dx fs, xs = [V.ref a] ∧ H a = some (.ins C dx fs) ∧ sp [.ref a] H (fun z H' => ∃ n : Int, z = .int n ∧ 0 ≤ n ∧ n < 2 ^ 63 ∧ Q z H') E
theorem call_lenOwn (M : MetX X.prog X.w X.K X.mg X.base k C "__len__" sp) (hx : Passes (L2.CX X.prog X.w) X E) (hr : Room j X.A) (hk : k + 1 ≤ j) : CallR X (.builtin "len") (rLenOwn C sp E) := by
  intro pins s σ H xs us Q I r h
  obtain ⟨a, dx, fs, rfl, ha, q⟩ := h
  obtain ⟨u, rfl, ru⟩ := r.one
  cases (show u = Value.ref a from ru)
  obtain ⟨_, _, J⟩ := ins_at I ha
  have hr1 : Room k X.A.in1 := Room.in1 (hr.mono hk)
  obtain ⟨g, hm, w⟩ := run_metA (us := [.ref a]) (vs := [.ref a]) M hx hr1 I.env0.in1 I (.cons rfl .nil) q
  refine Ow.len_own I.kIn J hm.at_ hm.fn (wpAny_mono w (fun v s' z => ?_) fun _ _ x => x)
  obtain ⟨z', H', I', rz, n, rfl, h0, h1, qz⟩ := z
  obtain ⟨t, rfl⟩ := rz
  exact ⟨n, t, rfl, h0, h1, fun t' tk => ⟨.int n, H', I'.tok tk, ⟨t', rfl⟩, qz⟩⟩
end
/-! ### a static method by keywords -/
section
variable {X : Cx} {CX : CXT} {C p g : Addr} {k : Nat} {fd : FuncData} {ps ks : List Str} {sp : Sp} {E : XK} {o : Expr} {kws : List Keyword} {m : Str} {pos apos : Pos} {ta : TE} {tkw : TA} {gU : List Value → List Value → List Value} {gV : List V → List V → List V} {pl : Sem Bool}
theorem pe_staticK (he : PE X o ta) (c : SMet X.K C m p g) (F : FnOk X.prog X.w X.K X.mg X.base CX k g fd ps sp) (hr : Room k X.A) (hb : KBn X.K fd ps 0 ks gU gV) (hx : Passes CX X E) (hkw : PK X kws tkw)
    (hall : (backToKw pos (keywordEach kws X.env)).all (·.1.isSome) = true := by rfl) (hks : (backToKw pos (keywordEach kws X.env)).filterMap (·.1) = ks := by rfl)
    (hpl : ((backTo pos (starEach [] X.env)).any (·.1) || (backToKw pos (keywordEach kws X.env)).any (·.1.isNone)) = false := by rfl)
    (ht : eval (.Call (.Attribute o m apos) [] kws pos) X.env = (do
      let ov ← eval o X.env
      standAt apos.atName
      let (f, first) ← holding [ov] (getMethod ov m pl)
      callWith pos f first (backTo pos (starEach [] X.env)) (backToKw pos (keywordEach kws X.env))) := by rfl) :
    PE X (.Call (.Attribute o m apos) [] kws pos) (fun σ H Q => ta σ H fun x H1 => x = .ref C ∧ tkw σ H1 fun zs H2 => zs.length = ks.length ∧ sp (gV [] zs) H2 Q E) := by
  refine ⟨fun pins s σ H Q I h => ?_⟩
  refine PySem.W.methodCall_KW (pl := pl) (thn (he.run pins s σ H _ I h) fun u s1 ⟨x, H1, I1, rx, ex, q⟩ => ?_) ht
  subst ex
  obtain rfl : u = Value.ref C := rx
  obtain ⟨mc, h1, h2, h3⟩ := c.mc
  obtain ⟨rest, h4⟩ := c.rc
  obtain ⟨fm, hF⟩ := I1.fr
  refine PySem.W.method_cls I1.kIn c.ga (PySem.W.cls_sm hF I1.ok.mod.kin h1 h2 h3 h4 rfl ?_)
  have I2 : Inv X pins σ H1 { s1 with toks := s1.toks + 1 } := I1.tok _
  refine PySem.W.callWith_KW0 (h₀ := X.base) I2.ok.mod.kin c.kp hall ?_ hpl
  refine thn (hkw.run pos pins _ σ H1 _ I2 q) fun ws s2 ⟨zs, H2, I3, rz, l2, q2⟩ => ⟨I3.kIn, ?_⟩
  rw [hks]
  exact run_fnN (us := []) (vs := []) F hr hb hx I3 .nil rz rfl l2 q2
end

end Lw
namespace Lw
open PySem PySem.Spec PyProof.Rows L2

/-! ### try: body / except X as n: suite, the caught exception held behind the suite -/
/-- an exception's object: its class, its dict -/
def ExO (a : Addr) (cls : Value) (d : Option Addr) : HO := .ext fun h => ∃ o, h.get? a = some o ∧ Zc cls d o ∧ ∃ vs, o.data = .fields vs
section
variable {X : Cx} {pins : List (Addr × Obj)} {σ : L2.St} {H : Hp} {s : Shared}
/-- a pinned object is tracked from now on -/
theorem promote {a : Addr} {o : Obj} {cls : Value} {d : Option Addr} (I : Inv X ((a, o) :: pins) σ H s) (hz : Zc cls d o) (hf : ∃ vs, o.data = .fields vs) (new : X.s_0.heap.get? a = none) (apart : ∀ p ∈ X.pn ++ pins, p.1 ≠ a) : Inv X pins σ (upd H a (ExO a cls d)) s := by
  obtain ⟨ha, na, nL, nF, nC⟩ := I.pin (a, o) (List.mem_append_right _ List.mem_cons_self)
  have here : ∀ b, b ≠ a → upd H a (ExO a cls d) b = H b := fun b n => upd_ne n
  have known : ∀ b u, H b = some u → b ≠ a := fun b u e z => by rw [z, na] at e; cases e
  have old : ∀ b u, X.s_0.heap.get? b = some u → b ≠ a := fun b u e z => by rw [z, new] at e; cases e
  refine ⟨I.ok, I.os, I.bare, ⟨I.base.keep, I.base.slot, fun b u e n hx => ?_, I.base.there, fun b xs e => ?_, fun b u v e => ?_, fun b ps e => ?_⟩, I.loc, I.cell, ?_, fun y c e => ?_, fun p hp => ?_, fun b u e => ?_, I.len⟩
  · rw [here b (old b u e)]
    exact I.base.free b u e n hx
  · have z := I.base.tups b xs e
    rw [here b (known b _ z)]
    exact z
  · have z := I.base.frzs b u v e
    rw [here b (known b _ z)]
    exact z
  · obtain ⟨more, z⟩ := I.base.tbls b ps e
    exact ⟨more, by rw [here b (known b _ z)]; exact z⟩
  · rw [here _ nL.symm]
    exact I.free
  · have ne : c ≠ a := fun z => by
      obtain ⟨v, oc, hoc, hdc⟩ := I.cell y c e
      rw [z, ha] at hoc
      cases hoc
      exact nC v hdc
    rw [here c ne]
    exact I.freeC y c e
  · have hp2 : p ∈ X.pn ++ ((a, o) :: pins) := by
      rcases List.mem_append.mp hp with h | h
      · exact List.mem_append_left _ h
      · exact List.mem_append_right _ (List.mem_cons_of_mem _ h)
    obtain ⟨e1, e2, e3⟩ := I.pin p hp2
    exact ⟨e1, by rw [here _ (apart p hp)]; exact e2, e3⟩
  · by_cases q : b = a
    · subst q
      rw [upd_same] at e
      cases e
      refine ⟨⟨o, ha, hz, hf⟩, ⟨o, ha⟩, ?_⟩
      rintro h1 h2 ⟨u, e1, e2⟩ st
      exact ⟨u, st u e1, e2⟩
    · rw [here b q] at e
      exact (I.hok b u e).stay (fun _ _ _ z => z) (fun c z => by rw [here c (known c _ z)]; exact z) fun c xs z => by rw [here c (known c _ z)]; exact z
end
end Lw
namespace Lw
open PySem PySem.Spec PyProof.Rows L2

/-- what the body's exceptions must be: of the class that is named; the suite ends plainly, and the exception stays known behind it -/
def wHeld (K : PySem.W.Frag) (c : Value) (i n : Nat) (ts : Addr → Value → Option Addr → TS) (D : Ends) : WX := fun cls d σ H => σ.length = n →
  PySem.W.exmOne K cls c = some true ∧ ∀ a, H a = none → ts a cls d { nx := fun σ' H' => H' a = none → D.nx (σ'.set i none) (upd H' a (ExO a cls d)), rt := fun _ _ => False, bk := fun _ _ => False, ct := fun _ _ => False } (σ.set i (some (.ref a))) H
section
variable {X : Cx} {x n : Str} {c : Value} {i : Nat} {body suite : List Stmt} {b₀ : Stmt} {np pos pos' : Pos} {tb : WX → TS} {ts : Addr → Value → Option Addr → TS}
theorem ps_try_held (stk : X.stack = X.env :: X.outer) (frm : X.env.frame = some X.env.locals) (hN : X.N.Nodup) (hi : X.N[i]? = some n) (loc : X.env.kindOf n = some .local) (nm : Names X x c) (noex : X.ex = [])
    (hb : ∀ (W : WX) (pn : List (Addr × Obj)) (xe : Value → Shared → Prop), Takes (X.tr pn xe) W → PassesOwn (model X.prog X.w) X.A X.env xe → PSs (X.tr pn xe) body (tb W))
    (hsu : ∀ (a : Addr) (oe : Obj) (cls : Value) (d : Option Addr) (pn : List (Addr × Obj)), Zc cls d oe → (∃ vs, oe.data = .fields vs) → PSs (X.suite a ((a, oe) :: pn)) (b₀ :: suite) (ts a cls d)) :
    PS X (.Try body [.ExceptHandler (some (.Name x np)) (some n) (b₀ :: suite) pos'] [] [] pos) (fun D σ H => tb (wHeld X.K c i X.N.length ts D) D σ H) := by
  refine ⟨fun pins s σ H D I h => ?_⟩
  have ok := I.ok
  have frames : X.A.frames = some (X.env :: X.outer) := by rw [ok.frames, stk]
  refine wpAny_Try_except ?_
  refine wpAny_mono ((hb (wHeld X.K c i X.N.length ts D) (X.pn ++ pins) (fun e s₁ => wpAny (model X.prog X.w) X.A (noteFrame e X.env) (fun _ s₂ => wpAny (model X.prog X.w) X.A (setFlight e none) (fun _ s₃ =>
    wpAny (model X.prog X.w) X.A (handleBy e X.env [.ExceptHandler (some (.Name x np)) (some n) (b₀ :: suite) pos']) (SP X pins D) X.xe s₃) X.xe s₂) X.xe s₁) (fun u s' air => ?_) PassesOwn.looking).run [] s σ H D (I.toTry _) h) (fun f s1 q => ?_) (fun e s1 q => q)
  · obtain ⟨a, B, sI, pins', σ', H', cls, d, rfl, JT, nb, up, sky, na, os, ag, hw⟩ := air
    have J : Inv X pins σ' H' sI := JT.ofTry ok
    obtain ⟨ours, go⟩ := hw J.len
    rw [stk] at sky
    show wpAny (model X.prog X.w) X.A (noteFrame (.ref a) X.env) _ _ _
    refine Sky.land Zc.steady frames frm sky fun hA flA upA => ?_
    have JA : Inv X pins σ' H' { s' with heap := hA } := J.landed nb flA.1 (up.trans upA) os ag
    obtain ⟨oA, vsA, eA, zA, dA⟩ := flA.there
    -- the exception's object is no frame, and it is new
    have noFrame : a ∉ frs (X.env :: X.outer) := fun hm => by
      obtain ⟨_, o', e', hnf⟩ := flA.2.2.1.mem hm
      rw [eA] at e'
      cases e'
      exact hnf _ dA
    have nL : a ≠ X.env.locals := fun z => noFrame (List.mem_filterMap.mpr ⟨X.env, List.mem_cons_self, by rw [frm, z]⟩)
    have nF : a ∉ X.fs := fun hm => by
      obtain ⟨e, he, q⟩ := List.mem_filterMap.mp hm
      exact noFrame (List.mem_filterMap.mpr ⟨e, List.mem_cons_of_mem _ he, q⟩)
    have nB : B.get? a = none := flA.2.1
    have ground : ∀ b o, sI.heap.get? b = some o → b ≠ a := fun b o e z => by
      rw [z] at e
      have k := nb a o e (by rw [stk]; exact noFrame)
      rw [nB] at k
      cases k
    have fresh : X.s_0.heap.get? a = none := by
      cases e : X.s_0.heap.get? a with
      | none => rfl
      | some o =>
        obtain ⟨o', e'⟩ := J.base.there a o e (by rw [noex]; simp)
        exact absurd rfl (ground a o' e')
    have apart : ∀ p ∈ X.pn ++ pins, p.1 ≠ a := fun p hp => ground p.1 p.2 (J.pin p hp).1
    refine wpAny_handleBy_cons (codeAny_handlers_test ?_) (by intro q; cases q)
    have LT : PySem.W.Looks (model X.prog X.w) hA (typeOf (.ref a)) cls := fun A Q E s k q => wpAny_typeOf_ref (k _ _ eA) (by rw [zA.1]; exact q)
    have LM := PySem.W.exm_one (M := model X.prog X.w) JA.kIn LT ours
    have SA := JA.suite eA dA na nL nF
    have look : ∀ {Q : Value → Shared → Prop} {E : Value → Shared → Prop}, Q c { s' with heap := hA } → wpAny (model X.prog X.w) (X.A.mark (some (.ref a))) (eval (.Name x np) X.env) Q E { s' with heap := hA } := fun {Q E} q => by
      rcases nm with ⟨g1, g2, g3 | ⟨g3, g4, g5⟩⟩
      · exact ld_glob (X := X.suite a ((a, oA) :: (X.pn ++ pins))) SA g1 g3 q g2
      · exact ld_blt (X := X.suite a ((a, oA) :: (X.pn ++ pins))) SA g1 g3 g4 q g5 g2
    refine look (LM.here ?_)
    refine codeAny_handlers_suite_as ?_
    refine HandSPX.lands_againZ flA fun hB flB upB => ?_
    have JB : Inv X pins σ' H' { s' with heap := hB } := J.landed nb flB.1 ((up.trans upA).trans upB) os ag
    obtain ⟨oB, vsB, eB, zB, dB⟩ := flB.there
    refine store_ok (X := X.suite a ((a, oB) :: (X.pn ++ pins))) (v := .ref a) (JB.suite eB dB na nL nF) hN hi (.inl loc) rfl (fun s5 S5 => ?_) (.inr loc)
    refine wpAny_mono ((hsu a oB cls d (X.pn ++ pins) zB ⟨_, dB⟩).run [] s5 _ H' _ S5 (go a na)) (fun f s6 q => ?_) (fun _ _ z => False.elim z)
    cases f with
    | next =>
      obtain ⟨σ6, H6, S6, q6⟩ := q
      have held : Inv X ((a, oB) :: pins) σ6 H6 s6 := ⟨ok, S6.os, S6.bare, S6.base, S6.loc, S6.cell, S6.free, S6.freeC, fun p hp => by
        refine S6.pin p (List.mem_append_left _ ?_)
        show p ∈ (a, oB) :: (X.pn ++ pins)
        rcases List.mem_append.mp hp with h | h
        · exact List.mem_cons_of_mem _ (List.mem_append_left _ h)
        · rcases List.mem_cons.mp h with h | h
          · rw [h]; exact List.mem_cons_self
          · exact List.mem_cons_of_mem _ (List.mem_append_right _ h), S6.hok, S6.len⟩
      refine gone_ok held hN hi loc fun s7 I7 => ?_
      exact ⟨_, _, promote I7 zB ⟨_, dB⟩ fresh apart, q6 (I7.pin (a, oB) (List.mem_append_right _ List.mem_cons_self)).2.1⟩
    | brk =>
      obtain ⟨_, _, _, z⟩ := q
      exact z.elim
    | cont =>
      obtain ⟨_, _, _, z⟩ := q
      exact z.elim
    | ret u =>
      obtain ⟨_, _, _, _, _, z⟩ := q
      exact z.elim
  · cases f with
    | next =>
      obtain ⟨σ1, H1, I1, q1⟩ := q
      exact wpAny_execs_nil ⟨σ1, H1, I1.ofTry ok, q1⟩
    | brk =>
      obtain ⟨σ1, H1, I1, q1⟩ := q
      exact ⟨σ1, H1, I1.ofTry ok, q1⟩
    | cont =>
      obtain ⟨σ1, H1, I1, q1⟩ := q
      exact ⟨σ1, H1, I1.ofTry ok, q1⟩
    | ret u =>
      obtain ⟨v1, σ1, H1, I1, r1, q1⟩ := q
      exact ⟨v1, σ1, H1, I1.ofTry ok, r1, q1⟩
end
end Lw
namespace Lw
open PySem PySem.Spec PyProof.Rows L2

section
variable {X : Cx} {pins : List (Addr × Obj)} {σ : L2.St} {H : Hp} {s : Shared}
theorem held_at {a : Addr} {cls : Value} {d : Option Addr} (I : Inv X pins σ H s) (h : H a = some (ExO a cls d)) : ∃ o vs, s.heap.get? a = some o ∧ o.cls = cls ∧ o.dict = d ∧ o.data = .fields vs := by
  obtain ⟨⟨o, h1, h2, vs, h3⟩, _⟩ := (show ObjOk X.prog X.w H s.heap a (ExO a cls d) from I.hok a _ h)
  exact ⟨o, vs, h1, h2.1, h2.2, h3⟩
/-- the exception as an instance, its attributes known -/
theorem held_inst {a C dd : Addr} {fs : List (Str × V)} (I : Inv X pins σ H s) (h : H a = some (ExO a (.ref C) (some dd))) (hd : H dd = some (.xd fs)) : ∃ o od, PySem.W.InstAt s.heap a o C (some od) ∧ ∀ f v, fs.lookup f = some v → ∃ u, PySem.W.lookIn f od = some (some u) ∧ RelV v u := by
  obtain ⟨o, vs, h1, h2, h3, h4⟩ := held_at I h
  obtain ⟨mA, hns, hr⟩ := (show ObjOk X.prog X.w H s.heap dd (.xd fs) from I.hok dd _ hd)
  obtain ⟨od, ho, hl⟩ := lookIn_ns hns
  refine ⟨o, od, ⟨h1, h2, by unfold PySem.W.notCls; rw [h4] <;> rfl, by rw [h3]; exact ho⟩, fun f v e => ?_⟩
  obtain ⟨u, hu, ru⟩ := RelO.some_of (v := v) (o := mA f) (by rw [← e]; exact hr f)
  exact ⟨u, by rw [hl, hu], ru⟩
/-- e.f of an exception that is held -/
def tHeld (C : Addr) (f : Str) (te : TE) : TE := fun σ H Q => te σ H fun x H1 => ∃ (a dd : Addr) (fs : List (Str × V)) (v : V), x = .ref a ∧ H1 a = some (ExO a (.ref C) (some dd)) ∧ H1 dd = some (.xd fs) ∧ fs.lookup f = some v ∧ Q v H1
theorem pe_held {C : Addr} {e : Expr} {te : TE} {pos : Pos} {f : Str} (T : XfC X.K C) (hno : PySem.W.findIn X.K (.ref C) f = some none) (he : PE X e te) (hb : attributeBase e f X.env (eval e X.env) = eval e X.env := by rfl) : PE X (.Attribute e f pos) (tHeld C f te) := by
  refine ⟨fun pins s σ H Q I q => attr_of hb (thn (he.run pins s σ H _ I q) fun u s1 got => ?_)⟩
  obtain ⟨x, H1, I1, rx, a, dd, fs, v, rfl, ha, hd, hl, q⟩ := got
  obtain rfl : u = Value.ref a := rx
  obtain ⟨o, od, J, fld⟩ := held_inst I1 ha hd
  obtain ⟨u, hu, ru⟩ := fld f v hl
  exact HandSPX.exc_get I1.kIn J T.ga T.gg T.exC (PySem.W.findObj_own T.hdC hno rfl hu) (handed_of ru) ⟨v, H1, I1.tok _, ru, q⟩
end
end Lw
namespace Lw.Hx
open PySem PySem.Spec PySem.Calls PyProof.Rows PySem.W

/-! ### isinstance of an exception that has attributes -/
/-- what isinstance asks of the exception's class -/
structure XCls (K : Frag) (D : Addr) : Prop where
  ga : findIn K (.ref D) "__getattribute__" = some (some (.builtin "BaseException.__getattribute__"))
  gt : findIn K (.ref D) "__getattr__" = some none
  sub : subIn K (.ref D) (.type "BaseException") = some true
  dct : hasDictIn K D = true
  ca : findIn K (.ref D) "__class__" = some (some (.builtin "object.__class__"))
  cn : specialIn K (.builtin "object.__class__") "__get__" = some (some (.builtin "getset_descriptor.__get__"))
  ct : takesIn K (.builtin "object.__class__") = some true
  cm : mroIn K D (.type "object") = some true
section
variable {prog : Program} {w : World} {A : Around} {E : Value → Shared → Prop} {s : Shared} {K : Frag} {x D : Addr} {ox : Obj} {od : Option Obj}
theorem finds (c : XCls K D) : findObj K D od "__class__" = some (.bind (.builtin "getset_descriptor.__get__") (.builtin "object.__class__")) := by
  obtain ⟨cd, hc, _⟩ := any_some c.dct
  unfold findObj
  rw [hc, Option.bind_some, c.ca, Option.bind_some]
  simp only [c.cn, c.ct, Option.bind_some]
theorem class_of (c : XCls K D) {Q : Option Value → Shared → Prop} (X : K.In s.heap) (I : InstAt s.heap x ox D od) (h : Q (some (.ref D)) { s with toks := s.toks + 1 }) : wpAny (model prog w) A (getAttr? (.ref x) "__class__") Q E s := by
  have found := finds (od := od) c
  obtain ⟨hp, gs, dr, tk, os⟩ := s
  have kind := I.type (M := model prog w)
  have asks := looks_findIn (M := model prog w) X c.ga
  have more := looks_findIn (M := model prog w) X c.gt
  have seen := looks_find (M := model prog w) X I found
  have under : Looks (model prog w) hp (isInstance (.ref x) (.type "BaseException")) true := kind.andThen (looks_subIn X c.sub)
  have n2 : (Value.builtin "BaseException.__getattribute__" == Value.builtin "object.__getattribute__") = false := by decide +kernel
  have n1 : (onTheHeap (Value.ref D) && Value.builtin "BaseException.__getattribute__" == Value.builtin "object.__getattribute__") = false := by rw [n2]; rfl
  unfold getAttr? getAttrBy? getAttrBy
  refine wpAny_bind (wpAny_mkText (wpAny_bind (wpAny_attempt (wpAny_holding (wpAny_bind (kind.at (wpAny_bind (asks.at ?_))))))))
  show wpAny _ _ (ite ((onTheHeap (Value.ref D) && Value.builtin "BaseException.__getattribute__" == Value.builtin "object.__getattribute__") = true) _ _) _ _ _
  rw [n1, if_neg (by decide)]
  unfold getAttrByItsOwn hookBefore
  refine wpAny_bind ?_
  rw [if_pos (show onTheHeap (.ref D) = true from rfl)]
  refine more.at (wpAny_bind (wpAny_attempt (wpAny_holding ?_)))
  unfold callGetattribute
  rw [if_neg (show ¬ (false && onTheHeap (Value.builtin "BaseException.__getattribute__")) = true from by decide)]
  unfold boundAndCalled
  rw [PySem.F.excAttr_ValueError.ga.bind (.ref x)]
  refine wpAny_bind (wpAny_pure ?_)
  show wpAny _ _ (call (.builtin "BaseException.__getattribute__") [.ref x, .str "__class__" tk]) _ _ _
  refine wpAny_call (codeAny_call_builtin PySem.F.excAttr_ValueError.ga.plain PySem.F.entry_bexc_ga ?_)
  refine @check_slot (model prog w) _ _ ⟨hp, gs, dr, tk + 1, os⟩ "BaseException.__getattribute__" "BaseException" "__getattribute__" (.ref x) [.str "__class__" tk] [] _ (by decide +kernel) (by decide +kernel) under (PySem.F.args_bexc_ga (.ref x) (.str "__class__" tk)) ?_
  unfold Builtin.«object.__getattribute__»
  refine wpAny_bind (wpAny_of_eq (a := ((Value.ref x : Value), [Value.str "__class__" tk])) (by first | rfl | (simp only [slotArgs] <;> rfl)) ?_)
  refine wpAny_bind (wpAny_pure (wpAny_bind (kind.at (wpAny_bind (seen.at ?_)))))
  show wpAny _ _ (holding [Value.builtin "object.__class__"] (call (.builtin "getset_descriptor.__get__") [.builtin "object.__class__", .ref x, .ref D]) >>= ret) _ _ _
  refine wpAny_bind (wpAny_holding (wpAny_call (class_get (s := ⟨hp, gs, dr, tk + 1, os⟩) X I c.cm ?_)))
  refine wpAny_pure ?_
  show wpAny _ _ (handedOut (.ref D)) _ _ _
  rw [handedOut_of (v := .ref D) rfl]
  first
    | exact wpAny_pure (wpAny_pure h)
    | exact wpAny_pure h
    | exact wpAny_pure (wpAny_bind (wpAny_pure (wpAny_pure h)))
theorem no_list (c : XCls K D) : ∃ o cd, K.lookup D = some o ∧ o.data = .cls cd := by
  obtain ⟨cd, hc, _⟩ := any_some c.dct
  unfold clsIn at hc
  split at hc
  · rename_i c' d' cd' sl' ho
    exact ⟨_, _, ho, rfl⟩
  · cases hc
theorem kitx_held (c : XCls K D) : KitX K (.ref x) (.ref D) (fun h => InstAt h x ox D od) where
  ty := fun _ _ _ I => I.type
  it := fun _ _ X _ => by
    obtain ⟨o, cd, ho, hd⟩ := no_list c
    intro A' Q' E' s' k q
    unfold isType loadHead
    refine wpAny_bind (wpAny_loadPart (k _ _ (X _ _ ho)) ?_)
    rw [hd]
    exact wpAny_pure q
  ne := fun h tp dd its n sl X htp => by
    refine Bool.eq_false_iff.mpr fun q => ?_
    have e : D = tp := Value.ref.inj (beq_iff_eq.mp q)
    obtain ⟨o, cd, ho, hd⟩ := no_list c
    have z := X _ _ ho
    rw [e, htp] at z
    cases z
    cases hd
  ca := fun X I k => class_of c X I k
end
end Lw.Hx
namespace Lw
open PySem PySem.Spec PyProof.Rows L2

/-- a value's kind: an exception's that is held, too -/
inductive TyW (K : PySem.W.Frag) (H : Hp) : V → Value → Prop where
  | z {v : V} {t : Value} (h : TyZ K H v t) : TyW K H v t
  | held {a D dd : Addr} {fs : List (Str × V)} (e : H a = some (ExO a (.ref D) (some dd))) (hd : H dd = some (.xd fs)) (c : Hx.XCls K D) : TyW K H (.ref a) (.ref D)
def rIsw (K : PySem.W.Frag) : List V → Hp → VK → Prop := fun xs H Q => ∃ (x c : V) (t u : Value) (b : Bool), xs = [x, c] ∧ ClsV c u ∧ TyW K H x t ∧ PySem.W.kitOne K t u = some b ∧ Q (.bl b) H
theorem call_isw {X : Cx} : CallR X (.builtin "isinstance") (rIsw X.K) := by
  intro pins s σ H xs us Q I r h
  obtain ⟨x, c, t, u, b, rfl, k, ty, e, q⟩ := h
  cases ty with
  | z ty => exact call_isz pins s σ H _ us Q I r ⟨x, c, t, u, b, rfl, k, ty, e, q⟩
  | @held a D dd fs ea hd cl =>
    obtain ⟨w1, w2, rfl, r1, r2⟩ := vals2 r
    obtain rfl := k.eq r2
    obtain rfl : w1 = Value.ref a := r1
    obtain ⟨o, od, J, _⟩ := held_inst I ea hd
    exact PySem.W.kia_one (Hx.kitx_held cl) I.kIn J e (fun z => by cases z) fun tk => ⟨.bl b, H, I.tok tk, rfl, q⟩
end Lw
namespace Lw
open PySem PySem.Spec PyProof.Rows L2
open LamX
/-! ### repr of any value of the drawn ones -/
theorem SqL.sames {K : PySem.W.Frag} {a : Addr} {H H' : Hp} {ys : List V} (s : Same H H') (h : SqL K H a ys) : SqL K H' a ys := by
  rcases h with (h | ⟨o, h⟩) | h
  · exact .inl (.inl (s _ _ h))
  · exact .inl (.inr ⟨o, s _ _ h⟩)
  · exact .inr h
theorem SqT.sames {K : PySem.W.Frag} {a : Addr} {H H' : Hp} {ys : List V} (s : Same H H') (h : SqT K H a ys) : SqT K H' a ys := by
  rcases h with (h | ⟨o, h⟩) | h
  · exact .inl (.inl (s _ _ h))
  · exact .inl (.inr ⟨o, s _ _ h⟩)
  · exact .inr h
mutual
theorem Dp.sames {K : PySem.W.Frag} {H H' : Hp} (s : Same H H') : ∀ {v : V} {d : PyData}, Dp K H v d → Dp K H' v d
  | _, _, .non => .non
  | _, _, .bl b => .bl b
  | _, _, .int i => .int i
  | _, _, .str x => .str x
  | _, _, .lst h hs => .lst (SqL.sames s h) (DpAll.sames s hs)
  | _, _, .tup h hs => .tup (SqT.sames s h) (DpAll.sames s hs)
theorem DpAll.sames {K : PySem.W.Frag} {H H' : Hp} (s : Same H H') : ∀ {vs : List V} {ds : List PyData}, DpAll K H vs ds → DpAll K H' vs ds
  | _, _, .nil => .nil
  | _, _, .cons h hs => .cons (Dp.sames s h) (DpAll.sames s hs)
end
inductive Rp (K : PySem.W.Frag) (H : Hp) : V → Str → Prop where
  | non : Rp K H .non "None"
  | bl (b : Bool) : Rp K H (.bl b) (if b then "True" else "False")
  | str (z : Str) (h : (reprText z).length ≤ sizeLine) : Rp K H (.str z) (reprText z)
  | int (i : Int) (h : i.natAbs.log2 < 1920) : Rp K H (.int i) (toString i)
  | data {a : Addr} {d : PyData} (h : Dp K H (.ref a) d) (h1 : d.showable = true) (h2 : d.hasDict = false) (h3 : d.depth ≤ 100) (h4 : d.shown.length ≤ sizeLine) : Rp K H (.ref a) d.shown
  | dnil {a : Addr} (h : H a = some (.dK [])) : Rp K H (.ref a) (PyData.dict []).shown
theorem Rp.same {K : PySem.W.Frag} {H H' : Hp} {v : V} {r : Str} (s : Same H H') (h : Rp K H v r) : Rp K H' v r := by
  cases h with
  | non => exact .non
  | bl b => exact .bl b
  | str z h => exact .str z h
  | int i h => exact .int i h
  | data h h1 h2 h3 h4 => exact .data (Lw.Dp.sames s h) h1 h2 h3 h4
  | dnil h => exact .dnil (s _ _ h)
def rRpx (K : PySem.W.Frag) : List V → Hp → VK → Prop := fun xs H Q => ∃ (v : V) (r : Str), xs = [v] ∧ Rp K H v r ∧ Q (.str r) H
section
variable {X : Cx}
theorem call_reprX (hG : X.A.guards = some []) (hr : Room 0 X.A) : CallR X (.builtin "repr") (rRpx X.K) := by
  intro pins s σ H xs us Q I r h
  obtain ⟨v, z, rfl, hv, q⟩ := h
  obtain ⟨u, rfl, ru⟩ := vals1 r
  have hun := hr.un
  cases hv with
  | non =>
    cases (show u = Value.none from ru)
    exact PySem.P.repr_of_none ⟨.str "None", H, I.tok _, ⟨_, rfl⟩, q⟩
  | int i h =>
    obtain ⟨t, rfl⟩ := (show ∃ t, u = Value.int i t from ru)
    exact PySem.P.repr_of_int h ⟨.str (toString i), H, I.tok _, ⟨_, rfl⟩, q⟩
  | bl b =>
    cases (show u = Value.bool b from ru)
    refine PySem.P.repr_of_bool ⟨.str (if b then "True" else "False"), H, I.tok _, ⟨_, rfl⟩, ?_⟩
    cases b <;> exact q
  | str z h =>
    obtain ⟨t, rfl⟩ := (show ∃ t, u = Value.str z t from ru)
    exact PySem.P.repr_of_str ⟨.str (reprText z), H, I.tok _, ⟨_, rfl⟩, q⟩ h
  | @data a d h h1 h2 h3 h4 =>
    cases (show u = Value.ref a from ru)
    obtain ⟨as, rd⟩ := Dp.reads I d _ _ h rfl
    exact repr_of_reads' rd h1 (fun z => by rw [h2] at z; cases z) hG (by omega) (fun _ _ e => e) (fun h' u' tk kp => ⟨.str d.shown, H, I.kept kp, ⟨u', rfl⟩, q⟩) h4
  | @dnil a h =>
    cases (show u = Value.ref a from ru)
    obtain ⟨_, hm, vs, kv, o, es, ep, ho, hx, hd, _, pr, _⟩ := dk_of I.hok h
    have e0 : vs = [] := by cases kv; rfl
    subst e0
    have e1 : es.toList = [] := by
      generalize es.toList = l at pr
      cases pr
      rfl
    have rd : Reads s.heap (.ref a) (.dict []) [a] := Reads.dict (as := []) (bs := []) ho hx.1 hd (by rw [e1]; exact .nil) (by rw [e1]; exact .nil)
    refine repr_of_reads' rd rfl (fun _ z => ?_) hG (by show _ + ((PyData.dict []).depth + 1) < cLine; have : (PyData.dict []).depth ≤ 1 := by decide
                                                        omega) (fun _ _ e => e) (fun h' u' tk kp => ⟨.str _, H, I.kept kp, ⟨u', rfl⟩, q⟩) (by decide)
    rw [List.mem_singleton] at z
    rw [← z] at hm
    simp at hm
end
end Lw
namespace Lw
open PySem PySem.Spec PyProof.Rows L2
open SX PySem.NumText TL LamX ClX
abbrev sHea : Stmt := top 48
/-- a caught error's class -/
structure HrdC (K : PySem.W.Frag) (D L : Addr) : Prop where
  xf : XfC K D
  xc : Hx.XCls K D
  me : PySem.W.kitOne K (.ref D) (.ref D) = some true
  ex : PySem.W.exmOne K (.ref D) (.ref L) = some true
structure Hrd (K : PySem.W.Frag) (mg : Str → Option Value) (DU DS DR DT DX DM L : Addr) : Prop where
  ml : mg "LateError" = some (.ref L)
  cDU : HrdC K DU L
  mDU : mg "BadRule" = some (.ref DU)
  nDU_part : PySem.W.findIn K (.ref DU) "part" = some none
  kDU_DS : PySem.W.kitOne K (.ref DU) (.ref DS) = some false
  kDU_DR : PySem.W.kitOne K (.ref DU) (.ref DR) = some false
  kDU_DT : PySem.W.kitOne K (.ref DU) (.ref DT) = some false
  kDU_DX : PySem.W.kitOne K (.ref DU) (.ref DX) = some false
  kDU_DM : PySem.W.kitOne K (.ref DU) (.ref DM) = some false
  cDS : HrdC K DS L
  mDS : mg "BadSize" = some (.ref DS)
  nDS_value : PySem.W.findIn K (.ref DS) "value" = some none
  kDS_DU : PySem.W.kitOne K (.ref DS) (.ref DU) = some false
  kDS_DR : PySem.W.kitOne K (.ref DS) (.ref DR) = some false
  kDS_DT : PySem.W.kitOne K (.ref DS) (.ref DT) = some false
  kDS_DX : PySem.W.kitOne K (.ref DS) (.ref DX) = some false
  kDS_DM : PySem.W.kitOne K (.ref DS) (.ref DM) = some false
  cDR : HrdC K DR L
  mDR : mg "BadRest" = some (.ref DR)
  nDR_value : PySem.W.findIn K (.ref DR) "value" = some none
  kDR_DU : PySem.W.kitOne K (.ref DR) (.ref DU) = some false
  kDR_DS : PySem.W.kitOne K (.ref DR) (.ref DS) = some false
  kDR_DT : PySem.W.kitOne K (.ref DR) (.ref DT) = some false
  kDR_DX : PySem.W.kitOne K (.ref DR) (.ref DX) = some false
  kDR_DM : PySem.W.kitOne K (.ref DR) (.ref DM) = some false
  cDT : HrdC K DT L
  mDT : mg "BadTotal" = some (.ref DT)
  nDT_value : PySem.W.findIn K (.ref DT) "value" = some none
  kDT_DU : PySem.W.kitOne K (.ref DT) (.ref DU) = some false
  kDT_DS : PySem.W.kitOne K (.ref DT) (.ref DS) = some false
  kDT_DR : PySem.W.kitOne K (.ref DT) (.ref DR) = some false
  kDT_DX : PySem.W.kitOne K (.ref DT) (.ref DX) = some false
  kDT_DM : PySem.W.kitOne K (.ref DT) (.ref DM) = some false
  cDX : HrdC K DX L
  mDX : mg "BadText" = some (.ref DX)
  nDX_line : PySem.W.findIn K (.ref DX) "line" = some none
  nDX_word : PySem.W.findIn K (.ref DX) "word" = some none
  kDX_DU : PySem.W.kitOne K (.ref DX) (.ref DU) = some false
  kDX_DS : PySem.W.kitOne K (.ref DX) (.ref DS) = some false
  kDX_DR : PySem.W.kitOne K (.ref DX) (.ref DR) = some false
  kDX_DT : PySem.W.kitOne K (.ref DX) (.ref DT) = some false
  kDX_DM : PySem.W.kitOne K (.ref DX) (.ref DM) = some false
  cDM : HrdC K DM L
  mDM : mg "TooMany" = some (.ref DM)
  nDM_what : PySem.W.findIn K (.ref DM) "what" = some none
  nDM_most : PySem.W.findIn K (.ref DM) "most" = some none
  kDM_DU : PySem.W.kitOne K (.ref DM) (.ref DU) = some false
  kDM_DS : PySem.W.kitOne K (.ref DM) (.ref DS) = some false
  kDM_DR : PySem.W.kitOne K (.ref DM) (.ref DR) = some false
  kDM_DT : PySem.W.kitOne K (.ref DM) (.ref DT) = some false
  kDM_DX : PySem.W.kitOne K (.ref DM) (.ref DX) = some false
/-- what is heard of an exception -/
def HeardX (K : PySem.W.Frag) (DU DS DR DT DX DM : Addr) (Q : VK) (cls : Value) (d : Option Addr) (H1 : Hp) : Prop :=
  (cls = .ref DU ∧ ∃ (dd : Addr) (fs : List (Str × V)) (v0 : V) , d = some dd ∧ H1 dd = some (.xd fs) ∧ fs.lookup ("part" : Str) = some v0 ∧ ∀ t H3, Same H1 H3 → H1 t = none → H3 t = some (.tup [.str (Str.ofString "rule"), v0]) → Q (.ref t) H3) ∨
  (cls = .ref DS ∧ ∃ (dd : Addr) (fs : List (Str × V)) (v0 : V) (z0 : Str), d = some dd ∧ H1 dd = some (.xd fs) ∧ fs.lookup ("value" : Str) = some v0 ∧ Rp K H1 v0 z0 ∧ ∀ t H3, Same H1 H3 → H1 t = none → H3 t = some (.tup [.str (Str.ofString "size"), .str z0]) → Q (.ref t) H3) ∨
  (cls = .ref DR ∧ ∃ (dd : Addr) (fs : List (Str × V)) (v0 : V) (z0 : Str), d = some dd ∧ H1 dd = some (.xd fs) ∧ fs.lookup ("value" : Str) = some v0 ∧ Rp K H1 v0 z0 ∧ ∀ t H3, Same H1 H3 → H1 t = none → H3 t = some (.tup [.str (Str.ofString "rest"), .str z0]) → Q (.ref t) H3) ∨
  (cls = .ref DT ∧ ∃ (dd : Addr) (fs : List (Str × V)) (v0 : V) (z0 : Str), d = some dd ∧ H1 dd = some (.xd fs) ∧ fs.lookup ("value" : Str) = some v0 ∧ Rp K H1 v0 z0 ∧ ∀ t H3, Same H1 H3 → H1 t = none → H3 t = some (.tup [.str (Str.ofString "total"), .str z0]) → Q (.ref t) H3) ∨
  (cls = .ref DX ∧ ∃ (dd : Addr) (fs : List (Str × V)) (v0 : V) (v1 : V) , d = some dd ∧ H1 dd = some (.xd fs) ∧ fs.lookup ("line" : Str) = some v0 ∧ fs.lookup ("word" : Str) = some v1 ∧ ∀ t H3, Same H1 H3 → H1 t = none → H3 t = some (.tup [.str (Str.ofString "text"), v0, v1]) → Q (.ref t) H3) ∨
  (cls = .ref DM ∧ ∃ (dd : Addr) (fs : List (Str × V)) (v0 : V) (v1 : V) , d = some dd ∧ H1 dd = some (.xd fs) ∧ fs.lookup ("what" : Str) = some v0 ∧ fs.lookup ("most" : Str) = some v1 ∧ ∀ t H3, Same H1 H3 → H1 t = none → H3 t = some (.tup [.str (Str.ofString "many"), v0, v1]) → Q (.ref t) H3)
def HeardV (Q : VK) (x : V) (H1 : Hp) : Prop := ∀ t H3, Same H1 H3 → H1 t = none → H3 t = some (.lst [x]) → Q (.ref t) H3
def TTheard (K : PySem.W.Frag) (DU DS DR DT DX DM : Addr) : (XK → Hp → VK → Prop) → Hp → VK → Prop := fun tl H Q => ∀ H2, Same H H2 → tl (HeardX K DU DS DR DT DX DM Q) H2 (HeardV Q)
abbrev NHea : List Str := ["_law_ask", "_law_caught", "error"]
theorem scHea : FnScope NHea ["_law_ask"] (C8.fnScope sHea) := C8.fnScope_by (by decide +kernel)
theorem pe_weak {X : Cx} {e : Expr} {te : TE} (he : PE X e te) : PE X e (fun σ H Q => ∃ Qx : VK, te σ H Qx ∧ ∀ x H1, Qx x H1 → Q x H1) :=
  ⟨fun pins s σ H Q I ⟨Qx, h, m⟩ => wpAny_mono (he.run pins s σ H Qx I h) (fun v s' ⟨x, H', I', r, q⟩ => ⟨x, H', I', r, m _ _ q⟩) (fun _ _ e => e)⟩
theorem heard_gives {X : Cx} {q : Str} {g DU DS DR DT DX DM L : Addr} {cdg : Value} (R : Hrd X.K X.mg DU DS DR DT DX DM L) (T : Txt X.mg) (hG : X.A.guards = some []) (hr0 : Room 1 X.A) :
    GivesTo X NHea "_law_heard" (C8.fnScope sHea) g cdg (C8.fnBody sHea) "_law_ask" q (TTheard X.K DU DS DR DT DX DM) := by
  intro f c' s H Q tl act hc h
  have hr : Room 0 (cxOf C8.CX0 X.prog X.w X.K X.mg X.base NHea "_law_heard" (C8.fnScope sHea) g cdg X.A X.stack s H C8.E0).nox.A := hr0.deeper _
  have hG' : (cxOf C8.CX0 X.prog X.w X.K X.mg X.base NHea "_law_heard" (C8.fnScope sHea) g cdg X.A X.stack s H C8.E0).nox.A.guards = some [] := hG
  refine ⟨_, pss_cons (ps_set (i := 1) scHea.nd rfl (Or.inl rfl) pe_non)
    (pss_cons (ps_try_held (X := (cxOf C8.CX0 X.prog X.w X.K X.mg X.base NHea "_law_heard" (C8.fnScope sHea) g cdg X.A X.stack s H C8.E0).nox) (c := .ref L) (i := 2)
      (tb := fun W Dn σ H => ∃ Ech : XK, (∀ cls d σ' H', Ech cls d H' → W cls d σ' H') ∧ σ[0]? = some (some (.ref f)) ∧ H c' = some (CodeO c' q) ∧ ∃ Qx : VK, tl Ech H Qx ∧ ∀ x H1, Qx x H1 → ∀ p, H1 p = none → Dn.rt (.ref p) (upd H1 p (.lst [x])))
      rfl rfl scHea.nd rfl (by rfl) ⟨by rfl, by decide, .inl R.ml⟩ rfl (fun W pn xe tk _ => ?_) (fun a oe cls d pn _ _ => pss_one (ps_set (i := 1) scHea.nd rfl (Or.inl rfl) (pv 2))))
    (pss_cons (ps_if (pt_val (pe_callB call_isw (by rfl) T.n_isinstance (by decide +kernel) (pa_cons (pv 1) (pa_cons (pe_glob (v := .ref DU) (by rfl) R.mDU rfl) pa_nil)))) (pss_one (ps_ret (pe_tup (pa_cons pe_str (pa_cons (pe_held R.cDU.xf R.nDU_part (pv 1)) pa_nil))))) pss_nil)
    (pss_cons (ps_if (pt_val (pe_callB call_isw (by rfl) T.n_isinstance (by decide +kernel) (pa_cons (pv 1) (pa_cons (pe_glob (v := .ref DS) (by rfl) R.mDS rfl) pa_nil)))) (pss_one (ps_ret (pe_tup (pa_cons pe_str (pa_cons (pe_callB (call_reprX hG' hr) (by rfl) T.n_repr (by decide +kernel) (pa_cons (pe_held R.cDS.xf R.nDS_value (pv 1)) pa_nil)) pa_nil))))) pss_nil)
    (pss_cons (ps_if (pt_val (pe_callB call_isw (by rfl) T.n_isinstance (by decide +kernel) (pa_cons (pv 1) (pa_cons (pe_glob (v := .ref DR) (by rfl) R.mDR rfl) pa_nil)))) (pss_one (ps_ret (pe_tup (pa_cons pe_str (pa_cons (pe_callB (call_reprX hG' hr) (by rfl) T.n_repr (by decide +kernel) (pa_cons (pe_held R.cDR.xf R.nDR_value (pv 1)) pa_nil)) pa_nil))))) pss_nil)
    (pss_cons (ps_if (pt_val (pe_callB call_isw (by rfl) T.n_isinstance (by decide +kernel) (pa_cons (pv 1) (pa_cons (pe_glob (v := .ref DT) (by rfl) R.mDT rfl) pa_nil)))) (pss_one (ps_ret (pe_tup (pa_cons pe_str (pa_cons (pe_callB (call_reprX hG' hr) (by rfl) T.n_repr (by decide +kernel) (pa_cons (pe_held R.cDT.xf R.nDT_value (pv 1)) pa_nil)) pa_nil))))) pss_nil)
    (pss_cons (ps_if (pt_val (pe_callB call_isw (by rfl) T.n_isinstance (by decide +kernel) (pa_cons (pv 1) (pa_cons (pe_glob (v := .ref DX) (by rfl) R.mDX rfl) pa_nil)))) (pss_one (ps_ret (pe_tup (pa_cons pe_str (pa_cons (pe_held R.cDX.xf R.nDX_line (pv 1)) (pa_cons (pe_held R.cDX.xf R.nDX_word (pv 1)) pa_nil)))))) pss_nil)
    (pss_one (ps_ret (pe_ifExp (pt_val (pe_callB call_isw (by rfl) T.n_isinstance (by decide +kernel) (pa_cons (pv 1) (pa_cons (pe_glob (v := .ref DM) (by rfl) R.mDM rfl) pa_nil)))) (pe_tup (pa_cons pe_str (pa_cons (pe_held R.cDM.xf R.nDM_what (pv 1)) (pa_cons (pe_held R.cDM.xf R.nDM_most (pv 1)) pa_nil)))) (pe_tup (pa_cons pe_str pa_nil))))))))))), ?_⟩
  · refine ⟨fun pins s' σ H' Dn I h' => ?_⟩
    obtain ⟨Ech, hW, h1, h2, h3⟩ := h'
    obtain ⟨Qx, h3, h4⟩ := h3
    refine PSs.run (t := tRet (tLst (tCons (fun σ H Q => ∃ Qx : VK, (fun σZ HZ Q => σZ[0]? = some (some (V.ref f)) ∧ HZ c' = some (CodeO c' q) ∧ tl Ech HZ Q) σ H Qx ∧ ∀ x H1, Qx x H1 → Q x H1) tNil))) ?hp pins s' σ H' Dn I ⟨Qx, ⟨h1, h2, h3⟩, fun x H1 q => ⟨(by show 1 ≤ sizeLine; decide), fun p hp => h4 x H1 q p hp⟩⟩
    case hp => exact pss_one (ps_ret (pe_lst (pa_cons (pe_weak (act W pn xe Ech _ _ tk hW)) pa_nil)))
  · have h0 := h _ (Same.refl H)
    refine ⟨HeardX X.K DU DS DR DT DX DM Q, fun cls d σ' H' z => ?_, rfl, hc, ?_⟩
    · intro hl
      obtain ⟨x0, x1, x2, rfl⟩ : ∃ x0 x1 x2, σ' = [x0, x1, x2] := by
        match σ', hl with
        | [x0, x1, x2], _ => exact ⟨x0, x1, x2, rfl⟩
      rcases z with ⟨rfl, dd, fs, v0, rfl, e1, f0, go⟩ | ⟨rfl, dd, fs, v0, z0, rfl, e1, f0, p0, go⟩ | ⟨rfl, dd, fs, v0, z0, rfl, e1, f0, p0, go⟩ | ⟨rfl, dd, fs, v0, z0, rfl, e1, f0, p0, go⟩ | ⟨rfl, dd, fs, v0, v1, rfl, e1, f0, f1, go⟩ | ⟨rfl, dd, fs, v0, v1, rfl, e1, f0, f1, go⟩
      · refine ⟨R.cDU.ex, fun a na => ⟨_, rfl, fun na' => ?_⟩⟩
        have s1 : Same H' (upd H' a (ExO a (.ref DU) (some dd))) := same_new na
        have ea : upd H' a (ExO a (.ref DU) (some dd)) a = some (ExO a (.ref DU) (some dd)) := upd_same
        have ed := s1 _ _ e1
        generalize upd H' a (ExO a (.ref DU) (some dd)) = H1 at s1 ea ed ⊢
        refine ⟨_, rfl, _, .ref DU, .ref DU, .ref DU, true, rfl, .own DU, .held ea ed R.cDU.xc, R.cDU.me, _, rfl, iteT ⟨_, rfl, a, dd, _, _, rfl, ea, ed, f0, (by show 2 ≤ sizeLine; decide), fun t ft => ?_⟩⟩
        exact go t _ (s1.trans (same_new ft)) (s1.free ft) upd_same
      · refine ⟨R.cDS.ex, fun a na => ⟨_, rfl, fun na' => ?_⟩⟩
        have s1 : Same H' (upd H' a (ExO a (.ref DS) (some dd))) := same_new na
        have ea : upd H' a (ExO a (.ref DS) (some dd)) a = some (ExO a (.ref DS) (some dd)) := upd_same
        have ed := s1 _ _ e1
        generalize upd H' a (ExO a (.ref DS) (some dd)) = H1 at s1 ea ed ⊢
        refine ⟨_, rfl, _, .ref DU, .ref DS, .ref DU, false, rfl, .own DU, .held ea ed R.cDS.xc, R.kDS_DU, _, rfl, iteF ?_⟩
        refine ⟨_, rfl, _, .ref DS, .ref DS, .ref DS, true, rfl, .own DS, .held ea ed R.cDS.xc, R.cDS.me, _, rfl, iteT ⟨_, rfl, a, dd, _, _, rfl, ea, ed, f0, v0, z0, rfl, Rp.same s1 p0, (by show 2 ≤ sizeLine; decide), fun t ft => ?_⟩⟩
        exact go t _ (s1.trans (same_new ft)) (s1.free ft) upd_same
      · refine ⟨R.cDR.ex, fun a na => ⟨_, rfl, fun na' => ?_⟩⟩
        have s1 : Same H' (upd H' a (ExO a (.ref DR) (some dd))) := same_new na
        have ea : upd H' a (ExO a (.ref DR) (some dd)) a = some (ExO a (.ref DR) (some dd)) := upd_same
        have ed := s1 _ _ e1
        generalize upd H' a (ExO a (.ref DR) (some dd)) = H1 at s1 ea ed ⊢
        refine ⟨_, rfl, _, .ref DU, .ref DR, .ref DU, false, rfl, .own DU, .held ea ed R.cDR.xc, R.kDR_DU, _, rfl, iteF ?_⟩
        refine ⟨_, rfl, _, .ref DS, .ref DR, .ref DS, false, rfl, .own DS, .held ea ed R.cDR.xc, R.kDR_DS, _, rfl, iteF ?_⟩
        refine ⟨_, rfl, _, .ref DR, .ref DR, .ref DR, true, rfl, .own DR, .held ea ed R.cDR.xc, R.cDR.me, _, rfl, iteT ⟨_, rfl, a, dd, _, _, rfl, ea, ed, f0, v0, z0, rfl, Rp.same s1 p0, (by show 2 ≤ sizeLine; decide), fun t ft => ?_⟩⟩
        exact go t _ (s1.trans (same_new ft)) (s1.free ft) upd_same
      · refine ⟨R.cDT.ex, fun a na => ⟨_, rfl, fun na' => ?_⟩⟩
        have s1 : Same H' (upd H' a (ExO a (.ref DT) (some dd))) := same_new na
        have ea : upd H' a (ExO a (.ref DT) (some dd)) a = some (ExO a (.ref DT) (some dd)) := upd_same
        have ed := s1 _ _ e1
        generalize upd H' a (ExO a (.ref DT) (some dd)) = H1 at s1 ea ed ⊢
        refine ⟨_, rfl, _, .ref DU, .ref DT, .ref DU, false, rfl, .own DU, .held ea ed R.cDT.xc, R.kDT_DU, _, rfl, iteF ?_⟩
        refine ⟨_, rfl, _, .ref DS, .ref DT, .ref DS, false, rfl, .own DS, .held ea ed R.cDT.xc, R.kDT_DS, _, rfl, iteF ?_⟩
        refine ⟨_, rfl, _, .ref DR, .ref DT, .ref DR, false, rfl, .own DR, .held ea ed R.cDT.xc, R.kDT_DR, _, rfl, iteF ?_⟩
        refine ⟨_, rfl, _, .ref DT, .ref DT, .ref DT, true, rfl, .own DT, .held ea ed R.cDT.xc, R.cDT.me, _, rfl, iteT ⟨_, rfl, a, dd, _, _, rfl, ea, ed, f0, v0, z0, rfl, Rp.same s1 p0, (by show 2 ≤ sizeLine; decide), fun t ft => ?_⟩⟩
        exact go t _ (s1.trans (same_new ft)) (s1.free ft) upd_same
      · refine ⟨R.cDX.ex, fun a na => ⟨_, rfl, fun na' => ?_⟩⟩
        have s1 : Same H' (upd H' a (ExO a (.ref DX) (some dd))) := same_new na
        have ea : upd H' a (ExO a (.ref DX) (some dd)) a = some (ExO a (.ref DX) (some dd)) := upd_same
        have ed := s1 _ _ e1
        generalize upd H' a (ExO a (.ref DX) (some dd)) = H1 at s1 ea ed ⊢
        refine ⟨_, rfl, _, .ref DU, .ref DX, .ref DU, false, rfl, .own DU, .held ea ed R.cDX.xc, R.kDX_DU, _, rfl, iteF ?_⟩
        refine ⟨_, rfl, _, .ref DS, .ref DX, .ref DS, false, rfl, .own DS, .held ea ed R.cDX.xc, R.kDX_DS, _, rfl, iteF ?_⟩
        refine ⟨_, rfl, _, .ref DR, .ref DX, .ref DR, false, rfl, .own DR, .held ea ed R.cDX.xc, R.kDX_DR, _, rfl, iteF ?_⟩
        refine ⟨_, rfl, _, .ref DT, .ref DX, .ref DT, false, rfl, .own DT, .held ea ed R.cDX.xc, R.kDX_DT, _, rfl, iteF ?_⟩
        refine ⟨_, rfl, _, .ref DX, .ref DX, .ref DX, true, rfl, .own DX, .held ea ed R.cDX.xc, R.cDX.me, _, rfl, iteT ⟨_, rfl, a, dd, _, _, rfl, ea, ed, f0, _, rfl, a, dd, _, _, rfl, ea, ed, f1, (by show 3 ≤ sizeLine; decide), fun t ft => ?_⟩⟩
        exact go t _ (s1.trans (same_new ft)) (s1.free ft) upd_same
      · refine ⟨R.cDM.ex, fun a na => ⟨_, rfl, fun na' => ?_⟩⟩
        have s1 : Same H' (upd H' a (ExO a (.ref DM) (some dd))) := same_new na
        have ea : upd H' a (ExO a (.ref DM) (some dd)) a = some (ExO a (.ref DM) (some dd)) := upd_same
        have ed := s1 _ _ e1
        generalize upd H' a (ExO a (.ref DM) (some dd)) = H1 at s1 ea ed ⊢
        refine ⟨_, rfl, _, .ref DU, .ref DM, .ref DU, false, rfl, .own DU, .held ea ed R.cDM.xc, R.kDM_DU, _, rfl, iteF ?_⟩
        refine ⟨_, rfl, _, .ref DS, .ref DM, .ref DS, false, rfl, .own DS, .held ea ed R.cDM.xc, R.kDM_DS, _, rfl, iteF ?_⟩
        refine ⟨_, rfl, _, .ref DR, .ref DM, .ref DR, false, rfl, .own DR, .held ea ed R.cDM.xc, R.kDM_DR, _, rfl, iteF ?_⟩
        refine ⟨_, rfl, _, .ref DT, .ref DM, .ref DT, false, rfl, .own DT, .held ea ed R.cDM.xc, R.kDM_DT, _, rfl, iteF ?_⟩
        refine ⟨_, rfl, _, .ref DX, .ref DM, .ref DX, false, rfl, .own DX, .held ea ed R.cDM.xc, R.kDM_DX, _, rfl, iteF ?_⟩
        refine ⟨_, rfl, _, .ref DM, .ref DM, .ref DM, true, rfl, .own DM, .held ea ed R.cDM.xc, R.cDM.me, _, rfl, iteT ⟨_, rfl, a, dd, _, _, rfl, ea, ed, f0, _, rfl, a, dd, _, _, rfl, ea, ed, f1, (by show 3 ≤ sizeLine; decide), fun t ft => ?_⟩⟩
        exact go t _ (s1.trans (same_new ft)) (s1.free ft) upd_same
    · refine ⟨_, h0, ?_⟩
      rintro x H1 go p hp
      exact go p _ (same_new hp) hp upd_same
end Lw
namespace Lw
open PySem PySem.Spec PyProof.Rows L2
open SX PySem.NumText TL LamX ClX StX
set_option pp.maxSteps 900
abbrev sFac : Stmt := top 26
abbrev sSta : Stmt := top 27
abbrev sFxi : Stmt := inClass (top 34) 0
abbrev sFxe : Stmt := inClass (top 34) 7
abbrev sDvi : Stmt := inClass (top 35) 0
abbrev sDve : Stmt := inClass (top 35) 8
abbrev sDvu : Stmt := inClass (top 35) 1
abbrev sByi : Stmt := inClass (top 38) 0
abbrev sBye : Stmt := inClass (top 38) 7
/-! ### what rules are -/
def fxP (n : Int) (p : Addr) : List (Str × V) := putF "modulus" (.int 1) (putF "parts" (.ref p) (putF "size" (.int n) []))
def dvP (x y w : Int) (p : Addr) : List (Str × V) := putF "modulus" (.int w) (putF "parts" (.ref p) (putF "w" (.int w) (putF "y" (.int y) (putF "x" (.int x) []))))
def byP (v : V) (p : Addr) : List (Str × V) := putF "modulus" (.int 1) (putF "parts" (.ref p) (putF "function" v []))
theorem fxP_size (n : Int) (p : Addr) : (fxP n p).lookup ("size" : Str) = some (.int n) := by
  unfold fxP
  rw [lookup_putF, if_neg (by decide +kernel), lookup_putF, if_neg (by decide +kernel), lookup_putF, if_pos rfl]
theorem fxP_parts (n : Int) (p : Addr) : (fxP n p).lookup ("parts" : Str) = some (.ref p) := by
  unfold fxP
  rw [lookup_putF, if_neg (by decide +kernel), lookup_putF, if_pos rfl]
theorem fxP_mod (n : Int) (p : Addr) : (fxP n p).lookup ("modulus" : Str) = some (.int 1) := by
  unfold fxP
  rw [lookup_putF, if_pos rfl]
theorem dvP_x (x y w : Int) (p : Addr) : (dvP x y w p).lookup ("x" : Str) = some (.int x) := by
  unfold dvP
  rw [lookup_putF, if_neg (by decide +kernel), lookup_putF, if_neg (by decide +kernel), lookup_putF, if_neg (by decide +kernel), lookup_putF, if_neg (by decide +kernel), lookup_putF, if_pos rfl]
theorem dvP_y (x y w : Int) (p : Addr) : (dvP x y w p).lookup ("y" : Str) = some (.int y) := by
  unfold dvP
  rw [lookup_putF, if_neg (by decide +kernel), lookup_putF, if_neg (by decide +kernel), lookup_putF, if_neg (by decide +kernel), lookup_putF, if_pos rfl]
theorem dvP_w (x y w : Int) (p : Addr) : (dvP x y w p).lookup ("w" : Str) = some (.int w) := by
  unfold dvP
  rw [lookup_putF, if_neg (by decide +kernel), lookup_putF, if_neg (by decide +kernel), lookup_putF, if_pos rfl]
theorem dvP_parts (x y w : Int) (p : Addr) : (dvP x y w p).lookup ("parts" : Str) = some (.ref p) := by
  unfold dvP
  rw [lookup_putF, if_neg (by decide +kernel), lookup_putF, if_pos rfl]
theorem dvP_mod (x y w : Int) (p : Addr) : (dvP x y w p).lookup ("modulus" : Str) = some (.int w) := by
  unfold dvP
  rw [lookup_putF, if_pos rfl]
theorem byP_fn (v : V) (p : Addr) : (byP v p).lookup ("function" : Str) = some v := by
  unfold byP
  rw [lookup_putF, if_neg (by decide +kernel), lookup_putF, if_neg (by decide +kernel), lookup_putF, if_pos rfl]
theorem byP_parts (v : V) (p : Addr) : (byP v p).lookup ("parts" : Str) = some (.ref p) := by
  unfold byP
  rw [lookup_putF, if_neg (by decide +kernel), lookup_putF, if_pos rfl]
theorem byP_mod (v : V) (p : Addr) : (byP v p).lookup ("modulus" : Str) = some (.int 1) := by
  unfold byP
  rw [lookup_putF, if_pos rfl]
def FxAt (FC : Addr) (H : Hp) (a : Addr) (n : Int) : Prop := ∃ dx p, H a = some (.ins FC dx (fxP n p)) ∧ H p = some (.tup [.ref a])
def DvAt (VC : Addr) (H : Hp) (a : Addr) (x y w : Int) : Prop := ∃ dx p, H a = some (.ins VC dx (dvP x y w p)) ∧ H p = some (.tup [.ref a])
def ByAt (BC : Addr) (H : Hp) (a : Addr) (v : V) : Prop := ∃ dx p, H a = some (.ins BC dx (byP v p)) ∧ H p = some (.tup [])
theorem FxAt.on {FC : Addr} {H H' : Hp} {a : Addr} {n : Int} (h : FxAt FC H a n) (s : Same H H') : FxAt FC H' a n := by
  obtain ⟨dx, p, h1, h2⟩ := h
  exact ⟨dx, p, s _ _ h1, s _ _ h2⟩
theorem DvAt.on {VC : Addr} {H H' : Hp} {a : Addr} {x y w : Int} (h : DvAt VC H a x y w) (s : Same H H') : DvAt VC H' a x y w := by
  obtain ⟨dx, p, h1, h2⟩ := h
  exact ⟨dx, p, s _ _ h1, s _ _ h2⟩
theorem ByAt.on {BC : Addr} {H H' : Hp} {a : Addr} {v : V} (h : ByAt BC H a v) (s : Same H H') : ByAt BC H' a v := by
  obtain ⟨dx, p, h1, h2⟩ := h
  exact ⟨dx, p, s _ _ h1, s _ _ h2⟩
def spFac (K : PySem.W.Frag) : Sp := fun vs H Q _ => ∃ x lo, vs = [x, .int lo] ∧ Anyv K H x ∧ Q (.bl (inB x lo 24)) H
def spSta (K : PySem.W.Frag) : Sp := fun vs H Q _ => ∃ x, vs = [x] ∧ Anyv K H x ∧ Q (.bl (inB x (-1000) 1000)) H
def spFxi (K : PySem.W.Frag) (FC DS : Addr) : Sp := fun vs H Q E => ∃ (x dx : Addr) (v : V), vs = [.ref x, v] ∧ H x = some (.ins FC dx []) ∧ Anyv K H v ∧ (inB v 1 (10 ^ 30) = false → Bf DS "value" v H E) ∧
  ∀ n, v = .int n → 1 ≤ n → n ≤ 10 ^ 30 → ∀ p H', Kp x H H' → H' x = some (.ins FC dx (fxP n p)) → H' p = some (.tup [.ref x]) → Q .non H'
/-- what Divided(x, y, w) comes to -/
def MkD (K : PySem.W.Frag) (DU : Addr) (vx vy vw : V) (H : Hp) (E : XK) (R : Int → Int → Int → Prop) : Prop :=
  (inB vx 0 24 = false → Bf DU "part" (.str (Str.ofString "x")) H E) ∧ ∀ x, vx = .int x → 0 ≤ x → x ≤ 24 → (inB vy (-1000) 1000 = false → Bf DU "part" (.str (Str.ofString "y")) H E) ∧ ∀ y, vy = .int y → -1000 ≤ y → y ≤ 1000 →
    (inB vw 1 24 = false → Bf DU "part" (.str (Str.ofString "w")) H E) ∧ ∀ w, vw = .int w → 1 ≤ w → w ≤ 24 → R x y w
def spDvi (K : PySem.W.Frag) (VC DU : Addr) : Sp := fun vs H Q E => ∃ (a dx : Addr) (vx vy vw : V), vs = [.ref a, vx, vy, vw] ∧ H a = some (.ins VC dx []) ∧ Anyv K H vx ∧ Anyv K H vy ∧ Anyv K H vw ∧
  MkD K DU vx vy vw H E fun x y w => ∀ p H', Kp a H H' → H' a = some (.ins VC dx (dvP x y w p)) → H' p = some (.tup [.ref a]) → Q .non H'
def spByi (BC : Addr) : Sp := fun vs H Q _ => ∃ (x dx : Addr) (v : V), vs = [.ref x, v] ∧ H x = some (.ins BC dx []) ∧ ∀ p H', Kp x H H' → H' x = some (.ins BC dx (byP v p)) → H' p = some (.tup []) → Q .non H'
theorem wt_in {v : V} {lo hi : Int} (h : inB v lo hi = true) : ∃ i, v = .int i ∧ lo ≤ i ∧ i ≤ hi := by
  unfold inB at h
  split at h
  · exact ⟨_, rfl, by simpa using h⟩
  · cases h
theorem Bf.leaf {D : Addr} {f : Str} {x : V} {H : Hp} {E : XK} (h : Bf D f x H E) : ∀ d fs, H d = none → fs.lookup f = some x → E (.ref D) (some d) (upd H d (.xd fs)) := fun d fs hd e => h d fs H (Same.refl _) hd e
/-- an instance's fields set, a tuple made in between -/
theorem kp_three {H : Hp} {x p : Addr} {o0 o1 o3 tp : HO} (hx : H x = some o0) (hp : upd H x o1 p = none) : Kp x H (upd (upd (upd H x o1) p tp) x o3) ∧ upd (upd (upd H x o1) p tp) x o3 p = some tp := by
  have px : p ≠ x := fun z => by rw [z, upd_same] at hp; cases hp
  refine ⟨fun b o nb e => ?_, ?_⟩
  · rw [upd_ne nb, upd_ne (fun z => by rw [upd_ne px] at hp; rw [z, hp] at e; cases e), upd_ne nb]
    exact e
  · rw [upd_ne px]
    exact upd_same
structure FxC (K : PySem.W.Frag) (FC : Addr) : Prop where
  cl : Cls K FC
  n1 : NoAttr K FC "size"
  n2 : NoAttr K FC "parts"
  n3 : NoAttr K FC "modulus"
structure DvC (K : PySem.W.Frag) (VC : Addr) : Prop where
  cl : Cls K VC
  n1 : NoAttr K VC "x"
  n2 : NoAttr K VC "y"
  n3 : NoAttr K VC "w"
  n4 : NoAttr K VC "parts"
  n5 : NoAttr K VC "modulus"
structure ByC (K : PySem.W.Frag) (BC : Addr) : Prop where
  cl : Cls K BC
  n1 : NoAttr K BC "function"
  n2 : NoAttr K BC "parts"
  n3 : NoAttr K BC "modulus"
section
variable {P : Program} {w : World} {K : PySem.W.Frag} {mg : Str → Option Value} {base : Heap}
theorem scFac : FnScope ["value", "least"] ["value", "least"] (C8.fnScope sFac) := C8.fnScope_by (by decide +kernel)
theorem cal_fac {f : Addr} {fd : FuncData} (F : C8.Def K mg "is_factor" sFac f fd) (b : Binds K fd ["value", "least"] []) (hMF : ∃ t, mg "MOST_FACTOR" = some (.int 24 t)) (DW : C8.Cal P w K mg base 2 "is_within" (spWithin K) []) : C8.Cal P w K mg base 3 "is_factor" (spFac K) [] := by
  obtain ⟨tf, hMF⟩ := hMF
  refine C8.cal0 F b .nil scFac (fun vs H Q E h => ?_) (fun cdv A outer st H vs Q E hr h => ?_)
  · obtain ⟨x, lo, rfl, _⟩ := h
    rfl
  · obtain ⟨x, lo, rfl, ax, k⟩ := h
    refine ⟨_, (pss_one (ps_ret (C8.pe_c DW hr (by decide) (by rfl) (pa_cons (pv 0) (pa_cons (pv 1) (pa_cons (pe_glob (v := .int 24) rfl hMF ⟨_, rfl⟩) pa_nil)))))), ?_⟩
    exact ⟨_, rfl, _, rfl, x, lo, 24, rfl, ax, k⟩
theorem scSta : FnScope ["value"] ["value"] (C8.fnScope sSta) := C8.fnScope_by (by decide +kernel)
theorem cal_sta {f : Addr} {fd : FuncData} (F : C8.Def K mg "is_start" sSta f fd) (b : Binds K fd ["value"] []) (hMS : ∃ t, mg "MOST_START" = some (.int 1000 t)) (DW : C8.Cal P w K mg base 2 "is_within" (spWithin K) []) : C8.Cal P w K mg base 3 "is_start" (spSta K) [] := by
  obtain ⟨tf, hMS⟩ := hMS
  refine C8.cal0 F b .nil scSta (fun vs H Q E h => ?_) (fun cdv A outer st H vs Q E hr h => ?_)
  · obtain ⟨x, rfl, _⟩ := h
    rfl
  · obtain ⟨x, rfl, ax, k⟩ := h
    refine ⟨_, (pss_one (ps_ret (C8.pe_c DW hr (by decide) (by rfl) (pa_cons (pv 0) (pa_cons (pe_un un_neg (pe_glob (v := .int 1000) rfl hMS ⟨_, rfl⟩)) (pa_cons (pe_glob (v := .int 1000) rfl hMS ⟨_, rfl⟩) pa_nil)))))), ?_⟩
    exact ⟨_, rfl, _, rfl, x, _, _, rfl, ax, k⟩
theorem scFxi : FnScope ["self", "size"] ["self", "size"] (C8.fnScope sFxi) := C8.fnScope_by (by decide +kernel)
theorem fn_fxi {FC DS f fS : Addr} {fd fdS : FuncData} (F : C8.Fun K "__init__" "Fixed.__init__" sFxi f fd) (Z : FxC K FC) (ES : Err1 "BadSize" "value" P w K mg base DS fS fdS) (DSz : C8.Cal P w K mg base 3 "is_size" (spSize K) []) : FnOk P w K mg base (L2.CX P w) 4 f fd ["self", "size"] (spFxi K FC DS) := by
  obtain ⟨oc, od, dV, kV, doc, pm, an, cdv, ct, osl, rfl, lk, hcd⟩ := F.ex
  refine fn_of lk hcd scFxi (fun vs H Q E h => ?_) fun A outer s H vs Q E hr h => ?_
  · obtain ⟨x, dx, v, rfl, _⟩ := h
    rfl
  · obtain ⟨x, dx, v, rfl, hx, av, k1, k2⟩ := h
    have tk : Takes (cxOf (L2.CX P w) P w K mg base ["self", "size"] "Fixed.__init__" (C8.fnScope sFxi) f cdv A outer s H E) (fun cls d _ H' => E cls d H') := takes_of rfl rfl rfl rfl
    refine ⟨_, (pss_cons (ps_if (pt_not (pt_val (C8.pe_c DSz hr (by decide) (by rfl) (pa_cons (pv 1) pa_nil)))) (pss_one (ps_bad1 (x := "BadSize") rfl tk ES.T ES.iC ES.tI ES.F hr ES.b (by rfl) ES.hm (pv 1))) pss_nil)
  (pss_cons (ps_fld (pv 0) (pv 1) rfl)
  (pss_cons (ps_fld (pv 0) (pe_tup (pa_cons (pv 0) pa_nil)) rfl)
  (pss_one (ps_fld (pv 0) pe_int rfl))))), ?_⟩
    refine ⟨_, rfl, v, rfl, av, _, rfl, ?_⟩
    cases hv : inB v 1 (10 ^ 30) with
    | false => exact iteT ⟨_, rfl, bad_leaf1 (Bf.leaf (k1 hv))⟩
    | true =>
      obtain ⟨n, rfl, n1, n2⟩ := wt_in hv
      refine iteF ?_
      dsimp only [tNext, tSeq]
      refine ⟨_, rfl, _, rfl, x, FC, dx, _, rfl, hx, Z.cl, Z.n1, (by show 0 < 1000; decide), ?_⟩
      refine ⟨_, rfl, (by show 1 ≤ sizeLine; decide), fun p hp => ?_⟩
      have px : x ≠ p := fun z => by rw [← z, upd_same] at hp; cases hp
      refine ⟨_, rfl, x, FC, dx, _, rfl, by rw [upd_ne px]; exact upd_same, Z.cl, Z.n2, (by show 1 < 1000; decide), ?_⟩
      refine ⟨_, rfl, x, FC, dx, _, rfl, upd_same, Z.cl, Z.n3, (by show 2 < 1000; decide), ?_⟩
      rw [upd_upd]
      obtain ⟨a1, a2⟩ := kp_three (o3 := .ins FC dx (fxP n p)) (tp := .tup [.ref x]) hx hp
      exact k2 n rfl n1 n2 p _ a1 upd_same a2
theorem scDvi : FnScope ["self", "x", "y", "w"] ["self", "x", "y", "w"] (C8.fnScope sDvi) := C8.fnScope_by (by decide +kernel)
theorem fn_dvi {VC DU f fU : Addr} {fd fdU : FuncData} (F : C8.Fun K "__init__" "Divided.__init__" sDvi f fd) (Z : DvC K VC) (EU : Err1 "BadRule" "part" P w K mg base DU fU fdU) (DFa : C8.Cal P w K mg base 3 "is_factor" (spFac K) []) (DSt : C8.Cal P w K mg base 3 "is_start" (spSta K) []) : FnOk P w K mg base (L2.CX P w) 4 f fd ["self", "x", "y", "w"] (spDvi K VC DU) := by
  obtain ⟨oc, od, dV, kV, doc, pm, an, cdv, ct, osl, rfl, lk, hcd⟩ := F.ex
  refine fn_of lk hcd scDvi (fun vs H Q E h => ?_) fun A outer s H vs Q E hr h => ?_
  · obtain ⟨a, dx, vx, vy, vw, rfl, _⟩ := h
    rfl
  · obtain ⟨a, dx, vx, vy, vw, rfl, ha, ax, ay, aw, k1, k2⟩ := h
    have tk : Takes (cxOf (L2.CX P w) P w K mg base ["self", "x", "y", "w"] "Divided.__init__" (C8.fnScope sDvi) f cdv A outer s H E) (fun cls d _ H' => E cls d H') := takes_of rfl rfl rfl rfl
    refine ⟨_, (pss_cons (ps_if (pt_not (pt_val (C8.pe_c DFa hr (by decide) (by rfl) (pa_cons (pv 1) (pa_cons pe_int pa_nil))))) (pss_one (ps_bad1 (x := "BadRule") rfl tk EU.T EU.iC EU.tI EU.F hr EU.b (by rfl) EU.hm pe_str)) pss_nil)
  (pss_cons (ps_if (pt_not (pt_val (C8.pe_c DSt hr (by decide) (by rfl) (pa_cons (pv 2) pa_nil)))) (pss_one (ps_bad1 (x := "BadRule") rfl tk EU.T EU.iC EU.tI EU.F hr EU.b (by rfl) EU.hm pe_str)) pss_nil)
  (pss_cons (ps_if (pt_not (pt_val (C8.pe_c DFa hr (by decide) (by rfl) (pa_cons (pv 3) (pa_cons pe_int pa_nil))))) (pss_one (ps_bad1 (x := "BadRule") rfl tk EU.T EU.iC EU.tI EU.F hr EU.b (by rfl) EU.hm pe_str)) pss_nil)
  (pss_cons (ps_fld (pv 0) (pv 1) rfl)
  (pss_cons (ps_fld (pv 0) (pv 2) rfl)
  (pss_cons (ps_fld (pv 0) (pv 3) rfl)
  (pss_cons (ps_fld (pv 0) (pe_tup (pa_cons (pv 0) pa_nil)) rfl)
  (pss_one (ps_fld (pv 0) (pv 3) rfl))))))))), ?_⟩
    refine ⟨_, rfl, vx, 0, rfl, ax, _, rfl, ?_⟩
    cases hv : inB vx 0 24 with
    | false => exact iteT (bad_leaf1 (Bf.leaf (k1 hv)))
    | true =>
      obtain ⟨x, rfl, x1, x2⟩ := wt_in hv
      obtain ⟨k3, k4⟩ := k2 x rfl x1 x2
      refine iteF ?_
      dsimp only [tNext, tSeq]
      refine ⟨_, rfl, vy, rfl, ay, _, rfl, ?_⟩
      cases hy : inB vy (-1000) 1000 with
      | false => exact iteT (bad_leaf1 (Bf.leaf (k3 hy)))
      | true =>
        obtain ⟨y, rfl, y1, y2⟩ := wt_in hy
        obtain ⟨k5, k6⟩ := k4 y rfl y1 y2
        refine iteF ?_
        dsimp only [tNext, tSeq]
        refine ⟨_, rfl, vw, 1, rfl, aw, _, rfl, ?_⟩
        cases hw : inB vw 1 24 with
        | false => exact iteT (bad_leaf1 (Bf.leaf (k5 hw)))
        | true =>
          obtain ⟨w0, rfl, w1, w2⟩ := wt_in hw
          refine iteF ?_
          dsimp only [tNext, tSeq]
          refine ⟨_, rfl, _, rfl, a, VC, dx, _, rfl, ha, Z.cl, Z.n1, (by show 0 < 1000; decide), ?_⟩
          refine ⟨_, rfl, _, rfl, a, VC, dx, _, rfl, upd_same, Z.cl, Z.n2, (by show 1 < 1000; decide), ?_⟩
          refine ⟨_, rfl, _, rfl, a, VC, dx, _, rfl, upd_same, Z.cl, Z.n3, (by show 2 < 1000; decide), ?_⟩
          rw [upd_upd, upd_upd]
          refine ⟨_, rfl, (by show 1 ≤ sizeLine; decide), fun p hp => ?_⟩
          have px : a ≠ p := fun z => by rw [← z, upd_same] at hp; cases hp
          refine ⟨_, rfl, a, VC, dx, _, rfl, by rw [upd_ne px]; exact upd_same, Z.cl, Z.n4, (by show 3 < 1000; decide), ?_⟩
          refine ⟨_, rfl, _, rfl, a, VC, dx, _, rfl, upd_same, Z.cl, Z.n5, (by show 4 < 1000; decide), ?_⟩
          rw [upd_upd]
          obtain ⟨a1, a2⟩ := kp_three (o3 := .ins VC dx (dvP x y w0 p)) (tp := .tup [.ref a]) ha hp
          exact k6 w0 rfl w1 w2 p _ a1 upd_same a2
theorem scByi : FnScope ["self", "function"] ["self", "function"] (C8.fnScope sByi) := C8.fnScope_by (by decide +kernel)
theorem fn_byi {BC f : Addr} {fd : FuncData} (F : C8.Fun K "__init__" "By.__init__" sByi f fd) (Z : ByC K BC) : FnOk P w K mg base (L2.CX P w) 1 f fd ["self", "function"] (spByi BC) := by
  obtain ⟨oc, od, dV, kV, doc, pm, an, cdv, ct, osl, rfl, lk, hcd⟩ := F.ex
  refine fn_of lk hcd scByi (fun vs H Q E h => ?_) fun A outer s H vs Q E hr h => ?_
  · obtain ⟨x, dx, v, rfl, _⟩ := h
    rfl
  · obtain ⟨x, dx, v, rfl, hx, k⟩ := h
    refine ⟨_, (pss_cons (ps_fld (pv 0) (pv 1) rfl)
  (pss_cons (ps_fld (pv 0) (pe_tup pa_nil) rfl)
  (pss_one (ps_fld (pv 0) pe_int rfl)))), ?_⟩
    refine ⟨_, rfl, _, rfl, x, BC, dx, _, rfl, hx, Z.cl, Z.n1, (by show 0 < 1000; decide), ?_⟩
    refine ⟨(by show 0 ≤ sizeLine; decide), fun p hp => ?_⟩
    have px : x ≠ p := fun z => by rw [← z, upd_same] at hp; cases hp
    refine ⟨_, rfl, x, BC, dx, _, rfl, by rw [upd_ne px]; exact upd_same, Z.cl, Z.n2, (by show 1 < 1000; decide), ?_⟩
    refine ⟨_, rfl, x, BC, dx, _, rfl, upd_same, Z.cl, Z.n3, (by show 2 < 1000; decide), ?_⟩
    rw [upd_upd]
    obtain ⟨a1, a2⟩ := kp_three (o3 := .ins BC dx (byP v p)) (tp := .tup []) hx hp
    exact k p _ a1 upd_same a2
end
end Lw
namespace Lw
open PySem PySem.Spec PyProof.Rows L2
/-! ### == of functions -/
end Lw
namespace Lw.Fq
open PySem PySem.Spec PyProof.Rows PySem.SeqAt
theorem sl_fn_eq : Slot "function" "__eq__" "object.__eq__" :=
  .of (owner := "object") (n := "__eq__") (by rw [typeLookup_type, builtinLookup_eq_fast]; kernel_rfl) (by decide +kernel) (by decide +kernel) (by decide +kernel)
    (by first | exact .inl (by decide +kernel) | exact .inr (by decide +kernel)) (by rw [isSubtype_type]; kernel_rfl)
section
variable {P : Program} {w : World} {A : Around} {E : Value → Shared → Prop} {s : Shared} {x y : Addr} {o o' : Obj} {Q : Value → Shared → Prop}
theorem fn_same (hx : s.heap.get? x = some o) (hc : o.cls = .type "function") (hu : A.units < cLine) (q : Q (.bool true) s) : wpAny (model P w) A (richCompare .Eq (.ref x) (.ref x)) Q E s := by
  refine wpAny_richCompare_same_room (op := .Eq) ⟨o, hx, hc⟩ ⟨o, hx, hc⟩ sl_fn_eq (GQ.call_here sl_fn_eq ⟨o, hx, hc⟩ F.entry_object_eq (F.args_object_eq_2 _ _) ?_) hu
  exact objEq_entry_same ⟨(fun z => nomatch z), q⟩
theorem call_other (hx : s.heap.get? x = some o) (hc : o.cls = .type "function") (hy : s.heap.get? y = some o') (ne : x ≠ y) (q : Q .notImplemented s) : wpAny (model P w) A (call (.builtin "object.__eq__") [.ref x, .ref y]) Q E s :=
  GQ.call_here sl_fn_eq ⟨o, hx, hc⟩ F.entry_object_eq (F.args_object_eq_2 _ _) (objEq_entry_other ne hx hy (by rw [hc]; exact fun z => absurd (Value.type.inj z) (by decide)) q)
theorem fn_other (hx : s.heap.get? x = some o) (hc : o.cls = .type "function") (hy : s.heap.get? y = some o') (hc' : o'.cls = .type "function") (ne : x ≠ y) (hu : A.units < cLine) (q : Q (.bool false) s) : wpAny (model P w) A (richCompare .Eq (.ref x) (.ref y)) Q E s := by
  have tx : s.TypeIs (.ref x) "function" := ⟨o, hx, hc⟩
  have ty : s.TypeIs (.ref y) "function" := ⟨o', hy, hc'⟩
  simp only [richCompare, cmpInfo_Eq, oneThing_ref]
  refine wpAny_holding ?_
  refine wpAny_bind (wpAny_cRoomFor_or (.inr hu) ?_)
  refine wpAny_bind (wpAny_typeOf tx (wpAny_bind (wpAny_typeOf ty ?_)))
  simp only [bne_self_eq_false, Bool.false_eq_true, if_false, pure_bind, Bool.not_false, if_true]
  refine wpAny_bind (m := tryCompare (.ref x) _ (.ref y)) (wpAny_tryCompare_declines tx sl_fn_eq (call_other hx hc hy ne ⟨rfl, ?_⟩))
  refine wpAny_bind (m := tryCompare (.ref y) _ (.ref x)) (wpAny_tryCompare_declines ty sl_fn_eq (call_other hy hc' hx ne.symm ⟨rfl, ?_⟩))
  exact wpAny_bind (wpAny_rule (wpAny_bind (wpAny_isSame_ref_other ne hx hy (by rw [hc]; exact fun z => absurd (Value.type.inj z) (by decide)) (wpAny_pure q))))
end
end Lw.Fq
namespace Lw
open PySem PySem.Spec PyProof.Rows L2 LamX
open SX PySem.NumText TL LamX ClX StX
set_option pp.maxSteps 900
/-- two functions compared: the same one or not -/
def rEqFn : R2 := fun x y H Q => ∃ a b, x = .ref a ∧ y = .ref b ∧ H a = some (FnO a) ∧ H b = some (FnO b) ∧ Q (.bl (decide (a = b))) H
theorem op_eqFn {X : Cx} (hu : X.A.units < cLine) : OpR X (compareOp .Eq) rEqFn := by
  intro pins s σ H x y v u Q I rx ry h
  obtain ⟨a, b, rfl, rfl, ha, hb, q⟩ := h
  cases (show v = Value.ref a from rx)
  cases (show u = Value.ref b from ry)
  obtain ⟨⟨o, g1, c1⟩, _⟩ := (show ObjOk X.prog X.w H s.heap a (FnO a) from I.hok a _ ha)
  obtain ⟨⟨o2, g2, c2⟩, _⟩ := (show ObjOk X.prog X.w H s.heap b (FnO b) from I.hok b _ hb)
  show wpAny (model X.prog X.w) X.A (richCompare .Eq _ _) (EP X pins σ Q) X.xe s
  by_cases c : a = b
  · subst c
    rw [decide_eq_true rfl] at q
    exact Fq.fn_same g1 c1 hu ⟨.bl true, H, I, rfl, q⟩
  · rw [decide_eq_false c] at q
    exact Fq.fn_other g1 c1 g2 c2 c hu ⟨.bl false, H, I, rfl, q⟩
/-- what stands on the right of ==: no instance of C -/
def NoI (K : PySem.W.Frag) (C : Addr) (H : Hp) (y : V) : Prop := ∃ t, TyZ K H y t ∧ PySem.W.kitOne K t (.ref C) = some false
def spFxe (K : PySem.W.Frag) (FC : Addr) : Sp := fun vs H Q _ => ∃ a y n, vs = [.ref a, y] ∧ FxAt FC H a n ∧ ((NoI K FC H y ∧ Q (.bl false) H) ∨ ∃ b m, y = .ref b ∧ FxAt FC H b m ∧ Q (.bl (decide (n = m))) H)
def spDve (K : PySem.W.Frag) (VC : Addr) : Sp := fun vs H Q _ => ∃ a z x y w, vs = [.ref a, z] ∧ DvAt VC H a x y w ∧ ((NoI K VC H z ∧ Q (.bl false) H) ∨ ∃ b x' y' w', z = .ref b ∧ DvAt VC H b x' y' w' ∧ Q (.bl (decide (x = x') && (decide (y = y') && decide (w = w')))) H)
def spBye (K : PySem.W.Frag) (BC : Addr) : Sp := fun vs H Q _ => ∃ a b f g, vs = [.ref a, .ref b] ∧ ByAt BC H a (.ref f) ∧ ByAt BC H b (.ref g) ∧ H f = some (FnO f) ∧ H g = some (FnO g) ∧ Q (.bl (decide (f = g))) H
/-- Divided, ready to be made -/
def DivV (K : PySem.W.Frag) (VC DU : Addr) (vx vy vw : V) (H : Hp) (Q : VK) (E : XK) : Prop := Anyv K H vx ∧ Anyv K H vy ∧ Anyv K H vw ∧ MkD K DU vx vy vw H E fun x y w => ∀ a H', Same H H' → H a = none → DvAt VC H' a x y w → Q (.ref a) H'
def FixV (K : PySem.W.Frag) (FC DS : Addr) (v : V) (H : Hp) (Q : VK) (E : XK) : Prop := Anyv K H v ∧ (inB v 1 (10 ^ 30) = false → Bf DS "value" v H E) ∧ ∀ n, v = .int n → 1 ≤ n → n ≤ 10 ^ 30 → ∀ a H', Same H H' → H a = none → FxAt FC H' a n → Q (.ref a) H'
theorem MkD.of {K : PySem.W.Frag} {DU : Addr} {vx vy vw : V} {H H' : Hp} {E : XK} {R R' : Int → Int → Int → Prop} (h : MkD K DU vx vy vw H E R) (s : Same H H') (m : ∀ x y w, R x y w → R' x y w) : MkD K DU vx vy vw H' E R' := by
  have bf : ∀ {D : Addr} {f : Str} {x : V}, Bf D f x H E → Bf D f x H' E := fun b d fs H2 s2 hd e => b d fs H2 (s.trans s2) hd e
  obtain ⟨k1, k2⟩ := h
  refine ⟨fun z => bf (k1 z), fun x e x1 x2 => ?_⟩
  obtain ⟨k3, k4⟩ := k2 x e x1 x2
  refine ⟨fun z => bf (k3 z), fun y e y1 y2 => ?_⟩
  obtain ⟨k5, k6⟩ := k4 y e y1 y2
  exact ⟨fun z => bf (k5 z), fun w e w1 w2 => m x y w (k6 w e w1 w2)⟩
theorem DivV.make {K : PySem.W.Frag} {VC DU : Addr} {vx vy vw : V} {H : Hp} {Q : VK} {E : XK} (h : DivV K VC DU vx vy vw H Q E) (x dx : Addr) (hx : H x = none) (hdx : H dx = none) (ne : dx ≠ x) :
    spDvi K VC DU [.ref x, vx, vy, vw] (upd (upd H dx (.own x)) x (.ins VC dx [])) (fun v H2 => v = .non ∧ Q (.ref x) H2) E := by
  obtain ⟨h1, h2, h3, h4⟩ := h
  have s1 : Same H (upd H dx (.own x)) := same_new hdx
  have hx1 : upd H dx (.own x) x = none := by rw [upd_ne ne.symm]; exact hx
  have s2 := s1.trans (same_new (o := HO.ins VC dx []) hx1)
  exact ⟨x, dx, vx, vy, vw, rfl, upd_same, Lw.Anyv.same s2 h1, Lw.Anyv.same s2 h2, Lw.Anyv.same s2 h3, h4.of s2 fun i j k g p H' kp hx' hp => ⟨rfl, g x H' (fun b o e => kp _ _ (ne_of_none e hx) (s2 _ _ e)) hx ⟨dx, p, hx', hp⟩⟩⟩
theorem FixV.make {K : PySem.W.Frag} {FC DS : Addr} {v : V} {H : Hp} {Q : VK} {E : XK} (h : FixV K FC DS v H Q E) (x dx : Addr) (hx : H x = none) (hdx : H dx = none) (ne : dx ≠ x) :
    spFxi K FC DS [.ref x, v] (upd (upd H dx (.own x)) x (.ins FC dx [])) (fun v H2 => v = .non ∧ Q (.ref x) H2) E := by
  obtain ⟨h1, h2, h3⟩ := h
  have s1 : Same H (upd H dx (.own x)) := same_new hdx
  have hx1 : upd H dx (.own x) x = none := by rw [upd_ne ne.symm]; exact hx
  have s2 := s1.trans (same_new (o := HO.ins FC dx []) hx1)
  exact ⟨x, dx, v, rfl, upd_same, Lw.Anyv.same s2 h1, (fun z d fs H2 s3 hd e => h2 z d fs H2 (s2.trans s3) hd e), fun n e n1 n2 p H' kp hx' hp => ⟨rfl, h3 n e n1 n2 x H' (fun b o e => kp _ _ (ne_of_none e hx) (s2 _ _ e)) hx ⟨dx, p, hx', hp⟩⟩⟩
def spDvu (K : PySem.W.Frag) (VC DU : Addr) : Sp := fun vs H Q E => ∃ v, vs = [v] ∧ Anyv K H v ∧ (inB v 1 24 = false → Bf DU "part" (.str (Str.ofString "w")) H E) ∧ ∀ n, v = .int n → 1 ≤ n → n ≤ 24 → ∀ a H', Same H H' → H a = none → DvAt VC H' a 1 (n - 1) n → Q (.ref a) H'
structure DivM (P : Program) (w : World) (K : PySem.W.Frag) (mg : Str → Option Value) (base : Heap) (VC DU f : Addr) (fd : FuncData) : Prop where
  M : Mk K VC f
  F : FnOk P w K mg base (L2.CX P w) 4 f fd ["self", "x", "y", "w"] (spDvi K VC DU)
  hm : mg "Divided" = some (.ref VC)
  b : Binds K fd ["self", "x", "y", "w"] []
structure FixM (P : Program) (w : World) (K : PySem.W.Frag) (mg : Str → Option Value) (base : Heap) (FC DS f : Addr) (fd : FuncData) : Prop where
  M : Mk K FC f
  F : FnOk P w K mg base (L2.CX P w) 4 f fd ["self", "size"] (spFxi K FC DS)
  hm : mg "Fixed" = some (.ref FC)
  b : Binds K fd ["self", "size"] []
structure ByM (P : Program) (w : World) (K : PySem.W.Frag) (mg : Str → Option Value) (base : Heap) (BC f : Addr) (fd : FuncData) : Prop where
  M : Mk K BC f
  F : FnOk P w K mg base (L2.CX P w) 1 f fd ["self", "function"] (spByi BC)
  hm : mg "By" = some (.ref BC)
  b : Binds K fd ["self", "function"] []
section
variable {X : Cx}
theorem pe_fldK (K' : PySem.W.Frag) (hK : X.K = K') {e : Expr} {te : TE} {f : Str} {pos : Pos} (he : PE X e te) (hb : attributeBase e f X.env (eval e X.env) = eval e X.env) : PE X (.Attribute e f pos) (tFld K' te f) := by
  subst hK
  exact pe_fld he hb
end
section
variable {P : Program} {w : World} {K : PySem.W.Frag} {mg : Str → Option Value} {base : Heap}
theorem scFxe : FnScope ["self", "other"] ["self", "other"] (C8.fnScope sFxe) := C8.fnScope_by (by decide +kernel)
theorem fn_fxe {FC f : Addr} {fd : FuncData} (F : C8.Fun K "__eq__" "Fixed.__eq__" sFxe f fd) (T : Txt mg) (Z : FxC K FC) (hm : mg "Fixed" = some (.ref FC)) (I : C8.InsC K FC) : FnOk P w K mg base (L2.CX P w) 1 f fd ["self", "other"] (spFxe K FC) := by
  obtain ⟨oc, od, dV, kV, doc, pm, an, cdv, ct, osl, rfl, lk, hcd⟩ := F.ex
  refine fn_of lk hcd scFxe (fun vs H Q E h => ?_) fun A outer s H vs Q E hr h => ?_
  · obtain ⟨a, y, n, rfl, _⟩ := h
    rfl
  · obtain ⟨a, y, n, rfl, ⟨dx, p, ha, hp⟩, k⟩ := h
    refine ⟨_, (pss_one (ps_ret (pe_and (pe_callB call_isz (by rfl) T.n_isinstance (by decide +kernel) (pa_cons (pv 1) (pa_cons (pe_glob (v := .ref FC) (by rfl) hm rfl) pa_nil))) (pe_one (pe_cmpR op_eq (pe_fldK K rfl (pv 0) rfl) (pe_fldK K rfl (pv 1) rfl) (nomark _)))))), ?_⟩
    rcases k with ⟨⟨t, ty, hk⟩, k⟩ | ⟨b, m, rfl, ⟨dy, q, hb, hq⟩, k⟩
    · refine ⟨_, rfl, _, .ref FC, t, .ref FC, false, rfl, .own FC, ty, hk, _, rfl, iteF k⟩
    · refine ⟨_, rfl, _, .ref FC, .ref FC, .ref FC, true, rfl, .own FC, .x (.base (.ins hb I.cl I.ha I.hn I.htk I.hm)), I.me, _, rfl, iteT ?_⟩
      refine ⟨_, rfl, a, FC, dx, _, _, rfl, ha, Z.cl, Z.n1, fxP_size _ _, _, rfl, b, FC, dy, _, _, rfl, hb, Z.cl, Z.n1, fxP_size _ _, rfl, ?_⟩
      rw [show decide (V.int n = V.int m) = decide (n = m) from decide_eq_decide.mpr ⟨fun e => V.int.inj e, fun e => by rw [e]⟩]
      exact k
theorem scDve : FnScope ["self", "other"] ["self", "other"] (C8.fnScope sDve) := C8.fnScope_by (by decide +kernel)
theorem fn_dve {VC f : Addr} {fd : FuncData} (F : C8.Fun K "__eq__" "Divided.__eq__" sDve f fd) (T : Txt mg) (Z : DvC K VC) (hm : mg "Divided" = some (.ref VC)) (I : C8.InsC K VC) : FnOk P w K mg base (L2.CX P w) 1 f fd ["self", "other"] (spDve K VC) := by
  obtain ⟨oc, od, dV, kV, doc, pm, an, cdv, ct, osl, rfl, lk, hcd⟩ := F.ex
  refine fn_of lk hcd scDve (fun vs H Q E h => ?_) fun A outer s H vs Q E hr h => ?_
  · obtain ⟨a, z, x, y, w, rfl, _⟩ := h
    rfl
  · obtain ⟨a, z, x, y, w0, rfl, ⟨dx, p, ha, hp⟩, k⟩ := h
    have di : ∀ i j : Int, decide (V.int i = V.int j) = decide (i = j) := fun i j => decide_eq_decide.mpr ⟨fun e => V.int.inj e, fun e => by rw [e]⟩
    refine ⟨_, (pss_one (ps_ret (pe_and (pe_callB call_isz (by rfl) T.n_isinstance (by decide +kernel) (pa_cons (pv 1) (pa_cons (pe_glob (v := .ref VC) (by rfl) hm rfl) pa_nil))) (pe_and (pe_cmpR op_eq (pe_fldK K rfl (pv 0) rfl) (pe_fldK K rfl (pv 1) rfl) (nomark _)) (pe_and (pe_cmpR op_eq (pe_fldK K rfl (pv 0) rfl) (pe_fldK K rfl (pv 1) rfl) (nomark _)) (pe_one (pe_cmpR op_eq (pe_fldK K rfl (pv 0) rfl) (pe_fldK K rfl (pv 1) rfl) (nomark _)))))))), ?_⟩
    rcases k with ⟨⟨t, ty, hk⟩, k⟩ | ⟨b, x', y', w', rfl, ⟨dy, q, hb, hq⟩, k⟩
    · refine ⟨_, rfl, _, .ref VC, t, .ref VC, false, rfl, .own VC, ty, hk, _, rfl, iteF k⟩
    · refine ⟨_, rfl, _, .ref VC, .ref VC, .ref VC, true, rfl, .own VC, .x (.base (.ins hb I.cl I.ha I.hn I.htk I.hm)), I.me, _, rfl, iteT ?_⟩
      refine ⟨_, rfl, a, VC, dx, _, _, rfl, ha, Z.cl, Z.n1, dvP_x _ _ _ _, _, rfl, b, VC, dy, _, _, rfl, hb, Z.cl, Z.n1, dvP_x _ _ _ _, rfl, ?_⟩
      rw [di]
      cases h1 : decide (x = x') with
      | false =>
        rw [h1, Bool.false_and] at k
        exact ⟨_, rfl, iteF k⟩
      | true =>
        rw [h1, Bool.true_and] at k
        refine ⟨_, rfl, iteT ⟨_, rfl, a, VC, dx, _, _, rfl, ha, Z.cl, Z.n2, dvP_y _ _ _ _, _, rfl, b, VC, dy, _, _, rfl, hb, Z.cl, Z.n2, dvP_y _ _ _ _, rfl, ?_⟩⟩
        rw [di]
        cases h2 : decide (y = y') with
        | false =>
          rw [h2, Bool.false_and] at k
          exact ⟨_, rfl, iteF k⟩
        | true =>
          rw [h2, Bool.true_and] at k
          refine ⟨_, rfl, iteT ⟨_, rfl, a, VC, dx, _, _, rfl, ha, Z.cl, Z.n3, dvP_w _ _ _ _, _, rfl, b, VC, dy, _, _, rfl, hb, Z.cl, Z.n3, dvP_w _ _ _ _, rfl, ?_⟩⟩
          rw [di]
          exact k
theorem scBye : FnScope ["self", "other"] ["self", "other"] (C8.fnScope sBye) := C8.fnScope_by (by decide +kernel)
theorem fn_bye {BC f : Addr} {fd : FuncData} (F : C8.Fun K "__eq__" "By.__eq__" sBye f fd) (T : Txt mg) (Z : ByC K BC) (hm : mg "By" = some (.ref BC)) (I : C8.InsC K BC) : FnOk P w K mg base (L2.CX P w) 1 f fd ["self", "other"] (spBye K BC) := by
  obtain ⟨oc, od, dV, kV, doc, pm, an, cdv, ct, osl, rfl, lk, hcd⟩ := F.ex
  refine fn_of lk hcd scBye (fun vs H Q E h => ?_) fun A outer s H vs Q E hr h => ?_
  · obtain ⟨a, b, g, g', rfl, _⟩ := h
    rfl
  · obtain ⟨a, b, g, g', rfl, ⟨dx, p, ha, hp⟩, ⟨dy, q, hb, hq⟩, hg, hg', k⟩ := h
    refine ⟨_, (pss_one (ps_ret (pe_and (pe_callB call_isz (by rfl) T.n_isinstance (by decide +kernel) (pa_cons (pv 1) (pa_cons (pe_glob (v := .ref BC) (by rfl) hm rfl) pa_nil))) (pe_one (pe_cmpR (op_eqFn hr.units0) (pe_fldK K rfl (pv 0) rfl) (pe_fldK K rfl (pv 1) rfl) (nomark _)))))), ?_⟩
    refine ⟨_, rfl, _, .ref BC, .ref BC, .ref BC, true, rfl, .own BC, .x (.base (.ins hb I.cl I.ha I.hn I.htk I.hm)), I.me, _, rfl, iteT ?_⟩
    exact ⟨_, rfl, a, BC, dx, _, _, rfl, ha, Z.cl, Z.n1, byP_fn _ _, _, rfl, b, BC, dy, _, _, rfl, hb, Z.cl, Z.n1, byP_fn _ _, g, g', rfl, rfl, hg, hg', k⟩
theorem scDvu : FnScope ["w"] ["w"] (C8.fnScope sDvu) := C8.fnScope_by (by decide +kernel)
theorem fn_dvu {VC DU f fD fU : Addr} {fd fdD fdU : FuncData} (F : C8.Fun K "up" "Divided.up" sDvu f fd) (EU : Err1 "BadRule" "part" P w K mg base DU fU fdU) (DFa : C8.Cal P w K mg base 3 "is_factor" (spFac K) []) (DM : DivM P w K mg base VC DU fD fdD) : FnOk P w K mg base (L2.CX P w) 6 f fd ["w"] (spDvu K VC DU) := by
  obtain ⟨oc, od, dV, kV, doc, pm, an, cdv, ct, osl, rfl, lk, hcd⟩ := F.ex
  refine fn_of lk hcd scDvu (fun vs H Q E h => ?_) fun A outer s H vs Q E hr h => ?_
  · obtain ⟨v, rfl, _⟩ := h
    rfl
  · obtain ⟨v, rfl, av, k1, k2⟩ := h
    have tk : Takes (cxOf (L2.CX P w) P w K mg base ["w"] "Divided.up" (C8.fnScope sDvu) f cdv A outer s H E) (fun cls d _ H' => E cls d H') := takes_of rfl rfl rfl rfl
    refine ⟨_, (pss_cons (ps_if (pt_not (pt_val (C8.pe_c DFa hr (by decide) (by rfl) (pa_cons (pv 0) (pa_cons pe_int pa_nil))))) (pss_one (ps_bad1 (x := "BadRule") rfl tk EU.T EU.iC EU.tI EU.F hr EU.b (by rfl) EU.hm pe_str)) pss_nil)
  (pss_one (ps_ret (pe_make DM.M DM.F (hr.mono (by decide)) (by rfl) DM.hm DM.b .nil (passes_call (takes_of rfl rfl rfl rfl) (fun _ _ _ _ z => z)) (pa_cons pe_int (pa_cons (pe_op op_sub (pv 0) pe_int) (pa_cons (pv 0) pa_nil))))))), ?_⟩
    refine ⟨_, rfl, v, 1, rfl, av, _, rfl, ?_⟩
    cases hv : inB v 1 24 with
    | false => exact iteT (bad_leaf1 (Bf.leaf (k1 hv)))
    | true =>
      obtain ⟨n, rfl, n1, n2⟩ := wt_in hv
      refine iteF ?_
      dsimp only [tNext, tSeq]
      have no : ∀ {i lo hi : Int}, lo ≤ i → i ≤ hi → inB (.int i) lo hi = false → False := fun {i lo hi} h1 h2 e => by
        unfold inB at e
        simp only [Bool.and_eq_false_iff, decide_eq_false_iff_not] at e
        omega
      refine ⟨_, rfl, _, _, rfl, rfl, _, rfl, fun x dx hx hdx ne => DivV.make (Q := Q) ⟨.int _, .int _, .int _, fun z => (no (by decide) (by decide) z).elim, ?_⟩ x dx hx hdx ne⟩
      rintro i e1 _ _
      cases e1
      refine ⟨fun z => (no (by omega) (by omega) z).elim, ?_⟩
      rintro j e2 _ _
      cases e2
      refine ⟨fun z => (no (by omega) (by omega) z).elim, ?_⟩
      rintro l e3 _ _
      cases e3
      exact k2 n rfl n1 n2
end
end Lw
namespace Lw
open PySem PySem.Spec PyProof.Rows L2
open SX PySem.NumText TL LamX ClX StX
set_option pp.maxSteps 900
abbrev sLis : Stmt := top 49
abbrev sLfx : Stmt := top 50
/-! ### own == and != with any value on the right -/
section
variable {X : Cx} {C : Addr} {k j : Nat} {sp : Sp} {E : XK} {op : CmpOp}
def rXR (K : PySem.W.Frag) (C : Addr) (sp : Sp) (E : XK) : R2 := fun x y H Q => ∃ a dx fs t, x = .ref a ∧ H a = some (.ins C dx fs) ∧ TyX K H y t ∧ PySem.W.notFirst K C t = true ∧ sp [x, y] H Q E
theorem op_eqXK (K' : PySem.W.Frag) (hK : X.K = K') (M : MetX X.prog X.w X.K X.mg X.base k C "__eq__" sp) (hx : Passes (L2.CX X.prog X.w) X E) (hr : Room j X.A) (hk : k ≤ j) : OpR X (compareOp .Eq) (rXR K' C sp E) := by
  subst hK
  intro pins s σ H x y v u Q I rx ry h
  obtain ⟨a, dx, fs, t, rfl, ha, hy, hn, q⟩ := h
  cases (show v = Value.ref a from rx)
  obtain ⟨_, _, J⟩ := ins_at I ha
  obtain ⟨W, Z, p, _⟩ := kit_of I ry hy
  obtain ⟨g, hm, w, _⟩ := run_met (us := [.ref a, u]) (vs := [.ref a, y]) M hx hr hk I (.cons rfl (.cons ry .nil)) q
  obtain ⟨m, hF⟩ := I.fr
  show wpAny (model X.prog X.w) X.A (richCompare .Eq _ u) (EP X pins σ Q) X.xe s
  exact PySem.W.cmp_K (op := .Eq) hr.units0 hF I.ok.mod.kin J (Z.ty _ _ I.kIn p) hn hm.at_ hm.fn w
def rXN (K : PySem.W.Frag) (C : Addr) (sp : Sp) (E : XK) : R2 := fun x y H Q => ∃ a dx fs t, x = .ref a ∧ H a = some (.ins C dx fs) ∧ TyX K H y t ∧ PySem.W.notFirst K C t = true ∧ sp [x, y] H (Nb Q) E
theorem op_neXK (K' : PySem.W.Frag) (hK : X.K = K') (nc : NeC X.K C) (M : MetX X.prog X.w X.K X.mg X.base k C "__eq__" sp) (hx : Passes (L2.CX X.prog X.w) X E) (hr : Room j X.A) (hk : k + 1 ≤ j) : OpR X (compareOp .NotEq) (rXN K' C sp E) := by
  subst hK
  intro pins s σ H x y v u Q I rx ry h
  obtain ⟨a, dx, fs, t, rfl, ha, hy, hn, q⟩ := h
  cases (show v = Value.ref a from rx)
  obtain ⟨_, _, J⟩ := ins_at I ha
  obtain ⟨W, Z, p, _⟩ := kit_of I ry hy
  have hr1 : Room k X.A.in1 := Room.in1 (hr.mono hk)
  obtain ⟨g, hm, w⟩ := run_metA (us := [.ref a, u]) (vs := [.ref a, y]) M hx hr1 I.env0.in1 I (.cons rfl (.cons ry .nil)) q
  refine Ow.cmp_ne hr.units0 I.kIn J (Z.ty _ _ I.kIn p) hn (Ow.try_ne hr1.units0 I.kIn J nc.m nc.n hm.at_ hm.fn (wpAny_mono w (fun v s' z => ?_) fun _ _ x => x))
  obtain ⟨z', H', I', rz, c, rfl, qz⟩ := z
  cases (show v = Value.bool c from rz)
  exact ⟨c, rfl, .bl (!c), H', I', rfl, qz⟩
end
/-- objects that stay as they are -/
def Keeps (L : List (Addr × HO)) (H : Hp) : Prop := ∀ e ∈ L, H e.1 = some e.2
structure Sv (TS : List (Addr × Str)) (p pl : Addr) (n : Nat) (L : List (Addr × HO)) (H : Hp) : Prop where
  hp : Pen H p pl n
  ht : Tabs TS H
  kL : Keeps L H
  nt : ∀ e ∈ L, e.1 ≠ p ∧ ∀ ps, e.2 ≠ .tbl ps
section
variable {TS : List (Addr × Str)} {p pl : Addr} {n m : Nat} {L M : List (Addr × HO)} {H H' : Hp}
theorem Sv.ext (g : Sv TS p pl n L H) (x : ExtN H H') (t : Tabs TS H') : Sv TS p pl n L H' := ⟨Lw.Pen.extn g.hp x, t, fun e he => x _ _ (g.kL e he) (g.nt e he).2, g.nt⟩
theorem Sv.same (g : Sv TS p pl n L H) (s : Same H H') : Sv TS p pl n L H' := g.ext (ExtN.of s) (g.ht.ext s)
theorem Sv.draw (g : Sv TS p pl n L H) (h : Pen H' p pl m) (k : Kp p H H') : Sv TS p pl m L H' := ⟨h, Lw.Tabs.kp g.ht g.hp k, fun e he => k _ _ (g.nt e he).1 (g.kL e he), g.nt⟩
theorem Sv.add {a : Addr} {o : HO} (g : Sv TS p pl n L H) (h : H a = some o) (np : a ≠ p) (nt : ∀ ps, o ≠ .tbl ps) : Sv TS p pl n ((a, o) :: L) H := ⟨g.hp, g.ht, fun e he => by
    rcases List.mem_cons.mp he with rfl | he
    · exact h
    · exact g.kL e he, fun e he => by
    rcases List.mem_cons.mp he with rfl | he
    · exact ⟨np, nt⟩
    · exact g.nt e he⟩
theorem Sv.fresh {a : Addr} {o : HO} (g : Sv TS p pl n L H) (h : H a = none) (nt : ∀ ps, o ≠ .tbl ps) : Sv TS p pl n ((a, o) :: L) (upd H a o) := (g.same (same_new h)).add upd_same (g.hp.ne_new h) nt
theorem Sv.put {q : Addr} {xs ys : List V} (g : Sv TS p pl n L H) (h : H q = some (.lst xs)) (n1 : q ≠ p) (n2 : q ≠ pl) (nL : ∀ e ∈ L, e.1 ≠ q) : Sv TS p pl n L (upd H q (.lst ys)) := ⟨g.hp.over n1 n2, Lw.Tabs.put g.ht h, fun e he => by rw [upd_ne (nL e he)]; exact g.kL e he, g.nt⟩
theorem Sv.off {a : Addr} (g : Sv TS p pl n L H) (h : H a = none) : ∀ e ∈ L, e.1 ≠ a := fun e he => ne_of_none (g.kL e he) h
theorem Keeps.of (k : Keeps M H) (s : ∀ e ∈ L, e ∈ M) : Keeps L H := fun e he => k e (s e he)
end
/-- a value, and its repr -/
def Od1 (K : PySem.W.Frag) (L : List (Addr × HO)) (v : V) (z : Str) : Prop := (∀ H, Keeps L H → Anyv K H v ∧ Rp K H v z) ∧ PyData.canLay0 (.str z) = true
theorem Od1.of {K : PySem.W.Frag} {L M : List (Addr × HO)} {v : V} {z : Str} (h : Od1 K L v z) (s : ∀ e ∈ L, e ∈ M) : Od1 K M v z := ⟨fun H k => h.1 H (k.of s), h.2⟩
structure TabOf (T : List (Addr × Str)) (B : Addr) (x : Str) : Prop where
  mem : (B, (x ++ (".<locals>." : Str)) ++ ("<lambda>" : Str)) ∈ T
  own : ∀ p ∈ T, p.1 = B → p.2 = (x ++ (".<locals>." : Str)) ++ ("<lambda>" : Str)
/-- Divided.up, ready to be called -/
structure UpM (P : Program) (w : World) (K : PySem.W.Frag) (mg : Str → Option Value) (base : Heap) (VC DU p g : Addr) (fd : FuncData) (gU : List Value → List Value → List Value) : Prop where
  S : SMet K VC "up" p g
  F : FnOk P w K mg base (L2.CX P w) 6 g fd ["w"] (spDvu K VC DU)
  b : Binds K fd ["w"] []
  KB : KBn K fd ["w"] 0 ["w"] gU (fun _ zs => zs)
/-- a tuple of two texts -/
def p2 (a b : Str) : PyData := .tuple [.str a, .str b]
theorem dp_p2 {K : PySem.W.Frag} {H : Hp} {t : Addr} {a b : Str} (h : H t = some (.tup [.str a, .str b])) : Dp K H (.ref t) (p2 a b) := .tup (SqT.of h) (.cons (.str _) (.cons (.str _) .nil))
theorem lay_p2 {a b : Str} (ha : PyData.canLay0 (.str a) = true) (hb : PyData.canLay0 (.str b) = true) : (p2 a b).canLay0 = true := by
  show (PyData.canLay0 (.str a) && (PyData.canLay0 (.str b) && true)) = true
  rw [ha, hb]; rfl
theorem eqv_p2 (a b : Str) : PyData.eqv (p2 a b) (p2 a b) = true := by simp [p2, PyData.eqv, PyData.eqvAll]
theorem shaped_p2 {a b : Str} (ha : PyData.canLay0 (.str a) = true) (hb : PyData.canLay0 (.str b) = true) : SeqAt.shaped (p2 a b) = true := by
  unfold SeqAt.shaped
  rw [lay_p2 ha hb]
  rfl
section
variable {K : PySem.W.Frag} {DU DS DR DT DX DM : Addr} {H : Hp} {Q : VK} {x : V} {z : Str}
theorem hd_size (o : ∀ H', Same H H' → Rp K H' x z) (k : ∀ t H8, Same H H8 → H t = none → H8 t = some (.tup [.str (Str.ofString "size"), .str z]) → Q (.ref t) H8) : Bf DS "value" x H (HeardX K DU DS DR DT DX DM Q) := fun d fs H7 s7 hd f1 =>
  have s8 : Same H (upd H7 d (.xd fs)) := s7.trans (same_new hd)
  .inr (.inl ⟨rfl, d, fs, x, z, rfl, upd_same, f1, o _ s8, fun t H8 s9 n9 h9 => k t H8 (s8.trans s9) (s8.free n9) h9⟩)
theorem hd_rule (k : ∀ t H8, Same H H8 → H t = none → H8 t = some (.tup [.str (Str.ofString "rule"), x]) → Q (.ref t) H8) : Bf DU "part" x H (HeardX K DU DS DR DT DX DM Q) := fun d fs H7 s7 hd f1 =>
  have s8 : Same H (upd H7 d (.xd fs)) := s7.trans (same_new hd)
  .inl ⟨rfl, d, fs, x, rfl, upd_same, f1, fun t H8 s9 n9 h9 => k t H8 (s8.trans s9) (s8.free n9) h9⟩
end
theorem no_out {i lo hi : Int} (h1 : lo ≤ i) (h2 : i ≤ hi) : inB (.int i) lo hi = true := by
  unfold inB
  simp only [Bool.and_eq_true, decide_eq_true_eq]
  exact ⟨h1, h2⟩
theorem fx_ok {K : PySem.W.Frag} {FC DS : Addr} {H : Hp} {E : XK} {R : Hp → Prop} {n : Int} {x dx : Addr} (n1 : 1 ≤ n) (n2 : n ≤ 10 ^ 30) (hx : H x = none) (hdx : H dx = none) (ne : dx ≠ x) (k : ∀ H', Same H H' → FxAt FC H' x n → R H') :
    spFxi K FC DS [.ref x, .int n] (upd (upd H dx (.own x)) x (.ins FC dx [])) (fun v H2 => v = .non ∧ R H2) E := by
  have h := FixV.make (K := K) (DS := DS) (FC := FC) (E := E) (H := H) (Q := fun v H' => v = .ref x → R H') (v := .int n) ⟨.int n, fun z => (by rw [no_out n1 n2] at z; cases z), fun m e _ _ a H' s f fa z => by cases e; cases z; exact k H' s fa⟩ x dx hx hdx ne
  have e : (fun (v : V) (H2 : Hp) => v = .non ∧ ((V.ref x) = .ref x → R H2)) = (fun v H2 => v = .non ∧ R H2) := by
    funext v H2
    simp
  rw [← e]
  exact h
theorem dv_ok {K : PySem.W.Frag} {VC DU : Addr} {H : Hp} {E : XK} {R : Hp → Prop} {i j w : Int} {x dx : Addr} (i1 : 0 ≤ i) (i2 : i ≤ 24) (j1 : -1000 ≤ j) (j2 : j ≤ 1000) (w1 : 1 ≤ w) (w2 : w ≤ 24) (hx : H x = none) (hdx : H dx = none) (ne : dx ≠ x) (k : ∀ H', Same H H' → DvAt VC H' x i j w → R H') :
    spDvi K VC DU [.ref x, .int i, .int j, .int w] (upd (upd H dx (.own x)) x (.ins VC dx [])) (fun v H2 => v = .non ∧ R H2) E := by
  have h := DivV.make (K := K) (DU := DU) (VC := VC) (E := E) (H := H) (Q := fun v H' => v = .ref x → R H') (vx := .int i) (vy := .int j) (vw := .int w) ⟨.int i, .int j, .int w, fun z => (by rw [no_out i1 i2] at z; cases z), fun a e _ _ => by
      cases e
      exact ⟨fun z => (by rw [no_out j1 j2] at z; cases z), fun b e _ _ => by
        cases e
        exact ⟨fun z => (by rw [no_out w1 w2] at z; cases z), fun c e _ _ a H' s f fa z => by cases e; cases z; exact k H' s fa⟩⟩⟩ x dx hx hdx ne
  have e : (fun (v : V) (H2 : Hp) => v = .non ∧ ((V.ref x) = .ref x → R H2)) = (fun v H2 => v = .non ∧ R H2) := by
    funext v H2
    simp
  rw [← e]
  exact h
def spLis (K : PySem.W.Frag) : Sp := fun vs H Q _ => ∃ x lo hi, vs = [x, .int lo, .int hi] ∧ Anyv K H x ∧ Q (.bl (inB x lo hi)) H
def spLx (TS : List (Addr × Str)) : Sp := fun vs H Q _ => ∃ (p pl : Addr) (n0 : Nat), vs = [.ref p] ∧ Pen H p pl n0 ∧ n0 ≤ 800000 ∧ Tabs TS H ∧ ∀ H', Pen H' p pl (n0 + 20) → Tabs TS H' → Q (.bl true) H'
theorem tk_odd {K : PySem.W.Frag} {t1 : Addr} {v : V} (h : v = .int (10 ^ 30 + 1) ∨ v = .int 0 ∨ v = .int (-1) ∨ v = .bl true ∨ v = .non ∨ v = .str (Str.ofString "3") ∨ v = .ref t1) : inB v 1 (10 ^ 30) = false ∧ ∃ z, Od1 K [(t1, HO.tup [V.int 3])] v z := by
  rcases h with rfl | rfl | rfl | rfl | rfl | rfl | rfl
  · exact ⟨by decide +kernel, _, fun H k => ⟨.int _, .int _ (by decide +kernel)⟩, by decide +kernel⟩
  · exact ⟨by decide +kernel, _, fun H k => ⟨.int _, .int _ (by decide +kernel)⟩, by decide +kernel⟩
  · exact ⟨by decide +kernel, _, fun H k => ⟨.int _, .int _ (by decide +kernel)⟩, by decide +kernel⟩
  · exact ⟨rfl, _, fun H k => ⟨.bl _, .bl _⟩, by decide +kernel⟩
  · exact ⟨rfl, _, fun H k => ⟨.non, .non⟩, by decide +kernel⟩
  · exact ⟨rfl, _, fun H k => ⟨.str _, .str _ (by decide +kernel)⟩, by decide +kernel⟩
  · refine ⟨rfl, (PyData.tuple [.int 3]).shown, fun H k => ?_, by decide +kernel⟩
    have h := k (t1, HO.tup [V.int 3]) List.mem_cons_self
    exact ⟨.obj (.x (.base (.tup h))) (kit_ty (by decide +kernel)) (kit_ty (by decide +kernel)) (kit_ty (by decide +kernel)), .data (.tup (SqT.of h) (.cons (.int 3) .nil)) rfl rfl (by decide +kernel) (by decide +kernel)⟩
theorem iteT' {c : Bool} {p q : Prop} (h : c = true) (hp : p) : if c = true then p else q := by
  rw [if_pos h]
  exact hp
theorem iteF' {c : Bool} {p q : Prop} (h : c = false) (hq : q) : if c = true then p else q := by
  rw [if_neg (by rw [h]; exact Bool.false_ne_true)]
  exact hq
theorem mkd_ok {K : PySem.W.Frag} {DU : Addr} {i j w : Int} {H : Hp} {E : XK} {R : Int → Int → Int → Prop} (i1 : 0 ≤ i) (i2 : i ≤ 24) (j1 : -1000 ≤ j) (j2 : j ≤ 1000) (w1 : 1 ≤ w) (w2 : w ≤ 24) (k : R i j w) : MkD K DU (.int i) (.int j) (.int w) H E R :=
  ⟨fun z => (by rw [no_out i1 i2] at z; cases z), fun a e _ _ => by
    cases e
    exact ⟨fun z => (by rw [no_out j1 j2] at z; cases z), fun b e _ _ => by
      cases e
      exact ⟨fun z => (by rw [no_out w1 w2] at z; cases z), fun c e _ _ => by cases e; exact k⟩⟩⟩
theorem ife {c : Bool} {σ : L2.St} {i : Nat} {x y : V} {H : Hp} {Q : VK} (h : σ[i]? = some (some x)) (q : Q (if c = true then x else y) H) : if c = true then tVar i σ H Q else tC y σ H Q := by
  cases c with
  | true => exact ⟨x, h, q⟩
  | false => exact q
/-- a value that is of no int, as long as its object stays -/
def Val (K : PySem.W.Frag) (LL : List (Addr × HO)) (v : V) : Prop := ∀ H, Keeps LL H → Anyv K H v
def oddL (t1 l2 d3 : Addr) : List V := [.non, .bl true, .str (Str.ofString "1"), .ref t1, .ref l2, .ref d3, .bl false]
def odK (t1 l2 d3 L : Addr) : List (Addr × HO) := [(L, .lst (oddL t1 l2 d3)), (d3, .dK []), (l2, .lst []), (t1, .tup [V.int 1])]
theorem odd_val {K : PySem.W.Frag} {t1 l2 d3 L : Addr} {v : V} (h : v ∈ oddL t1 l2 d3) : Val K (odK t1 l2 d3 L) v ∧ ∀ lo hi, inB v lo hi = false := by
  unfold oddL at h
  simp only [List.mem_cons, List.not_mem_nil, or_false] at h
  rcases h with rfl | rfl | rfl | rfl | rfl | rfl | rfl
  · exact ⟨fun H _ => .non, fun _ _ => rfl⟩
  · exact ⟨fun H _ => .bl _, fun _ _ => rfl⟩
  · exact ⟨fun H _ => .str _, fun _ _ => rfl⟩
  · refine ⟨fun H k => ?_, fun _ _ => rfl⟩
    have h := k (t1, HO.tup [V.int 1]) (by simp [odK])
    exact .obj (.x (.base (.tup h))) (kit_ty (by decide +kernel)) (kit_ty (by decide +kernel)) (kit_ty (by decide +kernel))
  · refine ⟨fun H k => ?_, fun _ _ => rfl⟩
    have h := k (l2, HO.lst []) (by simp [odK])
    exact .obj (.x (.base (.lst h))) (kit_ty (by decide +kernel)) (kit_ty (by decide +kernel)) (kit_ty (by decide +kernel))
  · refine ⟨fun H k => ?_, fun _ _ => rfl⟩
    have h := k (d3, HO.dK []) (by simp [odK])
    exact .obj (.x (.base (.dK h))) (kit_ty (by decide +kernel)) (kit_ty (by decide +kernel)) (kit_ty (by decide +kernel))
  · exact ⟨fun H _ => .bl _, fun _ _ => rfl⟩
def dueV (bx byy bw : Bool) : V := if bx = true then (if byy = true then (if bw = true then .non else .str (Str.ofString "w")) else .str (Str.ofString "y")) else .str (Str.ofString "x")
/-- three values: good ones, or the first wrong one's part -/
theorem three_cases (K : PySem.W.Frag) (DU : Addr) (vx vy vw : V) : (∃ x y w, vx = .int x ∧ vy = .int y ∧ vw = .int w ∧ 0 ≤ x ∧ x ≤ 24 ∧ -1000 ≤ y ∧ y ≤ 1000 ∧ 1 ≤ w ∧ w ≤ 24 ∧ dueV (inB vx 0 24) (inB vy (-1000) 1000) (inB vw 1 24) = .non) ∨
    ∃ part : Str, dueV (inB vx 0 24) (inB vy (-1000) 1000) (inB vw 1 24) = .str part ∧ PyData.canLay0 (.str part) = true ∧ ∀ H E R, Bf DU "part" (.str part) H E → MkD K DU vx vy vw H E R := by
  cases hx : inB vx 0 24 with
  | false =>
    refine .inr ⟨Str.ofString "x", rfl, by decide +kernel, fun H E R b => ⟨fun _ => b, fun x e x1 x2 => ?_⟩⟩
    rw [e, no_out x1 x2] at hx
    cases hx
  | true =>
    obtain ⟨x, rfl, x1, x2⟩ := wt_in hx
    cases hy : inB vy (-1000) 1000 with
    | false =>
      refine .inr ⟨Str.ofString "y", rfl, by decide +kernel, fun H E R b => ⟨fun z => (by rw [hx] at z; cases z), fun _ _ _ _ => ⟨fun _ => b, fun y e y1 y2 => ?_⟩⟩⟩
      rw [e, no_out y1 y2] at hy
      cases hy
    | true =>
      obtain ⟨y, rfl, y1, y2⟩ := wt_in hy
      cases hw : inB vw 1 24 with
      | false =>
        refine .inr ⟨Str.ofString "w", rfl, by decide +kernel, fun H E R b => ⟨fun z => (by rw [hx] at z; cases z), fun _ _ _ _ => ⟨fun z => (by rw [hy] at z; cases z), fun _ _ _ _ => ⟨fun _ => b, fun w e w1 w2 => ?_⟩⟩⟩⟩
        rw [e, no_out w1 w2] at hw
        cases hw
      | true =>
        obtain ⟨w, rfl, w1, w2⟩ := wt_in hw
        exact .inl ⟨x, y, w, rfl, rfl, rfl, x1, x2, y1, y2, w1, w2, rfl⟩
section
variable {P : Program} {w : World} {K : PySem.W.Frag} {mg : Str → Option Value} {base : Heap} {FC VC UC BC DU DS DR DT DX DM_ L gH fF fD c0 B : Addr} {fdH fdF fdD : FuncData} {TS : List (Addr × Str)} {gUF gUD : List Value → List Value → List Value}
theorem scLis : FnScope ["_law_value_so", "_law_low", "_law_high"] ["_law_value_so", "_law_low", "_law_high"] (C8.fnScope sLis) := C8.fnScope_by (by decide +kernel)
theorem cal_lis {f : Addr} {fd : FuncData} (F : C8.Def K mg "_law_is" sLis f fd) (b : Binds K fd ["_law_value_so", "_law_low", "_law_high"] []) (T : Txt mg) : C8.Cal P w K mg base 1 "_law_is" (spLis K) [] := by
  refine C8.cal0 F b .nil scLis (fun vs H Q E h => ?_) (fun cdv A outer st H vs Q E hr h => ?_)
  · obtain ⟨x, lo, hi, rfl, _⟩ := h
    rfl
  · obtain ⟨x, lo, hi, rfl, a, k⟩ := h
    refine ⟨_, (pss_one (ps_ret (pe_and (pe_callB call_isz (by rfl) T.n_isinstance (by decide +kernel) (pa_cons (pv 0) (pa_cons (pe_bltn (v := .ty "int") (by rfl) T.n_int (by decide +kernel) rfl) pa_nil))) (pe_and (pe_not (pe_callB call_isz (by rfl) T.n_isinstance (by decide +kernel) (pa_cons (pv 0) (pa_cons (pe_bltn (v := .ty "bool") (by rfl) T.n_bool (by decide +kernel) rfl) pa_nil)))) (pe_one (pe_chain op_le op_le (pv 1) (pv 0) (pv 2))))))), ?_⟩
    refine ⟨_, rfl, ?_⟩
    dsimp only [tCons, tC, tNil]
    refine isz_int a ⟨_, rfl, ?_⟩
    cases a with
    | int i =>
      refine iteT ⟨_, rfl, ?_⟩
      dsimp only [tCons, tC, tNil]
      refine isz_bool (.int i) ⟨_, rfl, _, rfl, iteT ⟨_, rfl, _, rfl, _, _, rfl, rfl, _, rfl, ite2 (fun c => ?_) (fun c => ?_)⟩⟩
      · refine ⟨_, rfl, _, _, rfl, rfl, ?_⟩
        rw [show inB (.int i) lo hi = decide (i ≤ hi) by simp [inB, of_decide_eq_true c]] at k
        exact k
      · rw [show inB (.int i) lo hi = false by simp [inB, of_decide_eq_false (Bool.eq_false_iff.mpr c)]] at k
        exact k
    | bl b =>
      refine iteT ⟨_, rfl, ?_⟩
      dsimp only [tCons, tC, tNil]
      exact isz_bool (.bl b) ⟨_, rfl, _, rfl, iteF k⟩
    | non => exact iteF k
    | str z => exact iteF k
    | obj h h1 h2 h3 => exact iteF k
theorem scLfx : FnScope ["_law_pen_here", "_law_value_so", "_law_heard_here", "_law_made", "_law_told_so"] ["_law_pen_here"] (C8.fnScope sLfx) := C8.fnScope_by (by decide +kernel)
theorem cal_lfx {f : Addr} {fd : FuncData} (F : DefC K mg "_law_fixed_right" sLfx f fd c0) (b : Binds K fd ["_law_pen_here"] []) (FH : C8.Def K mg "_law_heard" sHea gH fdH) (bH : Binds K fdH ["_law_ask"] []) (TB : TabB base mg c0 B) (TO : TabOf TS B "_law_fixed_right")
    (R : Hrd K mg DU DS DR DT DX DM_ L) (T : Txt mg) (FM : FixM P w K mg base FC DS fF fdF) (KBF : KBn K fdF ["self", "size"] 1 ["size"] gUF (fun a zs => a ++ zs)) (FE : MetX P w K mg base 1 FC "__eq__" (spFxe K FC)) (FN : NeC K FC) (Z : FxC K FC) (I : C8.InsC K FC) (hUC : mg "Rule" = some (.ref UC)) (kFU : PySem.W.kitOne K (.ref FC) (.ref UC) = some true) (nfI : PySem.W.notFirst K FC (.type "int") = true) (kI : PySem.W.kitOne K (.type "int") (.ref FC) = some false)
    (D0 : C8.Cal P w K mg base 1 "_law_draw" spDraw []) (DP : C8.Cal P w K mg base 2 "_law_pick" (spPick K) []) (DI : C8.Cal P w K mg base 1 "_law_is" (spLis K) []) : CalG P w K mg base 12 "_law_fixed_right" (spLx TS) [] := by
  obtain ⟨ocH, odH, dVH, kVH, docH, pmH, anH, cdvH, ctH, oslH, rfl, lkH, cdH⟩ := FH.fn.ex
  refine calGC F b .nil scLfx (fun vs H Q E h => ?_) (fun A outer st H vs Q E hG hr h => ?_)
  · obtain ⟨p, pl, n0, rfl, _⟩ := h
    rfl
  · obtain ⟨p, pl, n0, rfl, hp, hn, ht, k⟩ := h
    refine ⟨_, (pss_cons (ps_set (i := 1) scLfx.nd rfl (Or.inr rfl) (C8.pe_c DP hr (by decide) (by rfl) (pa_cons (pv 0) (pa_cons (pe_lst (pa_cons pe_int (pa_cons pe_int (pa_cons (pe_op op_pow pe_int pe_int) (pa_cons (pe_op op_add (pe_op op_pow pe_int pe_int) pe_int) (pa_cons pe_int (pa_cons (pe_un un_neg pe_int) (pa_cons pe_bl (pa_cons pe_non (pa_cons pe_str (pa_cons (pe_tup (pa_cons pe_int pa_nil)) (pa_cons (pe_op op_add pe_int (C8.pe_c D0 hr (by decide) (by rfl) (pa_cons (pv 0) (pa_cons pe_int pa_nil)))) pa_nil)))))))))))) pa_nil))))
  (pss_cons (ps_set (i := 2) scLfx.nd rfl (Or.inl rfl) (pe_lamcall (k := 8) (T := TS) (TT := TTheard K DU DS DR DT DX DM_) (by rfl) FH.mgf FH.kp lkH cdH bH scHea rfl (.inl rfl) (heard_gives R T hG (hr.mono (by decide))) TB rfl TO.mem TO.own (hr.mono (by decide)) (lamS_by (by rfl)) rfl (fun _ _ _ _ _ => rfl)
      (fun A outer s H E f c2 hr2 => (by exact (pe_make FM.M FM.F (hr2.mono (Nat.le_of_ble_eq_true rfl)) (by rfl) FM.hm FM.b .nil (passes_call (takes_of rfl rfl rfl rfl) (fun _ _ _ _ z => z)) (pa_cons (pv 1) pa_nil))))))
  (pss_cons (ps_if (pt_not (pt_val (C8.pe_c DI hr (by decide) (by rfl) (pa_cons (pv 1) (pa_cons pe_int (pa_cons (pe_op op_pow pe_int pe_int) pa_nil)))))) (pss_one (ps_ret (pe_cmpR (op_eqD hr.units) (pv 2) (pe_tup (pa_cons pe_str (pa_cons (pe_callB (call_reprX hG (hr.mono (by decide))) (by rfl) T.n_repr (by decide +kernel) (pa_cons (pv 1) pa_nil)) pa_nil))) (nomark _)))) pss_nil)
  (pss_cons (ps_set (i := 3) scLfx.nd rfl (Or.inl rfl) (pe_ix ix_list (pv 2) pe_int (fun _ _ => rfl)))
  (pss_cons (ps_set (i := 4) scLfx.nd rfl (Or.inl rfl) (pe_lst (pa_cons (pe_fldK K rfl (pv 3) rfl) (pa_cons (pe_fldK K rfl (pv 3) rfl) (pa_cons (pe_callB call_len_seq (by rfl) T.n_len (by decide +kernel) (pa_cons (pe_fldK K rfl (pv 3) rfl) pa_nil)) (pa_cons (pe_cmpR (op_eqXK K rfl (E := C8.E0) FE (passes_call takes0 (fun _ _ _ _ z => z)) hr (by decide)) (pe_ix ix_tup (pe_fldK K rfl (pv 3) rfl) pe_int (fun _ _ => rfl)) (pv 3) (nomark _)) (pa_cons (pe_callB call_isz (by rfl) T.n_isinstance (by decide +kernel) (pa_cons (pv 3) (pa_cons (pe_glob (v := .ref UC) (by rfl) hUC rfl) pa_nil))) pa_nil)))))))
  (pss_one (ps_ret (pe_and (pe_cmpR (op_eqD hr.units) (pv 4) (pe_lst (pa_cons (pv 1) (pa_cons pe_int (pa_cons pe_int (pa_cons pe_bl (pa_cons pe_bl pa_nil)))))) (nomark _)) (pe_and (pe_cmpR (op_eqXK K rfl (E := C8.E0) FE (passes_call takes0 (fun _ _ _ _ z => z)) hr (by decide)) (pe_makeK0 (E := C8.E0) FM.M FM.F (hr.mono (by decide)) (by rfl) FM.hm KBF (passes_call takes0 (fun _ _ _ _ z => z)) (pk_cons (pv 1) pk_nil)) (pv 3) (nomark _)) (pe_one (pe_cmpR (op_neXK K rfl (E := C8.E0) FN FE (passes_call takes0 (fun _ _ _ _ z => z)) hr (by decide)) (pv 3) (pv 1) (nomark _)))))))))))), ?_⟩
    have S0 : Sv TS p pl n0 [] H := ⟨hp, ht, fun e he => (by cases he), fun e he => (by cases he)⟩
    refine ⟨_, rfl, _, _, rfl, rfl, (by unfold CPow; decide), _, _, rfl, rfl, (by unfold CPow; decide), _, _, rfl, rfl, _, rfl, (by show 1 ≤ sizeLine; decide), fun t1 f1 => ?_⟩
    have S1 := S0.fresh (o := HO.tup [V.int 3]) f1 (fun ps z => by cases z)
    refine ⟨_, rfl, p, pl, n0, 999, rfl, by decide, by decide, S1.hp, by omega, fun r H2 r0 r1 hp2 k2 => ⟨_, _, rfl, rfl, (by show 11 ≤ sizeLine; decide), fun q fq => ?_⟩⟩
    have S2 := S1.draw hp2 k2
    have S3 := S2.same (same_new (o := HO.lst [V.int 1, V.int 2, V.int (10 ^ (30 : Int).toNat), V.int (10 ^ (30 : Int).toNat + 1), V.int 0, V.int (-1), V.bl true, V.non, V.str (Str.ofString "3"), V.ref t1, V.int (1 + r)]) fq)
    refine ⟨p, pl, q, _, _, rfl, S3.hp, by omega, SqL.of upd_same, S2.hp.ne_new fq, by show 0 < 11; decide, by show 11 < 1000000; decide, fun j v H4 hj hp4 k4 => ?_⟩
    have S4 := S3.draw hp4 k4
    clear S3 S2 S1 S0 k4 k2 hp4 hp2 fq f1 hp ht
    have vv : (∃ n, v = .int n ∧ 1 ≤ n ∧ n ≤ 10 ^ 30) ∨ (inB v 1 (10 ^ 30) = false ∧ ∃ z, Od1 K [(t1, HO.tup [V.int 3])] v z) := by
      have hv := List.mem_of_getElem? hj
      simp only [List.mem_cons, List.not_mem_nil, or_false] at hv
      rcases hv with rfl | rfl | rfl | rfl | rfl | rfl | rfl | rfl | rfl | rfl | rfl
      · exact .inl ⟨_, rfl, by decide, by decide⟩
      · exact .inl ⟨_, rfl, by decide, by decide⟩
      · exact .inl ⟨_, rfl, by decide, by decide⟩
      · exact .inr (tk_odd (.inl rfl))
      · exact .inr (tk_odd (.inr (.inl rfl)))
      · exact .inr (tk_odd (.inr (.inr (.inl rfl))))
      · exact .inr (tk_odd (.inr (.inr (.inr (.inl rfl)))))
      · exact .inr (tk_odd (.inr (.inr (.inr (.inr (.inl rfl))))))
      · exact .inr (tk_odd (.inr (.inr (.inr (.inr (.inr (.inl rfl)))))))
      · exact .inr (tk_odd (.inr (.inr (.inr (.inr (.inr (.inr rfl)))))))
      · exact .inl ⟨_, rfl, by omega, Int.le_trans (show 1 + r ≤ 1000 by omega) (by decide)⟩
    clear hj
    dsimp only [gName, tSeq]
    refine ⟨S4.ht, fun H5 x5 t5 H6 s6 => ?_⟩
    have S6 := (S4.ext x5 t5).same s6
    clear S4 x5 t5 s6
    rcases vv with ⟨n, rfl, n1, n2⟩ | ⟨bad, z, od, zl⟩
    · refine ⟨_, rfl, fun x dx hx hdx ne => FixV.make (DS := DS) ⟨.int n, fun z => (by rw [no_out n1 n2] at z; cases z), ?_⟩ x dx hx hdx ne⟩
      rintro m em _ _ a H7 s7 f7 fa l H8 s8 n8 h8
      cases em
      have S8 := (S6.same s7).same s8
      have fa8 := fa.on s8
      clear S6 s7 s8 hx hdx ne
      dsimp only [gName, tSeq]
      refine ⟨_, rfl, _, _, rfl, rfl, (by unfold CPow; decide), .int n, 1, _, rfl, .int n, _, rfl, ?_⟩
      rw [show inB (.int n) 1 (10 ^ (30 : Int).toNat) = true from no_out n1 n2]
      refine iteF ?_
      dsimp only [tNext, tSeq]
      obtain ⟨da, pp, ha, hpp⟩ := id fa8
      have ta : TyX K H8 (.ref a) (.ref FC) := .base (.ins ha I.cl I.ha I.hn I.htk I.hm)
      refine ⟨_, rfl, l, _, (0 : Int), _, rfl, rfl, SqL.of h8, atI_nat (j := 0) rfl, ?_⟩
      dsimp only [gName, tSeq]
      refine ⟨_, rfl, a, FC, da, _, _, rfl, ha, Z.cl, Z.n1, fxP_size _ _, _, rfl, a, FC, da, _, _, rfl, ha, Z.cl, Z.n3, fxP_mod _ _, _, rfl, a, FC, da, _, _, rfl, ha, Z.cl, Z.n2, fxP_parts _ _, pp, _, rfl, .inr (SqT.of hpp), ?_⟩
      refine ⟨_, rfl, a, FC, da, _, _, rfl, ha, Z.cl, Z.n2, fxP_parts _ _, pp, _, (0 : Int), _, rfl, rfl, SqT.of hpp, atI_nat (j := 0) rfl, _, rfl, a, da, _, .ref FC, rfl, ha, ta, by simp [PySem.W.notFirst], a, .ref a, n, rfl, fa8, .inr ⟨a, n, rfl, fa8, ?_⟩⟩
      rw [decide_eq_true rfl]
      refine ⟨_, rfl, _, .ref UC, .ref FC, .ref UC, true, rfl, .own UC, .x ta, kFU, (by show 5 ≤ sizeLine; decide), fun u fu => ?_⟩
      have s9 := same_new (o := HO.lst [V.int n, V.int 1, V.int (([V.ref a] : List V).length : Int), V.bl true, V.bl true]) fu
      have hu : upd H8 u (.lst [V.int n, V.int 1, V.int (([V.ref a] : List V).length : Int), V.bl true, V.bl true]) u = some (.lst [V.int n, V.int 1, V.int 1, V.bl true, V.bl true]) := upd_same
      have S9 := S8.same s9
      have fa9 := fa8.on s9
      generalize upd H8 u _ = H9 at s9 hu S9 fa9 ⊢
      clear S8 fa8 s9 ta ha hpp h8
      dsimp only [gName, tSeq]
      refine ⟨_, rfl, _, rfl, (by show 5 ≤ sizeLine; decide), fun u2 fu2 => ?_⟩
      have s10 := same_new (o := HO.lst [V.int n, V.int 1, V.int 1, V.bl true, V.bl true]) fu2
      have S10 := S9.same s10
      have fa10 := fa9.on s10
      have dpu : ∀ {H : Hp}, DpAll K H [V.int n, V.int 1, V.int 1, V.bl true, V.bl true] [PyData.int n, .int 1, .int 1, .bool true, .bool true] := fun {H} => .cons (.int n) (.cons (.int 1) (.cons (.int 1) (.cons (.bl true) (.cons (.bl true) .nil))))
      refine ⟨_, _, .lst (SqL.of (s10 _ _ hu)) dpu, .lst (SqL.of upd_same) dpu, rfl, rfl, ?_⟩
      rw [show PyData.eqv (.list [PyData.int n, .int 1, .int 1, .bool true, .bool true]) (.list [PyData.int n, .int 1, .int 1, .bool true, .bool true]) = true by simp [PyData.eqv, PyData.eqvAll]]
      generalize upd H9 u2 _ = H10 at S10 fa10 ⊢
      clear S9 fa9 s10 hu
      refine ⟨_, rfl, iteT ⟨_, rfl, rfl, rfl, fun b dx hx hdx ne => fx_ok n1 n2 hx hdx ne fun H11 s11 fb => ?_⟩⟩
      have S11 := S10.same s11
      have fa11 := fa10.on s11
      obtain ⟨da, pp, ha, hpp⟩ := id fa11
      obtain ⟨db, pb, hb, hpb⟩ := id fb
      have ta : TyX K H11 (.ref a) (.ref FC) := .base (.ins ha I.cl I.ha I.hn I.htk I.hm)
      refine ⟨_, rfl, b, db, _, .ref FC, rfl, hb, ta, by simp [PySem.W.notFirst], b, .ref a, n, rfl, fb, .inr ⟨a, n, rfl, fa11, ?_⟩⟩
      rw [decide_eq_true rfl]
      refine ⟨_, rfl, iteT ⟨_, rfl, _, rfl, a, da, _, .type "int", rfl, ha, .base (.int n), nfI, a, .int n, n, rfl, fa11, .inl ⟨⟨.type "int", .x (.base (.int n)), kI⟩, _, rfl, ?_⟩⟩⟩
      exact k _ (S11.hp.more (by omega)) S11.ht
    · refine ⟨_, rfl, fun x dx hx hdx ne => FixV.make (DS := DS) ⟨(od _ S6.kL).1, fun _ => hd_size (fun H' s' => (od _ (S6.same s').kL).2) fun t H8 s8 n8 h8 => ?_, fun n e n1 n2 => (by rw [e, no_out n1 n2] at bad; cases bad)⟩ x dx hx hdx ne⟩
      have S8 := S6.same s8
      clear S6 s8 hx hdx ne
      dsimp only [gName, tSeq]
      refine ⟨_, rfl, _, _, rfl, rfl, (by unfold CPow; decide), v, 1, _, rfl, (od _ S8.kL).1, _, rfl, ?_⟩
      rw [show inB v 1 (10 ^ (30 : Int).toNat) = false from bad]
      refine iteT ⟨_, rfl, _, rfl, v, z, rfl, (od _ S8.kL).2, (by show 2 ≤ sizeLine; decide), fun t2 f2 => ?_⟩
      have S9 := S8.same (same_new (o := HO.tup [V.str (Str.ofString "size"), V.str z]) f2)
      have hw : (PyData.str (Str.ofString "size")).canLay0 = true := by decide +kernel
      refine ⟨_, _, dp_p2 (same_new f2 _ _ h8), dp_p2 upd_same, shaped_p2 hw zl, shaped_p2 hw zl, ?_⟩
      rw [eqv_p2]
      exact k _ (S9.hp.more (by omega)) S9.ht
end
end Lw
namespace Lw
open PySem PySem.Spec PyProof.Rows L2
open SX PySem.NumText TL LamX ClX StX
set_option pp.maxSteps 900
abbrev sLdv : Stmt := top 51

section
variable {P : Program} {w : World} {K : PySem.W.Frag} {mg : Str → Option Value} {base : Heap} {FC VC UC BC DU DS DR DT DX DM_ L gH fF fD c0 B : Addr} {fdH fdF fdD : FuncData} {TS : List (Addr × Str)} {gUF gUD : List Value → List Value → List Value}
theorem scLdv : FnScope ["_law_pen_here", "_law_odd", "_law_x_so", "_law_y_so", "_law_w_so", "_law_due", "_law_made", "_law_told_so", "_law_heard_here"] ["_law_pen_here"] (C8.fnScope sLdv) := C8.fnScope_by (by decide +kernel)
set_option maxHeartbeats 4000000 in
theorem cal_ldv {f : Addr} {fd : FuncData} (F : DefC K mg "_law_divided_right" sLdv f fd c0) (b : Binds K fd ["_law_pen_here"] []) (FH : C8.Def K mg "_law_heard" sHea gH fdH) (bH : Binds K fdH ["_law_ask"] []) (TB : TabB base mg c0 B) (TO : TabOf TS B "_law_divided_right")
    (R : Hrd K mg DU DS DR DT DX DM_ L) (T : Txt mg) (DM : DivM P w K mg base VC DU fD fdD) (KBD : KBn K fdD ["self", "x", "y", "w"] 1 ["w", "y", "x"] gUD (fun a zs => a ++ zs.reverse)) (GE : MetX P w K mg base 1 VC "__eq__" (spDve K VC)) (Z : DvC K VC) (I : C8.InsC K VC) (hUC : mg "Rule" = some (.ref UC)) (kVU : PySem.W.kitOne K (.ref VC) (.ref UC) = some true)
    (D0 : C8.Cal P w K mg base 1 "_law_draw" spDraw []) (DP : C8.Cal P w K mg base 2 "_law_pick" (spPick K) []) (DI : C8.Cal P w K mg base 1 "_law_is" (spLis K) []) : CalG P w K mg base 12 "_law_divided_right" (spLx TS) [] := by
  obtain ⟨ocH, odH, dVH, kVH, docH, pmH, anH, cdvH, ctH, oslH, rfl, lkH, cdH⟩ := FH.fn.ex
  refine calGC F b .nil scLdv (fun vs H Q E h => ?_) (fun A outer st H vs Q E hG hr h => ?_)
  · obtain ⟨p, pl, n0, rfl, _⟩ := h
    rfl
  · obtain ⟨p, pl, n0, rfl, hp, hn, ht, k⟩ := h
    refine ⟨_, (pss_cons (ps_set (i := 1) scLdv.nd rfl (Or.inl rfl) (pe_lst (pa_cons pe_non (pa_cons pe_bl (pa_cons pe_str (pa_cons (pe_tup (pa_cons pe_int pa_nil)) (pa_cons (pe_lst pa_nil) (pa_cons pe_dnewK (pa_cons pe_bl pa_nil)))))))))
  (pss_cons (ps_set (i := 2) scLdv.nd rfl (Or.inr rfl) (C8.pe_c DP hr (by decide) (by rfl) (pa_cons (pv 0) (pa_cons (pe_lst (pa_cons pe_int (pa_cons pe_int (pa_cons pe_int (pa_cons pe_int (pa_cons (pe_un un_neg pe_int) (pa_cons (C8.pe_c D0 hr (by decide) (by rfl) (pa_cons (pv 0) (pa_cons pe_int pa_nil))) (pa_cons (C8.pe_c D0 hr (by decide) (by rfl) (pa_cons (pv 0) (pa_cons pe_int pa_nil))) (pa_cons (C8.pe_c DP hr (by decide) (by rfl) (pa_cons (pv 0) (pa_cons (pv 1) pa_nil))) pa_nil))))))))) pa_nil))))
  (pss_cons (ps_set (i := 3) scLdv.nd rfl (Or.inr rfl) (C8.pe_c DP hr (by decide) (by rfl) (pa_cons (pv 0) (pa_cons (pe_lst (pa_cons pe_int (pa_cons pe_int (pa_cons (pe_un un_neg pe_int) (pa_cons pe_int (pa_cons (pe_un un_neg pe_int) (pa_cons (pe_op op_sub (C8.pe_c D0 hr (by decide) (by rfl) (pa_cons (pv 0) (pa_cons pe_int pa_nil))) pe_int) (pa_cons pe_int (pa_cons (C8.pe_c DP hr (by decide) (by rfl) (pa_cons (pv 0) (pa_cons (pv 1) pa_nil))) pa_nil))))))))) pa_nil))))
  (pss_cons (ps_set (i := 4) scLdv.nd rfl (Or.inr rfl) (C8.pe_c DP hr (by decide) (by rfl) (pa_cons (pv 0) (pa_cons (pe_lst (pa_cons pe_int (pa_cons pe_int (pa_cons pe_int (pa_cons pe_int (pa_cons (pe_un un_neg pe_int) (pa_cons (pe_op op_add pe_int (C8.pe_c D0 hr (by decide) (by rfl) (pa_cons (pv 0) (pa_cons pe_int pa_nil)))) (pa_cons pe_int (pa_cons (C8.pe_c DP hr (by decide) (by rfl) (pa_cons (pv 0) (pa_cons (pv 1) pa_nil))) pa_nil))))))))) pa_nil))))
  (pss_cons (ps_par (i := 8) (j := 5) rfl scLdv.nd rfl rfl (by decide) rfl rfl (pa_cons (pe_lamcall (k := 8) (T := TS) (TT := TTheard K DU DS DR DT DX DM_) (by rfl) FH.mgf FH.kp lkH cdH bH scHea rfl (.inl rfl) (heard_gives R T hG (hr.mono (by decide))) TB rfl TO.mem TO.own (hr.mono (by decide)) (lamS_by (by rfl)) rfl (fun _ _ _ _ _ => rfl)
      (fun A outer s H E f c2 hr2 => (by exact (pe_make DM.M DM.F (hr2.mono (Nat.le_of_ble_eq_true rfl)) (by rfl) DM.hm DM.b .nil (passes_call (takes_of rfl rfl rfl rfl) (fun _ _ _ _ z => z)) (pa_cons (pv 2) (pa_cons (pv 3) (pa_cons (pv 4) pa_nil))))))) (pa_cons pe_non pa_nil)) (by rfl))
  (pss_cons (ps_set (i := 5) scLdv.nd rfl (Or.inl rfl) (pe_ifExp (pt_val (C8.pe_c DI hr (by decide) (by rfl) (pa_cons (pv 4) (pa_cons pe_int (pa_cons pe_int pa_nil))))) (pv 5) pe_str))
  (pss_cons (ps_set (i := 5) scLdv.nd rfl (Or.inl rfl) (pe_ifExp (pt_val (C8.pe_c DI hr (by decide) (by rfl) (pa_cons (pv 3) (pa_cons (pe_un un_neg pe_int) (pa_cons pe_int pa_nil))))) (pv 5) pe_str))
  (pss_cons (ps_set (i := 5) scLdv.nd rfl (Or.inl rfl) (pe_ifExp (pt_val (C8.pe_c DI hr (by decide) (by rfl) (pa_cons (pv 2) (pa_cons pe_int (pa_cons pe_int pa_nil))))) (pv 5) pe_str))
  (pss_cons (ps_if (pt_cmpR op_notN (pv 5) pe_non (nomark _)) (pss_one (ps_ret (pe_and (pe_cmpR (op_eqD hr.units) (pv 8) (pe_tup (pa_cons pe_str (pa_cons (pv 5) pa_nil))) (nomark _)) (pe_one (pe_cmpR (op_eqD hr.units) (pe_lamcall (k := 8) (T := TS) (TT := TTheard K DU DS DR DT DX DM_) (by rfl) FH.mgf FH.kp lkH cdH bH scHea rfl (.inl rfl) (heard_gives R T hG (hr.mono (by decide))) TB rfl TO.mem TO.own (hr.mono (by decide)) (lamS_by (by rfl)) rfl (fun _ _ _ _ _ => rfl)
      (fun A outer s H E f c2 hr2 => (by exact (pe_makeK0 DM.M DM.F (hr2.mono (Nat.le_of_ble_eq_true rfl)) (by rfl) DM.hm KBD (passes_call (takes_of rfl rfl rfl rfl) (fun _ _ _ _ z => z)) (pk_cons (pv 4) (pk_cons (pv 3) (pk_cons (pv 2) pk_nil))))))) (pv 8) (nomark _)))))) pss_nil)
  (pss_cons (ps_set (i := 6) scLdv.nd rfl (Or.inl rfl) (pe_ix ix_list (pv 8) pe_int (fun _ _ => rfl)))
  (pss_cons (ps_set (i := 7) scLdv.nd rfl (Or.inl rfl) (pe_lst (pa_cons (pe_fldK K rfl (pv 6) rfl) (pa_cons (pe_fldK K rfl (pv 6) rfl) (pa_cons (pe_fldK K rfl (pv 6) rfl) (pa_cons (pe_fldK K rfl (pv 6) rfl) (pa_cons (pe_callB call_len_seq (by rfl) T.n_len (by decide +kernel) (pa_cons (pe_fldK K rfl (pv 6) rfl) pa_nil)) (pa_cons (pe_cmpR (op_eqXK K rfl (E := C8.E0) GE (passes_call takes0 (fun _ _ _ _ z => z)) hr (by decide)) (pe_ix ix_tup (pe_fldK K rfl (pv 6) rfl) pe_int (fun _ _ => rfl)) (pv 6) (nomark _)) (pa_cons (pe_callB call_isz (by rfl) T.n_isinstance (by decide +kernel) (pa_cons (pv 6) (pa_cons (pe_glob (v := .ref UC) (by rfl) hUC rfl) pa_nil))) pa_nil)))))))))
  (pss_one (ps_ret (pe_and (pe_cmpR (op_eqD hr.units) (pv 7) (pe_lst (pa_cons (pv 2) (pa_cons (pv 3) (pa_cons (pv 4) (pa_cons (pv 4) (pa_cons pe_int (pa_cons pe_bl (pa_cons pe_bl pa_nil)))))))) (nomark _)) (pe_one (pe_cmpR (op_eqXK K rfl (E := C8.E0) GE (passes_call takes0 (fun _ _ _ _ z => z)) hr (by decide)) (pe_makeK0 (E := C8.E0) DM.M DM.F (hr.mono (by decide)) (by rfl) DM.hm KBD (passes_call takes0 (fun _ _ _ _ z => z)) (pk_cons (pv 4) (pk_cons (pv 3) (pk_cons (pv 2) pk_nil)))) (pv 6) (nomark _))))))))))))))))), ?_⟩
    have S0 : Sv TS p pl n0 [] H := ⟨hp, ht, fun e he => (by cases he), fun e he => (by cases he)⟩
    refine ⟨(by show 1 ≤ sizeLine; decide), fun t1 f1 => ⟨(by show 0 ≤ sizeLine; decide), fun l2 f2 d3 f3 => ⟨(by show 7 ≤ sizeLine; decide), fun L1 f4 => ?_⟩⟩⟩
    have S1 := S0.fresh (o := HO.tup [V.int 1]) f1 (fun ps z => by cases z)
    have S2 := S1.fresh (o := HO.lst []) f2 (fun ps z => by cases z)
    have S3 := S2.fresh (o := HO.dK []) f3 (fun ps z => by cases z)
    have S4 := S3.fresh (o := HO.lst [V.non, V.bl true, V.str (Str.ofString "1"), V.ref t1, V.ref l2, V.ref d3, V.bl false]) f4 (fun ps z => by cases z)
    generalize upd (upd (upd (upd H t1 _) l2 _) d3 _) L1 _ = H4 at S4 ⊢
    have S4 : Sv TS p pl n0 (odK t1 l2 d3 L1) H4 := S4
    have L1p : L1 ≠ p := (S4.nt (L1, .lst (oddL t1 l2 d3)) (by simp [odK])).1
    clear S0 S1 S2 S3 hp ht f1 f2 f3 f4
    have inV : ∀ {o v : V} {l : List V}, Val K (odK t1 l2 d3 L1) o → (∀ y ∈ l, y = o ∨ ∃ i, y = .int i) → v ∈ l → Val K (odK t1 l2 d3 L1) v := fun {o v l} ho h hv => by
      rcases h v hv with rfl | ⟨i, rfl⟩
      · exact ho
      · exact fun H _ => .int i
    dsimp only [gName, tSeq]
    refine ⟨_, rfl, _, rfl, _, rfl, p, pl, _, 25, rfl, by decide, by decide, S4.hp, by omega, fun ra Ha ra0 ra1 hpa ka => ?_⟩
    have Sa := S4.draw hpa ka
    refine ⟨_, rfl, p, pl, _, 25, rfl, by decide, by decide, Sa.hp, by omega, fun rb Hb rb0 rb1 hpb kb => ?_⟩
    have Sb := Sa.draw hpb kb
    refine ⟨_, rfl, _, rfl, p, pl, L1, _, _, rfl, Sb.hp, by omega, SqL.of (Sb.kL (L1, .lst (oddL t1 l2 d3)) (by simp [odK])), L1p, by show 0 < 7; decide, by show 7 < 1000000; decide, fun ja oa Hc hja hpc kc => ⟨(by show 8 ≤ sizeLine; decide), fun qa fqa => ?_⟩⟩
    have Sc := Sb.draw hpc kc
    have oka := (odd_val (K := K) (L := L1) (List.mem_of_getElem? hja)).1
    have Sd := Sc.same (same_new (o := HO.lst [V.int 0, V.int 1, V.int 24, V.int 25, V.int (-1), V.int ra, V.int rb, oa]) fqa)
    refine ⟨p, pl, qa, _, _, rfl, Sd.hp, by omega, SqL.of upd_same, Sc.hp.ne_new fqa, by show 0 < 8; decide, by show 8 < 1000000; decide, fun jx vx He hjx hpe ke => ?_⟩
    have Se := Sd.draw hpe ke
    have okx : Val K (odK t1 l2 d3 L1) vx := inV oka (by
      intro y hy
      simp only [List.mem_cons, List.not_mem_nil, or_false] at hy
      rcases hy with rfl | rfl | rfl | rfl | rfl | rfl | rfl | rfl
      all_goals first | exact .inr ⟨_, rfl⟩ | exact .inl rfl) (List.mem_of_getElem? hjx)
    clear S4 Sa Sb Sc Sd ka kb kc ke hpa hpb hpc hpe hja hjx fqa
    dsimp only [gName, tSeq]
    refine ⟨_, rfl, _, rfl, _, rfl, _, rfl, p, pl, _, 41, rfl, by decide, by decide, Se.hp, by omega, fun rc Hf rc0 rc1 hpf kf => ⟨_, _, rfl, rfl, ?_⟩⟩
    have Sf := Se.draw hpf kf
    refine ⟨_, rfl, _, rfl, p, pl, L1, _, _, rfl, Sf.hp, by omega, SqL.of (Sf.kL (L1, .lst (oddL t1 l2 d3)) (by simp [odK])), L1p, by show 0 < 7; decide, by show 7 < 1000000; decide, fun jb ob Hg hjb hpg kg => ⟨(by show 8 ≤ sizeLine; decide), fun qb fqb => ?_⟩⟩
    have Sg := Sf.draw hpg kg
    have okb := (odd_val (K := K) (L := L1) (List.mem_of_getElem? hjb)).1
    have Sh := Sg.same (same_new (o := HO.lst [V.int 0, V.int 1000, V.int (-1000), V.int 1001, V.int (-1001), V.int (rc - 20), V.int 5, ob]) fqb)
    refine ⟨p, pl, qb, _, _, rfl, Sh.hp, by omega, SqL.of upd_same, Sg.hp.ne_new fqb, by show 0 < 8; decide, by show 8 < 1000000; decide, fun jy vy Hi hjy hpi ki => ?_⟩
    have Si := Sh.draw hpi ki
    have oky : Val K (odK t1 l2 d3 L1) vy := inV okb (by
      intro y hy
      simp only [List.mem_cons, List.not_mem_nil, or_false] at hy
      rcases hy with rfl | rfl | rfl | rfl | rfl | rfl | rfl | rfl
      all_goals first | exact .inr ⟨_, rfl⟩ | exact .inl rfl) (List.mem_of_getElem? hjy)
    clear Se Sf Sg Sh kf kg ki hpf hpg hpi hjb hjy fqb
    dsimp only [gName, tSeq]
    refine ⟨_, rfl, _, rfl, _, rfl, p, pl, _, 24, rfl, by decide, by decide, Si.hp, by omega, fun rd Hj rd0 rd1 hpj kj => ⟨_, _, rfl, rfl, ?_⟩⟩
    have Sj := Si.draw hpj kj
    refine ⟨_, rfl, _, rfl, p, pl, L1, _, _, rfl, Sj.hp, by omega, SqL.of (Sj.kL (L1, .lst (oddL t1 l2 d3)) (by simp [odK])), L1p, by show 0 < 7; decide, by show 7 < 1000000; decide, fun jc oc Hk hjc hpk kk => ⟨(by show 8 ≤ sizeLine; decide), fun qc fqc => ?_⟩⟩
    have Sk := Sj.draw hpk kk
    have okc := (odd_val (K := K) (L := L1) (List.mem_of_getElem? hjc)).1
    have Sl := Sk.same (same_new (o := HO.lst [V.int 1, V.int 24, V.int 25, V.int 0, V.int (-1), V.int (1 + rd), V.int 2, oc]) fqc)
    refine ⟨p, pl, qc, _, _, rfl, Sl.hp, by omega, SqL.of upd_same, Sk.hp.ne_new fqc, by show 0 < 8; decide, by show 8 < 1000000; decide, fun jw vw Hm hjw hpm km => ?_⟩
    have Sm := Sl.draw hpm km
    have okw : Val K (odK t1 l2 d3 L1) vw := inV okc (by
      intro y hy
      simp only [List.mem_cons, List.not_mem_nil, or_false] at hy
      rcases hy with rfl | rfl | rfl | rfl | rfl | rfl | rfl | rfl
      all_goals first | exact .inr ⟨_, rfl⟩ | exact .inl rfl) (List.mem_of_getElem? hjw)
    clear Si Sj Sk Sl kj kk km hpj hpk hpm hjc hjw fqc
    dsimp only [gName, tSeq]
    refine ⟨Sm.ht, fun H5 x5 t5 H6 s6 => ?_⟩
    have S6 := (Sm.ext x5 t5).same s6
    clear Sm x5 t5 s6
    rcases three_cases K DU vx vy vw with ⟨x, y, w0, rfl, rfl, rfl, x1, x2, y1, y2, w1, w2, due⟩ | ⟨part, due, lay, mk⟩
    · refine ⟨_, rfl, _, rfl, _, rfl, fun a0 dx hx hdx ne => DivV.make (DU := DU) ⟨.int x, .int y, .int w0, mkd_ok x1 x2 y1 y2 w1 w2 fun a H7 s7 f7 fa l H8 s8 n8 h8 => ?_⟩ a0 dx hx hdx ne⟩
      have S8 := (S6.same s7).same s8
      have fa8 := fa.on s8
      unfold dueV at due
      clear S6 s7 s8 hx hdx ne fa
      refine ⟨_, _, rfl, ?_⟩
      dsimp only [gName, tSeq]
      refine ⟨_, rfl, .int w0, 1, 24, rfl, .int _, _, rfl, ife rfl ?_⟩
      dsimp only [gName, tSeq]
      refine ⟨_, rfl, _, rfl, .int y, -1000, 1000, rfl, .int _, _, rfl, ife rfl ?_⟩
      dsimp only [gName, tSeq]
      refine ⟨_, rfl, .int x, 0, 24, rfl, .int _, _, rfl, ife rfl ?_⟩
      rw [due]
      dsimp only [gName, tSeq]
      refine ⟨_, rfl, rfl, _, rfl, iteF' (by simp) ?_⟩
      dsimp only [tNext, tSeq]
      obtain ⟨da, pp, ha, hpp⟩ := id fa8
      have ta : TyX K H8 (.ref a) (.ref VC) := .base (.ins ha I.cl I.ha I.hn I.htk I.hm)
      refine ⟨_, rfl, l, _, (0 : Int), _, rfl, rfl, SqL.of h8, atI_nat (j := 0) rfl, ?_⟩
      dsimp only [gName, tSeq]
      refine ⟨_, rfl, a, VC, da, _, _, rfl, ha, Z.cl, Z.n1, dvP_x _ _ _ _, _, rfl, a, VC, da, _, _, rfl, ha, Z.cl, Z.n2, dvP_y _ _ _ _, _, rfl, a, VC, da, _, _, rfl, ha, Z.cl, Z.n3, dvP_w _ _ _ _, _, rfl, a, VC, da, _, _, rfl, ha, Z.cl, Z.n5, dvP_mod _ _ _ _, _, rfl, a, VC, da, _, _, rfl, ha, Z.cl, Z.n4, dvP_parts _ _ _ _, pp, _, rfl, .inr (SqT.of hpp), ?_⟩
      refine ⟨_, rfl, a, VC, da, _, _, rfl, ha, Z.cl, Z.n4, dvP_parts _ _ _ _, pp, _, (0 : Int), _, rfl, rfl, SqT.of hpp, atI_nat (j := 0) rfl, _, rfl, a, da, _, .ref VC, rfl, ha, ta, by simp [PySem.W.notFirst], a, .ref a, x, y, w0, rfl, fa8, .inr ⟨a, x, y, w0, rfl, fa8, ?_⟩⟩
      rw [decide_eq_true rfl, decide_eq_true rfl, decide_eq_true rfl, show (true && (true && true)) = true from rfl]
      refine ⟨_, rfl, _, .ref UC, .ref VC, .ref UC, true, rfl, .own UC, .x ta, kVU, (by show 7 ≤ sizeLine; decide), fun u fu => ?_⟩
      have s9 := same_new (o := HO.lst [V.int x, V.int y, V.int w0, V.int w0, V.int (([V.ref a] : List V).length : Int), V.bl true, V.bl true]) fu
      have hu : upd H8 u (.lst [V.int x, V.int y, V.int w0, V.int w0, V.int (([V.ref a] : List V).length : Int), V.bl true, V.bl true]) u = some (.lst [V.int x, V.int y, V.int w0, V.int w0, V.int 1, V.bl true, V.bl true]) := upd_same
      have S9 := S8.same s9
      have fa9 := fa8.on s9
      generalize upd H8 u _ = H9 at s9 hu S9 fa9 ⊢
      clear S8 fa8 s9 ta ha hpp h8
      dsimp only [gName, tSeq]
      refine ⟨_, rfl, _, rfl, _, rfl, _, rfl, _, rfl, (by show 7 ≤ sizeLine; decide), fun u2 fu2 => ?_⟩
      have s10 := same_new (o := HO.lst [V.int x, V.int y, V.int w0, V.int w0, V.int 1, V.bl true, V.bl true]) fu2
      have S10 := S9.same s10
      have fa10 := fa9.on s10
      have dpu : ∀ {H : Hp}, DpAll K H [V.int x, V.int y, V.int w0, V.int w0, V.int 1, V.bl true, V.bl true] [PyData.int x, .int y, .int w0, .int w0, .int 1, .bool true, .bool true] := fun {H} => .cons (.int x) (.cons (.int y) (.cons (.int w0) (.cons (.int w0) (.cons (.int 1) (.cons (.bl true) (.cons (.bl true) .nil))))))
      refine ⟨_, _, .lst (SqL.of (s10 _ _ hu)) dpu, .lst (SqL.of upd_same) dpu, rfl, rfl, ?_⟩
      rw [show PyData.eqv (.list [PyData.int x, .int y, .int w0, .int w0, .int 1, .bool true, .bool true]) (.list [PyData.int x, .int y, .int w0, .int w0, .int 1, .bool true, .bool true]) = true by simp [PyData.eqv, PyData.eqvAll]]
      generalize upd H9 u2 _ = H10 at S10 fa10 ⊢
      clear S9 fa9 s10 hu
      refine ⟨_, rfl, iteT ⟨_, rfl, _, rfl, _, rfl, rfl, rfl, fun b dx hx hdx ne => dv_ok x1 x2 y1 y2 w1 w2 hx hdx ne fun H11 s11 fb => ?_⟩⟩
      have S11 := S10.same s11
      have fa11 := fa10.on s11
      obtain ⟨da, pp, ha, hpp⟩ := id fa11
      obtain ⟨db, pb, hb, hpb⟩ := id fb
      have ta : TyX K H11 (.ref a) (.ref VC) := .base (.ins ha I.cl I.ha I.hn I.htk I.hm)
      refine ⟨_, rfl, b, db, _, .ref VC, rfl, hb, ta, by simp [PySem.W.notFirst], b, .ref a, x, y, w0, rfl, fb, .inr ⟨a, x, y, w0, rfl, fa11, ?_⟩⟩
      rw [decide_eq_true rfl, decide_eq_true rfl, decide_eq_true rfl]
      exact k _ (S11.hp.more (by omega)) S11.ht
    · refine ⟨_, rfl, _, rfl, _, rfl, fun a dx hx hdx ne => DivV.make (DU := DU) ⟨okx _ S6.kL, oky _ S6.kL, okw _ S6.kL, mk _ _ _ (hd_rule fun t H8 s8 n8 h8 => ?_)⟩ a dx hx hdx ne⟩
      have S7 := S6.same s8
      have S8 := S7.add h8 (S6.hp.ne_new n8) (fun ps z => by cases z)
      have kO : ∀ {H' : Hp}, Keeps ((t, HO.tup [V.str (Str.ofString "rule"), V.str part]) :: odK t1 l2 d3 L1) H' → Keeps (odK t1 l2 d3 L1) H' := fun k => k.of fun e he => List.mem_cons_of_mem _ he
      unfold dueV at due
      have hw : (PyData.str (Str.ofString "rule")).canLay0 = true := by decide +kernel
      clear S6 S7 s8 hx hdx ne
      refine ⟨_, _, rfl, ?_⟩
      dsimp only [gName, tSeq]
      refine ⟨_, rfl, vw, 1, 24, rfl, okw _ (kO S8.kL), _, rfl, ife rfl ?_⟩
      dsimp only [gName, tSeq]
      refine ⟨_, rfl, _, rfl, vy, -1000, 1000, rfl, oky _ (kO S8.kL), _, rfl, ife rfl ?_⟩
      dsimp only [gName, tSeq]
      refine ⟨_, rfl, vx, 0, 24, rfl, okx _ (kO S8.kL), _, rfl, ife rfl ?_⟩
      rw [due]
      dsimp only [gName, tSeq]
      refine ⟨_, rfl, rfl, _, rfl, iteT' (by simp) ?_⟩
      have ht8 := S8.kL (t, HO.tup [V.str (Str.ofString "rule"), V.str part]) List.mem_cons_self
      refine ⟨_, rfl, _, rfl, (by show 2 ≤ sizeLine; decide), fun t2 f2 => ?_⟩
      have s9 := same_new (o := HO.tup [V.str (Str.ofString "rule"), V.str part]) f2
      have S9 := S8.same s9
      refine ⟨_, _, dp_p2 (s9 _ _ ht8), dp_p2 upd_same, shaped_p2 hw lay, shaped_p2 hw lay, ?_⟩
      rw [eqv_p2]
      refine ⟨_, rfl, iteT ⟨S9.ht, fun H5 x5 t5 H6 s6 => ?_⟩⟩
      have S10 := (S9.ext x5 t5).same s6
      clear S8 S9 s9 x5 t5 s6 ht8 f2
      refine ⟨_, rfl, _, rfl, _, rfl, rfl, rfl, fun a2 dx hx hdx ne => DivV.make (DU := DU) ⟨okx _ (kO S10.kL), oky _ (kO S10.kL), okw _ (kO S10.kL), mk _ _ _ (hd_rule fun t3 H8 s8 n8 h8 => ?_)⟩ a2 dx hx hdx ne⟩
      have S11 := S10.same s8
      have ht11 := S11.kL (t, HO.tup [V.str (Str.ofString "rule"), V.str part]) List.mem_cons_self
      refine ⟨_, rfl, _, _, dp_p2 h8, dp_p2 ht11, shaped_p2 hw lay, shaped_p2 hw lay, ?_⟩
      rw [eqv_p2]
      exact k _ (S11.hp.more (by omega)) S11.ht
end
end Lw
namespace Lw
open PySem PySem.Spec PyProof.Rows L2
open SX PySem.NumText TL LamX ClX StX
set_option pp.maxSteps 900
abbrev sLup : Stmt := top 52
abbrev sLaw : Stmt := top 53
/-- the law's def, its code object known -/
structure LawC (K : PySem.W.Frag) (x : Str) (st : Stmt) (f : Addr) (fd : FuncData) (c : Addr) : Prop where
  ex : ∃ (oc : Value) (od : Option Addr) (dV kV doc pm : Value) (an : Option Addr) (ct : Value) (osl : Array (Option Value)),
    fd = PySem.W.fnOf x x (C8.fnArgs st) (C8.fnBody st) (C8.fnScope st) dV kV doc pm an (.ref c) ct ∧ K.lookup f = some ⟨oc, od, .func fd, osl⟩ ∧ PySem.W.codeIn K (.ref c) x = true
theorem fnGC {P : Program} {w : World} {K : PySem.W.Frag} {mg : Str → Option Value} {base : Heap} {x : Str} {st : Stmt} {f c : Addr} {fd : FuncData} {N ps : List Str} {k : Nat} {sp : Sp} (F : LawC K x st f fd c) (S : FnScope N ps (C8.fnScope st)) (len : ∀ vs H Q E, sp vs H Q E → vs.length = ps.length)
    (body : ∀ (A : Around) (outer : List Env) (s : Shared) (H : Hp) (vs : List V) (Q : VK) (E : XK), (A.deeper (envOfC x (C8.fnScope st) s.heap.objs.size f (.ref c))).guards = some [] → Room k (A.deeper (envOfC x (C8.fnScope st) s.heap.objs.size f (.ref c))) → sp vs H Q E →
      ∃ t, PSs (cxOf C8.CX0 P w K mg base N x (C8.fnScope st) f (.ref c) A outer s H E).nox (C8.fnBody st) t ∧ t { nx := fun _ H' => Q .non H', rt := Q } (start N vs) H) : FnG P w K mg base (k + 1) f fd ps sp := by
  refine ⟨len, ?_⟩
  intro A outer s H args us vs Q E hg hr e0 hb r hs
  obtain ⟨oc, od, dV, kV, doc, pm, an, ct, osl, rfl, lk, hcd⟩ := F.ex
  refine LamX.run_ofS lk hcd S hr e0 hb r (len _ _ _ _ hs) fun hr' => ?_
  obtain ⟨t, h1, h2⟩ := body A outer s H vs Q E hg hr' hs
  exact ⟨t, h1.nox, h2⟩
theorem up_odd {K : PySem.W.Frag} {v : V} {r : Int} (h : v ∈ [V.int 1, .int 2, .int 24, .int 25, .int 0, .bl true, .non, .str (Str.ofString "2"), .int (1 + r)]) (r0 : 0 ≤ r) (r1 : r < 24) : (∀ H, Anyv K H v) ∧ ((∃ n, v = .int n ∧ 1 ≤ n ∧ n ≤ 24) ∨ inB v 1 24 = false) := by
  simp only [List.mem_cons, List.not_mem_nil, or_false] at h
  rcases h with rfl | rfl | rfl | rfl | rfl | rfl | rfl | rfl | rfl
  · exact ⟨fun H => .int _, .inl ⟨_, rfl, by decide, by decide⟩⟩
  · exact ⟨fun H => .int _, .inl ⟨_, rfl, by decide, by decide⟩⟩
  · exact ⟨fun H => .int _, .inl ⟨_, rfl, by decide, by decide⟩⟩
  · exact ⟨fun H => .int _, .inr (by decide)⟩
  · exact ⟨fun H => .int _, .inr (by decide)⟩
  · exact ⟨fun H => .bl _, .inr rfl⟩
  · exact ⟨fun H => .non, .inr rfl⟩
  · exact ⟨fun H => .str _, .inr rfl⟩
  · exact ⟨fun H => .int _, .inl ⟨_, rfl, by omega, by omega⟩⟩
theorem ifs_no {tt : TT} {a : TS} {D : Ends} {σ : L2.St} {H : Hp} (Pj : Hp → Prop) (rest : ∀ H', Pj H' → D.nx σ H') (test : ∀ QQ : Bool → Hp → Prop, (∀ H', Pj H' → QQ false H') → tt σ H QQ) : tIfS tt a tNext D σ H :=
  test _ fun H' h => iteF (rest H' h)
theorem by_ok {BC : Addr} {H : Hp} {E : XK} {R : Hp → Prop} {v : V} {x dx : Addr} (hx : H x = none) (hdx : H dx = none) (ne : dx ≠ x) (k : ∀ H', Same H H' → ByAt BC H' x v → R H') :
    spByi BC [.ref x, v] (upd (upd H dx (.own x)) x (.ins BC dx [])) (fun v H2 => v = .non ∧ R H2) E := by
  have s1 : Same H (upd H dx (.own x)) := same_new hdx
  have hx1 : upd H dx (.own x) x = none := by rw [upd_ne ne.symm]; exact hx
  have s2 := s1.trans (same_new (o := HO.ins BC dx []) hx1)
  exact ⟨x, dx, v, rfl, upd_same, fun p H' kp hx' hp => ⟨rfl, k H' (fun b o e => kp _ _ (ne_of_none e hx) (s2 _ _ e)) ⟨dx, p, hx', hp⟩⟩⟩
theorem ByAt.ext {BC : Addr} {H H' : Hp} {a : Addr} {v : V} (h : ByAt BC H a v) (x : ExtN H H') : ByAt BC H' a v := by
  obtain ⟨dx, p, h1, h2⟩ := h
  exact ⟨dx, p, x _ _ h1 (fun _ z => by cases z), x _ _ h2 (fun _ z => by cases z)⟩
theorem fn_ext {H H' : Hp} {g : Addr} (h : H g = some (FnO g)) (x : ExtN H H') : H' g = some (FnO g) := x _ _ h (fun _ z => by unfold FnO at z; cases z)
def spLaw (K : PySem.W.Frag) (TS : List (Addr × Str)) : Sp := fun vs H Q _ => ∃ (a : Addr) (ns : List Int), vs = [.ref a] ∧ SqL K H a (ns.map V.int) ∧ ns.length ≤ 63 ∧ Tabs TS H ∧ ∀ H', Q (.bl true) H'
section
variable {P : Program} {w : World} {K : PySem.W.Frag} {mg : Str → Option Value} {base : Heap} {FC VC UC BC DU DS DR DT DX DM_ L gH fF fD fB pU gU c0 B : Addr} {fdH fdF fdD fdB fdU : FuncData} {TS : List (Addr × Str)} {gUF gUD gUU gUB : List Value → List Value → List Value}
theorem scLup : FnScope ["_law_pen_here", "_law_w_so", "_law_heard_here"] ["_law_pen_here"] (C8.fnScope sLup) := C8.fnScope_by (by decide +kernel)
theorem cal_lup {f : Addr} {fd : FuncData} (F : DefC K mg "_law_up_right" sLup f fd c0) (b : Binds K fd ["_law_pen_here"] []) (FH : C8.Def K mg "_law_heard" sHea gH fdH) (bH : Binds K fdH ["_law_ask"] []) (TB : TabB base mg c0 B) (TO : TabOf TS B "_law_up_right")
    (R : Hrd K mg DU DS DR DT DX DM_ L) (T : Txt mg) (DM : DivM P w K mg base VC DU fD fdD) (UM : UpM P w K mg base VC DU pU gU fdU gUU) (GE : MetX P w K mg base 1 VC "__eq__" (spDve K VC)) (I : C8.InsC K VC)
    (D0 : C8.Cal P w K mg base 1 "_law_draw" spDraw []) (DP : C8.Cal P w K mg base 2 "_law_pick" (spPick K) []) (DI : C8.Cal P w K mg base 1 "_law_is" (spLis K) []) : CalG P w K mg base 12 "_law_up_right" (spLx TS) [] := by
  obtain ⟨ocH, odH, dVH, kVH, docH, pmH, anH, cdvH, ctH, oslH, rfl, lkH, cdH⟩ := FH.fn.ex
  refine calGC F b .nil scLup (fun vs H Q E h => ?_) (fun A outer st H vs Q E hG hr h => ?_)
  · obtain ⟨p, pl, n0, rfl, _⟩ := h
    rfl
  · obtain ⟨p, pl, n0, rfl, hp, hn, ht, k⟩ := h
    refine ⟨_, (pss_cons (ps_set (i := 1) scLup.nd rfl (Or.inr rfl) (C8.pe_c DP hr (by decide) (by rfl) (pa_cons (pv 0) (pa_cons (pe_lst (pa_cons pe_int (pa_cons pe_int (pa_cons pe_int (pa_cons pe_int (pa_cons pe_int (pa_cons pe_bl (pa_cons pe_non (pa_cons pe_str (pa_cons (pe_op op_add pe_int (C8.pe_c D0 hr (by decide) (by rfl) (pa_cons (pv 0) (pa_cons pe_int pa_nil)))) pa_nil)))))))))) pa_nil))))
  (pss_cons (ps_set (i := 2) scLup.nd rfl (Or.inl rfl) (pe_lamcall (k := 8) (T := TS) (TT := TTheard K DU DS DR DT DX DM_) (by rfl) FH.mgf FH.kp lkH cdH bH scHea rfl (.inl rfl) (heard_gives R T hG (hr.mono (by decide))) TB rfl TO.mem TO.own (hr.mono (by decide)) (lamS_by (by rfl)) rfl (fun _ _ _ _ _ => rfl)
      (fun A outer s H E f c2 hr2 => (by exact (pe_static (pe_glob (v := .ref VC) (by rfl) DM.hm rfl) UM.S UM.F (hr2.mono (Nat.le_of_ble_eq_true rfl)) UM.b .nil (passes_call (takes_of rfl rfl rfl rfl) (fun _ _ _ _ z => z)) (pa_cons (pv 1) pa_nil))))))
  (pss_cons (ps_if (pt_not (pt_val (C8.pe_c DI hr (by decide) (by rfl) (pa_cons (pv 1) (pa_cons pe_int (pa_cons pe_int pa_nil)))))) (pss_one (ps_ret (pe_cmpR (op_eqD hr.units) (pv 2) (pe_tup (pa_cons pe_str (pa_cons pe_str pa_nil))) (nomark _)))) pss_nil)
  (pss_one (ps_ret (pe_and (pe_cmpR (op_eqXK K rfl (E := C8.E0) GE (passes_call takes0 (fun _ _ _ _ z => z)) hr (by decide)) (pe_ix ix_list (pv 2) pe_int (fun _ _ => rfl)) (pe_make (E := C8.E0) DM.M DM.F (hr.mono (by decide)) (by rfl) DM.hm DM.b .nil (passes_call takes0 (fun _ _ _ _ z => z)) (pa_cons pe_int (pa_cons (pe_op op_sub (pv 1) pe_int) (pa_cons (pv 1) pa_nil)))) (nomark _)) (pe_one (pe_cmpR (op_eqXK K rfl (E := C8.E0) GE (passes_call takes0 (fun _ _ _ _ z => z)) hr (by decide)) (pe_staticK (E := C8.E0) (pe_glob (v := .ref VC) (by rfl) DM.hm rfl) UM.S UM.F (hr.mono (by decide)) UM.KB (passes_call takes0 (fun _ _ _ _ z => z)) (pk_cons (pv 1) pk_nil)) (pe_ix ix_list (pv 2) pe_int (fun _ _ => rfl)) (nomark _))))))))), ?_⟩
    have S0 : Sv TS p pl n0 [] H := ⟨hp, ht, fun e he => (by cases he), fun e he => (by cases he)⟩
    refine ⟨_, rfl, _, rfl, p, pl, n0, 24, rfl, by decide, by decide, S0.hp, by omega, fun r H2 r0 r1 hp2 k2 => ⟨_, _, rfl, rfl, (by show 9 ≤ sizeLine; decide), fun q fq => ?_⟩⟩
    have S2 := S0.draw hp2 k2
    have S3 := S2.same (same_new (o := HO.lst [V.int 1, V.int 2, V.int 24, V.int 25, V.int 0, V.bl true, V.non, V.str (Str.ofString "2"), V.int (1 + r)]) fq)
    refine ⟨p, pl, q, _, _, rfl, S3.hp, by omega, SqL.of upd_same, S2.hp.ne_new fq, by show 0 < 9; decide, by show 9 < 1000000; decide, fun j v H4 hj hp4 k4 => ?_⟩
    have S4 := S3.draw hp4 k4
    obtain ⟨av, vv⟩ := up_odd (K := K) (List.mem_of_getElem? hj) r0 r1
    clear S3 S2 S0 k4 k2 hp4 hp2 fq hp ht hj
    dsimp only [gName, tSeq]
    refine ⟨S4.ht, fun H5 x5 t5 H6 s6 => ?_⟩
    have S6 := (S4.ext x5 t5).same s6
    clear S4 x5 t5 s6
    rcases vv with ⟨n, rfl, n1, n2⟩ | bad
    · refine ⟨rfl, _, rfl, .int n, rfl, av _, (fun z => by rw [no_out n1 n2] at z; cases z), ?_⟩
      rintro m em _ _ a H7 s7 f7 fa l H8 s8 n8 h8
      cases em
      have S8 := (S6.same s7).same s8
      have fa8 := fa.on s8
      clear S6 s7 s8 fa
      dsimp only [gName, tSeq]
      refine ⟨_, rfl, .int n, 1, 24, rfl, .int n, _, rfl, ?_⟩
      rw [no_out n1 n2]
      refine iteF ?_
      dsimp only [tNext, tSeq]
      refine ⟨_, rfl, l, _, (0 : Int), _, rfl, rfl, SqL.of h8, atI_nat (j := 0) rfl, _, rfl, _, _, rfl, rfl, _, rfl, fun b dx hx hdx ne => dv_ok (by decide) (by decide) (by omega) (by omega) n1 n2 hx hdx ne fun H9 s9 fb => ?_⟩
      have S9 := S8.same s9
      have fa9 := fa8.on s9
      obtain ⟨da, pp, ha, hpp⟩ := id fa9
      obtain ⟨db, pb, hb, hpb⟩ := id fb
      have tb : TyX K H9 (.ref b) (.ref VC) := .base (.ins hb I.cl I.ha I.hn I.htk I.hm)
      refine ⟨a, da, _, .ref VC, rfl, ha, tb, by simp [PySem.W.notFirst], a, .ref b, 1, n - 1, n, rfl, fa9, .inr ⟨b, 1, n - 1, n, rfl, fb, ?_⟩⟩
      rw [decide_eq_true rfl, decide_eq_true rfl, decide_eq_true rfl]
      refine ⟨_, rfl, iteT ⟨rfl, _, rfl, rfl, .int n, rfl, .int n, (fun z => by rw [no_out n1 n2] at z; cases z), ?_⟩⟩
      rintro m em _ _ b2 H10 s10 f10 fb2
      cases em
      have S10 := S9.same s10
      have fa10 := fa9.on s10
      obtain ⟨da2, pp2, ha2, hpp2⟩ := id fa10
      obtain ⟨db2, pb2, hb2, hpb2⟩ := id fb2
      have ta2 : TyX K H10 (.ref a) (.ref VC) := .base (.ins ha2 I.cl I.ha I.hn I.htk I.hm)
      refine ⟨_, rfl, l, _, (0 : Int), _, rfl, rfl, SqL.of (s10 _ _ (s9 _ _ h8)), atI_nat (j := 0) rfl, b2, db2, _, .ref VC, rfl, hb2, ta2, by simp [PySem.W.notFirst], b2, .ref a, 1, n - 1, n, rfl, fb2, .inr ⟨a, 1, n - 1, n, rfl, fa10, ?_⟩⟩
      rw [decide_eq_true rfl, decide_eq_true rfl, decide_eq_true rfl]
      exact k _ (S10.hp.more (by omega)) S10.ht
    · refine ⟨rfl, _, rfl, v, rfl, av _, (fun _ => hd_rule fun t H8 s8 n8 h8 => ?_), fun n e n1 n2 => (by rw [e, no_out n1 n2] at bad; cases bad)⟩
      have S8 := S6.same s8
      have hw : (PyData.str (Str.ofString "rule")).canLay0 = true := by decide +kernel
      have hw2 : (PyData.str (Str.ofString "w")).canLay0 = true := by decide +kernel
      dsimp only [gName, tSeq]
      refine ⟨_, rfl, v, 1, 24, rfl, av _, _, rfl, ?_⟩
      rw [bad]
      refine iteT ⟨_, rfl, (by show 2 ≤ sizeLine; decide), fun t2 f2 => ?_⟩
      have s9 := same_new (o := HO.tup [V.str (Str.ofString "rule"), V.str (Str.ofString "w")]) f2
      have S9 := S8.same s9
      refine ⟨_, _, dp_p2 (s9 _ _ h8), dp_p2 upd_same, shaped_p2 hw hw2, shaped_p2 hw hw2, ?_⟩
      rw [eqv_p2]
      exact k _ (S9.hp.more (by omega)) S9.ht
theorem scLaw : FnScope ["_law_script", "_law_pen_here", "_law_lap", "_law_plain", "_law_told_so"] ["_law_script"] (C8.fnScope sLaw) := C8.fnScope_by (by decide +kernel)
theorem fn_law {f : Addr} {fd : FuncData} (F : LawC K "law" sLaw f fd c0) (TB : TabB base mg c0 B) (TO : TabOf TS B "law") (T : Txt mg) (FM : FixM P w K mg base FC DS fF fdF) (DM : DivM P w K mg base VC DU fD fdD) (BM : ByM P w K mg base BC fB fdB) (KBB : KBn K fdB ["self", "function"] 1 ["function"] gUB (fun a zs => a ++ zs))
    (FE : MetX P w K mg base 1 FC "__eq__" (spFxe K FC)) (GE : MetX P w K mg base 1 VC "__eq__" (spDve K VC)) (BE : MetX P w K mg base 1 BC "__eq__" (spBye K BC)) (ZB : ByC K BC) (IF : C8.InsC K FC) (IV : C8.InsC K VC) (IB : C8.InsC K BC) (hUC : mg "Rule" = some (.ref UC)) (kBU : PySem.W.kitOne K (.ref BC) (.ref UC) = some true)
    (nfFV : PySem.W.notFirst K FC (.ref VC) = true) (kVF : PySem.W.kitOne K (.ref VC) (.ref FC) = some false) (D0 : C8.Cal P w K mg base 1 "_law_pen" (spPen K) [])
    (DFx : CalG P w K mg base 12 "_law_fixed_right" (spLx TS) []) (DDv : CalG P w K mg base 12 "_law_divided_right" (spLx TS) []) (DUp : CalG P w K mg base 12 "_law_up_right" (spLx TS) []) : FnG P w K mg base 15 f fd ["_law_script"] (spLaw K TS) := by
  refine fnGC F scLaw (fun vs H Q E h => ?_) (fun A outer st H vs Q E hG hr h => ?_)
  · obtain ⟨a, ns, rfl, _⟩ := h
    rfl
  · obtain ⟨a, ns, rfl, hs, hl, ht, k⟩ := h
    refine ⟨_, (pss_cons (ps_set (i := 1) scLaw.nd rfl (Or.inl rfl) (C8.pe_c D0 hr (by decide) (by rfl) (pa_cons (pv 0) pa_nil)))
  (pss_cons (ps_for PassesOwn.never rfl (pi_range1 (by rfl) T.n_range (pa_cons pe_int pa_nil)) (pg_name (i := 2) scLaw.nd rfl (Or.inl rfl)) (pss_one (ps_if (PW.pt (pw_or (pt_not (pt_val (pe_g DFx hG hr (by decide) (by rfl) (pa_cons (pv 1) pa_nil)))) (pw_or (pt_not (pt_val (pe_g DDv hG hr (by decide) (by rfl) (pa_cons (pv 1) pa_nil)))) (pw_or1 (pt_not (pt_val (pe_g DUp hG hr (by decide) (by rfl) (pa_cons (pv 1) pa_nil)))))))) (pss_one (ps_ret pe_bl)) pss_nil)))
  (pss_cons (ps_set (i := 3) scLaw.nd rfl (Or.inl rfl) (pe_make (E := C8.E0) BM.M BM.F (hr.mono (by decide)) (by rfl) BM.hm BM.b .nil (passes_call takes0 (fun _ _ _ _ z => z)) (pa_cons (pe_lamV (T := TS) TB rfl TO.mem TO.own rfl (by decide)) pa_nil)))
  (pss_cons (ps_set (i := 4) scLaw.nd rfl (Or.inl rfl) (pe_lst (pa_cons (pe_fldK K rfl (pv 3) rfl) (pa_cons (pe_fldK K rfl (pv 3) rfl) (pa_cons (pe_callB call_isz (by rfl) T.n_isinstance (by decide +kernel) (pa_cons (pv 3) (pa_cons (pe_glob (v := .ref UC) (by rfl) hUC rfl) pa_nil))) (pa_cons (pe_cmpR (op_eqXK K rfl (E := C8.E0) BE (passes_call takes0 (fun _ _ _ _ z => z)) hr (by decide)) (pe_makeK0 (E := C8.E0) BM.M BM.F (hr.mono (by decide)) (by rfl) BM.hm KBB (passes_call takes0 (fun _ _ _ _ z => z)) (pk_cons (pe_fldK K rfl (pv 3) rfl) pk_nil)) (pv 3) (nomark _)) pa_nil))))))
  (pss_cons (ps_set (i := 4) scLaw.nd rfl (Or.inl rfl) (pe_op op_cat (pv 4) (pe_lst (pa_cons (pe_cmpR (op_eqXK K rfl (E := C8.E0) BE (passes_call takes0 (fun _ _ _ _ z => z)) hr (by decide)) (pe_make (E := C8.E0) BM.M BM.F (hr.mono (by decide)) (by rfl) BM.hm BM.b .nil (passes_call takes0 (fun _ _ _ _ z => z)) (pa_cons (pe_lamV (T := TS) TB rfl TO.mem TO.own rfl (by decide)) pa_nil)) (pv 3) (nomark _)) (pa_cons (pe_cmpR (op_eqXK K rfl (E := C8.E0) FE (passes_call takes0 (fun _ _ _ _ z => z)) hr (by decide)) (pe_make (E := C8.E0) FM.M FM.F (hr.mono (by decide)) (by rfl) FM.hm FM.b .nil (passes_call takes0 (fun _ _ _ _ z => z)) (pa_cons pe_int pa_nil)) (pe_make (E := C8.E0) DM.M DM.F (hr.mono (by decide)) (by rfl) DM.hm DM.b .nil (passes_call takes0 (fun _ _ _ _ z => z)) (pa_cons pe_int (pa_cons pe_int (pa_cons pe_int pa_nil)))) (nomark _)) pa_nil)))))
  (pss_cons (ps_expr (pe_bm PySem.F.plainAttrs_list PySem.F.slot_list_append PySem.F.type_list_append mt_append (pv 4) (pa_cons (pe_cmpR (op_eqXK K rfl (E := C8.E0) GE (passes_call takes0 (fun _ _ _ _ z => z)) hr (by decide)) (pe_make (E := C8.E0) DM.M DM.F (hr.mono (by decide)) (by rfl) DM.hm DM.b .nil (passes_call takes0 (fun _ _ _ _ z => z)) (pa_cons pe_int (pa_cons pe_int (pa_cons pe_int pa_nil)))) (pe_make (E := C8.E0) DM.M DM.F (hr.mono (by decide)) (by rfl) DM.hm DM.b .nil (passes_call takes0 (fun _ _ _ _ z => z)) (pa_cons pe_int (pa_cons pe_int (pa_cons pe_int pa_nil)))) (nomark _)) pa_nil)))
  (pss_one (ps_ret (pe_cmpR (op_eqD hr.units) (pv 4) (pe_lst (pa_cons (pe_tup pa_nil) (pa_cons pe_int (pa_cons pe_bl (pa_cons pe_bl (pa_cons pe_bl (pa_cons pe_bl (pa_cons pe_bl pa_nil)))))))) (nomark _)))))))))), ?_⟩
    refine ⟨_, rfl, a, ns, rfl, hs, hl, fun p pl H1 hp1 s1 _ => ?_⟩
    dsimp only [gName, tSeq]
    refine ⟨_, rfl, by decide, by decide, for_range (fun i σ' H' => ∃ x2, σ' = [some (V.ref a), some (V.ref p), x2, none, none] ∧ Pen H' p pl (60 * i) ∧ Tabs TS H') ⟨_, rfl, hp1, ht.ext s1⟩ ?_ ?_⟩
    · rintro i σ1 H2 hi ⟨x2, rfl, hp2, ht2⟩
      have hi5 : i < 9 := hi
      dsimp only [gName]
      refine ifs_no (fun H' => Pen H' p pl (60 * i + 60) ∧ Tabs TS H') (fun H3 ⟨hp3, ht3⟩ => ⟨_, rfl, hp3.more (by omega), ht3⟩) (fun QQ go => ?_)
      exact ⟨_, rfl, p, pl, _, rfl, hp2, by omega, ht2, fun H3 hp3 ht3 => ⟨_, rfl, iteF ⟨_, rfl, p, pl, _, rfl, hp3, by omega, ht3, fun H4 hp4 ht4 => ⟨_, rfl, iteF ⟨_, rfl, p, pl, _, rfl, hp4, by omega, ht4, fun H5 hp5 ht5 => ⟨_, rfl, go _ ⟨hp5.more (by omega), ht5⟩⟩⟩⟩⟩⟩⟩
    · rintro σ1 H2 ⟨x2, rfl, hp2, ht2⟩
      clear hp1 s1 hs
      dsimp only [gName, tSeq]
      refine ⟨ht2, fun g1 H3 x3 t3 n3 => ?_⟩
      refine fun x dx hx hdx ne => by_ok hx hdx ne fun H4 s4 by4 => ?_
      have hg4 : H4 g1 = some (FnO g1) := s4 _ _ upd_same
      have t4 : Tabs TS H4 := (t3.ext (same_new n3)).ext s4
      obtain ⟨d4, p4, hb4, hp4⟩ := id by4
      have tb4 : TyX K H4 (.ref x) (.ref BC) := .base (.ins hb4 IB.cl IB.ha IB.hn IB.htk IB.hm)
      clear s4 t3 x3 n3 hx hdx ne ht2 hp2
      dsimp only [gName, tSeq]
      refine ⟨_, rfl, x, BC, d4, _, _, rfl, hb4, ZB.cl, ZB.n2, byP_parts _ _, _, rfl, x, BC, d4, _, _, rfl, hb4, ZB.cl, ZB.n3, byP_mod _ _, _, rfl, _, .ref UC, .ref BC, .ref UC, true, rfl, .own UC, .x tb4, kBU, _, rfl, x, BC, d4, _, _, rfl, hb4, ZB.cl, ZB.n1, byP_fn _ _, rfl, rfl, fun y dy hy hdy ne2 => by_ok hy hdy ne2 fun H5 s5 by5 => ?_⟩
      have by45 := by4.on s5
      have hg5 := s5 _ _ hg4
      have hp5 := s5 _ _ hp4
      have tx5 : TyX K H5 (.ref x) (.ref BC) := .base (.ins (s5 _ _ hb4) IB.cl IB.ha IB.hn IB.htk IB.hm)
      obtain ⟨d5, q5, hb5, hq5⟩ := id by5
      have t5 := t4.ext s5
      refine ⟨_, rfl, y, d5, _, .ref BC, rfl, hb5, tx5, by simp [PySem.W.notFirst], y, x, g1, g1, rfl, by5, by45, hg5, hg5, ?_⟩
      rw [decide_eq_true rfl]
      refine ⟨(by show 4 ≤ sizeLine; decide), fun u fu => ?_⟩
      have s6 := same_new (o := HO.lst [V.ref p4, V.int 1, V.bl true, V.bl true]) fu
      have hu6 : upd H5 u (.lst [V.ref p4, V.int 1, V.bl true, V.bl true]) u = some (.lst [V.ref p4, V.int 1, V.bl true, V.bl true]) := upd_same
      have by6 := by45.on s6
      have hg6 := s6 _ _ hg5
      have hp6 := s6 _ _ hp5
      have t6 := t5.ext s6
      generalize upd H5 u _ = H6 at s6 hu6 by6 hg6 hp6 t6 ⊢
      clear by45 hg5 hp5 tx5 hb5 hq5 t5 by5 s5 by4 hg4 hp4 t4 hb4 tb4 s6 fu hy hdy ne2
      dsimp only [gName, tSeq]
      refine ⟨_, rfl, t6, fun g2 H7 x7 t7 n7 => fun z dz hz hdz ne3 => by_ok hz hdz ne3 fun H8 s8 by8 => ?_⟩
      have sg := same_new (o := FnO g2) n7
      have s78 := sg.trans s8
      have hg2 : H8 g2 = some (FnO g2) := s8 _ _ upd_same
      have by68 := (by6.ext x7).on s78
      have hg7 := fn_ext hg6 x7
      have hg8 := s78 _ _ hg7
      have hp8 := s78 _ _ (x7 _ _ hp6 (fun _ z => by cases z))
      have hu8 := s78 _ _ (x7 _ _ hu6 (fun _ z => by cases z))
      have ng : g2 ≠ g1 := fun e => by rw [← e, n7] at hg7; cases hg7
      obtain ⟨d8, q8, hb8, hq8⟩ := id by8
      obtain ⟨dx8, px8, hx8, hpx8⟩ := id by68
      have tx8 : TyX K H8 (.ref x) (.ref BC) := .base (.ins hx8 IB.cl IB.ha IB.hn IB.htk IB.hm)
      refine ⟨_, rfl, z, d8, _, .ref BC, rfl, hb8, tx8, by simp [PySem.W.notFirst], z, x, g2, g1, rfl, by8, by68, hg2, hg8, ?_⟩
      rw [decide_eq_false ng]
      clear by6 hg6 hp6 t6 hu6 x7 n7 sg s78 s8 hg7 hg8 hg2 t7 tx8 hb8 hq8 hx8 hpx8 by8 by68 hz hdz ne3
      refine fun fa da hfa hda ne4 => fx_ok (by decide) (by decide) hfa hda ne4 fun H9 s9 fx9 => ?_
      refine fun va dva hva hdva ne5 => dv_ok (by decide) (by decide) (by decide) (by decide) (by decide) (by decide) hva hdva ne5 fun H10 s10 dv10 => ?_
      have fx10 := fx9.on s10
      obtain ⟨df, pf, hf10, hpf10⟩ := id fx10
      obtain ⟨dv, pv10, hv10, hpv10⟩ := id dv10
      have tv10 : TyX K H10 (.ref va) (.ref VC) := .base (.ins hv10 IV.cl IV.ha IV.hn IV.htk IV.hm)
      refine ⟨fa, df, _, .ref VC, rfl, hf10, tv10, nfFV, fa, .ref va, 2, rfl, fx10, .inl ⟨⟨.ref VC, .x tv10, kVF⟩, ?_⟩⟩
      refine ⟨(by show 2 ≤ sizeLine; decide), fun q fq => ?_⟩
      have s11 := same_new (o := HO.lst [V.bl false, V.bl false]) fq
      have s811 := (s9.trans s10).trans s11
      refine ⟨u, q, _, _, rfl, rfl, s811 _ _ hu8, upd_same, (by show 6 ≤ sizeLine; decide), fun Lq fLq => ?_⟩
      have s12 := s811.trans (same_new (o := HO.lst ([V.ref p4, V.int 1, V.bl true, V.bl true] ++ [V.bl false, V.bl false])) fLq)
      have hp12 := s12 _ _ hp8
      have hL12 : upd (upd H10 q (.lst [V.bl false, V.bl false])) Lq (.lst ([V.ref p4, V.int 1, V.bl true, V.bl true] ++ [V.bl false, V.bl false])) Lq = some (.lst [V.ref p4, V.int 1, V.bl true, V.bl true, V.bl false, V.bl false]) := upd_same
      generalize upd (upd H10 q _) Lq _ = H12 at s12 hp12 hL12 ⊢
      clear s811 s11 fq fLq s9 s10 fx9 fx10 dv10 hf10 hpf10 hv10 hpv10 tv10 hu8 hp8
      dsimp only [gName, tSeq]
      refine ⟨_, rfl, .inl ⟨rfl, _, SqL.of hL12⟩, ?_⟩
      refine fun va2 dva2 hva2 hdva2 ne6 => dv_ok (by decide) (by decide) (by decide) (by decide) (by decide) (by decide) hva2 hdva2 ne6 fun H13 s13 dv13 => ?_
      refine fun va3 dva3 hva3 hdva3 ne7 => dv_ok (by decide) (by decide) (by decide) (by decide) (by decide) (by decide) hva3 hdva3 ne7 fun H14 s14 dv14 => ?_
      have dv134 := dv13.on s14
      obtain ⟨de, pe, he14, hpe14⟩ := id dv134
      obtain ⟨dg, pg, hg14, hpg14⟩ := id dv14
      have tg14 : TyX K H14 (.ref va3) (.ref VC) := .base (.ins hg14 IV.cl IV.ha IV.hn IV.htk IV.hm)
      refine ⟨va2, de, _, .ref VC, rfl, he14, tg14, by simp [PySem.W.notFirst], va2, .ref va3, 1, 0, 2, rfl, dv134, .inr ⟨va3, 1, 1, 2, rfl, dv14, ?_⟩⟩
      rw [show (decide ((1 : Int) = 1) && (decide ((0 : Int) = 1) && decide ((2 : Int) = 2))) = false from by decide]
      have hL14 := s14 _ _ (s13 _ _ hL12)
      have hp14 := s14 _ _ (s13 _ _ hp12)
      have pL : p4 ≠ Lq := fun e => by rw [e, hL14] at hp14; cases hp14
      refine ⟨Lq, _, _, rfl, rfl, hL14, (by show 6 < sizeLine; decide), ?_⟩
      have hp15 : upd H14 Lq (.lst ([V.ref p4, V.int 1, V.bl true, V.bl true, V.bl false, V.bl false] ++ [V.bl false])) p4 = some (.tup []) := by rw [upd_ne pL]; exact hp14
      have hL15 : upd H14 Lq (.lst ([V.ref p4, V.int 1, V.bl true, V.bl true, V.bl false, V.bl false] ++ [V.bl false])) Lq = some (.lst [V.ref p4, V.int 1, V.bl true, V.bl true, V.bl false, V.bl false, V.bl false]) := upd_same
      generalize upd H14 Lq _ = H15 at hp15 hL15 ⊢
      dsimp only [tSeq]
      refine ⟨_, rfl, (by show 0 ≤ sizeLine; decide), fun e1 f1 => ⟨(by show 7 ≤ sizeLine; decide), fun e2 f2 => ?_⟩⟩
      have s16 := same_new (o := HO.tup []) f1
      have s17 := same_new (o := HO.lst [V.ref e1, V.int 1, V.bl true, V.bl true, V.bl false, V.bl false, V.bl false]) f2
      refine ⟨.list [.tuple [], .int 1, .bool true, .bool true, .bool false, .bool false, .bool false], .list [.tuple [], .int 1, .bool true, .bool true, .bool false, .bool false, .bool false], .lst (SqL.of (s17 _ _ (s16 _ _ hL15))) (.cons (.tup (SqT.of (s17 _ _ (s16 _ _ hp15))) .nil) (.cons (.int 1) (.cons (.bl true) (.cons (.bl true) (.cons (.bl false) (.cons (.bl false) (.cons (.bl false) .nil))))))), .lst (SqL.of upd_same) (.cons (.tup (SqT.of (s17 _ _ upd_same)) .nil) (.cons (.int 1) (.cons (.bl true) (.cons (.bl true) (.cons (.bl false) (.cons (.bl false) (.cons (.bl false) .nil))))))), rfl, rfl, ?_⟩
      exact k _
end
end Lw
namespace Lw
open PySem PySem.Spec PyProof.Rows L2
open LamX
/-! ### the call of the law where nothing is being shown, with tables of code objects -/
/-- what is tracked when the law is entered: the tables, and the script unless it is written -/
def Entry (K : PySem.W.Frag) (h : Heap) (a : Addr) (Bs : List Addr) (ns : List Int) (H : Hp) : Prop :=
  (∀ B ∈ Bs, H B = some (.tbl #[])) ∧ SqL K H a (ns.map V.int) ∧ (∀ b u, H b = some u → (b ∈ Bs ∧ u = .tbl #[]) ∨ (b = a ∧ K.lookup a = none ∧ ∃ o xs, u = .frz o (.lst xs) ∧ h.get? a = some o))
theorem entry {P : Program} {w : World} {K : PySem.W.Frag} {h : Heap} {a : Addr} {Bs : List Addr} {vs : List Value} {ns : List Int} (KX : K.In h) (hT : ∀ B ∈ Bs, h.get? B = some { cls := .none, data := .fields #[] }) (ha : h.get? a = some { cls := .type "list", data := .seq vs.toArray }) (hi : IntsAre vs ns) (hl : ns.length ≤ sizeLine) :
    a ∉ Bs ∧ ∃ H, Entry K h a Bs ns H ∧ HOk P w H h := by
  have rv := vals_ints hi
  have lv := hi.length
  have ne : a ∉ Bs := fun e => by
    have hT := hT a e
    rw [ha] at hT
    have z : Data.seq vs.toArray _ = Data.fields #[] := congrArg Obj.data (Option.some.inj hT)
    cases z
  refine ⟨ne, ?_⟩
  cases hk : K.lookup a with
  | some o =>
    have e := KX a o hk
    rw [ha] at e
    cases e
    refine ⟨fun b => if b ∈ Bs then some (.tbl #[]) else none, ⟨fun B hB => if_pos hB, .inr ⟨_, vs.toArray, _, hk, rfl, rfl, rfl, by rw [List.size_toArray, lv]; exact hl, by simpa using rv⟩, fun b u z => ?_⟩, fun b u z => ?_⟩
    · by_cases q : b ∈ Bs
      · exact .inl ⟨q, (Option.some.inj ((if_pos q).symm.trans z)).symm⟩
      · cases (if_neg q).symm.trans z
    · by_cases q : b ∈ Bs
      · cases (if_pos q).symm.trans z
        exact hT b q
      · cases (if_neg q).symm.trans z
  | none =>
    refine ⟨fun b => if b ∈ Bs then some (.tbl #[]) else if b = a then some (.frz { cls := .type "list", data := .seq vs.toArray } (.lst (ns.map V.int))) else none,
      ⟨fun B hB => if_pos hB, .inl (.inr ⟨_, (if_neg ne).trans (if_pos rfl)⟩), fun b u z => ?_⟩, fun b u z => ?_⟩
    · by_cases q : b ∈ Bs
      · exact .inl ⟨q, (Option.some.inj ((if_pos q).symm.trans z)).symm⟩
      · have z2 := (if_neg q).symm.trans z
        by_cases q2 : b = a
        · exact .inr ⟨q2, hk, _, _, (Option.some.inj ((if_pos q2).symm.trans z2)).symm, ha⟩
        · cases (if_neg q2).symm.trans z2
    · by_cases q : b ∈ Bs
      · cases (if_pos q).symm.trans z
        exact hT b q
      · have z2 := (if_neg q).symm.trans z
        by_cases q2 : b = a
        · cases (if_pos q2).symm.trans z2
          rw [q2]
          exact ⟨ha, by rw [List.length_map]; exact hl, vs, _, rv, ha⟩
        · cases (if_neg q2).symm.trans z2
theorem law_end {P : Program} {w : World} {K : PySem.W.Frag} {mg mb : Str → Option Value} {k : Nat} {fa a : Addr} {Bs : List Addr} {fd : FuncData} {x : Str} {sp : Sp} {s₁ : Shared} {vs : List Value} {ns : List Int}
    (KX : K.In s₁.heap) (hns : s₁.heap.Ns mainGlobals mg) (hb : s₁.heap.Ns builtinsNs mb) (hbb : ∀ x : Str, x ≠ "__name__" → mb x = bootBuiltins x) (hlim : s₁.heap.NoLimit) (hg : s₁.gens = #[])
    (hT : ∀ B ∈ Bs, s₁.heap.get? B = some { cls := .none, data := .fields #[] }) (nT : ∀ B ∈ Bs, K.lookup B = none) (C : ∀ B ∈ Bs, ∃ c, PySem.W.CodeHd s₁.heap c B)
    (hbm : ∃ (bm : Addr) (ob : Obj), mg "__builtins__" = some (.ref bm) ∧ bm ≠ builtinsNs ∧ s₁.heap.get? bm = some ob ∧ ob.cls = .type "module" ∧ ob.dict = some builtinsNs ∧ ob.data = .plain)
    (ha : s₁.heap.get? a = some { cls := .type "list", data := .seq vs.toArray }) (hi : IntsAre vs ns) (hl : ns.length ≤ sizeLine) (hr : Room k callerA)
    (F : ∀ base : Heap, K.In base → base.Ns mainGlobals mg → (∀ B ∈ Bs, ∀ c, PySem.W.CodeHd s₁.heap c B → TabB base mg c B) → FnG P w K mg base k fa fd [x] sp) (hbind : ∀ (s : Shared) (u : Value), BindsTo s fd ⟨[u], []⟩ [(x, u)])
    (hsp : ∀ H : Hp, (∀ B ∈ Bs, H B = some (.tbl #[])) → SqL K H a (ns.map V.int) → sp [.ref a] H (fun v _ => v = .bl true) C8.E0) :
    codeAny (model P w) callerA (.call (.ref fa) ⟨[.ref a], []⟩) (fun r s' => r = .ok (.ret (.bool true)) ∧ OldK s₁.heap s'.heap ∧ s'.os = s₁.os ∧ AllBare s'.gens) s₁ := by
  obtain ⟨ne, H, ⟨hB, hS, hA⟩, hok⟩ := entry (P := P) (w := w) KX hT ha hi hl
  -- what is neither a table nor the script is untracked
  have free : ∀ {b : Addr} {o : Obj}, s₁.heap.get? b = some o → (∀ vs n, o.data ≠ .seq vs n) → o.data ≠ .fields #[] → H b = none := fun {b o} e h1 h2 => by
    cases q : H b with
    | none => rfl
    | some u =>
      rcases hA b u q with ⟨e', _⟩ | ⟨e', _⟩
      · rw [hT b e'] at e
        cases e
        exact absurd rfl h2
      · rw [e', ha] at e
        cases e
        exact absurd rfl (h1 _ _)
  have through : ∀ {b : Addr} {o : Obj}, s₁.heap.get? b = some o → H b = none → (hidT s₁.heap H).get? b = some o := fun e n => hidT_get e n
  have nsT : ∀ {b : Addr} {m : Str → Option Value}, s₁.heap.Ns b m → (hidT s₁.heap H).Ns b m := fun {b m} ⟨o, es, ep, e, d, r⟩ => by
    refine ⟨o, es, ep, through e (free e (fun vs n z => ?_) fun z => ?_), d, r⟩ <;> · rw [d] at z; cases z
  have inT : K.In (hidT s₁.heap H) := fun b o e => by
    refine through (KX b o e) ?_
    cases q : H b with
    | none => rfl
    | some u =>
      rcases hA b u q with ⟨e', _⟩ | ⟨e', n, _⟩
      · rw [nT b e'] at e; cases e
      · rw [e', n] at e; cases e
  have modT : L2.Mod K mg (hidT s₁.heap H) := by
    obtain ⟨mc, h1, h2⟩ := hlim
    exact ⟨inT, nsT hns, ⟨mb, nsT hb, hbb⟩, ⟨mc, nsT h1, h2⟩⟩
  have tabT : ∀ B ∈ Bs, ∀ c, PySem.W.CodeHd s₁.heap c B → TabB (hidT s₁.heap H) mg c B := fun B hBs c C => by
    refine ⟨?_, ?_, fun z => ?_⟩
    · obtain ⟨o, us, file, tf, flags, tg, inF, text, tt, e1, r1, r2, r3, r4⟩ := C
      refine ⟨o, us, file, tf, flags, tg, inF, text, tt, through e1 (free e1 (fun vs n z => ?_) fun z => ?_), r1, r2, r3, r4⟩
      · rw [r2] at z; cases z
      · rw [r2] at z; cases z
        simp at r3
    · obtain ⟨bm, ob, b1, b2, b3, b4, b5, b6⟩ := hbm
      refine ⟨bm, ob, b1, b2, fun q => ?_, fun q => ?_, through b3 (free b3 (fun vs n z => ?_) fun z => ?_), b4, b5, b6⟩
      · obtain ⟨o, es, ep, e, d, _⟩ := hns
        rw [q, e] at b3
        cases b3
        rw [d] at b6
        cases b6
      · rw [q, hT B hBs] at b3
        cases b3
        cases b6
      · rw [b6] at z; cases z
      · rw [b6] at z; cases z
    · obtain ⟨o, es, ep, e, d, _⟩ := hns
      rw [z, hT B hBs] at e
      cases e
      cases d
  have e0 : Env0 P w K mg (hidT s₁.heap H) callerA [] s₁ H := ⟨rfl, modT, fun b o e => of_hidT e, Nat.le_of_eq (hidT_size _ _), trivial, fun b hb => absurd (show b ∈ ([] : List Addr) from hb) (by simp), hok, .of_eq hg⟩
  refine codeAny_mono ((F _ inT (nsT hns) tabT).run callerA [] s₁ H ⟨[.ref a], []⟩ [.ref a] [.ref a] _ _ rfl hr e0 (hbind s₁ (.ref a)) (.cons rfl .nil) (hsp H hB hS)) fun r s' q => ?_
  match r, q with
  | .error e, q => exact (show False from q).elim
  | .ok .next, q => exact (show False from q).elim
  | .ok .brk, q => exact (show False from q).elim
  | .ok .cont, q => exact (show False from q).elim
  | .ok (.ret u), q =>
    obtain ⟨v, H', os, bare, un, hok', r', qv⟩ := q
    have qv' : v = .bl true := qv
    subst qv'
    obtain rfl : u = Value.bool true := r'
    have same : ∀ b o, b ∉ Bs → s₁.heap.get? b = some o → s'.heap.get? b = some o := fun b o nb e => by
      cases q : H b with
      | none => exact un.keep b o e q (by intro z; exact absurd (show b ∈ ([] : List Addr) from z) (by simp)) (by simp)
      | some u =>
        rcases hA b u q with ⟨z, _⟩ | ⟨e', _, ob, xs, rfl, hob⟩
        · exact absurd z nb
        · obtain ⟨e2, _⟩ := hok' b _ (un.frzs b ob _ q)
          rw [e', hob] at e
          cases e
          exact e2
    refine ⟨rfl, ⟨fun b o e => ?_, fun b o e => ?_⟩, os, bare⟩
    · by_cases hb : b ∈ Bs
      · obtain ⟨more, hmore⟩ := un.tbls b #[] (hB b hb)
        have atB := hok' b _ hmore
        obtain ⟨c, C⟩ := C b hb
        have hT := hT b hb
        rw [hT] at e
        cases e
        exact .inr (.inl ⟨(C.tab hT).isCodeTable, rfl, #[], _, rfl, atB⟩)
      · exact .inl (same b o hb e)
    · by_cases hb : b ∈ Bs
      · obtain ⟨more, hmore⟩ := un.tbls b #[] (hB b hb)
        exact ⟨_, hok' b _ hmore⟩
      · exact ⟨o, same b o hb e⟩
theorem tabIn_of {K : PySem.W.Frag} {x : Str} {f c B : Addr} {oc occ : Value} {od odc : Option Addr} {fd : FuncData} {sl slc : Array (Option Value)} {us : Array Value} (h1 : PySem.W.nsIn K mainGlobals x = some (some (.ref f))) (h2 : K.lookup f = some ⟨oc, od, .func fd, sl⟩) (hc : fd.code = .ref c)
    (h3 : K.lookup c = some ⟨occ, odc, .fields us, slc⟩) (h4 : us[11]? = some (.ref B)) : PySem.W.tabIn K x = some (c, B) := by
  unfold PySem.W.tabIn
  rw [h1]
  dsimp only
  rw [h2]
  dsimp only
  rw [hc]
  dsimp only
  rw [h3]
  dsimp only
  rw [h4]
/-- the walk's end, with any number of tables of code objects (tb: the def's name, its code object, its table) -/
theorem walk_endL {l : PySem.W.OpenLaw} {n k : Nat} {q : Program} {loose : List Str} {XP : (Str → Option Value) → Heap → Prop} {YP : World → Heap → Prop} {d : DefRec} {K : Params → PySem.W.Frag} {x : Str} {xts : List Str}
    (hn : l.most = some n) (hn2 : n ≤ 63) (hdf : d.params.defaults = []) (hr : Room k callerA) (hY : ∀ (w : World) (h : Heap), YP w h → (K w.params).In h) (hrec : (xts.all fun xt => ((recsOf q).find? fun e => e.name == xt).isSome) = true)
    (F : ∀ (w : World) (mg : Str → Option Value) (fa : Addr) (h : Heap), (K w.params).In h → h.Ns mainGlobals mg → mg d.name = some (.ref fa) → ∃ (fd : FuncData) (tb : List (Str × Addr × Addr)) (sp : Sp), (∀ e ∈ tb, e.1 ∈ xts ∧ PySem.W.tabIn (K w.params) e.1 = some (e.2.1, e.2.2) ∧ (K w.params).lookup e.2.2 = none) ∧ (∀ (s : Shared) (u : Value), BindsTo s fd ⟨[u], []⟩ [(x, u)]) ∧
      (∀ base : Heap, (K w.params).In base → base.Ns mainGlobals mg → (∀ e ∈ tb, TabB base mg e.2.1 e.2.2) → FnG l.prog w (K w.params) mg base k fa fd [x] sp) ∧
      ∀ (H : Hp) (a : Addr) (ns : List Int), (∀ e ∈ tb, H e.2.2 = some (.tbl #[])) → SqL (K w.params) H a (ns.map V.int) → ns.length ≤ 63 → sp [.ref a] H (fun v _ => v = .bl true) C8.E0) :
    PySem.W.WalkO q loose XP YP l.row.toRowW d [] (fun f vs => PySem.call f vs) := by
  refine Att.attach_callB hn hdf fun w s₀ s₁ mg mb fa o pm cd doc a vs ns G Y ho hd hcd hmg hobj hints hlen hbits hg => ?_
  have KX := hY w _ Y
  obtain ⟨fd, tb, sp, ht, hb, hF, hsp⟩ := F w mg fa _ KX G.T.g hmg
  have tab : ∀ e ∈ tb, PySem.W.CodeHd s₁.heap e.2.1 e.2.2 ∧ s₁.heap.get? e.2.2 = some { cls := .none, data := .fields #[] } := fun e he => by
    obtain ⟨h1, h2, h3⟩ := ht e he
    obtain ⟨dr, hdr⟩ := Option.isSome_iff_exists.mp (List.all_eq_true.mp hrec _ h1)
    exact PySem.W.tab_of G.T KX hdr h2
  have mem : ∀ {p : Addr → Prop}, (∀ e ∈ tb, p e.2.2) → ∀ b ∈ tb.map (·.2.2), p b := fun {p} h b hb => by
    obtain ⟨e, he, rfl⟩ := List.mem_map.mp hb
    exact h e he
  exact law_end (Bs := tb.map (·.2.2)) KX G.T.g G.T.b G.T.builtins G.T.nolimit hg (mem fun e he => (tab e he).2) (mem fun e he => (ht e he).2.2) (mem fun e he => ⟨_, (tab e he).1⟩) G.T.bmain hobj hints (Nat.le_trans (Nat.le_trans hlen hn2) (by decide)) hr
    (fun base kin ns' tbb => hF base kin ns' fun e he => tbb e.2.2 (List.mem_map.mpr ⟨e, he, rfl⟩) e.2.1 (tab e he).1) hb fun H hB hS => hsp H a ns (fun e he => hB e.2.2 (List.mem_map.mpr ⟨e, he, rfl⟩)) hS (Nat.le_trans hlen hn2)
end Lw
namespace Lw
open PySem PySem.Spec PyProof.Rows L2

open LamX ClX StX
set_option pp.maxSteps 900
def tab4 (B0 B1 B2 B3 : Addr) : List (Addr × Str) := [(B0, ((("_law_fixed_right" : Str) ++ (".<locals>." : Str)) ++ ("<lambda>" : Str))), (B1, ((("_law_divided_right" : Str) ++ (".<locals>." : Str)) ++ ("<lambda>" : Str))), (B2, ((("_law_up_right" : Str) ++ (".<locals>." : Str)) ++ ("<lambda>" : Str))), (B3, ((("law" : Str) ++ (".<locals>." : Str)) ++ ("<lambda>" : Str)))]
theorem tab4_0 {B0 B1 B2 B3 : Addr} (h10 : B1 ≠ B0) (h20 : B2 ≠ B0) (h21 : B2 ≠ B1) (h30 : B3 ≠ B0) (h31 : B3 ≠ B1) (h32 : B3 ≠ B2) : TabOf (tab4 B0 B1 B2 B3) B0 "_law_fixed_right" := ⟨by simp [tab4], fun p hp e => by
  simp only [tab4, List.mem_cons, List.not_mem_nil, or_false] at hp
  rcases hp with rfl | rfl | rfl | rfl
  · rfl
  · exact absurd e h10
  · exact absurd e h20
  · exact absurd e h30⟩
theorem tab4_1 {B0 B1 B2 B3 : Addr} (h10 : B1 ≠ B0) (h20 : B2 ≠ B0) (h21 : B2 ≠ B1) (h30 : B3 ≠ B0) (h31 : B3 ≠ B1) (h32 : B3 ≠ B2) : TabOf (tab4 B0 B1 B2 B3) B1 "_law_divided_right" := ⟨by simp [tab4], fun p hp e => by
  simp only [tab4, List.mem_cons, List.not_mem_nil, or_false] at hp
  rcases hp with rfl | rfl | rfl | rfl
  · exact absurd e h10.symm
  · rfl
  · exact absurd e h21
  · exact absurd e h31⟩
theorem tab4_2 {B0 B1 B2 B3 : Addr} (h10 : B1 ≠ B0) (h20 : B2 ≠ B0) (h21 : B2 ≠ B1) (h30 : B3 ≠ B0) (h31 : B3 ≠ B1) (h32 : B3 ≠ B2) : TabOf (tab4 B0 B1 B2 B3) B2 "_law_up_right" := ⟨by simp [tab4], fun p hp e => by
  simp only [tab4, List.mem_cons, List.not_mem_nil, or_false] at hp
  rcases hp with rfl | rfl | rfl | rfl
  · exact absurd e h20.symm
  · exact absurd e h21.symm
  · rfl
  · exact absurd e h32⟩
theorem tab4_3 {B0 B1 B2 B3 : Addr} (h10 : B1 ≠ B0) (h20 : B2 ≠ B0) (h21 : B2 ≠ B1) (h30 : B3 ≠ B0) (h31 : B3 ≠ B1) (h32 : B3 ≠ B2) : TabOf (tab4 B0 B1 B2 B3) B3 "law" := ⟨by simp [tab4], fun p hp e => by
  simp only [tab4, List.mem_cons, List.not_mem_nil, or_false] at hp
  rcases hp with rfl | rfl | rfl | rfl
  · exact absurd e h30.symm
  · exact absurd e h31.symm
  · exact absurd e h32.symm
  · rfl⟩
theorem kb_same {K : PySem.W.Frag} {x q : Str} {st : Stmt} {f : Addr} {fd : FuncData} {ps ks : List Str} (F : C8.Fun K x q st f fd) (df : fd.defaults = .none) (h : ∀ (kV doc pm : Value) (an : Option Addr) (cdv ct : Value) (us ws : List Value), us.length = 0 → ws.length = ks.length → bindArgs (PySem.W.fnOf x q (C8.fnArgs st) (C8.fnBody st) (C8.fnScope st) .none kV doc pm an cdv ct) ⟨us, ks.zip ws⟩ = pure (ps.zip ws)) :
    KBn K fd ps 0 ks (fun _ ws => ws) (fun _ zs => zs) := by
  obtain ⟨oc, od, dV, kV, doc, pm, an, cdv, ct, osl, rfl, lk, hcd⟩ := F.ex
  have e : dV = .none := df
  subst e
  exact ⟨fun s us ws X h1 h2 => .of_eq (h kV doc pm an cdv ct us ws h1 h2), fun r1 r2 => r2⟩
theorem kb_one {K : PySem.W.Frag} {x q : Str} {st : Stmt} {f : Addr} {fd : FuncData} {ps ks : List Str} (F : C8.Fun K x q st f fd) (df : fd.defaults = .none) (h : ∀ (kV doc pm : Value) (an : Option Addr) (cdv ct : Value) (us ws : List Value), us.length = 1 → ws.length = ks.length → bindArgs (PySem.W.fnOf x q (C8.fnArgs st) (C8.fnBody st) (C8.fnScope st) .none kV doc pm an cdv ct) ⟨us, ks.zip ws⟩ = pure (ps.zip (us ++ ws))) :
    KBn K fd ps 1 ks (fun us ws => us ++ ws) (fun us zs => us ++ zs) := by
  obtain ⟨oc, od, dV, kV, doc, pm, an, cdv, ct, osl, rfl, lk, hcd⟩ := F.ex
  have e : dV = .none := df
  subst e
  exact ⟨fun s us ws X h1 h2 => .of_eq (h kV doc pm an cdv ct us ws h1 h2), fun r1 r2 => r1.append r2⟩
theorem vals_back : ∀ {vs : List V} {us : List Value}, Vals vs us → Vals vs.reverse us.reverse
  | _, _, .nil => .nil
  | _, _, .cons h r => by
    rw [List.reverse_cons, List.reverse_cons]
    exact (vals_back r).append (.cons h .nil)
theorem kb_turn {K : PySem.W.Frag} {x q : Str} {st : Stmt} {f : Addr} {fd : FuncData} {ps ks : List Str} (F : C8.Fun K x q st f fd) (df : fd.defaults = .none) (h : ∀ (kV doc pm : Value) (an : Option Addr) (cdv ct : Value) (us ws : List Value), us.length = 1 → ws.length = ks.length → bindArgs (PySem.W.fnOf x q (C8.fnArgs st) (C8.fnBody st) (C8.fnScope st) .none kV doc pm an cdv ct) ⟨us, ks.zip ws⟩ = pure (ps.zip (us ++ ws.reverse))) :
    KBn K fd ps 1 ks (fun us ws => us ++ ws.reverse) (fun us zs => us ++ zs.reverse) := by
  obtain ⟨oc, od, dV, kV, doc, pm, an, cdv, ct, osl, rfl, lk, hcd⟩ := F.ex
  have e : dV = .none := df
  subst e
  exact ⟨fun s us ws X h1 h2 => .of_eq (h kV doc pm an cdv ct us ws h1 h2), fun r1 r2 => r1.append (vals_back r2)⟩
abbrev sBruE : Stmt := inClass (top 12) 0
theorem scBruE : FnScope ["self", "part"] ["self", "part"] (C8.fnScope sBruE) := C8.fnScope_by (by decide +kernel)
theorem fn_BruE {P : Program} {w : World} {K : PySem.W.Frag} {mg : Str → Option Value} {base : Heap} {C f : Addr} {fd : FuncData} (F : C8.Fun K "__init__" "BadRule.__init__" sBruE f fd) (T : OexC K C) (no1 : PySem.W.findIn K (.ref C) "part" = some none) : FnOk P w K mg base C8.CX0 1 f fd ["self", "part"] (spE1 C "part") := by
  refine C8.fn0 F scBruE (fun vs H Q E h => ?_) (fun cdv A outer st H vs Q E hr h => ?_)
  · obtain ⟨a, v1, rfl, _⟩ := h
    rfl
  · obtain ⟨a, v1, rfl, ha, k⟩ := h
    refine ⟨_, (pss_one (ps_ost (pv 0) (pv 1))), ?_⟩
    exact ⟨_, rfl, _, rfl, a, C, rfl, T, no1, .inl ⟨ha, fun dx h1 h2 => k dx h1 h2 _ (by rw [lookup_put, if_pos rfl])⟩⟩
abbrev sBszE : Stmt := inClass (top 9) 0
theorem scBszE : FnScope ["self", "value"] ["self", "value"] (C8.fnScope sBszE) := C8.fnScope_by (by decide +kernel)
theorem fn_BszE {P : Program} {w : World} {K : PySem.W.Frag} {mg : Str → Option Value} {base : Heap} {C f : Addr} {fd : FuncData} (F : C8.Fun K "__init__" "BadSize.__init__" sBszE f fd) (T : OexC K C) (no1 : PySem.W.findIn K (.ref C) "value" = some none) : FnOk P w K mg base C8.CX0 1 f fd ["self", "value"] (spE1 C "value") := by
  refine C8.fn0 F scBszE (fun vs H Q E h => ?_) (fun cdv A outer st H vs Q E hr h => ?_)
  · obtain ⟨a, v1, rfl, _⟩ := h
    rfl
  · obtain ⟨a, v1, rfl, ha, k⟩ := h
    refine ⟨_, (pss_one (ps_ost (pv 0) (pv 1))), ?_⟩
    exact ⟨_, rfl, _, rfl, a, C, rfl, T, no1, .inl ⟨ha, fun dx h1 h2 => k dx h1 h2 _ (by rw [lookup_put, if_pos rfl])⟩⟩
abbrev sBreE : Stmt := inClass (top 11) 0
theorem scBreE : FnScope ["self", "value"] ["self", "value"] (C8.fnScope sBreE) := C8.fnScope_by (by decide +kernel)
theorem fn_BreE {P : Program} {w : World} {K : PySem.W.Frag} {mg : Str → Option Value} {base : Heap} {C f : Addr} {fd : FuncData} (F : C8.Fun K "__init__" "BadRest.__init__" sBreE f fd) (T : OexC K C) (no1 : PySem.W.findIn K (.ref C) "value" = some none) : FnOk P w K mg base C8.CX0 1 f fd ["self", "value"] (spE1 C "value") := by
  refine C8.fn0 F scBreE (fun vs H Q E h => ?_) (fun cdv A outer st H vs Q E hr h => ?_)
  · obtain ⟨a, v1, rfl, _⟩ := h
    rfl
  · obtain ⟨a, v1, rfl, ha, k⟩ := h
    refine ⟨_, (pss_one (ps_ost (pv 0) (pv 1))), ?_⟩
    exact ⟨_, rfl, _, rfl, a, C, rfl, T, no1, .inl ⟨ha, fun dx h1 h2 => k dx h1 h2 _ (by rw [lookup_put, if_pos rfl])⟩⟩
abbrev sBtoE : Stmt := inClass (top 10) 0
theorem scBtoE : FnScope ["self", "value"] ["self", "value"] (C8.fnScope sBtoE) := C8.fnScope_by (by decide +kernel)
theorem fn_BtoE {P : Program} {w : World} {K : PySem.W.Frag} {mg : Str → Option Value} {base : Heap} {C f : Addr} {fd : FuncData} (F : C8.Fun K "__init__" "BadTotal.__init__" sBtoE f fd) (T : OexC K C) (no1 : PySem.W.findIn K (.ref C) "value" = some none) : FnOk P w K mg base C8.CX0 1 f fd ["self", "value"] (spE1 C "value") := by
  refine C8.fn0 F scBtoE (fun vs H Q E h => ?_) (fun cdv A outer st H vs Q E hr h => ?_)
  · obtain ⟨a, v1, rfl, _⟩ := h
    rfl
  · obtain ⟨a, v1, rfl, ha, k⟩ := h
    refine ⟨_, (pss_one (ps_ost (pv 0) (pv 1))), ?_⟩
    exact ⟨_, rfl, _, rfl, a, C, rfl, T, no1, .inl ⟨ha, fun dx h1 h2 => k dx h1 h2 _ (by rw [lookup_put, if_pos rfl])⟩⟩
abbrev sSize : Stmt := top 6
section
variable {P : Program} {w : World} {K : PySem.W.Frag} {mg : Str → Option Value} {base : Heap}
theorem scSize : FnScope ["value"] ["value"] (C8.fnScope sSize) := C8.fnScope_by (by decide +kernel)
theorem cal_sz {f : Addr} {fd : FuncData} (F : C8.Def K mg "is_size" sSize f fd) (b : Binds K fd ["value"] []) (hGS : ∃ t, mg "GREATEST_SIZE" = some (.int (10 ^ 30) t)) (DW : C8.Cal P w K mg base 2 "is_within" (spWithin K) []) : C8.Cal P w K mg base 3 "is_size" (spSize K) [] := by
  obtain ⟨tf, hGS⟩ := hGS
  refine C8.cal0 F b .nil scSize (fun vs H Q E h => ?_) (fun cdv A outer st H vs Q E hr h => ?_)
  · obtain ⟨x, rfl, _⟩ := h
    rfl
  · obtain ⟨x, rfl, ax, k⟩ := h
    refine ⟨_, (pss_one (ps_ret (C8.pe_c DW hr (by decide) (by rfl) (pa_cons (pv 0) (pa_cons pe_int (pa_cons (pe_glob (v := .int (10 ^ 30)) rfl hGS ⟨_, rfl⟩) pa_nil)))))), ?_⟩
    exact ⟨_, rfl, x, _, _, rfl, ax, k⟩
end

theorem all_known {l : PySem.W.OpenLaw} {w : World} {K : PySem.W.Frag} {h : Heap} {mg : Str → Option Value} {fa : Addr} (X : K.In h) (G : h.Ns mainGlobals mg) (hfa : mg "law" = some (.ref fa))
    {L : Addr}
    {UC : Addr}
    {fii : Addr} {ocii kVii dcii pmii ctii cdii : Value} {odii anii : Option Addr} {slii : Array (Option Value)}
    {fiw : Addr} {ociw kViw dciw pmiw ctiw cdiw : Value} {odiw aniw : Option Addr} {sliw : Array (Option Value)}
    {fiz : Addr} {ociz kViz dciz pmiz ctiz cdiz : Value} {odiz aniz : Option Addr} {sliz : Array (Option Value)}
    {fjf : Addr} {ocjf kVjf dcjf pmjf ctjf cdjf : Value} {odjf anjf : Option Addr} {sljf : Array (Option Value)}
    {fis : Addr} {ocis kVis dcis pmis ctis cdis : Value} {odis anis : Option Addr} {slis : Array (Option Value)}
    {flp : Addr} {oclp kVlp dclp pmlp ctlp cdlp : Value} {odlp anlp : Option Addr} {sllp : Array (Option Value)}
    {fld : Addr} {ocld kVld dcld pmld ctld cdld : Value} {odld anld : Option Addr} {slld : Array (Option Value)}
    {flk : Addr} {oclk kVlk dclk pmlk ctlk cdlk : Value} {odlk anlk : Option Addr} {sllk : Array (Option Value)}
    {flh : Addr} {oclh kVlh dclh pmlh ctlh cdlh : Value} {odlh anlh : Option Addr} {sllh : Array (Option Value)}
    {fli : Addr} {ocli kVli dcli pmli ctli cdli : Value} {odli anli : Option Addr} {slli : Array (Option Value)}
    {flx : Addr} {oclx kVlx dclx pmlx ctlx : Value} {odlx anlx : Option Addr} {sllx : Array (Option Value)}
    {flv : Addr} {oclv kVlv dclv pmlv ctlv : Value} {odlv anlv : Option Addr} {sllv : Array (Option Value)}
    {flu : Addr} {oclu kVlu dclu pmlu ctlu : Value} {odlu anlu : Option Addr} {sllu : Array (Option Value)}
    {fla : Addr} {ocla kVla dcla pmla ctla : Value} {odla anla : Option Addr} {slla : Array (Option Value)}
    {c0 B0 : Addr} {oc_c0 : Value} {od_c0 : Option Addr} {us_c0 : Array Value} {sl_c0 : Array (Option Value)}
    {c1 B1 : Addr} {oc_c1 : Value} {od_c1 : Option Addr} {us_c1 : Array Value} {sl_c1 : Array (Option Value)}
    {c2 B2 : Addr} {oc_c2 : Value} {od_c2 : Option Addr} {us_c2 : Array Value} {sl_c2 : Array (Option Value)}
    {c3 B3 : Addr} {oc_c3 : Value} {od_c3 : Option Addr} {us_c3 : Array Value} {sl_c3 : Array (Option Value)}
    {FC : Addr}
    {ffi : Addr} {ocfi kVfi dcfi pmfi ctfi cdfi : Value} {odfi anfi : Option Addr} {slfi : Array (Option Value)}
    {ffe : Addr} {ocfe kVfe dcfe pmfe ctfe cdfe : Value} {odfe anfe : Option Addr} {slfe : Array (Option Value)}
    {VC : Addr} {mcVC : Value}
    {fvi : Addr} {ocvi kVvi dcvi pmvi ctvi cdvi : Value} {odvi anvi : Option Addr} {slvi : Array (Option Value)}
    {fve : Addr} {ocve kVve dcve pmve ctve cdve : Value} {odve anve : Option Addr} {slve : Array (Option Value)}
    {fvu : Addr} {ocvu kVvu dcvu pmvu ctvu cdvu : Value} {odvu anvu : Option Addr} {slvu : Array (Option Value)}
    {pvu : Addr} {rsvu : List Value}
    {BC : Addr}
    {fbi : Addr} {ocbi kVbi dcbi pmbi ctbi cdbi : Value} {odbi anbi : Option Addr} {slbi : Array (Option Value)}
    {fbe : Addr} {ocbe kVbe dcbe pmbe ctbe cdbe : Value} {odbe anbe : Option Addr} {slbe : Array (Option Value)}
    {DU fEu : Addr} {ocEu kVEu dcEu pmEu cdEu ctEu : Value} {odEu anEu : Option Addr} {slEu : Array (Option Value)} {nmDu qDu : Str} {NDu : Addr} {bsDu bmDu : List Value} {snDu : List Str} {subDu : List Value} {abDu : Bool} {colDu : Option Bool} {ddDu : Option Addr} {e0u e1u e2u e3u e5u : Option Value}
    {DS fEs : Addr} {ocEs kVEs dcEs pmEs cdEs ctEs : Value} {odEs anEs : Option Addr} {slEs : Array (Option Value)} {nmDs qDs : Str} {NDs : Addr} {bsDs bmDs : List Value} {snDs : List Str} {subDs : List Value} {abDs : Bool} {colDs : Option Bool} {ddDs : Option Addr} {e0s e1s e2s e3s e5s : Option Value}
    {DR fEr : Addr} {ocEr kVEr dcEr pmEr cdEr ctEr : Value} {odEr anEr : Option Addr} {slEr : Array (Option Value)} {nmDr qDr : Str} {NDr : Addr} {bsDr bmDr : List Value} {snDr : List Str} {subDr : List Value} {abDr : Bool} {colDr : Option Bool} {ddDr : Option Addr} {e0r e1r e2r e3r e5r : Option Value}
    {DT fEt : Addr} {ocEt kVEt dcEt pmEt cdEt ctEt : Value} {odEt anEt : Option Addr} {slEt : Array (Option Value)} {nmDt qDt : Str} {NDt : Addr} {bsDt bmDt : List Value} {snDt : List Str} {subDt : List Value} {abDt : Bool} {colDt : Option Bool} {ddDt : Option Addr} {e0t e1t e2t e3t e5t : Option Value}
    {DX fEx : Addr} {ocEx kVEx dcEx pmEx cdEx ctEx : Value} {odEx anEx : Option Addr} {slEx : Array (Option Value)} {nmDx qDx : Str} {NDx : Addr} {bsDx bmDx : List Value} {snDx : List Str} {subDx : List Value} {abDx : Bool} {colDx : Option Bool} {ddDx : Option Addr} {e0x e1x e2x e3x e5x : Option Value}
    {DM fEm : Addr} {ocEm kVEm dcEm pmEm cdEm ctEm : Value} {odEm anEm : Option Addr} {slEm : Array (Option Value)} {nmDm qDm : Str} {NDm : Addr} {bsDm bmDm : List Value} {snDm : List Str} {subDm : List Value} {abDm : Bool} {colDm : Option Bool} {ddDm : Option Addr} {e0m e1m e2m e3m e5m : Option Value}
    {tMF : Tok} {vMF : Int}
    {tMS : Tok} {vMS : Int}
    {tGS : Tok} {vGS : Int}
    (aL : PySem.W.nsIn K mainGlobals "LateError" = some (some (.ref L)))
    (aUC : PySem.W.nsIn K mainGlobals "Rule" = some (some (.ref UC)))
    (aii : PySem.W.nsIn K mainGlobals "is_integer" = some (some (.ref fii)))
    (lii : K.lookup fii = some ⟨ocii, odii, .func (PySem.W.fnOf "is_integer" "is_integer" (C8.fnArgs sIsInt) (C8.fnBody sIsInt) (C8.fnScope sIsInt) .none kVii dcii pmii anii cdii ctii), slii⟩)
    (cii : PySem.W.codeIn K cdii "is_integer" = true)
    (kii : PySem.W.keepIn K (.ref fii) = true)
    (aiw : PySem.W.nsIn K mainGlobals "is_within" = some (some (.ref fiw)))
    (liw : K.lookup fiw = some ⟨ociw, odiw, .func (PySem.W.fnOf "is_within" "is_within" (C8.fnArgs sWithin) (C8.fnBody sWithin) (C8.fnScope sWithin) .none kViw dciw pmiw aniw cdiw ctiw), sliw⟩)
    (ciw : PySem.W.codeIn K cdiw "is_within" = true)
    (kiw : PySem.W.keepIn K (.ref fiw) = true)
    (aiz : PySem.W.nsIn K mainGlobals "is_size" = some (some (.ref fiz)))
    (liz : K.lookup fiz = some ⟨ociz, odiz, .func (PySem.W.fnOf "is_size" "is_size" (C8.fnArgs sSize) (C8.fnBody sSize) (C8.fnScope sSize) .none kViz dciz pmiz aniz cdiz ctiz), sliz⟩)
    (ciz : PySem.W.codeIn K cdiz "is_size" = true)
    (kiz : PySem.W.keepIn K (.ref fiz) = true)
    (ajf : PySem.W.nsIn K mainGlobals "is_factor" = some (some (.ref fjf)))
    (ljf : K.lookup fjf = some ⟨ocjf, odjf, .func (PySem.W.fnOf "is_factor" "is_factor" (C8.fnArgs sFac) (C8.fnBody sFac) (C8.fnScope sFac) .none kVjf dcjf pmjf anjf cdjf ctjf), sljf⟩)
    (cjf : PySem.W.codeIn K cdjf "is_factor" = true)
    (kjf : PySem.W.keepIn K (.ref fjf) = true)
    (ais : PySem.W.nsIn K mainGlobals "is_start" = some (some (.ref fis)))
    (lis : K.lookup fis = some ⟨ocis, odis, .func (PySem.W.fnOf "is_start" "is_start" (C8.fnArgs sSta) (C8.fnBody sSta) (C8.fnScope sSta) .none kVis dcis pmis anis cdis ctis), slis⟩)
    (cis : PySem.W.codeIn K cdis "is_start" = true)
    (kis : PySem.W.keepIn K (.ref fis) = true)
    (alp : PySem.W.nsIn K mainGlobals "_law_pen" = some (some (.ref flp)))
    (llp : K.lookup flp = some ⟨oclp, odlp, .func (PySem.W.fnOf "_law_pen" "_law_pen" (C8.fnArgs sPen) (C8.fnBody sPen) (C8.fnScope sPen) .none kVlp dclp pmlp anlp cdlp ctlp), sllp⟩)
    (clp : PySem.W.codeIn K cdlp "_law_pen" = true)
    (klp : PySem.W.keepIn K (.ref flp) = true)
    (ald : PySem.W.nsIn K mainGlobals "_law_draw" = some (some (.ref fld)))
    (lld : K.lookup fld = some ⟨ocld, odld, .func (PySem.W.fnOf "_law_draw" "_law_draw" (C8.fnArgs sDraw) (C8.fnBody sDraw) (C8.fnScope sDraw) .none kVld dcld pmld anld cdld ctld), slld⟩)
    (cld : PySem.W.codeIn K cdld "_law_draw" = true)
    (kld : PySem.W.keepIn K (.ref fld) = true)
    (alk : PySem.W.nsIn K mainGlobals "_law_pick" = some (some (.ref flk)))
    (llk : K.lookup flk = some ⟨oclk, odlk, .func (PySem.W.fnOf "_law_pick" "_law_pick" (C8.fnArgs sPick) (C8.fnBody sPick) (C8.fnScope sPick) .none kVlk dclk pmlk anlk cdlk ctlk), sllk⟩)
    (clk : PySem.W.codeIn K cdlk "_law_pick" = true)
    (klk : PySem.W.keepIn K (.ref flk) = true)
    (alh : PySem.W.nsIn K mainGlobals "_law_heard" = some (some (.ref flh)))
    (llh : K.lookup flh = some ⟨oclh, odlh, .func (PySem.W.fnOf "_law_heard" "_law_heard" (C8.fnArgs sHea) (C8.fnBody sHea) (C8.fnScope sHea) .none kVlh dclh pmlh anlh cdlh ctlh), sllh⟩)
    (clh : PySem.W.codeIn K cdlh "_law_heard" = true)
    (klh : PySem.W.keepIn K (.ref flh) = true)
    (ali : PySem.W.nsIn K mainGlobals "_law_is" = some (some (.ref fli)))
    (lli : K.lookup fli = some ⟨ocli, odli, .func (PySem.W.fnOf "_law_is" "_law_is" (C8.fnArgs sLis) (C8.fnBody sLis) (C8.fnScope sLis) .none kVli dcli pmli anli cdli ctli), slli⟩)
    (cli : PySem.W.codeIn K cdli "_law_is" = true)
    (kli : PySem.W.keepIn K (.ref fli) = true)
    (alx : PySem.W.nsIn K mainGlobals "_law_fixed_right" = some (some (.ref flx)))
    (llx : K.lookup flx = some ⟨oclx, odlx, .func (PySem.W.fnOf "_law_fixed_right" "_law_fixed_right" (C8.fnArgs sLfx) (C8.fnBody sLfx) (C8.fnScope sLfx) .none kVlx dclx pmlx anlx (.ref c0) ctlx), sllx⟩)
    (clx : PySem.W.codeIn K (.ref c0) "_law_fixed_right" = true)
    (klx : PySem.W.keepIn K (.ref flx) = true)
    (alv : PySem.W.nsIn K mainGlobals "_law_divided_right" = some (some (.ref flv)))
    (llv : K.lookup flv = some ⟨oclv, odlv, .func (PySem.W.fnOf "_law_divided_right" "_law_divided_right" (C8.fnArgs sLdv) (C8.fnBody sLdv) (C8.fnScope sLdv) .none kVlv dclv pmlv anlv (.ref c1) ctlv), sllv⟩)
    (clv : PySem.W.codeIn K (.ref c1) "_law_divided_right" = true)
    (klv : PySem.W.keepIn K (.ref flv) = true)
    (alu : PySem.W.nsIn K mainGlobals "_law_up_right" = some (some (.ref flu)))
    (llu : K.lookup flu = some ⟨oclu, odlu, .func (PySem.W.fnOf "_law_up_right" "_law_up_right" (C8.fnArgs sLup) (C8.fnBody sLup) (C8.fnScope sLup) .none kVlu dclu pmlu anlu (.ref c2) ctlu), sllu⟩)
    (clu : PySem.W.codeIn K (.ref c2) "_law_up_right" = true)
    (klu : PySem.W.keepIn K (.ref flu) = true)
    (ala : PySem.W.nsIn K mainGlobals "law" = some (some (.ref fla)))
    (lla : K.lookup fla = some ⟨ocla, odla, .func (PySem.W.fnOf "law" "law" (C8.fnArgs sLaw) (C8.fnBody sLaw) (C8.fnScope sLaw) .none kVla dcla pmla anla (.ref c3) ctla), slla⟩)
    (cla : PySem.W.codeIn K (.ref c3) "law" = true)
    (kla : PySem.W.keepIn K (.ref fla) = true)
    (ltlx : K.lookup c0 = some ⟨oc_c0, od_c0, .fields us_c0, sl_c0⟩)
    (vtlx : us_c0[11]? = some (.ref B0))
    (ntlx : K.lookup B0 = none)
    (ltlv : K.lookup c1 = some ⟨oc_c1, od_c1, .fields us_c1, sl_c1⟩)
    (vtlv : us_c1[11]? = some (.ref B1))
    (ntlv : K.lookup B1 = none)
    (ltlu : K.lookup c2 = some ⟨oc_c2, od_c2, .fields us_c2, sl_c2⟩)
    (vtlu : us_c2[11]? = some (.ref B2))
    (ntlu : K.lookup B2 = none)
    (ltla : K.lookup c3 = some ⟨oc_c3, od_c3, .fields us_c3, sl_c3⟩)
    (vtla : us_c3[11]? = some (.ref B3))
    (ntla : K.lookup B3 = none)
    (nB10 : B1 ≠ B0)
    (nB20 : B2 ≠ B0)
    (nB21 : B2 ≠ B1)
    (nB30 : B3 ≠ B0)
    (nB31 : B3 ≠ B1)
    (nB32 : B3 ≠ B2)
    (aFC : PySem.W.nsIn K mainGlobals "Fixed" = some (some (.ref FC)))
    (pgFC : PySem.W.plainGet K FC Str.empty = true)
    (hdFC : PySem.W.hasDictIn K FC = true)
    (poFC : PySem.W.plainOver K FC = true)
    (saFC : PySem.W.findIn K (.ref FC) "__setattr__" = some (some (.builtin "object.__setattr__")))
    (mkFC : PySem.W.makesIn K FC = true)
    (kCFC : PySem.W.keepIn K (.ref FC) = true)
    (noFC_size : PySem.W.findIn K (.ref FC) "size" = some none)
    (noFC_parts : PySem.W.findIn K (.ref FC) "parts" = some none)
    (noFC_modulus : PySem.W.findIn K (.ref FC) "modulus" = some none)
    (hCFC : PySem.W.findIn K (.ref FC) "__class__" = some (some (.builtin "object.__class__")))
    (hMFC : PySem.W.mroIn K FC (.type "object") = some true)
    (hG : PySem.W.specialIn K (.builtin "object.__class__") "__get__" = some (some (.builtin "getset_descriptor.__get__")))
    (hK : PySem.W.takesIn K (.builtin "object.__class__") = some true)
    (nEFC : PySem.W.findIn K (.ref FC) "__ne__" = some (some (.builtin "object.__ne__")))
    (afi : PySem.W.findIn K (.ref FC) "__init__" = some (some (.ref ffi)))
    (ifi : PySem.W.isFn K (.ref ffi) = true)
    (lfi : K.lookup ffi = some ⟨ocfi, odfi, .func (PySem.W.fnOf "__init__" "Fixed.__init__" (C8.fnArgs sFxi) (C8.fnBody sFxi) (C8.fnScope sFxi) .none kVfi dcfi pmfi anfi cdfi ctfi), slfi⟩)
    (cfi : PySem.W.codeIn K cdfi "Fixed.__init__" = true)
    (kfi : PySem.W.keepIn K (.ref ffi) = true)
    (afe : PySem.W.findIn K (.ref FC) "__eq__" = some (some (.ref ffe)))
    (ife : PySem.W.isFn K (.ref ffe) = true)
    (lfe : K.lookup ffe = some ⟨ocfe, odfe, .func (PySem.W.fnOf "__eq__" "Fixed.__eq__" (C8.fnArgs sFxe) (C8.fnBody sFxe) (C8.fnScope sFxe) .none kVfe dcfe pmfe anfe cdfe ctfe), slfe⟩)
    (cfe : PySem.W.codeIn K cdfe "Fixed.__eq__" = true)
    (kfe : PySem.W.keepIn K (.ref ffe) = true)
    (aVC : PySem.W.nsIn K mainGlobals "Divided" = some (some (.ref VC)))
    (sTVC : PySem.W.typeIn K (.ref VC) = some mcVC)
    (sRVC : PySem.W.readsIn K VC mcVC = true)
    (sGVC : PySem.W.specialIn K (.ref VC) "__getattribute__" = some (some (.builtin "type.__getattribute__")))
    (pgVC : PySem.W.plainGet K VC Str.empty = true)
    (hdVC : PySem.W.hasDictIn K VC = true)
    (poVC : PySem.W.plainOver K VC = true)
    (saVC : PySem.W.findIn K (.ref VC) "__setattr__" = some (some (.builtin "object.__setattr__")))
    (mkVC : PySem.W.makesIn K VC = true)
    (kCVC : PySem.W.keepIn K (.ref VC) = true)
    (noVC_x : PySem.W.findIn K (.ref VC) "x" = some none)
    (noVC_y : PySem.W.findIn K (.ref VC) "y" = some none)
    (noVC_w : PySem.W.findIn K (.ref VC) "w" = some none)
    (noVC_parts : PySem.W.findIn K (.ref VC) "parts" = some none)
    (noVC_modulus : PySem.W.findIn K (.ref VC) "modulus" = some none)
    (hCVC : PySem.W.findIn K (.ref VC) "__class__" = some (some (.builtin "object.__class__")))
    (hMVC : PySem.W.mroIn K VC (.type "object") = some true)
    (avi : PySem.W.findIn K (.ref VC) "__init__" = some (some (.ref fvi)))
    (ivi : PySem.W.isFn K (.ref fvi) = true)
    (lvi : K.lookup fvi = some ⟨ocvi, odvi, .func (PySem.W.fnOf "__init__" "Divided.__init__" (C8.fnArgs sDvi) (C8.fnBody sDvi) (C8.fnScope sDvi) .none kVvi dcvi pmvi anvi cdvi ctvi), slvi⟩)
    (cvi : PySem.W.codeIn K cdvi "Divided.__init__" = true)
    (kvi : PySem.W.keepIn K (.ref fvi) = true)
    (ave : PySem.W.findIn K (.ref VC) "__eq__" = some (some (.ref fve)))
    (ive : PySem.W.isFn K (.ref fve) = true)
    (lve : K.lookup fve = some ⟨ocve, odve, .func (PySem.W.fnOf "__eq__" "Divided.__eq__" (C8.fnArgs sDve) (C8.fnBody sDve) (C8.fnScope sDve) .none kVve dcve pmve anve cdve ctve), slve⟩)
    (cve : PySem.W.codeIn K cdve "Divided.__eq__" = true)
    (kve : PySem.W.keepIn K (.ref fve) = true)
    (lvu : K.lookup fvu = some ⟨ocvu, odvu, .func (PySem.W.fnOf "up" "Divided.up" (C8.fnArgs sDvu) (C8.fnBody sDvu) (C8.fnScope sDvu) .none kVvu dcvu pmvu anvu cdvu ctvu), slvu⟩)
    (cvu : PySem.W.codeIn K cdvu "Divided.up" = true)
    (kvu : PySem.W.keepIn K (.ref fvu) = true)
    (svu : PySem.W.findCls K (.ref VC) mcVC "up" = some (.get (.builtin "staticmethod.__get__") (.ref pvu) .none (.ref VC)))
    (rvu : PySem.W.recIn K pvu "staticmethod" = some (.ref fvu :: rsvu))
    (aBC : PySem.W.nsIn K mainGlobals "By" = some (some (.ref BC)))
    (pgBC : PySem.W.plainGet K BC Str.empty = true)
    (hdBC : PySem.W.hasDictIn K BC = true)
    (poBC : PySem.W.plainOver K BC = true)
    (saBC : PySem.W.findIn K (.ref BC) "__setattr__" = some (some (.builtin "object.__setattr__")))
    (mkBC : PySem.W.makesIn K BC = true)
    (kCBC : PySem.W.keepIn K (.ref BC) = true)
    (noBC_function : PySem.W.findIn K (.ref BC) "function" = some none)
    (noBC_parts : PySem.W.findIn K (.ref BC) "parts" = some none)
    (noBC_modulus : PySem.W.findIn K (.ref BC) "modulus" = some none)
    (hCBC : PySem.W.findIn K (.ref BC) "__class__" = some (some (.builtin "object.__class__")))
    (hMBC : PySem.W.mroIn K BC (.type "object") = some true)
    (abi : PySem.W.findIn K (.ref BC) "__init__" = some (some (.ref fbi)))
    (ibi : PySem.W.isFn K (.ref fbi) = true)
    (lbi : K.lookup fbi = some ⟨ocbi, odbi, .func (PySem.W.fnOf "__init__" "By.__init__" (C8.fnArgs sByi) (C8.fnBody sByi) (C8.fnScope sByi) .none kVbi dcbi pmbi anbi cdbi ctbi), slbi⟩)
    (cbi : PySem.W.codeIn K cdbi "By.__init__" = true)
    (kbi : PySem.W.keepIn K (.ref fbi) = true)
    (abe : PySem.W.findIn K (.ref BC) "__eq__" = some (some (.ref fbe)))
    (ibe : PySem.W.isFn K (.ref fbe) = true)
    (lbe : K.lookup fbe = some ⟨ocbe, odbe, .func (PySem.W.fnOf "__eq__" "By.__eq__" (C8.fnArgs sBye) (C8.fnBody sBye) (C8.fnScope sBye) .none kVbe dcbe pmbe anbe cdbe ctbe), slbe⟩)
    (cbe : PySem.W.codeIn K cdbe "By.__eq__" = true)
    (kbe : PySem.W.keepIn K (.ref fbe) = true)
    (kuFC : PySem.W.kitOne K (.ref FC) (.ref UC) = some true)
    (kuVC : PySem.W.kitOne K (.ref VC) (.ref UC) = some true)
    (kuBC : PySem.W.kitOne K (.ref BC) (.ref UC) = some true)
    (q_nfi : PySem.W.notFirst K FC (.type "int") = true)
    (q_nfv : PySem.W.notFirst K FC (.ref VC) = true)
    (q_if : PySem.W.kitOne K (.type "int") (.ref FC) = some false)
    (q_vf : PySem.W.kitOne K (.ref VC) (.ref FC) = some false)
    (aDu : PySem.W.nsIn K mainGlobals "BadRule" = some (some (.ref DU)))
    (xDu : K.lookup DU = some (excClassObj nmDu qDu DU NDu bsDu bmDu true snDu subDu abDu colDu ddDu e0u e1u e2u e3u e5u "ValueError.__new__"))
    (xBu : PySem.HandSPX.refsVE bmDu = true)
    (xsu : PySem.W.findIn K (.ref DU) "__setattr__" = some (some (.builtin "object.__setattr__")))
    (xeu : PySem.W.subIn K (.ref DU) (.type "BaseException") = some true)
    (xtu : PySem.W.typeIn K (.ref DU) = some (.type "type"))
    (xku : PySem.W.keepIn K (.ref DU) = true)
    (xiu : PySem.W.findIn K (.ref DU) "__init__" = some (some (.ref fEu)))
    (xfu : PySem.W.typeIn K (.ref fEu) = some (.type "function"))
    (lEu : K.lookup fEu = some ⟨ocEu, odEu, .func (PySem.W.fnOf "__init__" "BadRule.__init__" (C8.fnArgs sBruE) (C8.fnBody sBruE) (C8.fnScope sBruE) .none kVEu dcEu pmEu anEu cdEu ctEu), slEu⟩)
    (cEu : PySem.W.codeIn K cdEu "BadRule.__init__" = true)
    (xvu0 : PySem.W.findIn K (.ref DU) "part" = some none)
    (xgu : PySem.W.findIn K (.ref DU) "__getattribute__" = some (some (.builtin "BaseException.__getattribute__")))
    (xnu : PySem.W.findIn K (.ref DU) "__getattr__" = some none)
    (xdu : PySem.W.hasDictIn K DU = true)
    (xcu : PySem.W.findIn K (.ref DU) "__class__" = some (some (.builtin "object.__class__")))
    (xmu : PySem.W.mroIn K DU (.type "object") = some true)
    (xou : PySem.W.kitOne K (.ref DU) (.ref DU) = some true)
    (xLu : PySem.W.exmOne K (.ref DU) (.ref L) = some true)
    (aDs : PySem.W.nsIn K mainGlobals "BadSize" = some (some (.ref DS)))
    (xDs : K.lookup DS = some (excClassObj nmDs qDs DS NDs bsDs bmDs true snDs subDs abDs colDs ddDs e0s e1s e2s e3s e5s "ValueError.__new__"))
    (xBs : PySem.HandSPX.refsVE bmDs = true)
    (xss : PySem.W.findIn K (.ref DS) "__setattr__" = some (some (.builtin "object.__setattr__")))
    (xes : PySem.W.subIn K (.ref DS) (.type "BaseException") = some true)
    (xts : PySem.W.typeIn K (.ref DS) = some (.type "type"))
    (xks : PySem.W.keepIn K (.ref DS) = true)
    (xis : PySem.W.findIn K (.ref DS) "__init__" = some (some (.ref fEs)))
    (xfs : PySem.W.typeIn K (.ref fEs) = some (.type "function"))
    (lEs : K.lookup fEs = some ⟨ocEs, odEs, .func (PySem.W.fnOf "__init__" "BadSize.__init__" (C8.fnArgs sBszE) (C8.fnBody sBszE) (C8.fnScope sBszE) .none kVEs dcEs pmEs anEs cdEs ctEs), slEs⟩)
    (cEs : PySem.W.codeIn K cdEs "BadSize.__init__" = true)
    (xvs0 : PySem.W.findIn K (.ref DS) "value" = some none)
    (xgs : PySem.W.findIn K (.ref DS) "__getattribute__" = some (some (.builtin "BaseException.__getattribute__")))
    (xns : PySem.W.findIn K (.ref DS) "__getattr__" = some none)
    (xds : PySem.W.hasDictIn K DS = true)
    (xcs : PySem.W.findIn K (.ref DS) "__class__" = some (some (.builtin "object.__class__")))
    (xms : PySem.W.mroIn K DS (.type "object") = some true)
    (xos : PySem.W.kitOne K (.ref DS) (.ref DS) = some true)
    (xLs : PySem.W.exmOne K (.ref DS) (.ref L) = some true)
    (aDr : PySem.W.nsIn K mainGlobals "BadRest" = some (some (.ref DR)))
    (xDr : K.lookup DR = some (excClassObj nmDr qDr DR NDr bsDr bmDr true snDr subDr abDr colDr ddDr e0r e1r e2r e3r e5r "ValueError.__new__"))
    (xBr : PySem.HandSPX.refsVE bmDr = true)
    (xsr : PySem.W.findIn K (.ref DR) "__setattr__" = some (some (.builtin "object.__setattr__")))
    (xer : PySem.W.subIn K (.ref DR) (.type "BaseException") = some true)
    (xtr : PySem.W.typeIn K (.ref DR) = some (.type "type"))
    (xkr : PySem.W.keepIn K (.ref DR) = true)
    (xir : PySem.W.findIn K (.ref DR) "__init__" = some (some (.ref fEr)))
    (xfr : PySem.W.typeIn K (.ref fEr) = some (.type "function"))
    (lEr : K.lookup fEr = some ⟨ocEr, odEr, .func (PySem.W.fnOf "__init__" "BadRest.__init__" (C8.fnArgs sBreE) (C8.fnBody sBreE) (C8.fnScope sBreE) .none kVEr dcEr pmEr anEr cdEr ctEr), slEr⟩)
    (cEr : PySem.W.codeIn K cdEr "BadRest.__init__" = true)
    (xvr0 : PySem.W.findIn K (.ref DR) "value" = some none)
    (xgr : PySem.W.findIn K (.ref DR) "__getattribute__" = some (some (.builtin "BaseException.__getattribute__")))
    (xnr : PySem.W.findIn K (.ref DR) "__getattr__" = some none)
    (xdr : PySem.W.hasDictIn K DR = true)
    (xcr : PySem.W.findIn K (.ref DR) "__class__" = some (some (.builtin "object.__class__")))
    (xmr : PySem.W.mroIn K DR (.type "object") = some true)
    (xor : PySem.W.kitOne K (.ref DR) (.ref DR) = some true)
    (xLr : PySem.W.exmOne K (.ref DR) (.ref L) = some true)
    (aDt : PySem.W.nsIn K mainGlobals "BadTotal" = some (some (.ref DT)))
    (xDt : K.lookup DT = some (excClassObj nmDt qDt DT NDt bsDt bmDt true snDt subDt abDt colDt ddDt e0t e1t e2t e3t e5t "ValueError.__new__"))
    (xBt : PySem.HandSPX.refsVE bmDt = true)
    (xst : PySem.W.findIn K (.ref DT) "__setattr__" = some (some (.builtin "object.__setattr__")))
    (xet : PySem.W.subIn K (.ref DT) (.type "BaseException") = some true)
    (xtt : PySem.W.typeIn K (.ref DT) = some (.type "type"))
    (xkt : PySem.W.keepIn K (.ref DT) = true)
    (xit : PySem.W.findIn K (.ref DT) "__init__" = some (some (.ref fEt)))
    (xft : PySem.W.typeIn K (.ref fEt) = some (.type "function"))
    (lEt : K.lookup fEt = some ⟨ocEt, odEt, .func (PySem.W.fnOf "__init__" "BadTotal.__init__" (C8.fnArgs sBtoE) (C8.fnBody sBtoE) (C8.fnScope sBtoE) .none kVEt dcEt pmEt anEt cdEt ctEt), slEt⟩)
    (cEt : PySem.W.codeIn K cdEt "BadTotal.__init__" = true)
    (xvt0 : PySem.W.findIn K (.ref DT) "value" = some none)
    (xgt : PySem.W.findIn K (.ref DT) "__getattribute__" = some (some (.builtin "BaseException.__getattribute__")))
    (xnt : PySem.W.findIn K (.ref DT) "__getattr__" = some none)
    (xdt : PySem.W.hasDictIn K DT = true)
    (xct : PySem.W.findIn K (.ref DT) "__class__" = some (some (.builtin "object.__class__")))
    (xmt : PySem.W.mroIn K DT (.type "object") = some true)
    (xot : PySem.W.kitOne K (.ref DT) (.ref DT) = some true)
    (xLt : PySem.W.exmOne K (.ref DT) (.ref L) = some true)
    (aDx : PySem.W.nsIn K mainGlobals "BadText" = some (some (.ref DX)))
    (xDx : K.lookup DX = some (excClassObj nmDx qDx DX NDx bsDx bmDx true snDx subDx abDx colDx ddDx e0x e1x e2x e3x e5x "ValueError.__new__"))
    (xBx : PySem.HandSPX.refsVE bmDx = true)
    (xsx : PySem.W.findIn K (.ref DX) "__setattr__" = some (some (.builtin "object.__setattr__")))
    (xex : PySem.W.subIn K (.ref DX) (.type "BaseException") = some true)
    (xtx : PySem.W.typeIn K (.ref DX) = some (.type "type"))
    (xkx : PySem.W.keepIn K (.ref DX) = true)
    (xix : PySem.W.findIn K (.ref DX) "__init__" = some (some (.ref fEx)))
    (xfx : PySem.W.typeIn K (.ref fEx) = some (.type "function"))
    (lEx : K.lookup fEx = some ⟨ocEx, odEx, .func (PySem.W.fnOf "__init__" "BadText.__init__" (C8.fnArgs sTxE) (C8.fnBody sTxE) (C8.fnScope sTxE) .none kVEx dcEx pmEx anEx cdEx ctEx), slEx⟩)
    (cEx : PySem.W.codeIn K cdEx "BadText.__init__" = true)
    (xvx0 : PySem.W.findIn K (.ref DX) "line" = some none)
    (xvx1 : PySem.W.findIn K (.ref DX) "word" = some none)
    (xgx : PySem.W.findIn K (.ref DX) "__getattribute__" = some (some (.builtin "BaseException.__getattribute__")))
    (xnx : PySem.W.findIn K (.ref DX) "__getattr__" = some none)
    (xdx : PySem.W.hasDictIn K DX = true)
    (xcx : PySem.W.findIn K (.ref DX) "__class__" = some (some (.builtin "object.__class__")))
    (xmx : PySem.W.mroIn K DX (.type "object") = some true)
    (xox : PySem.W.kitOne K (.ref DX) (.ref DX) = some true)
    (xLx : PySem.W.exmOne K (.ref DX) (.ref L) = some true)
    (aDm : PySem.W.nsIn K mainGlobals "TooMany" = some (some (.ref DM)))
    (xDm : K.lookup DM = some (excClassObj nmDm qDm DM NDm bsDm bmDm true snDm subDm abDm colDm ddDm e0m e1m e2m e3m e5m "ValueError.__new__"))
    (xBm : PySem.HandSPX.refsVE bmDm = true)
    (xsm : PySem.W.findIn K (.ref DM) "__setattr__" = some (some (.builtin "object.__setattr__")))
    (xem : PySem.W.subIn K (.ref DM) (.type "BaseException") = some true)
    (xtm : PySem.W.typeIn K (.ref DM) = some (.type "type"))
    (xkm : PySem.W.keepIn K (.ref DM) = true)
    (xim : PySem.W.findIn K (.ref DM) "__init__" = some (some (.ref fEm)))
    (xfm : PySem.W.typeIn K (.ref fEm) = some (.type "function"))
    (lEm : K.lookup fEm = some ⟨ocEm, odEm, .func (PySem.W.fnOf "__init__" "TooMany.__init__" (C8.fnArgs sMnE) (C8.fnBody sMnE) (C8.fnScope sMnE) .none kVEm dcEm pmEm anEm cdEm ctEm), slEm⟩)
    (cEm : PySem.W.codeIn K cdEm "TooMany.__init__" = true)
    (xvm0 : PySem.W.findIn K (.ref DM) "what" = some none)
    (xvm1 : PySem.W.findIn K (.ref DM) "most" = some none)
    (xgm : PySem.W.findIn K (.ref DM) "__getattribute__" = some (some (.builtin "BaseException.__getattribute__")))
    (xnm : PySem.W.findIn K (.ref DM) "__getattr__" = some none)
    (xdm : PySem.W.hasDictIn K DM = true)
    (xcm : PySem.W.findIn K (.ref DM) "__class__" = some (some (.builtin "object.__class__")))
    (xmm : PySem.W.mroIn K DM (.type "object") = some true)
    (xom : PySem.W.kitOne K (.ref DM) (.ref DM) = some true)
    (xLm : PySem.W.exmOne K (.ref DM) (.ref L) = some true)
    (xNus : PySem.W.kitOne K (.ref DU) (.ref DS) = some false)
    (xNur : PySem.W.kitOne K (.ref DU) (.ref DR) = some false)
    (xNut : PySem.W.kitOne K (.ref DU) (.ref DT) = some false)
    (xNux : PySem.W.kitOne K (.ref DU) (.ref DX) = some false)
    (xNum : PySem.W.kitOne K (.ref DU) (.ref DM) = some false)
    (xNsu : PySem.W.kitOne K (.ref DS) (.ref DU) = some false)
    (xNsr : PySem.W.kitOne K (.ref DS) (.ref DR) = some false)
    (xNst : PySem.W.kitOne K (.ref DS) (.ref DT) = some false)
    (xNsx : PySem.W.kitOne K (.ref DS) (.ref DX) = some false)
    (xNsm : PySem.W.kitOne K (.ref DS) (.ref DM) = some false)
    (xNru : PySem.W.kitOne K (.ref DR) (.ref DU) = some false)
    (xNrs : PySem.W.kitOne K (.ref DR) (.ref DS) = some false)
    (xNrt : PySem.W.kitOne K (.ref DR) (.ref DT) = some false)
    (xNrx : PySem.W.kitOne K (.ref DR) (.ref DX) = some false)
    (xNrm : PySem.W.kitOne K (.ref DR) (.ref DM) = some false)
    (xNtu : PySem.W.kitOne K (.ref DT) (.ref DU) = some false)
    (xNts : PySem.W.kitOne K (.ref DT) (.ref DS) = some false)
    (xNtr : PySem.W.kitOne K (.ref DT) (.ref DR) = some false)
    (xNtx : PySem.W.kitOne K (.ref DT) (.ref DX) = some false)
    (xNtm : PySem.W.kitOne K (.ref DT) (.ref DM) = some false)
    (xNxu : PySem.W.kitOne K (.ref DX) (.ref DU) = some false)
    (xNxs : PySem.W.kitOne K (.ref DX) (.ref DS) = some false)
    (xNxr : PySem.W.kitOne K (.ref DX) (.ref DR) = some false)
    (xNxt : PySem.W.kitOne K (.ref DX) (.ref DT) = some false)
    (xNxm : PySem.W.kitOne K (.ref DX) (.ref DM) = some false)
    (xNmu : PySem.W.kitOne K (.ref DM) (.ref DU) = some false)
    (xNms : PySem.W.kitOne K (.ref DM) (.ref DS) = some false)
    (xNmr : PySem.W.kitOne K (.ref DM) (.ref DR) = some false)
    (xNmt : PySem.W.kitOne K (.ref DM) (.ref DT) = some false)
    (xNmx : PySem.W.kitOne K (.ref DM) (.ref DX) = some false)
    (gMF : PySem.W.nsIn K mainGlobals "MOST_FACTOR" = some (some (.int vMF tMF)))
    (eMF : vMF = 24)
    (gMS : PySem.W.nsIn K mainGlobals "MOST_START" = some (some (.int vMS tMS)))
    (eMS : vMS = 1000)
    (gGS : PySem.W.nsIn K mainGlobals "GREATEST_SIZE" = some (some (.int vGS tGS)))
    (eGS : vGS = 10 ^ 30)
    (z_int : PySem.W.nsIn K mainGlobals "int" = some none)
    (z_list : PySem.W.nsIn K mainGlobals "list" = some none)
    (z_len : PySem.W.nsIn K mainGlobals "len" = some none)
    (z_abs : PySem.W.nsIn K mainGlobals "abs" = some none)
    (z_bool : PySem.W.nsIn K mainGlobals "bool" = some none)
    (z_str : PySem.W.nsIn K mainGlobals "str" = some none)
    (z_isinstance : PySem.W.nsIn K mainGlobals "isinstance" = some none)
    (z_range : PySem.W.nsIn K mainGlobals "range" = some none)
    (z_repr : PySem.W.nsIn K mainGlobals "repr" = some none)
    (z_all : PySem.W.nsIn K mainGlobals "all" = some none) :
    ∃ (fd : FuncData) (tb : List (Str × Addr × Addr)) (sp : Sp), (∀ e ∈ tb, e.1 ∈ (["_law_fixed_right", "_law_divided_right", "_law_up_right", "law"] : List Str) ∧ PySem.W.tabIn K e.1 = some (e.2.1, e.2.2) ∧ K.lookup e.2.2 = none) ∧ (∀ (s : Shared) (u : Value), BindsTo s fd ⟨[u], []⟩ [("_law_script", u)]) ∧
      (∀ base : Heap, K.In base → base.Ns mainGlobals mg → (∀ e ∈ tb, TabB base mg e.2.1 e.2.2) → FnG l.prog w K mg base 15 fa fd ["_law_script"] sp) ∧
      ∀ (H : Hp) (a : Addr) (ns : List Int), (∀ e ∈ tb, H e.2.2 = some (.tbl #[])) → SqL K H a (ns.map V.int) → ns.length ≤ 63 → sp [.ref a] H (fun v _ => v = .bl true) C8.E0 := by
  have e := hfa.symm.trans (PySem.W.mg_of X G ala)
  cases e
  subst eMF eMS eGS
  have Fii : C8.Def K mg "is_integer" sIsInt fii _ := ⟨⟨_, _, _, _, _, _, _, _, _, _, rfl, lii, cii⟩, PySem.W.mg_of X G aii, kii⟩
  have bii : Binds K _ ["value"] [] := Fii.fn.binds rfl fun _ _ _ _ _ _ us hl => match us, hl with | [_], _ => rfl
  have Fiw : C8.Def K mg "is_within" sWithin fiw _ := ⟨⟨_, _, _, _, _, _, _, _, _, _, rfl, liw, ciw⟩, PySem.W.mg_of X G aiw, kiw⟩
  have biw : Binds K _ ["value", "least", "most"] [] := Fiw.fn.binds rfl fun _ _ _ _ _ _ us hl => match us, hl with | [_, _, _], _ => rfl
  have Fiz : C8.Def K mg "is_size" sSize fiz _ := ⟨⟨_, _, _, _, _, _, _, _, _, _, rfl, liz, ciz⟩, PySem.W.mg_of X G aiz, kiz⟩
  have biz : Binds K _ ["value"] [] := Fiz.fn.binds rfl fun _ _ _ _ _ _ us hl => match us, hl with | [_], _ => rfl
  have Fjf : C8.Def K mg "is_factor" sFac fjf _ := ⟨⟨_, _, _, _, _, _, _, _, _, _, rfl, ljf, cjf⟩, PySem.W.mg_of X G ajf, kjf⟩
  have bjf : Binds K _ ["value", "least"] [] := Fjf.fn.binds rfl fun _ _ _ _ _ _ us hl => match us, hl with | [_, _], _ => rfl
  have Fis : C8.Def K mg "is_start" sSta fis _ := ⟨⟨_, _, _, _, _, _, _, _, _, _, rfl, lis, cis⟩, PySem.W.mg_of X G ais, kis⟩
  have bis : Binds K _ ["value"] [] := Fis.fn.binds rfl fun _ _ _ _ _ _ us hl => match us, hl with | [_], _ => rfl
  have Flp : C8.Def K mg "_law_pen" sPen flp _ := ⟨⟨_, _, _, _, _, _, _, _, _, _, rfl, llp, clp⟩, PySem.W.mg_of X G alp, klp⟩
  have blp : Binds K _ ["_law_script"] [] := Flp.fn.binds rfl fun _ _ _ _ _ _ us hl => match us, hl with | [_], _ => rfl
  have Fld : C8.Def K mg "_law_draw" sDraw fld _ := ⟨⟨_, _, _, _, _, _, _, _, _, _, rfl, lld, cld⟩, PySem.W.mg_of X G ald, kld⟩
  have bld : Binds K _ ["_law_pen_here", "_law_many"] [] := Fld.fn.binds rfl fun _ _ _ _ _ _ us hl => match us, hl with | [_, _], _ => rfl
  have Flk : C8.Def K mg "_law_pick" sPick flk _ := ⟨⟨_, _, _, _, _, _, _, _, _, _, rfl, llk, clk⟩, PySem.W.mg_of X G alk, klk⟩
  have blk : Binds K _ ["_law_pen_here", "_law_some"] [] := Flk.fn.binds rfl fun _ _ _ _ _ _ us hl => match us, hl with | [_, _], _ => rfl
  have Flh : C8.Def K mg "_law_heard" sHea flh _ := ⟨⟨_, _, _, _, _, _, _, _, _, _, rfl, llh, clh⟩, PySem.W.mg_of X G alh, klh⟩
  have blh : Binds K _ ["_law_ask"] [] := Flh.fn.binds rfl fun _ _ _ _ _ _ us hl => match us, hl with | [_], _ => rfl
  have Fli : C8.Def K mg "_law_is" sLis fli _ := ⟨⟨_, _, _, _, _, _, _, _, _, _, rfl, lli, cli⟩, PySem.W.mg_of X G ali, kli⟩
  have bli : Binds K _ ["_law_value_so", "_law_low", "_law_high"] [] := Fli.fn.binds rfl fun _ _ _ _ _ _ us hl => match us, hl with | [_, _, _], _ => rfl
  have Flx : DefC K mg "_law_fixed_right" sLfx flx _ c0 := ⟨⟨_, _, _, _, _, _, _, _, _, rfl, llx, clx⟩, PySem.W.mg_of X G alx, klx⟩
  have blx : Binds K _ ["_law_pen_here"] [] := C8.Fun.binds (st := sLfx) (x := "_law_fixed_right") (qual := "_law_fixed_right") (f := flx) ⟨_, _, _, _, _, _, _, _, _, _, rfl, llx, clx⟩ rfl fun _ _ _ _ _ _ us hl => match us, hl with | [_], _ => rfl
  have Flv : DefC K mg "_law_divided_right" sLdv flv _ c1 := ⟨⟨_, _, _, _, _, _, _, _, _, rfl, llv, clv⟩, PySem.W.mg_of X G alv, klv⟩
  have blv : Binds K _ ["_law_pen_here"] [] := C8.Fun.binds (st := sLdv) (x := "_law_divided_right") (qual := "_law_divided_right") (f := flv) ⟨_, _, _, _, _, _, _, _, _, _, rfl, llv, clv⟩ rfl fun _ _ _ _ _ _ us hl => match us, hl with | [_], _ => rfl
  have Flu : DefC K mg "_law_up_right" sLup flu _ c2 := ⟨⟨_, _, _, _, _, _, _, _, _, rfl, llu, clu⟩, PySem.W.mg_of X G alu, klu⟩
  have blu : Binds K _ ["_law_pen_here"] [] := C8.Fun.binds (st := sLup) (x := "_law_up_right") (qual := "_law_up_right") (f := flu) ⟨_, _, _, _, _, _, _, _, _, _, rfl, llu, clu⟩ rfl fun _ _ _ _ _ _ us hl => match us, hl with | [_], _ => rfl
  have Fla : LawC K "law" sLaw fa _ c3 := ⟨⟨_, _, _, _, _, _, _, _, _, rfl, lla, cla⟩⟩
  have clFC : Cls K FC := ⟨pgFC, hdFC, poFC, saFC⟩
  have IFC : C8.InsC K FC := ⟨clFC, hCFC, hG, hK, hMFC, by unfold PySem.W.kitOne; rw [if_pos (by simp)]⟩
  have Ffi : C8.Fun K "__init__" "Fixed.__init__" sFxi ffi _ := ⟨_, _, _, _, _, _, _, _, _, _, rfl, lfi, cfi⟩
  have bfi : Binds K _ ["self", "size"] [] := Ffi.binds rfl fun _ _ _ _ _ _ us hl => match us, hl with | [_, _], _ => rfl
  have tfi : Meth K FC "__init__" ffi := ⟨afi, ifi, kfi⟩
  have Ffe : C8.Fun K "__eq__" "Fixed.__eq__" sFxe ffe _ := ⟨_, _, _, _, _, _, _, _, _, _, rfl, lfe, cfe⟩
  have bfe : Binds K _ ["self", "other"] [] := Ffe.binds rfl fun _ _ _ _ _ _ us hl => match us, hl with | [_, _], _ => rfl
  have tfe : Meth K FC "__eq__" ffe := ⟨afe, ife, kfe⟩
  have rVC : CRead K VC mcVC := ⟨sRVC, sGVC⟩
  have clVC : Cls K VC := ⟨pgVC, hdVC, poVC, saVC⟩
  have IVC : C8.InsC K VC := ⟨clVC, hCVC, hG, hK, hMVC, by unfold PySem.W.kitOne; rw [if_pos (by simp)]⟩
  have Fvi : C8.Fun K "__init__" "Divided.__init__" sDvi fvi _ := ⟨_, _, _, _, _, _, _, _, _, _, rfl, lvi, cvi⟩
  have bvi : Binds K _ ["self", "x", "y", "w"] [] := Fvi.binds rfl fun _ _ _ _ _ _ us hl => match us, hl with | [_, _, _, _], _ => rfl
  have tvi : Meth K VC "__init__" fvi := ⟨avi, ivi, kvi⟩
  have Fve : C8.Fun K "__eq__" "Divided.__eq__" sDve fve _ := ⟨_, _, _, _, _, _, _, _, _, _, rfl, lve, cve⟩
  have bve : Binds K _ ["self", "other"] [] := Fve.binds rfl fun _ _ _ _ _ _ us hl => match us, hl with | [_, _], _ => rfl
  have tve : Meth K VC "__eq__" fve := ⟨ave, ive, kve⟩
  have Fvu : C8.Fun K "up" "Divided.up" sDvu fvu _ := ⟨_, _, _, _, _, _, _, _, _, _, rfl, lvu, cvu⟩
  have bvu : Binds K _ ["w"] [] := Fvu.binds rfl fun _ _ _ _ _ _ us hl => match us, hl with | [_], _ => rfl
  have Svu : SMet K VC "up" pvu fvu := ⟨⟨_, sTVC, sRVC, svu⟩, sGVC, ⟨_, rvu⟩, kvu⟩
  have clBC : Cls K BC := ⟨pgBC, hdBC, poBC, saBC⟩
  have IBC : C8.InsC K BC := ⟨clBC, hCBC, hG, hK, hMBC, by unfold PySem.W.kitOne; rw [if_pos (by simp)]⟩
  have Fbi : C8.Fun K "__init__" "By.__init__" sByi fbi _ := ⟨_, _, _, _, _, _, _, _, _, _, rfl, lbi, cbi⟩
  have bbi : Binds K _ ["self", "function"] [] := Fbi.binds rfl fun _ _ _ _ _ _ us hl => match us, hl with | [_, _], _ => rfl
  have tbi : Meth K BC "__init__" fbi := ⟨abi, ibi, kbi⟩
  have Fbe : C8.Fun K "__eq__" "By.__eq__" sBye fbe _ := ⟨_, _, _, _, _, _, _, _, _, _, rfl, lbe, cbe⟩
  have bbe : Binds K _ ["self", "other"] [] := Fbe.binds rfl fun _ _ _ _ _ _ us hl => match us, hl with | [_, _], _ => rfl
  have tbe : Meth K BC "__eq__" fbe := ⟨abe, ibe, kbe⟩
  have FEu : C8.Fun K "__init__" "BadRule.__init__" sBruE fEu _ := ⟨_, _, _, _, _, _, _, _, _, _, rfl, lEu, cEu⟩
  have bEu : Binds K _ ["self", "part"] [] := FEu.binds rfl fun _ _ _ _ _ _ us hl => match us, hl with | [_, _], _ => rfl
  have OXu : OexC K DU := ⟨⟨_, _, _, _, _, _, _, _, _, _, _, _, _, _, _, xDu, xBu⟩, xsu, xeu, xtu, xku⟩
  have XFu : XfC K DU := ⟨xgu, xnu, xeu, xdu⟩
  have XCu : Hx.XCls K DU := ⟨xgu, xnu, xeu, xdu, xcu, hG, hK, xmu⟩
  have FEs : C8.Fun K "__init__" "BadSize.__init__" sBszE fEs _ := ⟨_, _, _, _, _, _, _, _, _, _, rfl, lEs, cEs⟩
  have bEs : Binds K _ ["self", "value"] [] := FEs.binds rfl fun _ _ _ _ _ _ us hl => match us, hl with | [_, _], _ => rfl
  have OXs : OexC K DS := ⟨⟨_, _, _, _, _, _, _, _, _, _, _, _, _, _, _, xDs, xBs⟩, xss, xes, xts, xks⟩
  have XFs : XfC K DS := ⟨xgs, xns, xes, xds⟩
  have XCs : Hx.XCls K DS := ⟨xgs, xns, xes, xds, xcs, hG, hK, xms⟩
  have FEr : C8.Fun K "__init__" "BadRest.__init__" sBreE fEr _ := ⟨_, _, _, _, _, _, _, _, _, _, rfl, lEr, cEr⟩
  have bEr : Binds K _ ["self", "value"] [] := FEr.binds rfl fun _ _ _ _ _ _ us hl => match us, hl with | [_, _], _ => rfl
  have OXr : OexC K DR := ⟨⟨_, _, _, _, _, _, _, _, _, _, _, _, _, _, _, xDr, xBr⟩, xsr, xer, xtr, xkr⟩
  have XFr : XfC K DR := ⟨xgr, xnr, xer, xdr⟩
  have XCr : Hx.XCls K DR := ⟨xgr, xnr, xer, xdr, xcr, hG, hK, xmr⟩
  have FEt : C8.Fun K "__init__" "BadTotal.__init__" sBtoE fEt _ := ⟨_, _, _, _, _, _, _, _, _, _, rfl, lEt, cEt⟩
  have bEt : Binds K _ ["self", "value"] [] := FEt.binds rfl fun _ _ _ _ _ _ us hl => match us, hl with | [_, _], _ => rfl
  have OXt : OexC K DT := ⟨⟨_, _, _, _, _, _, _, _, _, _, _, _, _, _, _, xDt, xBt⟩, xst, xet, xtt, xkt⟩
  have XFt : XfC K DT := ⟨xgt, xnt, xet, xdt⟩
  have XCt : Hx.XCls K DT := ⟨xgt, xnt, xet, xdt, xct, hG, hK, xmt⟩
  have FEx : C8.Fun K "__init__" "BadText.__init__" sTxE fEx _ := ⟨_, _, _, _, _, _, _, _, _, _, rfl, lEx, cEx⟩
  have bEx : Binds K _ ["self", "line", "word"] [] := FEx.binds rfl fun _ _ _ _ _ _ us hl => match us, hl with | [_, _, _], _ => rfl
  have OXx : OexC K DX := ⟨⟨_, _, _, _, _, _, _, _, _, _, _, _, _, _, _, xDx, xBx⟩, xsx, xex, xtx, xkx⟩
  have XFx : XfC K DX := ⟨xgx, xnx, xex, xdx⟩
  have XCx : Hx.XCls K DX := ⟨xgx, xnx, xex, xdx, xcx, hG, hK, xmx⟩
  have FEm : C8.Fun K "__init__" "TooMany.__init__" sMnE fEm _ := ⟨_, _, _, _, _, _, _, _, _, _, rfl, lEm, cEm⟩
  have bEm : Binds K _ ["self", "what", "most"] [] := FEm.binds rfl fun _ _ _ _ _ _ us hl => match us, hl with | [_, _, _], _ => rfl
  have OXm : OexC K DM := ⟨⟨_, _, _, _, _, _, _, _, _, _, _, _, _, _, _, xDm, xBm⟩, xsm, xem, xtm, xkm⟩
  have XFm : XfC K DM := ⟨xgm, xnm, xem, xdm⟩
  have XCm : Hx.XCls K DM := ⟨xgm, xnm, xem, xdm, xcm, hG, hK, xmm⟩
  have T : Txt mg := { n_int := PySem.W.mg_none_of X G z_int, n_list := PySem.W.mg_none_of X G z_list, n_len := PySem.W.mg_none_of X G z_len, n_abs := PySem.W.mg_none_of X G z_abs, n_bool := PySem.W.mg_none_of X G z_bool, n_str := PySem.W.mg_none_of X G z_str, n_isinstance := PySem.W.mg_none_of X G z_isinstance, n_range := PySem.W.mg_none_of X G z_range, n_repr := PySem.W.mg_none_of X G z_repr, n_all := PySem.W.mg_none_of X G z_all }
  have TO0 : TabOf (tab4 B0 B1 B2 B3) B0 "_law_fixed_right" := tab4_0 nB10 nB20 nB21 nB30 nB31 nB32
  have TO1 : TabOf (tab4 B0 B1 B2 B3) B1 "_law_divided_right" := tab4_1 nB10 nB20 nB21 nB30 nB31 nB32
  have TO2 : TabOf (tab4 B0 B1 B2 B3) B2 "_law_up_right" := tab4_2 nB10 nB20 nB21 nB30 nB31 nB32
  have TO3 : TabOf (tab4 B0 B1 B2 B3) B3 "law" := tab4_3 nB10 nB20 nB21 nB30 nB31 nB32
  have R2 : Hrd K mg DU DS DR DT DX DM L := { ml := PySem.W.mg_of X G aL, cDU := ⟨XFu, XCu, xou, xLu⟩, mDU := PySem.W.mg_of X G aDu, nDU_part := xvu0, kDU_DS := xNus, kDU_DR := xNur, kDU_DT := xNut, kDU_DX := xNux, kDU_DM := xNum, cDS := ⟨XFs, XCs, xos, xLs⟩, mDS := PySem.W.mg_of X G aDs, nDS_value := xvs0, kDS_DU := xNsu, kDS_DR := xNsr, kDS_DT := xNst, kDS_DX := xNsx, kDS_DM := xNsm, cDR := ⟨XFr, XCr, xor, xLr⟩, mDR := PySem.W.mg_of X G aDr, nDR_value := xvr0, kDR_DU := xNru, kDR_DS := xNrs, kDR_DT := xNrt, kDR_DX := xNrx, kDR_DM := xNrm, cDT := ⟨XFt, XCt, xot, xLt⟩, mDT := PySem.W.mg_of X G aDt, nDT_value := xvt0, kDT_DU := xNtu, kDT_DS := xNts, kDT_DR := xNtr, kDT_DX := xNtx, kDT_DM := xNtm, cDX := ⟨XFx, XCx, xox, xLx⟩, mDX := PySem.W.mg_of X G aDx, nDX_line := xvx0, nDX_word := xvx1, kDX_DU := xNxu, kDX_DS := xNxs, kDX_DR := xNxr, kDX_DT := xNxt, kDX_DM := xNxm, cDM := ⟨XFm, XCm, xom, xLm⟩, mDM := PySem.W.mg_of X G aDm, nDM_what := xvm0, nDM_most := xvm1, kDM_DU := xNmu, kDM_DS := xNms, kDM_DR := xNmr, kDM_DT := xNmt, kDM_DX := xNmx }
  have KBF : KBn K _ ["self", "size"] 1 ["size"] (fun us ws => us ++ ws) (fun us zs => us ++ zs) := kb_one Ffi rfl fun _ _ _ _ _ _ us ws h1 h2 => match us, ws, h1, h2 with | [_], [_], _, _ => rfl
  have KBB : KBn K _ ["self", "function"] 1 ["function"] (fun us ws => us ++ ws) (fun us zs => us ++ zs) := kb_one Fbi rfl fun _ _ _ _ _ _ us ws h1 h2 => match us, ws, h1, h2 with | [_], [_], _, _ => rfl
  have KBD : KBn K _ ["self", "x", "y", "w"] 1 ["w", "y", "x"] (fun us ws => us ++ ws.reverse) (fun us zs => us ++ zs.reverse) := kb_turn Fvi rfl fun _ _ _ _ _ _ us ws h1 h2 => match us, ws, h1, h2 with | [_], [_, _, _], _, _ => rfl
  have KBU : KBn K _ ["w"] 0 ["w"] (fun _ ws => ws) (fun _ zs => zs) := kb_same Fvu rfl fun _ _ _ _ _ _ us ws h1 h2 => match us, ws, h1, h2 with | [], [_], _, _ => rfl
  refine ⟨PySem.W.fnOf "law" "law" (C8.fnArgs sLaw) (C8.fnBody sLaw) (C8.fnScope sLaw) .none kVla dcla pmla anla (.ref c3) ctla, [("_law_fixed_right", c0, B0), ("_law_divided_right", c1, B1), ("_law_up_right", c2, B2), ("law", c3, B3)], spLaw K (tab4 B0 B1 B2 B3), ?tbs, fun s u => .of_eq rfl, fun base KB GB TBS => ?_, ?hsp⟩
  case tbs =>
    exact fun e he => by
      simp only [List.mem_cons, List.not_mem_nil, or_false] at he
      rcases he with rfl | rfl | rfl | rfl
      · exact ⟨by simp, tabIn_of alx llx rfl ltlx vtlx, ntlx⟩
      · exact ⟨by simp, tabIn_of alv llv rfl ltlv vtlv, ntlv⟩
      · exact ⟨by simp, tabIn_of alu llu rfl ltlu vtlu, ntlu⟩
      · exact ⟨by simp, tabIn_of ala lla rfl ltla vtla, ntla⟩
  case hsp =>
    exact fun H a ns hB hS hl => ⟨a, ns, rfl, hS, hl, fun p hp => by
      simp only [tab4, List.mem_cons, List.not_mem_nil, or_false] at hp
      rcases hp with rfl | rfl | rfl | rfl
      · exact TabS.nil (hB _ (List.Mem.head _))
      · exact TabS.nil (hB _ (List.Mem.tail _ (List.Mem.head _)))
      · exact TabS.nil (hB _ (List.Mem.tail _ (List.Mem.tail _ (List.Mem.head _))))
      · exact TabS.nil (hB _ (List.Mem.tail _ (List.Mem.tail _ (List.Mem.tail _ (List.Mem.head _))))), fun _ => rfl⟩
  have TBlx : TabB base mg c0 B0 := TBS ("_law_fixed_right", c0, B0) (by simp)
  have TBlv : TabB base mg c1 B1 := TBS ("_law_divided_right", c1, B1) (by simp)
  have TBlu : TabB base mg c2 B2 := TBS ("_law_up_right", c2, B2) (by simp)
  have TBla : TabB base mg c3 B3 := TBS ("law", c3, B3) (by simp)
  have ERu : Err1 "BadRule" "part" l.prog w K mg base DU fEu _ := ⟨OXu, xiu, xfu, fn_BruE FEu OXu xvu0, bEu, PySem.W.mg_of X G aDu⟩
  have ERs : Err1 "BadSize" "value" l.prog w K mg base DS fEs _ := ⟨OXs, xis, xfs, fn_BszE FEs OXs xvs0, bEs, PySem.W.mg_of X G aDs⟩
  have Dii := cal_isint (P := l.prog) (w := w) (base := base) Fii bii T
  have Diw := cal_within Fiw biw T Dii
  have Diz := cal_sz (P := l.prog) (w := w) (base := base) Fiz biz ⟨_, PySem.W.mg_of X G gGS⟩ Diw
  have Dif := cal_fac (P := l.prog) (w := w) (base := base) Fjf bjf ⟨_, PySem.W.mg_of X G gMF⟩ Diw
  have Dis := cal_sta (P := l.prog) (w := w) (base := base) Fis bis ⟨_, PySem.W.mg_of X G gMS⟩ Diw
  have ZF : FxC K FC := ⟨clFC, noFC_size, noFC_parts, noFC_modulus⟩
  have ZV : DvC K VC := ⟨clVC, noVC_x, noVC_y, noVC_w, noVC_parts, noVC_modulus⟩
  have ZB : ByC K BC := ⟨clBC, noBC_function, noBC_parts, noBC_modulus⟩
  have hF := PySem.W.mg_of X G aFC
  have hV := PySem.W.mg_of X G aVC
  have hB := PySem.W.mg_of X G aBC
  have hU := PySem.W.mg_of X G aUC
  have FM : FixM l.prog w K mg base FC DS ffi _ := ⟨⟨mkFC, afi, ifi, kCFC⟩, fn_fxi Ffi ZF ERs Diz, hF, bfi⟩
  have DM1 : DivM l.prog w K mg base VC DU fvi _ := ⟨⟨mkVC, avi, ivi, kCVC⟩, fn_dvi Fvi ZV ERu Dif Dis, hV, bvi⟩
  have BM : ByM l.prog w K mg base BC fbi _ := ⟨⟨mkBC, abi, ibi, kCBC⟩, fn_byi Fbi ZB, hB, bbi⟩
  have UM : UpM l.prog w K mg base VC DU pvu fvu _ (fun _ ws => ws) := ⟨Svu, fn_dvu Fvu ERu Dif DM1, bvu, KBU⟩
  have FE : MetX l.prog w K mg base 1 FC "__eq__" (spFxe K FC) := ⟨_, _, _, tfe, fn_fxe Ffe T ZF hF IFC, bfe⟩
  have GE : MetX l.prog w K mg base 1 VC "__eq__" (spDve K VC) := ⟨_, _, _, tve, fn_dve Fve T ZV hV IVC, bve⟩
  have BE : MetX l.prog w K mg base 1 BC "__eq__" (spBye K BC) := ⟨_, _, _, tbe, fn_bye Fbe T ZB hB IBC, bbe⟩
  have D1 := cal_draw (P := l.prog) (w := w) (K := K) (base := base) Fld bld T.toTxt0
  have D2 := cal_pick Flk blk T.toTxt0 D1
  have D0 := cal_pen (P := l.prog) (w := w) (base := base) Flp blp T.toTxt0
  have DI := cal_lis (P := l.prog) (w := w) (base := base) Fli bli T
  have DFx := cal_lfx Flx blx Flh blh TBlx TO0 R2 T FM KBF FE ⟨hMFC, nEFC⟩ ZF IFC hU kuFC q_nfi q_if D1 D2 DI
  have DDv := cal_ldv Flv blv Flh blh TBlv TO1 R2 T DM1 KBD GE ZV IVC hU kuVC D1 D2 DI
  have DUp := cal_lup Flu blu Flh blh TBlu TO2 R2 T DM1 UM GE IVC D1 D2 DI
  exact fn_law Fla TBla TO3 T FM DM1 BM KBB FE GE BE ZB IFC IVC IBC hU kuBC q_nfv q_vf D0 DFx DDv DUp
end Lw
namespace Lw
open PySem PySem.Spec PyProof.Rows L2
open LamX
theorem tab_parts {K : PySem.W.Frag} {c P : Addr} (h : PySem.W.codeHdIn K c P = true) : ∃ (oc : Value) (od : Option Addr) (us : Array Value) (sl : Array (Option Value)), K.lookup c = some ⟨oc, od, .fields us, sl⟩ ∧ us[11]? = some (.ref P) := by
  unfold PySem.W.codeHdIn at h
  split at h
  · rename_i od vs sl hk
    refine ⟨_, _, _, _, hk, ?_⟩
    have h1 := (Bool.and_eq_true_iff.mp (Bool.and_eq_true_iff.mp (Bool.and_eq_true_iff.mp (Bool.and_eq_true_iff.mp (Bool.and_eq_true_iff.mp h).1).1).1).1).1
    split at h1
    · rename_i P' e
      rw [e, beq_iff_eq.mp h1]
    · cases h1
  · cases h
/-- the walk's end over a Hook that tells of some K -/
theorem walk_endX {l : PySem.W.OpenLaw} {n k : Nat} {q : Program} {loose : List Str} {XP : (Str → Option Value) → Heap → Prop} {YP : World → Heap → Prop} {d : DefRec} {x : Str} {xts : List Str}
    (hn : l.most = some n) (hn2 : n ≤ 63) (hdf : d.params.defaults = []) (hr : Room k callerA)
    (F : ∀ (w : World) (mg : Str → Option Value) (fa : Addr) (h : Heap), YP w h → h.Ns mainGlobals mg → mg d.name = some (.ref fa) → ∃ (K : PySem.W.Frag) (fd : FuncData) (tb : List (Str × Addr × Addr)) (sp : Sp), K.In h ∧ (∀ y ∈ xts, ∃ c B, PySem.W.tabIn K y = some (c, B) ∧ PySem.W.codeHdIn K c B = true ∧ h.get? B = some { cls := .none, data := .fields #[] }) ∧
      (∀ e ∈ tb, e.1 ∈ xts ∧ PySem.W.tabIn K e.1 = some (e.2.1, e.2.2) ∧ K.lookup e.2.2 = none) ∧ (∀ (s : Shared) (u : Value), BindsTo s fd ⟨[u], []⟩ [(x, u)]) ∧
      (∀ base : Heap, K.In base → base.Ns mainGlobals mg → (∀ e ∈ tb, TabB base mg e.2.1 e.2.2) → FnG l.prog w K mg base k fa fd [x] sp) ∧
      ∀ (H : Hp) (a : Addr) (ns : List Int), (∀ e ∈ tb, H e.2.2 = some (.tbl #[])) → SqL K H a (ns.map V.int) → ns.length ≤ 63 → sp [.ref a] H (fun v _ => v = .bl true) C8.E0) :
    PySem.W.WalkO q loose XP YP l.row.toRowW d [] (fun f vs => PySem.call f vs) := by
  refine Att.attach_callB hn hdf fun w s₀ s₁ mg mb fa o pm cd doc a vs ns G Y ho hd hcd hmg hobj hints hlen hbits hg => ?_
  obtain ⟨K, fd, tb, sp, KX, hx, ht, hb, hF, hsp⟩ := F w mg fa _ Y G.T.g hmg
  have tab : ∀ e ∈ tb, PySem.W.CodeHd s₁.heap e.2.1 e.2.2 ∧ s₁.heap.get? e.2.2 = some { cls := .none, data := .fields #[] } := fun e he => by
    obtain ⟨h1, h2, h3⟩ := ht e he
    obtain ⟨c, B, g1, g2, g3⟩ := hx _ h1
    rw [g1] at h2
    obtain ⟨z1, z2⟩ := Prod.mk.inj (Option.some.inj h2)
    rw [← z1, ← z2]
    exact ⟨PySem.W.codeHd_of_K KX g2, g3⟩
  have mem : ∀ {p : Addr → Prop}, (∀ e ∈ tb, p e.2.2) → ∀ b ∈ tb.map (·.2.2), p b := fun {p} h b hb => by
    obtain ⟨e, he, rfl⟩ := List.mem_map.mp hb
    exact h e he
  exact law_end (Bs := tb.map (·.2.2)) KX G.T.g G.T.b G.T.builtins G.T.nolimit hg (mem fun e he => (tab e he).2) (mem fun e he => (ht e he).2.2) (mem fun e he => ⟨_, (tab e he).1⟩) G.T.bmain hobj hints (Nat.le_trans (Nat.le_trans hlen hn2) (by decide)) hr
    (fun base kin ns' tbb => hF base kin ns' fun e he => tbb e.2.2 (List.mem_map.mpr ⟨e, he, rfl⟩) e.2.1 (tab e he).1) hb fun H hB hS => hsp H a ns (fun e he => hB e.2.2 (List.mem_map.mpr ⟨e, he, rfl⟩)) hS (Nat.le_trans hlen hn2)
theorem known {l : PySem.W.OpenLaw} {w : World} {K : PySem.W.Frag} {h : Heap} {mg : Str → Option Value} {fa : Addr} (X : K.In h) (G : h.Ns mainGlobals mg) (hfa' : mg "law" = some (.ref fa)) (c : Hz.SaysZ hfn htf exK h K) :
    ∃ (K : PySem.W.Frag) (fd : FuncData) (tb : List (Str × Addr × Addr)) (sp : Sp), K.In h ∧ (∀ y ∈ (["_law_fixed_right", "_law_divided_right", "_law_up_right", "law"] : List Str), ∃ c B, PySem.W.tabIn K y = some (c, B) ∧ PySem.W.codeHdIn K c B = true ∧ h.get? B = some { cls := .none, data := .fields #[] }) ∧
      (∀ e ∈ tb, e.1 ∈ (["_law_fixed_right", "_law_divided_right", "_law_up_right", "law"] : List Str) ∧ PySem.W.tabIn K e.1 = some (e.2.1, e.2.2) ∧ K.lookup e.2.2 = none) ∧ (∀ (s : Shared) (u : Value), BindsTo s fd ⟨[u], []⟩ [("_law_script", u)]) ∧
      (∀ base : Heap, K.In base → base.Ns mainGlobals mg → (∀ e ∈ tb, TabB base mg e.2.1 e.2.2) → FnG l.prog w K mg base 15 fa fd ["_law_script"] sp) ∧
      ∀ (H : Hp) (a : Addr) (ns : List Int), (∀ e ∈ tb, H e.2.2 = some (.tbl #[])) → SqL K H a (ns.map V.int) → ns.length ≤ 63 → sp [.ref a] H (fun v _ => v = .bl true) C8.E0 := by
  have e0 : (exK K).all (fun l => l.all id) = true := c.more
  obtain ⟨_, _, _, _, _, _, cd_ii, _, _, l_ii, c_ii⟩ := (show ∃ oc od kV dc pm an cd ct sl, K.lookup (He.ga K "is_integer") = some ⟨oc, od, .func (PySem.W.fnOf "is_integer" "is_integer" (C8.fnArgs sIsInt) (C8.fnBody sIsInt) (C8.fnScope sIsInt) .none kV dc pm an cd ct), sl⟩ ∧ PySem.W.codeIn K cd "is_integer" = true from c.get0 0 (d := hd0) rfl rfl)
  obtain ⟨_, _, _, _, _, _, cd_iw, _, _, l_iw, c_iw⟩ := (show ∃ oc od kV dc pm an cd ct sl, K.lookup (He.ga K "is_within") = some ⟨oc, od, .func (PySem.W.fnOf "is_within" "is_within" (C8.fnArgs sWithin) (C8.fnBody sWithin) (C8.fnScope sWithin) .none kV dc pm an cd ct), sl⟩ ∧ PySem.W.codeIn K cd "is_within" = true from c.get0 1 (d := hd1) rfl rfl)
  obtain ⟨_, _, _, _, _, _, cd_iz, _, _, l_iz, c_iz⟩ := (show ∃ oc od kV dc pm an cd ct sl, K.lookup (He.ga K "is_size") = some ⟨oc, od, .func (PySem.W.fnOf "is_size" "is_size" (C8.fnArgs sSize) (C8.fnBody sSize) (C8.fnScope sSize) .none kV dc pm an cd ct), sl⟩ ∧ PySem.W.codeIn K cd "is_size" = true from c.get0 2 (d := hd2) rfl rfl)
  obtain ⟨_, _, _, _, _, _, cd_jf, _, _, l_jf, c_jf⟩ := (show ∃ oc od kV dc pm an cd ct sl, K.lookup (He.ga K "is_factor") = some ⟨oc, od, .func (PySem.W.fnOf "is_factor" "is_factor" (C8.fnArgs sFac) (C8.fnBody sFac) (C8.fnScope sFac) .none kV dc pm an cd ct), sl⟩ ∧ PySem.W.codeIn K cd "is_factor" = true from c.get0 3 (d := hd3) rfl rfl)
  obtain ⟨_, _, _, _, _, _, cd_is, _, _, l_is, c_is⟩ := (show ∃ oc od kV dc pm an cd ct sl, K.lookup (He.ga K "is_start") = some ⟨oc, od, .func (PySem.W.fnOf "is_start" "is_start" (C8.fnArgs sSta) (C8.fnBody sSta) (C8.fnScope sSta) .none kV dc pm an cd ct), sl⟩ ∧ PySem.W.codeIn K cd "is_start" = true from c.get0 4 (d := hd4) rfl rfl)
  obtain ⟨_, _, _, _, _, _, cd_lp, _, _, l_lp, c_lp⟩ := (show ∃ oc od kV dc pm an cd ct sl, K.lookup (He.ga K "_law_pen") = some ⟨oc, od, .func (PySem.W.fnOf "_law_pen" "_law_pen" (C8.fnArgs sPen) (C8.fnBody sPen) (C8.fnScope sPen) .none kV dc pm an cd ct), sl⟩ ∧ PySem.W.codeIn K cd "_law_pen" = true from c.get0 5 (d := hd5) rfl rfl)
  obtain ⟨_, _, _, _, _, _, cd_ld, _, _, l_ld, c_ld⟩ := (show ∃ oc od kV dc pm an cd ct sl, K.lookup (He.ga K "_law_draw") = some ⟨oc, od, .func (PySem.W.fnOf "_law_draw" "_law_draw" (C8.fnArgs sDraw) (C8.fnBody sDraw) (C8.fnScope sDraw) .none kV dc pm an cd ct), sl⟩ ∧ PySem.W.codeIn K cd "_law_draw" = true from c.get0 6 (d := hd6) rfl rfl)
  obtain ⟨_, _, _, _, _, _, cd_lk, _, _, l_lk, c_lk⟩ := (show ∃ oc od kV dc pm an cd ct sl, K.lookup (He.ga K "_law_pick") = some ⟨oc, od, .func (PySem.W.fnOf "_law_pick" "_law_pick" (C8.fnArgs sPick) (C8.fnBody sPick) (C8.fnScope sPick) .none kV dc pm an cd ct), sl⟩ ∧ PySem.W.codeIn K cd "_law_pick" = true from c.get0 7 (d := hd7) rfl rfl)
  obtain ⟨_, _, _, _, _, _, cd_lh, _, _, l_lh, c_lh⟩ := (show ∃ oc od kV dc pm an cd ct sl, K.lookup (He.ga K "_law_heard") = some ⟨oc, od, .func (PySem.W.fnOf "_law_heard" "_law_heard" (C8.fnArgs sHea) (C8.fnBody sHea) (C8.fnScope sHea) .none kV dc pm an cd ct), sl⟩ ∧ PySem.W.codeIn K cd "_law_heard" = true from c.get0 8 (d := hd8) rfl rfl)
  obtain ⟨_, _, _, _, _, _, cd_li, _, _, l_li, c_li⟩ := (show ∃ oc od kV dc pm an cd ct sl, K.lookup (He.ga K "_law_is") = some ⟨oc, od, .func (PySem.W.fnOf "_law_is" "_law_is" (C8.fnArgs sLis) (C8.fnBody sLis) (C8.fnScope sLis) .none kV dc pm an cd ct), sl⟩ ∧ PySem.W.codeIn K cd "_law_is" = true from c.get0 9 (d := hd9) rfl rfl)
  obtain ⟨_, _, _, _, _, _, cd_lx, _, _, l_lx, c_lx⟩ := (show ∃ oc od kV dc pm an cd ct sl, K.lookup (He.ga K "_law_fixed_right") = some ⟨oc, od, .func (PySem.W.fnOf "_law_fixed_right" "_law_fixed_right" (C8.fnArgs sLfx) (C8.fnBody sLfx) (C8.fnScope sLfx) .none kV dc pm an cd ct), sl⟩ ∧ PySem.W.codeIn K cd "_law_fixed_right" = true from c.get0 10 (d := hd10) rfl rfl)
  obtain ⟨c1_lx, rfl⟩ := He.codeIn_ref c_lx
  have ec_lx : He.codeOf K ("_law_fixed_right", none) = c1_lx := He.codeOf_eq (K := K) (p := ("_law_fixed_right", none)) l_lx rfl
  subst ec_lx
  obtain ⟨_, _, _, _, lt_lx, vt_lx⟩ := tab_parts (c.hd ("_law_fixed_right", none) (List.Mem.head _))
  obtain ⟨_, _, _, _, _, _, cd_lv, _, _, l_lv, c_lv⟩ := (show ∃ oc od kV dc pm an cd ct sl, K.lookup (He.ga K "_law_divided_right") = some ⟨oc, od, .func (PySem.W.fnOf "_law_divided_right" "_law_divided_right" (C8.fnArgs sLdv) (C8.fnBody sLdv) (C8.fnScope sLdv) .none kV dc pm an cd ct), sl⟩ ∧ PySem.W.codeIn K cd "_law_divided_right" = true from c.get0 11 (d := hd11) rfl rfl)
  obtain ⟨c1_lv, rfl⟩ := He.codeIn_ref c_lv
  have ec_lv : He.codeOf K ("_law_divided_right", none) = c1_lv := He.codeOf_eq (K := K) (p := ("_law_divided_right", none)) l_lv rfl
  subst ec_lv
  obtain ⟨_, _, _, _, lt_lv, vt_lv⟩ := tab_parts (c.hd ("_law_divided_right", none) (List.Mem.tail _ (List.Mem.head _)))
  obtain ⟨_, _, _, _, _, _, cd_lu, _, _, l_lu, c_lu⟩ := (show ∃ oc od kV dc pm an cd ct sl, K.lookup (He.ga K "_law_up_right") = some ⟨oc, od, .func (PySem.W.fnOf "_law_up_right" "_law_up_right" (C8.fnArgs sLup) (C8.fnBody sLup) (C8.fnScope sLup) .none kV dc pm an cd ct), sl⟩ ∧ PySem.W.codeIn K cd "_law_up_right" = true from c.get0 12 (d := hd12) rfl rfl)
  obtain ⟨c1_lu, rfl⟩ := He.codeIn_ref c_lu
  have ec_lu : He.codeOf K ("_law_up_right", none) = c1_lu := He.codeOf_eq (K := K) (p := ("_law_up_right", none)) l_lu rfl
  subst ec_lu
  obtain ⟨_, _, _, _, lt_lu, vt_lu⟩ := tab_parts (c.hd ("_law_up_right", none) (List.Mem.tail _ (List.Mem.tail _ (List.Mem.head _))))
  obtain ⟨_, _, _, _, _, _, cd_la, _, _, l_la, c_la⟩ := (show ∃ oc od kV dc pm an cd ct sl, K.lookup (He.ga K "law") = some ⟨oc, od, .func (PySem.W.fnOf "law" "law" (C8.fnArgs sLaw) (C8.fnBody sLaw) (C8.fnScope sLaw) .none kV dc pm an cd ct), sl⟩ ∧ PySem.W.codeIn K cd "law" = true from c.get0 13 (d := hd13) rfl rfl)
  obtain ⟨c1_la, rfl⟩ := He.codeIn_ref c_la
  have ec_la : He.codeOf K ("law", none) = c1_la := He.codeOf_eq (K := K) (p := ("law", none)) l_la rfl
  subst ec_la
  obtain ⟨_, _, _, _, lt_la, vt_la⟩ := tab_parts (c.hd ("law", none) (List.Mem.tail _ (List.Mem.tail _ (List.Mem.tail _ (List.Mem.head _)))))
  obtain ⟨_, _, _, _, _, _, cd_fi, _, _, l_fi, c_fi⟩ := (show ∃ oc od kV dc pm an cd ct sl, K.lookup (He.ma K (He.ga K "Fixed") "__init__") = some ⟨oc, od, .func (PySem.W.fnOf "__init__" "Fixed.__init__" (C8.fnArgs sFxi) (C8.fnBody sFxi) (C8.fnScope sFxi) .none kV dc pm an cd ct), sl⟩ ∧ PySem.W.codeIn K cd "Fixed.__init__" = true from c.get0 14 (d := hd14) rfl rfl)
  obtain ⟨_, _, _, _, _, _, cd_fe, _, _, l_fe, c_fe⟩ := (show ∃ oc od kV dc pm an cd ct sl, K.lookup (He.ma K (He.ga K "Fixed") "__eq__") = some ⟨oc, od, .func (PySem.W.fnOf "__eq__" "Fixed.__eq__" (C8.fnArgs sFxe) (C8.fnBody sFxe) (C8.fnScope sFxe) .none kV dc pm an cd ct), sl⟩ ∧ PySem.W.codeIn K cd "Fixed.__eq__" = true from c.get0 15 (d := hd15) rfl rfl)
  obtain ⟨_, _, _, _, _, _, cd_vi, _, _, l_vi, c_vi⟩ := (show ∃ oc od kV dc pm an cd ct sl, K.lookup (He.ma K (He.ga K "Divided") "__init__") = some ⟨oc, od, .func (PySem.W.fnOf "__init__" "Divided.__init__" (C8.fnArgs sDvi) (C8.fnBody sDvi) (C8.fnScope sDvi) .none kV dc pm an cd ct), sl⟩ ∧ PySem.W.codeIn K cd "Divided.__init__" = true from c.get0 16 (d := hd16) rfl rfl)
  obtain ⟨_, _, _, _, _, _, cd_ve, _, _, l_ve, c_ve⟩ := (show ∃ oc od kV dc pm an cd ct sl, K.lookup (He.ma K (He.ga K "Divided") "__eq__") = some ⟨oc, od, .func (PySem.W.fnOf "__eq__" "Divided.__eq__" (C8.fnArgs sDve) (C8.fnBody sDve) (C8.fnScope sDve) .none kV dc pm an cd ct), sl⟩ ∧ PySem.W.codeIn K cd "Divided.__eq__" = true from c.get0 17 (d := hd17) rfl rfl)
  obtain ⟨_, _, _, _, _, _, cd_vu, _, _, l_vu, c_vu⟩ := (show ∃ oc od kV dc pm an cd ct sl, K.lookup (Hz.rAd K (Hz.pAd K (He.ga K "Divided") "up") "staticmethod") = some ⟨oc, od, .func (PySem.W.fnOf "up" "Divided.up" (C8.fnArgs sDvu) (C8.fnBody sDvu) (C8.fnScope sDvu) .none kV dc pm an cd ct), sl⟩ ∧ PySem.W.codeIn K cd "Divided.up" = true from c.get0 18 (d := hd18) rfl rfl)
  obtain ⟨_, _, _, _, _, _, cd_bi, _, _, l_bi, c_bi⟩ := (show ∃ oc od kV dc pm an cd ct sl, K.lookup (He.ma K (He.ga K "By") "__init__") = some ⟨oc, od, .func (PySem.W.fnOf "__init__" "By.__init__" (C8.fnArgs sByi) (C8.fnBody sByi) (C8.fnScope sByi) .none kV dc pm an cd ct), sl⟩ ∧ PySem.W.codeIn K cd "By.__init__" = true from c.get0 19 (d := hd19) rfl rfl)
  obtain ⟨_, _, _, _, _, _, cd_be, _, _, l_be, c_be⟩ := (show ∃ oc od kV dc pm an cd ct sl, K.lookup (He.ma K (He.ga K "By") "__eq__") = some ⟨oc, od, .func (PySem.W.fnOf "__eq__" "By.__eq__" (C8.fnArgs sBye) (C8.fnBody sBye) (C8.fnScope sBye) .none kV dc pm an cd ct), sl⟩ ∧ PySem.W.codeIn K cd "By.__eq__" = true from c.get0 20 (d := hd20) rfl rfl)
  obtain ⟨_, _, _, _, _, _, cd_Eu, _, _, l_Eu, c_Eu⟩ := (show ∃ oc od kV dc pm an cd ct sl, K.lookup (He.ma K (He.ga K "BadRule") "__init__") = some ⟨oc, od, .func (PySem.W.fnOf "__init__" "BadRule.__init__" (C8.fnArgs sBruE) (C8.fnBody sBruE) (C8.fnScope sBruE) .none kV dc pm an cd ct), sl⟩ ∧ PySem.W.codeIn K cd "BadRule.__init__" = true from c.get0 21 (d := hd21) rfl rfl)
  obtain ⟨_, _, _, _, _, _, cd_Es, _, _, l_Es, c_Es⟩ := (show ∃ oc od kV dc pm an cd ct sl, K.lookup (He.ma K (He.ga K "BadSize") "__init__") = some ⟨oc, od, .func (PySem.W.fnOf "__init__" "BadSize.__init__" (C8.fnArgs sBszE) (C8.fnBody sBszE) (C8.fnScope sBszE) .none kV dc pm an cd ct), sl⟩ ∧ PySem.W.codeIn K cd "BadSize.__init__" = true from c.get0 22 (d := hd22) rfl rfl)
  obtain ⟨_, _, _, _, _, _, cd_Er, _, _, l_Er, c_Er⟩ := (show ∃ oc od kV dc pm an cd ct sl, K.lookup (He.ma K (He.ga K "BadRest") "__init__") = some ⟨oc, od, .func (PySem.W.fnOf "__init__" "BadRest.__init__" (C8.fnArgs sBreE) (C8.fnBody sBreE) (C8.fnScope sBreE) .none kV dc pm an cd ct), sl⟩ ∧ PySem.W.codeIn K cd "BadRest.__init__" = true from c.get0 23 (d := hd23) rfl rfl)
  obtain ⟨_, _, _, _, _, _, cd_Et, _, _, l_Et, c_Et⟩ := (show ∃ oc od kV dc pm an cd ct sl, K.lookup (He.ma K (He.ga K "BadTotal") "__init__") = some ⟨oc, od, .func (PySem.W.fnOf "__init__" "BadTotal.__init__" (C8.fnArgs sBtoE) (C8.fnBody sBtoE) (C8.fnScope sBtoE) .none kV dc pm an cd ct), sl⟩ ∧ PySem.W.codeIn K cd "BadTotal.__init__" = true from c.get0 24 (d := hd24) rfl rfl)
  obtain ⟨_, _, _, _, _, _, cd_Ex, _, _, l_Ex, c_Ex⟩ := (show ∃ oc od kV dc pm an cd ct sl, K.lookup (He.ma K (He.ga K "BadText") "__init__") = some ⟨oc, od, .func (PySem.W.fnOf "__init__" "BadText.__init__" (C8.fnArgs sTxE) (C8.fnBody sTxE) (C8.fnScope sTxE) .none kV dc pm an cd ct), sl⟩ ∧ PySem.W.codeIn K cd "BadText.__init__" = true from c.get0 25 (d := hd25) rfl rfl)
  obtain ⟨_, _, _, _, _, _, cd_Em, _, _, l_Em, c_Em⟩ := (show ∃ oc od kV dc pm an cd ct sl, K.lookup (He.ma K (He.ga K "TooMany") "__init__") = some ⟨oc, od, .func (PySem.W.fnOf "__init__" "TooMany.__init__" (C8.fnArgs sMnE) (C8.fnBody sMnE) (C8.fnScope sMnE) .none kV dc pm an cd ct), sl⟩ ∧ PySem.W.codeIn K cd "TooMany.__init__" = true from c.get0 26 (d := hd26) rfl rfl)
  obtain ⟨_, y_rvu⟩ := Hz.recB_ok (Hz.at_ e0 2 2 rfl rfl)
  obtain ⟨_, _, _, _, _, _, _, _, _, _, _, _, _, _, _, y_xDu, y_xBu⟩ := Hz.exB_ok (Hz.at_ e0 2 29 rfl rfl)
  obtain ⟨_, _, _, _, _, _, _, _, _, _, _, _, _, _, _, y_xDs, y_xBs⟩ := Hz.exB_ok (Hz.at_ e0 3 5 rfl rfl)
  obtain ⟨_, _, _, _, _, _, _, _, _, _, _, _, _, _, _, y_xDr, y_xBr⟩ := Hz.exB_ok (Hz.at_ e0 3 21 rfl rfl)
  obtain ⟨_, _, _, _, _, _, _, _, _, _, _, _, _, _, _, y_xDt, y_xBt⟩ := Hz.exB_ok (Hz.at_ e0 3 37 rfl rfl)
  obtain ⟨_, _, _, _, _, _, _, _, _, _, _, _, _, _, _, y_xDx, y_xBx⟩ := Hz.exB_ok (Hz.at_ e0 4 13 rfl rfl)
  obtain ⟨_, _, _, _, _, _, _, _, _, _, _, _, _, _, _, y_xDm, y_xBm⟩ := Hz.exB_ok (Hz.at_ e0 4 30 rfl rfl)
  obtain ⟨_, y_gMF⟩ := Hz.intB_ok (Hz.at_ e0 5 36 rfl rfl)
  obtain ⟨_, y_gMS⟩ := Hz.intB_ok (Hz.at_ e0 5 37 rfl rfl)
  obtain ⟨_, y_gGS⟩ := Hz.intB_ok (Hz.at_ e0 5 38 rfl rfl)
  obtain ⟨fd, tb, sp, r1, r2, r3, r4⟩ := all_known (l := l) (w := w) X G hfa' (of_decide_eq_true (Hz.at_ e0 0 0 rfl rfl)) (of_decide_eq_true (Hz.at_ e0 0 1 rfl rfl)) (of_decide_eq_true (Hz.at_ e0 0 2 rfl rfl)) l_ii c_ii (Hz.at_ e0 0 3 rfl rfl) (of_decide_eq_true (Hz.at_ e0 0 4 rfl rfl)) l_iw c_iw (Hz.at_ e0 0 5 rfl rfl) (of_decide_eq_true (Hz.at_ e0 0 6 rfl rfl)) l_iz c_iz (Hz.at_ e0 0 7 rfl rfl) (of_decide_eq_true (Hz.at_ e0 0 8 rfl rfl)) l_jf c_jf (Hz.at_ e0 0 9 rfl rfl) (of_decide_eq_true (Hz.at_ e0 0 10 rfl rfl)) l_is c_is (Hz.at_ e0 0 11 rfl rfl) (of_decide_eq_true (Hz.at_ e0 0 12 rfl rfl)) l_lp c_lp (Hz.at_ e0 0 13 rfl rfl) (of_decide_eq_true (Hz.at_ e0 0 14 rfl rfl)) l_ld c_ld (Hz.at_ e0 0 15 rfl rfl) (of_decide_eq_true (Hz.at_ e0 0 16 rfl rfl)) l_lk c_lk (Hz.at_ e0 0 17 rfl rfl) (of_decide_eq_true (Hz.at_ e0 0 18 rfl rfl)) l_lh c_lh (Hz.at_ e0 0 19 rfl rfl) (of_decide_eq_true (Hz.at_ e0 0 20 rfl rfl)) l_li c_li (Hz.at_ e0 0 21 rfl rfl) (of_decide_eq_true (Hz.at_ e0 0 22 rfl rfl)) l_lx c_lx (Hz.at_ e0 0 23 rfl rfl) (of_decide_eq_true (Hz.at_ e0 0 24 rfl rfl)) l_lv c_lv (Hz.at_ e0 0 25 rfl rfl) (of_decide_eq_true (Hz.at_ e0 0 26 rfl rfl)) l_lu c_lu (Hz.at_ e0 0 27 rfl rfl) (of_decide_eq_true (Hz.at_ e0 0 28 rfl rfl)) l_la c_la (Hz.at_ e0 0 29 rfl rfl) lt_lx vt_lx (c.out ("_law_fixed_right", none) (List.Mem.head _)) lt_lv vt_lv (c.out ("_law_divided_right", none) (List.Mem.tail _ (List.Mem.head _))) lt_lu vt_lu (c.out ("_law_up_right", none) (List.Mem.tail _ (List.Mem.tail _ (List.Mem.head _)))) lt_la vt_la (c.out ("law", none) (List.Mem.tail _ (List.Mem.tail _ (List.Mem.tail _ (List.Mem.head _))))) (of_decide_eq_true (Hz.at_ e0 0 30 rfl rfl)) (of_decide_eq_true (Hz.at_ e0 0 31 rfl rfl)) (of_decide_eq_true (Hz.at_ e0 0 32 rfl rfl)) (of_decide_eq_true (Hz.at_ e0 0 33 rfl rfl)) (of_decide_eq_true (Hz.at_ e0 0 34 rfl rfl)) (of_decide_eq_true (Hz.at_ e0 0 35 rfl rfl)) (of_decide_eq_true (Hz.at_ e0 0 36 rfl rfl)) (Hz.at_ e0 0 37 rfl rfl) (Hz.at_ e0 0 38 rfl rfl) (Hz.at_ e0 0 39 rfl rfl) (of_decide_eq_true (Hz.at_ e0 1 0 rfl rfl)) (Hz.at_ e0 1 1 rfl rfl) (Hz.at_ e0 1 2 rfl rfl) (of_decide_eq_true (Hz.at_ e0 1 3 rfl rfl)) (of_decide_eq_true (Hz.at_ e0 1 4 rfl rfl)) (of_decide_eq_true (Hz.at_ e0 1 5 rfl rfl)) (of_decide_eq_true (Hz.at_ e0 1 6 rfl rfl)) (of_decide_eq_true (Hz.at_ e0 1 7 rfl rfl)) (of_decide_eq_true (Hz.at_ e0 1 8 rfl rfl)) (of_decide_eq_true (Hz.at_ e0 1 9 rfl rfl)) (of_decide_eq_true (Hz.at_ e0 1 10 rfl rfl)) (of_decide_eq_true (Hz.at_ e0 1 11 rfl rfl)) (Hz.at_ e0 1 12 rfl rfl) l_fi c_fi (Hz.at_ e0 1 13 rfl rfl) (of_decide_eq_true (Hz.at_ e0 1 14 rfl rfl)) (Hz.at_ e0 1 15 rfl rfl) l_fe c_fe (Hz.at_ e0 1 16 rfl rfl) (of_decide_eq_true (Hz.at_ e0 1 17 rfl rfl)) (Hz.typB_ok (Hz.at_ e0 1 18 rfl rfl)) (Hz.at_ e0 1 19 rfl rfl) (of_decide_eq_true (Hz.at_ e0 1 20 rfl rfl)) (Hz.at_ e0 1 21 rfl rfl) (Hz.at_ e0 1 22 rfl rfl) (Hz.at_ e0 1 23 rfl rfl) (of_decide_eq_true (Hz.at_ e0 1 24 rfl rfl)) (Hz.at_ e0 1 25 rfl rfl) (Hz.at_ e0 1 26 rfl rfl) (of_decide_eq_true (Hz.at_ e0 1 27 rfl rfl)) (of_decide_eq_true (Hz.at_ e0 1 28 rfl rfl)) (of_decide_eq_true (Hz.at_ e0 1 29 rfl rfl)) (of_decide_eq_true (Hz.at_ e0 1 30 rfl rfl)) (of_decide_eq_true (Hz.at_ e0 1 31 rfl rfl)) (of_decide_eq_true (Hz.at_ e0 1 32 rfl rfl)) (of_decide_eq_true (Hz.at_ e0 1 33 rfl rfl)) (of_decide_eq_true (Hz.at_ e0 1 34 rfl rfl)) (Hz.at_ e0 1 35 rfl rfl) l_vi c_vi (Hz.at_ e0 1 36 rfl rfl) (of_decide_eq_true (Hz.at_ e0 1 37 rfl rfl)) (Hz.at_ e0 1 38 rfl rfl) l_ve c_ve (Hz.at_ e0 1 39 rfl rfl) l_vu c_vu (Hz.at_ e0 2 0 rfl rfl) (Hz.getB_ok (Hz.at_ e0 2 1 rfl rfl)) y_rvu (of_decide_eq_true (Hz.at_ e0 2 3 rfl rfl)) (Hz.at_ e0 2 4 rfl rfl) (Hz.at_ e0 2 5 rfl rfl) (Hz.at_ e0 2 6 rfl rfl) (of_decide_eq_true (Hz.at_ e0 2 7 rfl rfl)) (Hz.at_ e0 2 8 rfl rfl) (Hz.at_ e0 2 9 rfl rfl) (of_decide_eq_true (Hz.at_ e0 2 10 rfl rfl)) (of_decide_eq_true (Hz.at_ e0 2 11 rfl rfl)) (of_decide_eq_true (Hz.at_ e0 2 12 rfl rfl)) (of_decide_eq_true (Hz.at_ e0 2 13 rfl rfl)) (of_decide_eq_true (Hz.at_ e0 2 14 rfl rfl)) (of_decide_eq_true (Hz.at_ e0 2 15 rfl rfl)) (Hz.at_ e0 2 16 rfl rfl) l_bi c_bi (Hz.at_ e0 2 17 rfl rfl) (of_decide_eq_true (Hz.at_ e0 2 18 rfl rfl)) (Hz.at_ e0 2 19 rfl rfl) l_be c_be (Hz.at_ e0 2 20 rfl rfl) (of_decide_eq_true (Hz.at_ e0 2 21 rfl rfl)) (of_decide_eq_true (Hz.at_ e0 2 22 rfl rfl)) (of_decide_eq_true (Hz.at_ e0 2 23 rfl rfl)) (Hz.at_ e0 2 24 rfl rfl) (Hz.at_ e0 2 25 rfl rfl) (of_decide_eq_true (Hz.at_ e0 2 26 rfl rfl)) (of_decide_eq_true (Hz.at_ e0 2 27 rfl rfl)) (of_decide_eq_true (Hz.at_ e0 2 28 rfl rfl)) y_xDu y_xBu (of_decide_eq_true (Hz.at_ e0 2 30 rfl rfl)) (of_decide_eq_true (Hz.at_ e0 2 31 rfl rfl)) (of_decide_eq_true (Hz.at_ e0 2 32 rfl rfl)) (Hz.at_ e0 2 33 rfl rfl) (of_decide_eq_true (Hz.at_ e0 2 34 rfl rfl)) (of_decide_eq_true (Hz.at_ e0 2 35 rfl rfl)) l_Eu c_Eu (of_decide_eq_true (Hz.at_ e0 2 36 rfl rfl)) (of_decide_eq_true (Hz.at_ e0 2 37 rfl rfl)) (of_decide_eq_true (Hz.at_ e0 2 38 rfl rfl)) (Hz.at_ e0 2 39 rfl rfl) (of_decide_eq_true (Hz.at_ e0 3 0 rfl rfl)) (of_decide_eq_true (Hz.at_ e0 3 1 rfl rfl)) (of_decide_eq_true (Hz.at_ e0 3 2 rfl rfl)) (of_decide_eq_true (Hz.at_ e0 3 3 rfl rfl)) (of_decide_eq_true (Hz.at_ e0 3 4 rfl rfl)) y_xDs y_xBs (of_decide_eq_true (Hz.at_ e0 3 6 rfl rfl)) (of_decide_eq_true (Hz.at_ e0 3 7 rfl rfl)) (of_decide_eq_true (Hz.at_ e0 3 8 rfl rfl)) (Hz.at_ e0 3 9 rfl rfl) (of_decide_eq_true (Hz.at_ e0 3 10 rfl rfl)) (of_decide_eq_true (Hz.at_ e0 3 11 rfl rfl)) l_Es c_Es (of_decide_eq_true (Hz.at_ e0 3 12 rfl rfl)) (of_decide_eq_true (Hz.at_ e0 3 13 rfl rfl)) (of_decide_eq_true (Hz.at_ e0 3 14 rfl rfl)) (Hz.at_ e0 3 15 rfl rfl) (of_decide_eq_true (Hz.at_ e0 3 16 rfl rfl)) (of_decide_eq_true (Hz.at_ e0 3 17 rfl rfl)) (of_decide_eq_true (Hz.at_ e0 3 18 rfl rfl)) (of_decide_eq_true (Hz.at_ e0 3 19 rfl rfl)) (of_decide_eq_true (Hz.at_ e0 3 20 rfl rfl)) y_xDr y_xBr (of_decide_eq_true (Hz.at_ e0 3 22 rfl rfl)) (of_decide_eq_true (Hz.at_ e0 3 23 rfl rfl)) (of_decide_eq_true (Hz.at_ e0 3 24 rfl rfl)) (Hz.at_ e0 3 25 rfl rfl) (of_decide_eq_true (Hz.at_ e0 3 26 rfl rfl)) (of_decide_eq_true (Hz.at_ e0 3 27 rfl rfl)) l_Er c_Er (of_decide_eq_true (Hz.at_ e0 3 28 rfl rfl)) (of_decide_eq_true (Hz.at_ e0 3 29 rfl rfl)) (of_decide_eq_true (Hz.at_ e0 3 30 rfl rfl)) (Hz.at_ e0 3 31 rfl rfl) (of_decide_eq_true (Hz.at_ e0 3 32 rfl rfl)) (of_decide_eq_true (Hz.at_ e0 3 33 rfl rfl)) (of_decide_eq_true (Hz.at_ e0 3 34 rfl rfl)) (of_decide_eq_true (Hz.at_ e0 3 35 rfl rfl)) (of_decide_eq_true (Hz.at_ e0 3 36 rfl rfl)) y_xDt y_xBt (of_decide_eq_true (Hz.at_ e0 3 38 rfl rfl)) (of_decide_eq_true (Hz.at_ e0 3 39 rfl rfl)) (of_decide_eq_true (Hz.at_ e0 4 0 rfl rfl)) (Hz.at_ e0 4 1 rfl rfl) (of_decide_eq_true (Hz.at_ e0 4 2 rfl rfl)) (of_decide_eq_true (Hz.at_ e0 4 3 rfl rfl)) l_Et c_Et (of_decide_eq_true (Hz.at_ e0 4 4 rfl rfl)) (of_decide_eq_true (Hz.at_ e0 4 5 rfl rfl)) (of_decide_eq_true (Hz.at_ e0 4 6 rfl rfl)) (Hz.at_ e0 4 7 rfl rfl) (of_decide_eq_true (Hz.at_ e0 4 8 rfl rfl)) (of_decide_eq_true (Hz.at_ e0 4 9 rfl rfl)) (of_decide_eq_true (Hz.at_ e0 4 10 rfl rfl)) (of_decide_eq_true (Hz.at_ e0 4 11 rfl rfl)) (of_decide_eq_true (Hz.at_ e0 4 12 rfl rfl)) y_xDx y_xBx (of_decide_eq_true (Hz.at_ e0 4 14 rfl rfl)) (of_decide_eq_true (Hz.at_ e0 4 15 rfl rfl)) (of_decide_eq_true (Hz.at_ e0 4 16 rfl rfl)) (Hz.at_ e0 4 17 rfl rfl) (of_decide_eq_true (Hz.at_ e0 4 18 rfl rfl)) (of_decide_eq_true (Hz.at_ e0 4 19 rfl rfl)) l_Ex c_Ex (of_decide_eq_true (Hz.at_ e0 4 20 rfl rfl)) (of_decide_eq_true (Hz.at_ e0 4 21 rfl rfl)) (of_decide_eq_true (Hz.at_ e0 4 22 rfl rfl)) (of_decide_eq_true (Hz.at_ e0 4 23 rfl rfl)) (Hz.at_ e0 4 24 rfl rfl) (of_decide_eq_true (Hz.at_ e0 4 25 rfl rfl)) (of_decide_eq_true (Hz.at_ e0 4 26 rfl rfl)) (of_decide_eq_true (Hz.at_ e0 4 27 rfl rfl)) (of_decide_eq_true (Hz.at_ e0 4 28 rfl rfl)) (of_decide_eq_true (Hz.at_ e0 4 29 rfl rfl)) y_xDm y_xBm (of_decide_eq_true (Hz.at_ e0 4 31 rfl rfl)) (of_decide_eq_true (Hz.at_ e0 4 32 rfl rfl)) (of_decide_eq_true (Hz.at_ e0 4 33 rfl rfl)) (Hz.at_ e0 4 34 rfl rfl) (of_decide_eq_true (Hz.at_ e0 4 35 rfl rfl)) (of_decide_eq_true (Hz.at_ e0 4 36 rfl rfl)) l_Em c_Em (of_decide_eq_true (Hz.at_ e0 4 37 rfl rfl)) (of_decide_eq_true (Hz.at_ e0 4 38 rfl rfl)) (of_decide_eq_true (Hz.at_ e0 4 39 rfl rfl)) (of_decide_eq_true (Hz.at_ e0 5 0 rfl rfl)) (Hz.at_ e0 5 1 rfl rfl) (of_decide_eq_true (Hz.at_ e0 5 2 rfl rfl)) (of_decide_eq_true (Hz.at_ e0 5 3 rfl rfl)) (of_decide_eq_true (Hz.at_ e0 5 4 rfl rfl)) (of_decide_eq_true (Hz.at_ e0 5 5 rfl rfl)) (of_decide_eq_true (Hz.at_ e0 5 6 rfl rfl)) (of_decide_eq_true (Hz.at_ e0 5 7 rfl rfl)) (of_decide_eq_true (Hz.at_ e0 5 8 rfl rfl)) (of_decide_eq_true (Hz.at_ e0 5 9 rfl rfl)) (of_decide_eq_true (Hz.at_ e0 5 10 rfl rfl)) (of_decide_eq_true (Hz.at_ e0 5 11 rfl rfl)) (of_decide_eq_true (Hz.at_ e0 5 12 rfl rfl)) (of_decide_eq_true (Hz.at_ e0 5 13 rfl rfl)) (of_decide_eq_true (Hz.at_ e0 5 14 rfl rfl)) (of_decide_eq_true (Hz.at_ e0 5 15 rfl rfl)) (of_decide_eq_true (Hz.at_ e0 5 16 rfl rfl)) (of_decide_eq_true (Hz.at_ e0 5 17 rfl rfl)) (of_decide_eq_true (Hz.at_ e0 5 18 rfl rfl)) (of_decide_eq_true (Hz.at_ e0 5 19 rfl rfl)) (of_decide_eq_true (Hz.at_ e0 5 20 rfl rfl)) (of_decide_eq_true (Hz.at_ e0 5 21 rfl rfl)) (of_decide_eq_true (Hz.at_ e0 5 22 rfl rfl)) (of_decide_eq_true (Hz.at_ e0 5 23 rfl rfl)) (of_decide_eq_true (Hz.at_ e0 5 24 rfl rfl)) (of_decide_eq_true (Hz.at_ e0 5 25 rfl rfl)) (of_decide_eq_true (Hz.at_ e0 5 26 rfl rfl)) (of_decide_eq_true (Hz.at_ e0 5 27 rfl rfl)) (of_decide_eq_true (Hz.at_ e0 5 28 rfl rfl)) (of_decide_eq_true (Hz.at_ e0 5 29 rfl rfl)) (of_decide_eq_true (Hz.at_ e0 5 30 rfl rfl)) (of_decide_eq_true (Hz.at_ e0 5 31 rfl rfl)) (of_decide_eq_true (Hz.at_ e0 5 32 rfl rfl)) (of_decide_eq_true (Hz.at_ e0 5 33 rfl rfl)) (of_decide_eq_true (Hz.at_ e0 5 34 rfl rfl)) (of_decide_eq_true (Hz.at_ e0 5 35 rfl rfl)) y_gMF rfl y_gMS rfl y_gGS rfl (of_decide_eq_true (Hz.at_ e0 5 39 rfl rfl)) (of_decide_eq_true (Hz.at_ e0 6 0 rfl rfl)) (of_decide_eq_true (Hz.at_ e0 6 1 rfl rfl)) (of_decide_eq_true (Hz.at_ e0 6 2 rfl rfl)) (of_decide_eq_true (Hz.at_ e0 6 3 rfl rfl)) (of_decide_eq_true (Hz.at_ e0 6 4 rfl rfl)) (of_decide_eq_true (Hz.at_ e0 6 5 rfl rfl)) (of_decide_eq_true (Hz.at_ e0 6 6 rfl rfl)) (of_decide_eq_true (Hz.at_ e0 6 7 rfl rfl)) (of_decide_eq_true (Hz.at_ e0 6 8 rfl rfl))
  refine ⟨K, fd, tb, sp, X, fun y hy => ?_, r1, r2, r3, r4⟩
  simp only [List.mem_cons, List.not_mem_nil, or_false] at hy
  rcases hy with rfl | rfl | rfl | rfl
  · exact ⟨_, _, of_decide_eq_true (Hz.at_ e0 6 9 rfl rfl), c.hd _ (List.Mem.head _), c.empty _ (List.Mem.head _)⟩
  · exact ⟨_, _, of_decide_eq_true (Hz.at_ e0 6 10 rfl rfl), c.hd _ (List.Mem.tail _ (List.Mem.head _)), c.empty _ (List.Mem.tail _ (List.Mem.head _))⟩
  · exact ⟨_, _, of_decide_eq_true (Hz.at_ e0 6 11 rfl rfl), c.hd _ (List.Mem.tail _ (List.Mem.tail _ (List.Mem.head _))), c.empty _ (List.Mem.tail _ (List.Mem.tail _ (List.Mem.head _)))⟩
  · exact ⟨_, _, of_decide_eq_true (Hz.at_ e0 6 12 rfl rfl), c.hd _ (List.Mem.tail _ (List.Mem.tail _ (List.Mem.tail _ (List.Mem.head _)))), c.empty _ (List.Mem.tail _ (List.Mem.tail _ (List.Mem.tail _ (List.Mem.head _))))⟩
end Lw
open PySem PySem.W PyProof.Rows
set_option maxRecDepth 100000 in
set_option maxHeartbeats 0 in
theorem PySem.Challenge.cw_latechunks_k44_rules_made_and_refused_holds : PySem.Challenge.rw_latechunks_k44_rules_made_and_refused.Holds := by
  w_on; o_law
  refine HandSHeadRun.head_imp (r := PySem.W.OpenLaw.row PySem.Challenge.rw_latechunks_k44_rules_made_and_refused) (q := view (OpenLaw.row PySem.Challenge.rw_latechunks_k44_rules_made_and_refused).prog [0, 53]) (H := Lw.hkZ) (ob := Lw.hob) (M := 12000) (loose := ((["_wall", "GREATEST_SIZE", "is_integer", "is_within", "is_size", "LateError", "BadSize", "BadTotal", "BadRest", "BadRule", "BadText", "TooMany", "PIECE_FIGURES", "PIECE_WORTH", "integer_of", "number_of", "Reader", "MOST_PARTS", "MOST_FACTOR", "MOST_START", "SIGNS", "is_factor", "is_start", "read_rule", "read_part", "read_sign", "MOST_RESIDUES", "Rule", "Fixed", "Divided"] : List PySem.Str) ++ (["Lesser", "Greater", "By", "check_rest", "check_joined", "check_modulus", "chunk_for", "rule_of", "_law_pen", "_law_draw", "_law_pick", "_law_heard", "_law_is", "_law_fixed_right", "_law_divided_right", "_law_up_right"] : List PySem.Str))) (d := HandSHeadRun.topDef (OpenLaw.row PySem.Challenge.rw_latechunks_k44_rules_made_and_refused).prog 53) (kwd := []) Lw.hob_eq
    Lw.head_run (by kernel_rfl) (by kernel_rfl) (by kernel_rfl) (by rfl) (by first | assumption | decide +kernel) (by decide +kernel) ⟨rfl, rfl, rfl, rfl, rfl, by decide +kernel⟩ ?hw ?hc
  case hw => w_witness2
  case hc =>
    refine Lw.walk_endX (l := PySem.Challenge.rw_latechunks_k44_rules_made_and_refused) (n := 63) (k := 15) (x := "_law_script") (xts := (["_law_fixed_right", "_law_divided_right", "_law_up_right", "law"] : List Str)) rfl (by decide) (by kernel_rfl) ⟨rfl, by decide, by decide⟩ ?F
    intro w mg fa h Y G hmg0
    obtain ⟨K, KX, c⟩ := Y
    have hmg : mg ("law" : PySem.Str) = some (.ref fa) := by
      have e : (HandSHeadRun.topDef (OpenLaw.row PySem.Challenge.rw_latechunks_k44_rules_made_and_refused).prog 53).name = ("law" : PySem.Str) := by kernel_rfl
      rw [← e]
      exact hmg0
    exact Lw.known KX G hmg c
