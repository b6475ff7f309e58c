import PyProof.Rows.All
import Wide.All
import OpenK.AllK
import Wide.FinOn
import HandS.ForMost
import HandS.Wide
import HandS.Codes
import HandS.EndBits
import KE.KStateDown
import HandS.Defaults
import HandS.Words
import HandS.ExcInit
import HandS.Head0
import HandS.Head1
import HandS.Head2
import HandS.Head3
import HandS.HeadHook1
import HandS.HeadHook2
import HandS.HeadHook3
import HandS.HeadHook4
import HandS.Lambda
import HandS.IsInst
import HandS.Walk
import HandS.ClsMeth
import HandS.SlotsOwn
import KE.KOpsOwn
import PyProof.TwoTypes
import PyProof.IsiBase
import KE.KIsAll
import HandS.StrMore
import PyProof.StrOps2
import HandS.Text
import KE.IntTextText
import HandS.Dict
import HandS.Style
import HandS.Star
import HandS.FStr
import HandS.RaiseMore
import KE.KCallOwn
import PyProof.Methods
import HandS.OwnEq
import PyProof.InstEq
import PyProof.Raises
import PyProof.TypeEq
import HandS.Exc
import HandS.ExcField
import HandS.ExcIs
import HandS.Gcd
import KE.KMathGC
import HandS.MakeKw
import KE.KFmtOwn
import HandS.MakeKwOnly
import HandS.Comp
import HandS.EndTab
import PySem.Challenge.RW_latechunks_k49_texts_that_are_no_rules
set_option Elab.async false
set_option linter.all false
set_option maxRecDepth 100000
set_option maxHeartbeats 4000000
namespace Lw
open PySem PySem.Spec PyProof.Rows L2
def tq (i : Nat) : Stmt := PySem.Challenge.pw_latechunks_k49_texts_that_are_no_rules.main.body.getD i (.Pass ⟨0, 0, 0, 0⟩)
/-! ### the head told by one run: defs at paths, tests of K, tables of lambdas -/
namespace Hz
open PySem PySem.Spec PyProof.Rows L2 He
def mcOf (K : PySem.W.Frag) (C : Addr) : Value := match PySem.W.typeIn K (.ref C) with
  | some v => v
  | none => .none
def pAd (K : PySem.W.Frag) (C : Addr) (n : Str) : Addr := match PySem.W.findCls K (.ref C) (mcOf K C) n with
  | some (.get _ (.ref p) _ _) => p
  | _ => 0
def rAd (K : PySem.W.Frag) (p : Addr) (T : String) : Addr := match PySem.W.recIn K p T with
  | some (.ref f :: _) => f
  | _ => 0
def typB (K : PySem.W.Frag) (C : Addr) : Bool := match PySem.W.typeIn K (.ref C) with
  | some _ => true
  | none => false
theorem typB_ok {K : PySem.W.Frag} {C : Addr} (h : typB K C = true) : PySem.W.typeIn K (.ref C) = some (mcOf K C) := by
  unfold typB at h
  unfold mcOf
  cases e : PySem.W.typeIn K (.ref C) with
  | none => rw [e] at h; cases h
  | some v => rfl
def getB (K : PySem.W.Frag) (C : Addr) (n : Str) (g : String) : Bool := match PySem.W.findCls K (.ref C) (mcOf K C) n with
  | some (.get (.builtin g') (.ref _) .none (.ref C')) => g' == g && C' == C
  | _ => false
theorem getB_ok {K : PySem.W.Frag} {C : Addr} {n : Str} {g : String} (h : getB K C n g = true) : PySem.W.findCls K (.ref C) (mcOf K C) n = some (.get (.builtin g) (.ref (pAd K C n)) .none (.ref C)) := by
  unfold getB at h
  unfold pAd
  split at h
  · rename_i g' p C' e
    obtain ⟨h1, h2⟩ := ba h
    rw [e, beq_iff_eq.mp h1, beq_iff_eq.mp h2]
  · cases h
def recB (K : PySem.W.Frag) (p : Addr) (T : String) : Bool := match PySem.W.recIn K p T with
  | some (.ref _ :: _) => true
  | _ => false
theorem recB_ok {K : PySem.W.Frag} {p : Addr} {T : String} (h : recB K p T = true) : ∃ rs, PySem.W.recIn K p T = some (.ref (rAd K p T) :: rs) := by
  unfold recB at h
  unfold rAd
  split at h
  · rename_i f rs e
    rw [e]
    exact ⟨rs, rfl⟩
  · cases h
def intB (K : PySem.W.Frag) (x : Str) (i : Int) : Bool := match PySem.W.nsIn K mainGlobals x with
  | some (some (.int j _)) => decide (j = i)
  | _ => false
theorem intB_ok {K : PySem.W.Frag} {x : Str} {i : Int} (h : intB K x i = true) : ∃ t, PySem.W.nsIn K mainGlobals x = some (some (.int i t)) := by
  unfold intB at h
  split at h
  · rename_i j t e
    rw [← of_decide_eq_true h]
    exact ⟨t, e⟩
  · cases h
def clsB (K : PySem.W.Frag) (C : Addr) (n : Str) (i : Int) : Bool := match PySem.W.findCls K (.ref C) (mcOf K C) n with
  | some (.val (.int j _)) => decide (j = i)
  | _ => false
theorem clsB_ok {K : PySem.W.Frag} {C : Addr} {n : Str} {i : Int} (h : clsB K C n i = true) : ∃ t, PySem.W.findCls K (.ref C) (mcOf K C) n = some (.val (.int i t)) := by
  unfold clsB at h
  split at h
  · rename_i j t e
    rw [← of_decide_eq_true h]
    exact ⟨t, e⟩
  · cases h
def strB (K : PySem.W.Frag) (x z : Str) : Bool := match PySem.W.nsIn K mainGlobals x with
  | some (some (.str y _)) => decide (y = z)
  | _ => false
theorem strB_ok {K : PySem.W.Frag} {x z : Str} (h : strB K x z = true) : ∃ t, PySem.W.nsIn K mainGlobals x = some (some (.str z t)) := by
  unfold strB at h
  split at h
  · rename_i y t e
    rw [← of_decide_eq_true h]
    exact ⟨t, e⟩
  · cases h
def tupB (K : PySem.W.Frag) (a : Addr) (vs : List V) : Bool := match K.lookup a with
  | some ⟨.type c, _, .seq its _, _⟩ => c == "tuple" && relAll vs its.toList
  | _ => false
theorem tupB_ok {K : PySem.W.Frag} {a : Addr} {vs : List V} (h : tupB K a vs = true) : ∃ od ws n sl, K.lookup a = some ⟨.type "tuple", od, .seq ws n, sl⟩ ∧ Vals vs ws.toList ∧ ws.size = vs.length := by
  unfold tupB at h
  split at h
  · rename_i c od its n sl e
    obtain ⟨h1, h2⟩ := ba h
    rw [beq_iff_eq.mp h1] at e
    exact ⟨od, its, n, sl, e, relAll_ok h2, (relAll_ok h2).length.symm⟩
  · cases h
def exB (K : PySem.W.Frag) (C : Addr) (own : String) : Bool := match K.lookup C with
  | some ⟨.type "type", _, .cls cd, sl⟩ => (match cd.mro, sl.toList with
    | .ref C' :: bm, [_, _, _, _, some (.builtin n), _] => C' == C && n == own && !cd.hasDel && cd.hasDict && PySem.HandSPX.refsVE bm
    | _, _ => false)
  | _ => false
theorem exB_ok {K : PySem.W.Frag} {C : Addr} {own : String} (q : exB K C own = true) : ∃ nm qn N bs bm sn sub ab col dd k0 k1 k2 k3 k5, K.lookup C = some (excClassObj nm qn C N bs bm true sn sub ab col dd k0 k1 k2 k3 k5 own) ∧ PySem.HandSPX.refsVE bm = true := by
  unfold exB at q
  split at q
  · rename_i dd cd sl ho
    split at q
    · rename_i C' bm k0 k1 k2 k3 n k5 hm hs
      simp only [Bool.and_eq_true, beq_iff_eq, Bool.not_eq_true'] at q
      obtain ⟨⟨⟨⟨rfl, rfl⟩, hdel⟩, hd⟩, ht⟩ := q
      obtain ⟨nm, bs, mro, ns, qn, hd', sn, sub, ab, col, del⟩ := cd
      dsimp only at hm hdel hd
      subst hm hdel hd
      have hsl : sl = #[k0, k1, k2, k3, some (.builtin n), k5] := by
        obtain ⟨l⟩ := sl
        simp only at hs
        rw [hs]
      subst hsl
      exact ⟨nm, qn, ns, bs, bm, sn, sub, ab, col, dd, k0, k1, k2, k3, k5, ho, ht⟩
    · cases q
  · cases q
/-- a def: where it stands, its name, qualified name, statement, defaults -/
structure DefA where
  adr : PySem.W.Frag → Addr
  name : Str
  qual : Str
  st : Stmt
  dfl : List V := []
def DefA.val (d : DefA) : FnW := some (d.name, d.qual, C8.fnArgs d.st, .stmts (C8.fnBody d.st), C8.fnScope d.st, mainGlobals, [], builtinsNs)
def fnAt (K : PySem.W.Frag) (a : Addr) : FnW := match K.lookup a with
  | some ⟨_, _, .func fd, _⟩ => some (fd.name, fd.qualname, fd.params, fd.body, fd.scope, fd.globals, fd.closure, fd.builtins)
  | _ => none
def DefA.ok (K : PySem.W.Frag) (d : DefA) : Bool := match K.lookup (d.adr K) with
  | some ⟨_, _, .func fd, _⟩ => PySem.W.codeIn K fd.code d.qual && dflB K fd.defaults d.dfl
  | _ => false
theorem DefA.get {K : PySem.W.Frag} {d : DefA} (e : fnAt K (d.adr K) = d.val) (c : d.ok K = true) : ∃ oc od dV kV doc pm an cdv ct osl,
    K.lookup (d.adr K) = some ⟨oc, od, .func (PySem.W.fnOf d.name d.qual (C8.fnArgs d.st) (C8.fnBody d.st) (C8.fnScope d.st) dV kV doc pm an cdv ct), osl⟩ ∧ PySem.W.codeIn K cdv d.qual = true ∧ DflV K dV d.dfl := by
  unfold DefA.ok at c
  unfold fnAt at e
  cases q : K.lookup (d.adr K) with
  | none =>
    rw [q] at c
    cases c
  | some o =>
    obtain ⟨oc, od, dt, osl⟩ := o
    rw [q] at c e
    cases dt with
    | func fd =>
      obtain ⟨n1, n2, n3, n4, n5, n6, n7, n8, n9, n10, n11, n12, n13, n14, n15⟩ := fd
      have e2 : (some (n1, n2, n3, n4, n5, n6, n7, n15) : FnW) = some (d.name, d.qual, C8.fnArgs d.st, .stmts (C8.fnBody d.st), C8.fnScope d.st, mainGlobals, [], builtinsNs) := e
      simp only [Option.some.injEq, Prod.mk.injEq] at e2
      obtain ⟨h1, h2, h3, h4, h5, h6, h7, h8⟩ := e2
      subst h1 h2 h3 h4 h5 h6 h7 h8
      obtain ⟨k1, k2⟩ := ba (show (PySem.W.codeIn K n13 d.qual && dflB K n8 d.dfl) = true from c)
      exact ⟨oc, od, n8, n9, n10, n11, n12, n13, n14, osl, rfl, k1, dflB_ok k2⟩
    | _ => cases c
structure SaysZ (fn : List DefA) (tf : List Defn) (ex : PySem.W.Frag → List (List Bool)) (h : Heap) (K : PySem.W.Frag) : Prop where
  d1 : fn.all (fun d => d.ok K) = true
  d2 : fn.map (fun d => fnAt K (d.adr K)) = fn.map DefA.val
  more : (ex K).all (fun l => l.all id) = true
  hd : ∀ p ∈ tf, PySem.W.codeHdIn K (cT K p).1 (cT K p).2 = true
  out : ∀ p ∈ tf, K.lookup (cT K p).2 = none
  empty : ∀ p ∈ tf, h.get? (cT K p).2 = some { cls := .none, data := .fields #[] }
theorem SaysZ.get {fn : List DefA} {tf : List Defn} {ex : PySem.W.Frag → List (List Bool)} {h : Heap} {K : PySem.W.Frag} (c : SaysZ fn tf ex h K) (i : Nat) {d : DefA} (hi : fn[i]? = some d) : ∃ oc od dV kV doc pm an cdv ct osl,
    K.lookup (d.adr K) = some ⟨oc, od, .func (PySem.W.fnOf d.name d.qual (C8.fnArgs d.st) (C8.fnBody d.st) (C8.fnScope d.st) dV kV doc pm an cdv ct), osl⟩ ∧ PySem.W.codeIn K cdv d.qual = true ∧ DflV K dV d.dfl := by
  have e2 : (fn.map fun d => fnAt K (d.adr K))[i]? = (fn.map DefA.val)[i]? := by rw [c.d2]
  rw [List.getElem?_map, List.getElem?_map, hi] at e2
  exact DefA.get (Option.some.inj e2) (List.all_eq_true.mp c.d1 d (List.mem_of_getElem? hi))
theorem SaysZ.get0 {fn : List DefA} {tf : List Defn} {ex : PySem.W.Frag → List (List Bool)} {h : Heap} {K : PySem.W.Frag} (c : SaysZ fn tf ex h K) (i : Nat) {d : DefA} (hi : fn[i]? = some d) (h0 : d.dfl = []) : ∃ oc od kV doc pm an cdv ct osl,
    K.lookup (d.adr K) = some ⟨oc, od, .func (PySem.W.fnOf d.name d.qual (C8.fnArgs d.st) (C8.fnBody d.st) (C8.fnScope d.st) .none kV doc pm an cdv ct), osl⟩ ∧ PySem.W.codeIn K cdv d.qual = true := by
  obtain ⟨oc, od, dV, kV, doc, pm, an, cdv, ct, osl, lk, hc, hd⟩ := c.get i hi
  have e : dV = .none := by
    rcases hd with ⟨_, e⟩ | ⟨n, _⟩
    · exact e
    · exact absurd h0 n
  subst e
  exact ⟨oc, od, kV, doc, pm, an, cdv, ct, osl, lk, hc⟩
theorem SaysZ.getD {fn : List DefA} {tf : List Defn} {ex : PySem.W.Frag → List (List Bool)} {h : Heap} {K : PySem.W.Frag} (c : SaysZ fn tf ex h K) (i : Nat) {d : DefA} (hi : fn[i]? = some d) (h0 : d.dfl ≠ []) : ∃ oc od T kV doc pm an cdv ct osl oT odT its n slT,
    K.lookup (d.adr K) = some ⟨oc, od, .func (PySem.W.fnOf d.name d.qual (C8.fnArgs d.st) (C8.fnBody d.st) (C8.fnScope d.st) (.ref T) kV doc pm an cdv ct), osl⟩ ∧ PySem.W.codeIn K cdv d.qual = true ∧ K.lookup T = some ⟨oT, odT, .seq (List.toArray its) n, slT⟩ ∧ Vals d.dfl its := by
  obtain ⟨oc, od, dV, kV, doc, pm, an, cdv, ct, osl, lk, hc, hd⟩ := c.get i hi
  rcases hd with ⟨e, _⟩ | ⟨_, T, o, its, m, rfl, lT, oT, rT⟩
  · exact absurd e h0
  · obtain ⟨a1, a2, a3, a4⟩ := o
    dsimp only at oT
    subst oT
    exact ⟨oc, od, T, kV, doc, pm, an, cdv, ct, osl, a1, a2, its, m, a4, lk, hc, lT, rT⟩
theorem ints1 {i : Int} {its : List Value} (h : Vals [V.int i] its) : ∃ t, its = [.int i t] := by
  cases h with
  | cons r0 r1 =>
    cases r1
    obtain ⟨t, rfl⟩ := (show ∃ t, _ = Value.int i t from r0)
    exact ⟨t, rfl⟩
theorem ints3 {i j k : Int} {its : List Value} (h : Vals [V.int i, V.int j, V.int k] its) : ∃ t u v, its = [.int i t, .int j u, .int k v] := by
  cases h with
  | cons r0 r1 =>
    cases r1 with
    | cons r2 r3 =>
      cases r3 with
      | cons r4 r5 =>
        cases r5
        obtain ⟨t, rfl⟩ := (show ∃ t, _ = Value.int i t from r0)
        obtain ⟨u, rfl⟩ := (show ∃ t, _ = Value.int j t from r2)
        obtain ⟨v, rfl⟩ := (show ∃ t, _ = Value.int k t from r4)
        exact ⟨t, u, v, rfl⟩
theorem nons1 {its : List Value} (h : Vals [V.non] its) : its = [.none] := by
  cases h with
  | cons r0 r1 =>
    cases r1
    rw [show _ = Value.none from r0]
theorem at_ {ls : List (List Bool)} (h : ls.all (fun l => l.all id) = true) (i j : Nat) {l : List Bool} {b : Bool} (hi : ls[i]? = some l) (hj : l[j]? = some b) : b = true :=
  List.all_eq_true.mp (List.all_eq_true.mp h l (List.mem_of_getElem? hi)) b (List.mem_of_getElem? hj)
/-- what several runs tell, together -/
theorem comb {α β γ : Type} {R : Option α} {A1 : α → Bool} {A2 : α → β} {Dm : α → γ} {c e : α → Bool} {g : β} {d : γ} (h1 : R.map (fun x => (A1 x, A2 x, Dm x)) = some (true, g, d)) (h2 : R.map (fun x => c x) = some true) (h3 : R.map (fun x => e x) = some true) : R.map (fun x => (A1 x, A2 x, (Dm x, c x && e x))) = some (true, g, (d, true)) := by
  cases R with
  | none => cases h1
  | some x =>
    have e1 := Option.some.inj (show some (A1 x, A2 x, Dm x) = some (true, g, d) from h1)
    have e2 : c x = true := Option.some.inj (show some (c x) = some true from h2)
    have e3 : e x = true := Option.some.inj (show some (e x) = some true from h3)
    obtain ⟨q1, q2⟩ := Prod.mk.inj e1
    obtain ⟨q3, q4⟩ := Prod.mk.inj q2
    show some (A1 x, A2 x, (Dm x, c x && e x)) = _
    rw [q1, q3, q4, e2, e3]
    rfl
def obsZ (as : List Addr) (fn : List DefA) (tf : List Defn) (ex : PySem.W.Frag → List (List Bool)) (g : Addr → Option Obj) : List FnW × Bool := (fn.map fun d => fnAt (frT g as) (d.adr (frT g as)), (fn.all fun d => d.ok (frT g as)) && ((ex (frT g as)).all (fun l => l.all id) && tabsB g tf (frT g as)))
theorem saysZ_of {as : List Addr} {fn : List DefA} {tf : List Defn} {ex : PySem.W.Frag → List (List Bool)} {h : Heap} (e : obsZ as fn tf ex h.get? = (fn.map DefA.val, true)) : SaysZ fn tf ex h (frT h.get? as) := by
  have e1 : fn.map (fun d => fnAt (frT h.get? as) (d.adr (frT h.get? as))) = fn.map DefA.val := congrArg (fun z : List FnW × Bool => z.1) e
  have e2 : ((fn.all fun d => d.ok (frT h.get? as)) && ((ex (frT h.get? as)).all (fun l => l.all id) && tabsB h.get? tf (frT h.get? as))) = true := congrArg (fun z : List FnW × Bool => z.2) e
  obtain ⟨h0, e3⟩ := ba e2
  obtain ⟨h1, h2⟩ := ba e3
  have key : ∀ p ∈ tf, PySem.W.codeHdIn (frT h.get? as) (cT (frT h.get? as) p).1 (cT (frT h.get? as) p).2 = true ∧ ∃ o, h.get? (cT (frT h.get? as) p).2 = some o ∧ emptyTab o = true := fun p hp => by
    obtain ⟨h3, h4⟩ := ba (List.all_eq_true.mp h2 p hp)
    refine ⟨h3, ?_⟩
    cases q : h.get? (cT (frT h.get? as) p).2 with
    | none =>
      rw [q] at h4
      cases h4
    | some o =>
      rw [q] at h4
      exact ⟨o, rfl, h4⟩
  exact ⟨h0, e1, h1, fun p hp => (key p hp).1, fun p hp => by
    obtain ⟨_, o, q, z⟩ := key p hp
    exact frT_none q z, fun p hp => by
    obtain ⟨_, o, q, z⟩ := key p hp
    rw [q, emptyTab_eq z]⟩
def hookZ (as : List Addr) (fn : List DefA) (tf : List Defn) (ex : PySem.W.Frag → List (List Bool)) : PySem.W.Hook where
  α := List FnW × Bool
  obs := fun s => obsZ as fn tf ex s.heap.get?
  val := fun _ => (fn.map DefA.val, true)
  says := fun _ h => ∃ K : PySem.W.Frag, K.In h ∧ SaysZ fn tf ex h K
  of := fun _ _ e => ⟨_, frT_in, saysZ_of e⟩
  keeps := fun _ _ _ ⟨K, hK, c⟩ k => ⟨K, PySem.W.Frag.In.keeps hK k, ⟨c.d1, c.d2, c.more, c.hd, c.out, fun p hp => k _ _ (c.empty p hp)⟩⟩
theorem obsZ_eq {as : List Addr} {fn : List DefA} {tf : List Defn} {ex : PySem.W.Frag → List (List Bool)} {g : Addr → Option Obj} {s : Shared} (h : ∀ a, g a = s.heap.get? a) : obsZ as fn tf ex g = (hookZ as fn tf ex).obs s := by
  have e : g = s.heap.get? := funext h
  rw [e] <;> rfl
end Hz
abbrev hd0 : Hz.DefA := ⟨fun K => (He.ga K "is_integer"), "is_integer", "is_integer", (tq 4), []⟩
abbrev hd1 : Hz.DefA := ⟨fun K => (He.ga K "is_within"), "is_within", "is_within", (tq 5), []⟩
abbrev hd2 : Hz.DefA := ⟨fun K => (He.ga K "is_size"), "is_size", "is_size", (tq 6), []⟩
abbrev hd3 : Hz.DefA := ⟨fun K => (He.ga K "is_factor"), "is_factor", "is_factor", (tq 26), []⟩
abbrev hd4 : Hz.DefA := ⟨fun K => (He.ga K "is_start"), "is_start", "is_start", (tq 27), []⟩
abbrev hd5 : Hz.DefA := ⟨fun K => (He.ga K "integer_of"), "integer_of", "integer_of", (tq 18), []⟩
abbrev hd6 : Hz.DefA := ⟨fun K => (He.ga K "number_of"), "number_of", "number_of", (tq 19), []⟩
abbrev hd7 : Hz.DefA := ⟨fun K => (He.ga K "read_rule"), "read_rule", "read_rule", (tq 28), []⟩
abbrev hd8 : Hz.DefA := ⟨fun K => (He.ga K "read_part"), "read_part", "read_part", (tq 29), []⟩
abbrev hd9 : Hz.DefA := ⟨fun K => (He.ga K "read_sign"), "read_sign", "read_sign", (tq 30), []⟩
abbrev hd10 : Hz.DefA := ⟨fun K => (He.ga K "rule_of"), "rule_of", "rule_of", (tq 42), []⟩
abbrev hd11 : Hz.DefA := ⟨fun K => (He.ga K "check_modulus"), "check_modulus", "check_modulus", (tq 40), []⟩
abbrev hd12 : Hz.DefA := ⟨fun K => (He.ga K "check_joined"), "check_joined", "check_joined", (tq 39), []⟩
abbrev hd13 : Hz.DefA := ⟨fun K => (He.ga K "_law_pen"), "_law_pen", "_law_pen", (tq 44), []⟩
abbrev hd14 : Hz.DefA := ⟨fun K => (He.ga K "_law_draw"), "_law_draw", "_law_draw", (tq 45), []⟩
abbrev hd15 : Hz.DefA := ⟨fun K => (He.ga K "_law_pick"), "_law_pick", "_law_pick", (tq 46), []⟩
abbrev hd16 : Hz.DefA := ⟨fun K => (He.ga K "_law_leaf"), "_law_leaf", "_law_leaf", (tq 47), []⟩
abbrev hd17 : Hz.DefA := ⟨fun K => (He.ga K "_law_plain"), "_law_plain", "_law_plain", (tq 48), []⟩
abbrev hd18 : Hz.DefA := ⟨fun K => (He.ga K "_law_text"), "_law_text", "_law_text", (tq 49), []⟩
abbrev hd19 : Hz.DefA := ⟨fun K => (He.ga K "_law_heard"), "_law_heard", "_law_heard", (tq 50), []⟩
abbrev hd20 : Hz.DefA := ⟨fun K => (He.ga K "_law_is_number"), "_law_is_number", "_law_is_number", (tq 51), []⟩
abbrev hd21 : Hz.DefA := ⟨fun K => (He.ga K "_law_rule_end"), "_law_rule_end", "_law_rule_end", (tq 52), []⟩
abbrev hd22 : Hz.DefA := ⟨fun K => (He.ga K "_law_due"), "_law_due", "_law_due", (tq 53), []⟩
abbrev hd23 : Hz.DefA := ⟨fun K => (He.ga K "_law_bent"), "_law_bent", "_law_bent", (tq 55), []⟩
abbrev hd24 : Hz.DefA := ⟨fun K => (He.ga K "_law_read_right"), "_law_read_right", "_law_read_right", (tq 54), []⟩
abbrev hd25 : Hz.DefA := ⟨fun K => (He.ga K "law"), "law", "law", (tq 56), []⟩
abbrev hd26 : Hz.DefA := ⟨fun K => (Hz.rAd K (Hz.pAd K (He.ga K "Rule") "read") "staticmethod"), "read", "Rule.read", (inClass (tq 33) 0), []⟩
abbrev hd27 : Hz.DefA := ⟨fun K => (He.ma K (He.ga K "Fixed") "__init__"), "__init__", "Fixed.__init__", (inClass (tq 34) 0), []⟩
abbrev hd28 : Hz.DefA := ⟨fun K => (He.ma K (He.ga K "Divided") "__init__"), "__init__", "Divided.__init__", (inClass (tq 35) 0), []⟩
abbrev hd29 : Hz.DefA := ⟨fun K => (He.ma K (He.ga K "Lesser") "__init__"), "__init__", "Lesser.__init__", (inClass (tq 36) 0), []⟩
abbrev hd30 : Hz.DefA := ⟨fun K => (He.ma K (He.ga K "Greater") "__init__"), "__init__", "Greater.__init__", (inClass (tq 37) 0), []⟩
abbrev hd31 : Hz.DefA := ⟨fun K => (He.ma K (He.ga K "Fixed") "__str__"), "__str__", "Fixed.__str__", (inClass (tq 34) 8), []⟩
abbrev hd32 : Hz.DefA := ⟨fun K => (He.ma K (He.ga K "Fixed") "__and__"), "__and__", "Fixed.__and__", (inClass (tq 34) 5), []⟩
abbrev hd33 : Hz.DefA := ⟨fun K => (He.ma K (He.ga K "Fixed") "__or__"), "__or__", "Fixed.__or__", (inClass (tq 34) 6), []⟩
abbrev hd34 : Hz.DefA := ⟨fun K => (He.ma K (He.ga K "Divided") "__str__"), "__str__", "Divided.__str__", (inClass (tq 35) 9), []⟩
abbrev hd35 : Hz.DefA := ⟨fun K => (He.ma K (He.ga K "Divided") "__and__"), "__and__", "Divided.__and__", (inClass (tq 35) 6), []⟩
abbrev hd36 : Hz.DefA := ⟨fun K => (He.ma K (He.ga K "Divided") "__or__"), "__or__", "Divided.__or__", (inClass (tq 35) 7), []⟩
abbrev hd37 : Hz.DefA := ⟨fun K => (He.ma K (He.ga K "Lesser") "__str__"), "__str__", "Lesser.__str__", (inClass (tq 36) 8), []⟩
abbrev hd38 : Hz.DefA := ⟨fun K => (He.ma K (He.ga K "Lesser") "__and__"), "__and__", "Lesser.__and__", (inClass (tq 36) 5), []⟩
abbrev hd39 : Hz.DefA := ⟨fun K => (He.ma K (He.ga K "Lesser") "__or__"), "__or__", "Lesser.__or__", (inClass (tq 36) 6), []⟩
abbrev hd40 : Hz.DefA := ⟨fun K => (He.ma K (He.ga K "Greater") "__str__"), "__str__", "Greater.__str__", (inClass (tq 37) 8), []⟩
abbrev hd41 : Hz.DefA := ⟨fun K => (He.ma K (He.ga K "Greater") "__and__"), "__and__", "Greater.__and__", (inClass (tq 37) 5), []⟩
abbrev hd42 : Hz.DefA := ⟨fun K => (He.ma K (He.ga K "Greater") "__or__"), "__or__", "Greater.__or__", (inClass (tq 37) 6), []⟩
abbrev hd43 : Hz.DefA := ⟨fun K => (He.ma K (He.ga K "Reader") "__init__"), "__init__", "Reader.__init__", (inClass (tq 20) 0), [.int 0]⟩
abbrev hd44 : Hz.DefA := ⟨fun K => (He.ma K (He.ga K "Reader") "at_hand"), "at_hand", "Reader.at_hand", (inClass (tq 20) 1), []⟩
abbrev hd45 : Hz.DefA := ⟨fun K => (He.ma K (He.ga K "Reader") "refuse"), "refuse", "Reader.refuse", (inClass (tq 20) 2), []⟩
abbrev hd46 : Hz.DefA := ⟨fun K => (He.ma K (He.ga K "Reader") "take"), "take", "Reader.take", (inClass (tq 20) 3), []⟩
abbrev hd47 : Hz.DefA := ⟨fun K => (He.ma K (He.ga K "Reader") "expect"), "expect", "Reader.expect", (inClass (tq 20) 5), []⟩
abbrev hd48 : Hz.DefA := ⟨fun K => (He.ma K (He.ga K "Reader") "finish"), "finish", "Reader.finish", (inClass (tq 20) 7), []⟩
abbrev hd49 : Hz.DefA := ⟨fun K => (He.ma K (He.ga K "Reader") "integer"), "integer", "Reader.integer", (inClass (tq 20) 4), []⟩
abbrev hd50 : Hz.DefA := ⟨fun K => (He.ma K (He.ga K "BadRule") "__init__"), "__init__", "BadRule.__init__", (inClass (tq 12) 0), []⟩
abbrev hd51 : Hz.DefA := ⟨fun K => (He.ma K (He.ga K "BadSize") "__init__"), "__init__", "BadSize.__init__", (inClass (tq 9) 0), []⟩
abbrev hd52 : Hz.DefA := ⟨fun K => (He.ma K (He.ga K "BadRest") "__init__"), "__init__", "BadRest.__init__", (inClass (tq 11) 0), []⟩
abbrev hd53 : Hz.DefA := ⟨fun K => (He.ma K (He.ga K "BadTotal") "__init__"), "__init__", "BadTotal.__init__", (inClass (tq 10) 0), []⟩
abbrev hd54 : Hz.DefA := ⟨fun K => (He.ma K (He.ga K "BadText") "__init__"), "__init__", "BadText.__init__", (inClass (tq 13) 0), []⟩
abbrev hd55 : Hz.DefA := ⟨fun K => (He.ma K (He.ga K "TooMany") "__init__"), "__init__", "TooMany.__init__", (inClass (tq 14) 0), []⟩
def hfn : List Hz.DefA := ([hd0, hd1, hd2, hd3, hd4, hd5, hd6, hd7, hd8, hd9, hd10, hd11, hd12, hd13, hd14, hd15, hd16, hd17, hd18, hd19, hd20, hd21, hd22, hd23, hd24, hd25, hd26, hd27, hd28, hd29] : List Hz.DefA) ++ ([hd30, hd31, hd32, hd33, hd34, hd35, hd36, hd37, hd38, hd39, hd40, hd41, hd42, hd43, hd44, hd45, hd46, hd47, hd48, hd49, hd50, hd51, hd52, hd53, hd54, hd55] : List Hz.DefA)
def htf : List He.Defn := [("_law_read_right", none), ("law", none)]
def ex0 (K : PySem.W.Frag) : List Bool := [
  decide (PySem.W.nsIn K mainGlobals "LateError" = some (some (.ref (He.ga K "LateError")))),
  decide (PySem.W.nsIn K mainGlobals "is_integer" = some (some (.ref (He.ga K "is_integer")))),
  PySem.W.keepIn K (.ref (He.ga K "is_integer")),
  decide (PySem.W.nsIn K mainGlobals "is_within" = some (some (.ref (He.ga K "is_within")))),
  PySem.W.keepIn K (.ref (He.ga K "is_within")),
  decide (PySem.W.nsIn K mainGlobals "is_size" = some (some (.ref (He.ga K "is_size")))),
  PySem.W.keepIn K (.ref (He.ga K "is_size")),
  decide (PySem.W.nsIn K mainGlobals "is_factor" = some (some (.ref (He.ga K "is_factor")))),
  PySem.W.keepIn K (.ref (He.ga K "is_factor")),
  decide (PySem.W.nsIn K mainGlobals "is_start" = some (some (.ref (He.ga K "is_start")))),
  PySem.W.keepIn K (.ref (He.ga K "is_start")),
  decide (PySem.W.nsIn K mainGlobals "integer_of" = some (some (.ref (He.ga K "integer_of")))),
  PySem.W.keepIn K (.ref (He.ga K "integer_of")),
  decide (PySem.W.nsIn K mainGlobals "number_of" = some (some (.ref (He.ga K "number_of")))),
  PySem.W.keepIn K (.ref (He.ga K "number_of")),
  decide (PySem.W.nsIn K mainGlobals "read_rule" = some (some (.ref (He.ga K "read_rule")))),
  PySem.W.keepIn K (.ref (He.ga K "read_rule")),
  decide (PySem.W.nsIn K mainGlobals "read_part" = some (some (.ref (He.ga K "read_part")))),
  PySem.W.keepIn K (.ref (He.ga K "read_part")),
  decide (PySem.W.nsIn K mainGlobals "read_sign" = some (some (.ref (He.ga K "read_sign")))),
  PySem.W.keepIn K (.ref (He.ga K "read_sign")),
  decide (PySem.W.nsIn K mainGlobals "rule_of" = some (some (.ref (He.ga K "rule_of")))),
  PySem.W.keepIn K (.ref (He.ga K "rule_of")),
  decide (PySem.W.nsIn K mainGlobals "check_modulus" = some (some (.ref (He.ga K "check_modulus")))),
  PySem.W.keepIn K (.ref (He.ga K "check_modulus")),
  decide (PySem.W.nsIn K mainGlobals "check_joined" = some (some (.ref (He.ga K "check_joined")))),
  PySem.W.keepIn K (.ref (He.ga K "check_joined")),
  decide (PySem.W.nsIn K mainGlobals "_law_pen" = some (some (.ref (He.ga K "_law_pen")))),
  PySem.W.keepIn K (.ref (He.ga K "_law_pen")),
  decide (PySem.W.nsIn K mainGlobals "_law_draw" = some (some (.ref (He.ga K "_law_draw")))),
  PySem.W.keepIn K (.ref (He.ga K "_law_draw")),
  decide (PySem.W.nsIn K mainGlobals "_law_pick" = some (some (.ref (He.ga K "_law_pick")))),
  PySem.W.keepIn K (.ref (He.ga K "_law_pick")),
  decide (PySem.W.nsIn K mainGlobals "_law_leaf" = some (some (.ref (He.ga K "_law_leaf")))),
  PySem.W.keepIn K (.ref (He.ga K "_law_leaf")),
  decide (PySem.W.nsIn K mainGlobals "_law_plain" = some (some (.ref (He.ga K "_law_plain")))),
  PySem.W.keepIn K (.ref (He.ga K "_law_plain")),
  decide (PySem.W.nsIn K mainGlobals "_law_text" = some (some (.ref (He.ga K "_law_text")))),
  PySem.W.keepIn K (.ref (He.ga K "_law_text")),
  decide (PySem.W.nsIn K mainGlobals "_law_heard" = some (some (.ref (He.ga K "_law_heard"))))]
def ex1 (K : PySem.W.Frag) : List Bool := [
  PySem.W.keepIn K (.ref (He.ga K "_law_heard")),
  decide (PySem.W.nsIn K mainGlobals "_law_is_number" = some (some (.ref (He.ga K "_law_is_number")))),
  PySem.W.keepIn K (.ref (He.ga K "_law_is_number")),
  decide (PySem.W.nsIn K mainGlobals "_law_rule_end" = some (some (.ref (He.ga K "_law_rule_end")))),
  PySem.W.keepIn K (.ref (He.ga K "_law_rule_end")),
  decide (PySem.W.nsIn K mainGlobals "_law_due" = some (some (.ref (He.ga K "_law_due")))),
  PySem.W.keepIn K (.ref (He.ga K "_law_due")),
  decide (PySem.W.nsIn K mainGlobals "_law_bent" = some (some (.ref (He.ga K "_law_bent")))),
  PySem.W.keepIn K (.ref (He.ga K "_law_bent")),
  decide (PySem.W.nsIn K mainGlobals "_law_read_right" = some (some (.ref (He.ga K "_law_read_right")))),
  PySem.W.keepIn K (.ref (He.ga K "_law_read_right")),
  decide (PySem.W.nsIn K mainGlobals "law" = some (some (.ref (He.ga K "law")))),
  PySem.W.keepIn K (.ref (He.ga K "law")),
  decide ((He.cT K ("law", none)).2 ≠ (He.cT K ("_law_read_right", none)).2),
  decide (PySem.W.nsIn K mainGlobals "Fixed" = some (some (.ref (He.ga K "Fixed")))),
  PySem.W.plainGet K (He.ga K "Fixed") Str.empty,
  PySem.W.hasDictIn K (He.ga K "Fixed"),
  PySem.W.plainOver K (He.ga K "Fixed"),
  decide (PySem.W.findIn K (.ref (He.ga K "Fixed")) "__setattr__" = some (some (.builtin "object.__setattr__"))),
  PySem.W.makesIn K (He.ga K "Fixed"),
  PySem.W.keepIn K (.ref (He.ga K "Fixed")),
  decide (PySem.W.findIn K (.ref (He.ga K "Fixed")) "size" = some none),
  decide (PySem.W.findIn K (.ref (He.ga K "Fixed")) "parts" = some none),
  decide (PySem.W.findIn K (.ref (He.ga K "Fixed")) "modulus" = some none),
  decide (PySem.W.findIn K (.ref (He.ga K "Fixed")) "__class__" = some (some (.builtin "object.__class__"))),
  decide (PySem.W.mroIn K (He.ga K "Fixed") (.type "object") = some true),
  decide (PySem.W.specialIn K (.builtin "object.__class__") "__get__" = some (some (.builtin "getset_descriptor.__get__"))),
  decide (PySem.W.takesIn K (.builtin "object.__class__") = some true),
  decide (PySem.W.findIn K (.ref (He.ga K "Fixed")) "__ne__" = some (some (.builtin "object.__ne__"))),
  decide (PySem.W.nsIn K mainGlobals "Divided" = some (some (.ref (He.ga K "Divided")))),
  PySem.W.plainGet K (He.ga K "Divided") Str.empty,
  PySem.W.hasDictIn K (He.ga K "Divided"),
  PySem.W.plainOver K (He.ga K "Divided"),
  decide (PySem.W.findIn K (.ref (He.ga K "Divided")) "__setattr__" = some (some (.builtin "object.__setattr__"))),
  PySem.W.makesIn K (He.ga K "Divided"),
  PySem.W.keepIn K (.ref (He.ga K "Divided")),
  decide (PySem.W.findIn K (.ref (He.ga K "Divided")) "x" = some none),
  decide (PySem.W.findIn K (.ref (He.ga K "Divided")) "y" = some none),
  decide (PySem.W.findIn K (.ref (He.ga K "Divided")) "w" = some none),
  decide (PySem.W.findIn K (.ref (He.ga K "Divided")) "parts" = some none)]
def ex2 (K : PySem.W.Frag) : List Bool := [
  decide (PySem.W.findIn K (.ref (He.ga K "Divided")) "modulus" = some none),
  decide (PySem.W.findIn K (.ref (He.ga K "Divided")) "__class__" = some (some (.builtin "object.__class__"))),
  decide (PySem.W.mroIn K (He.ga K "Divided") (.type "object") = some true),
  decide (PySem.W.findIn K (.ref (He.ga K "Divided")) "__ne__" = some (some (.builtin "object.__ne__"))),
  decide (PySem.W.nsIn K mainGlobals "Lesser" = some (some (.ref (He.ga K "Lesser")))),
  PySem.W.plainGet K (He.ga K "Lesser") Str.empty,
  PySem.W.hasDictIn K (He.ga K "Lesser"),
  PySem.W.plainOver K (He.ga K "Lesser"),
  decide (PySem.W.findIn K (.ref (He.ga K "Lesser")) "__setattr__" = some (some (.builtin "object.__setattr__"))),
  PySem.W.makesIn K (He.ga K "Lesser"),
  PySem.W.keepIn K (.ref (He.ga K "Lesser")),
  decide (PySem.W.findIn K (.ref (He.ga K "Lesser")) "one" = some none),
  decide (PySem.W.findIn K (.ref (He.ga K "Lesser")) "other" = some none),
  decide (PySem.W.findIn K (.ref (He.ga K "Lesser")) "parts" = some none),
  decide (PySem.W.findIn K (.ref (He.ga K "Lesser")) "modulus" = some none),
  decide (PySem.W.findIn K (.ref (He.ga K "Lesser")) "__class__" = some (some (.builtin "object.__class__"))),
  decide (PySem.W.mroIn K (He.ga K "Lesser") (.type "object") = some true),
  decide (PySem.W.findIn K (.ref (He.ga K "Lesser")) "__ne__" = some (some (.builtin "object.__ne__"))),
  decide (PySem.W.nsIn K mainGlobals "Greater" = some (some (.ref (He.ga K "Greater")))),
  PySem.W.plainGet K (He.ga K "Greater") Str.empty,
  PySem.W.hasDictIn K (He.ga K "Greater"),
  PySem.W.plainOver K (He.ga K "Greater"),
  decide (PySem.W.findIn K (.ref (He.ga K "Greater")) "__setattr__" = some (some (.builtin "object.__setattr__"))),
  PySem.W.makesIn K (He.ga K "Greater"),
  PySem.W.keepIn K (.ref (He.ga K "Greater")),
  decide (PySem.W.findIn K (.ref (He.ga K "Greater")) "one" = some none),
  decide (PySem.W.findIn K (.ref (He.ga K "Greater")) "other" = some none),
  decide (PySem.W.findIn K (.ref (He.ga K "Greater")) "parts" = some none),
  decide (PySem.W.findIn K (.ref (He.ga K "Greater")) "modulus" = some none),
  decide (PySem.W.findIn K (.ref (He.ga K "Greater")) "__class__" = some (some (.builtin "object.__class__"))),
  decide (PySem.W.mroIn K (He.ga K "Greater") (.type "object") = some true),
  decide (PySem.W.findIn K (.ref (He.ga K "Greater")) "__ne__" = some (some (.builtin "object.__ne__"))),
  decide (PySem.W.nsIn K mainGlobals "Rule" = some (some (.ref (He.ga K "Rule")))),
  Hz.typB K (He.ga K "Rule"),
  PySem.W.readsIn K (He.ga K "Rule") (Hz.mcOf K (He.ga K "Rule")),
  decide (PySem.W.specialIn K (.ref (He.ga K "Rule")) "__getattribute__" = some (some (.builtin "type.__getattribute__"))),
  PySem.W.plainGet K (He.ga K "Rule") Str.empty,
  PySem.W.hasDictIn K (He.ga K "Rule"),
  PySem.W.plainOver K (He.ga K "Rule"),
  decide (PySem.W.findIn K (.ref (He.ga K "Rule")) "__setattr__" = some (some (.builtin "object.__setattr__")))]
def ex3 (K : PySem.W.Frag) : List Bool := [
  PySem.W.makesIn K (He.ga K "Rule"),
  PySem.W.keepIn K (.ref (He.ga K "Rule")),
  PySem.W.keepIn K (.ref (Hz.rAd K (Hz.pAd K (He.ga K "Rule") "read") "staticmethod")),
  Hz.getB K (He.ga K "Rule") "read" "staticmethod.__get__",
  Hz.recB K (Hz.pAd K (He.ga K "Rule") "read") "staticmethod",
  decide (PySem.W.findIn K (.ref (He.ga K "Fixed")) "__init__" = some (some (.ref (He.ma K (He.ga K "Fixed") "__init__")))),
  PySem.W.isFn K (.ref (He.ma K (He.ga K "Fixed") "__init__")),
  PySem.W.keepIn K (.ref (He.ma K (He.ga K "Fixed") "__init__")),
  decide (PySem.W.findIn K (.ref (He.ga K "Divided")) "__init__" = some (some (.ref (He.ma K (He.ga K "Divided") "__init__")))),
  PySem.W.isFn K (.ref (He.ma K (He.ga K "Divided") "__init__")),
  PySem.W.keepIn K (.ref (He.ma K (He.ga K "Divided") "__init__")),
  decide (PySem.W.findIn K (.ref (He.ga K "Lesser")) "__init__" = some (some (.ref (He.ma K (He.ga K "Lesser") "__init__")))),
  PySem.W.isFn K (.ref (He.ma K (He.ga K "Lesser") "__init__")),
  PySem.W.keepIn K (.ref (He.ma K (He.ga K "Lesser") "__init__")),
  decide (PySem.W.findIn K (.ref (He.ga K "Greater")) "__init__" = some (some (.ref (He.ma K (He.ga K "Greater") "__init__")))),
  PySem.W.isFn K (.ref (He.ma K (He.ga K "Greater") "__init__")),
  PySem.W.keepIn K (.ref (He.ma K (He.ga K "Greater") "__init__")),
  decide (PySem.W.findIn K (.ref (He.ga K "Fixed")) "__str__" = some (some (.ref (He.ma K (He.ga K "Fixed") "__str__")))),
  PySem.W.isFn K (.ref (He.ma K (He.ga K "Fixed") "__str__")),
  PySem.W.keepIn K (.ref (He.ma K (He.ga K "Fixed") "__str__")),
  decide (PySem.W.findIn K (.ref (He.ga K "Fixed")) "__and__" = some (some (.ref (He.ma K (He.ga K "Fixed") "__and__")))),
  PySem.W.isFn K (.ref (He.ma K (He.ga K "Fixed") "__and__")),
  PySem.W.keepIn K (.ref (He.ma K (He.ga K "Fixed") "__and__")),
  decide (PySem.W.findIn K (.ref (He.ga K "Fixed")) "__or__" = some (some (.ref (He.ma K (He.ga K "Fixed") "__or__")))),
  PySem.W.isFn K (.ref (He.ma K (He.ga K "Fixed") "__or__")),
  PySem.W.keepIn K (.ref (He.ma K (He.ga K "Fixed") "__or__")),
  decide (PySem.W.findIn K (.ref (He.ga K "Divided")) "__str__" = some (some (.ref (He.ma K (He.ga K "Divided") "__str__")))),
  PySem.W.isFn K (.ref (He.ma K (He.ga K "Divided") "__str__")),
  PySem.W.keepIn K (.ref (He.ma K (He.ga K "Divided") "__str__")),
  decide (PySem.W.findIn K (.ref (He.ga K "Divided")) "__and__" = some (some (.ref (He.ma K (He.ga K "Divided") "__and__")))),
  PySem.W.isFn K (.ref (He.ma K (He.ga K "Divided") "__and__")),
  PySem.W.keepIn K (.ref (He.ma K (He.ga K "Divided") "__and__")),
  decide (PySem.W.findIn K (.ref (He.ga K "Divided")) "__or__" = some (some (.ref (He.ma K (He.ga K "Divided") "__or__")))),
  PySem.W.isFn K (.ref (He.ma K (He.ga K "Divided") "__or__")),
  PySem.W.keepIn K (.ref (He.ma K (He.ga K "Divided") "__or__")),
  decide (PySem.W.findIn K (.ref (He.ga K "Lesser")) "__str__" = some (some (.ref (He.ma K (He.ga K "Lesser") "__str__")))),
  PySem.W.isFn K (.ref (He.ma K (He.ga K "Lesser") "__str__")),
  PySem.W.keepIn K (.ref (He.ma K (He.ga K "Lesser") "__str__")),
  decide (PySem.W.findIn K (.ref (He.ga K "Lesser")) "__and__" = some (some (.ref (He.ma K (He.ga K "Lesser") "__and__")))),
  PySem.W.isFn K (.ref (He.ma K (He.ga K "Lesser") "__and__"))]
def ex4 (K : PySem.W.Frag) : List Bool := [
  PySem.W.keepIn K (.ref (He.ma K (He.ga K "Lesser") "__and__")),
  decide (PySem.W.findIn K (.ref (He.ga K "Lesser")) "__or__" = some (some (.ref (He.ma K (He.ga K "Lesser") "__or__")))),
  PySem.W.isFn K (.ref (He.ma K (He.ga K "Lesser") "__or__")),
  PySem.W.keepIn K (.ref (He.ma K (He.ga K "Lesser") "__or__")),
  decide (PySem.W.findIn K (.ref (He.ga K "Greater")) "__str__" = some (some (.ref (He.ma K (He.ga K "Greater") "__str__")))),
  PySem.W.isFn K (.ref (He.ma K (He.ga K "Greater") "__str__")),
  PySem.W.keepIn K (.ref (He.ma K (He.ga K "Greater") "__str__")),
  decide (PySem.W.findIn K (.ref (He.ga K "Greater")) "__and__" = some (some (.ref (He.ma K (He.ga K "Greater") "__and__")))),
  PySem.W.isFn K (.ref (He.ma K (He.ga K "Greater") "__and__")),
  PySem.W.keepIn K (.ref (He.ma K (He.ga K "Greater") "__and__")),
  decide (PySem.W.findIn K (.ref (He.ga K "Greater")) "__or__" = some (some (.ref (He.ma K (He.ga K "Greater") "__or__")))),
  PySem.W.isFn K (.ref (He.ma K (He.ga K "Greater") "__or__")),
  PySem.W.keepIn K (.ref (He.ma K (He.ga K "Greater") "__or__")),
  decide (PySem.W.nsIn K mainGlobals "Reader" = some (some (.ref (He.ga K "Reader")))),
  PySem.W.plainGet K (He.ga K "Reader") Str.empty,
  PySem.W.hasDictIn K (He.ga K "Reader"),
  PySem.W.plainOver K (He.ga K "Reader"),
  decide (PySem.W.findIn K (.ref (He.ga K "Reader")) "__setattr__" = some (some (.builtin "object.__setattr__"))),
  PySem.W.makesIn K (He.ga K "Reader"),
  PySem.W.keepIn K (.ref (He.ga K "Reader")),
  decide (PySem.W.findIn K (.ref (He.ga K "Reader")) "_words" = some none),
  decide (PySem.W.findIn K (.ref (He.ga K "Reader")) "_row" = some none),
  decide (PySem.W.findIn K (.ref (He.ga K "Reader")) "_at" = some none),
  decide (PySem.W.findIn K (.ref (He.ga K "Reader")) "__init__" = some (some (.ref (He.ma K (He.ga K "Reader") "__init__")))),
  PySem.W.isFn K (.ref (He.ma K (He.ga K "Reader") "__init__")),
  PySem.W.keepIn K (.ref (He.ma K (He.ga K "Reader") "__init__")),
  decide (PySem.W.findIn K (.ref (He.ga K "Reader")) "at_hand" = some (some (.ref (He.ma K (He.ga K "Reader") "at_hand")))),
  PySem.W.isFn K (.ref (He.ma K (He.ga K "Reader") "at_hand")),
  PySem.W.keepIn K (.ref (He.ma K (He.ga K "Reader") "at_hand")),
  decide (PySem.W.findIn K (.ref (He.ga K "Reader")) "refuse" = some (some (.ref (He.ma K (He.ga K "Reader") "refuse")))),
  PySem.W.isFn K (.ref (He.ma K (He.ga K "Reader") "refuse")),
  PySem.W.keepIn K (.ref (He.ma K (He.ga K "Reader") "refuse")),
  decide (PySem.W.findIn K (.ref (He.ga K "Reader")) "take" = some (some (.ref (He.ma K (He.ga K "Reader") "take")))),
  PySem.W.isFn K (.ref (He.ma K (He.ga K "Reader") "take")),
  PySem.W.keepIn K (.ref (He.ma K (He.ga K "Reader") "take")),
  decide (PySem.W.findIn K (.ref (He.ga K "Reader")) "expect" = some (some (.ref (He.ma K (He.ga K "Reader") "expect")))),
  PySem.W.isFn K (.ref (He.ma K (He.ga K "Reader") "expect")),
  PySem.W.keepIn K (.ref (He.ma K (He.ga K "Reader") "expect")),
  decide (PySem.W.findIn K (.ref (He.ga K "Reader")) "finish" = some (some (.ref (He.ma K (He.ga K "Reader") "finish")))),
  PySem.W.isFn K (.ref (He.ma K (He.ga K "Reader") "finish"))]
def ex5 (K : PySem.W.Frag) : List Bool := [
  PySem.W.keepIn K (.ref (He.ma K (He.ga K "Reader") "finish")),
  decide (PySem.W.findIn K (.ref (He.ga K "Reader")) "integer" = some (some (.ref (He.ma K (He.ga K "Reader") "integer")))),
  PySem.W.isFn K (.ref (He.ma K (He.ga K "Reader") "integer")),
  PySem.W.keepIn K (.ref (He.ma K (He.ga K "Reader") "integer")),
  PySem.W.selfFirst K (He.ga K "Fixed"),
  decide (PySem.W.findIn K (.ref (He.ga K "Fixed")) "__rand__" = some none),
  decide (PySem.W.findIn K (.ref (He.ga K "Fixed")) "__ror__" = some none),
  decide (PySem.W.findIn K (.ref (He.ga K "Fixed")) "__format__" = some (some (.builtin "object.__format__"))),
  decide (PySem.W.subIn K (.ref (He.ga K "Divided")) (.ref (He.ga K "Fixed")) = some false),
  decide (PySem.W.subIn K (.ref (He.ga K "Lesser")) (.ref (He.ga K "Fixed")) = some false),
  decide (PySem.W.subIn K (.ref (He.ga K "Greater")) (.ref (He.ga K "Fixed")) = some false),
  decide ((He.ga K "Fixed") ≠ (He.ga K "Divided")),
  decide ((He.ga K "Fixed") ≠ (He.ga K "Lesser")),
  decide ((He.ga K "Fixed") ≠ (He.ga K "Greater")),
  PySem.W.selfFirst K (He.ga K "Divided"),
  decide (PySem.W.findIn K (.ref (He.ga K "Divided")) "__rand__" = some none),
  decide (PySem.W.findIn K (.ref (He.ga K "Divided")) "__ror__" = some none),
  decide (PySem.W.findIn K (.ref (He.ga K "Divided")) "__format__" = some (some (.builtin "object.__format__"))),
  decide (PySem.W.subIn K (.ref (He.ga K "Fixed")) (.ref (He.ga K "Divided")) = some false),
  decide (PySem.W.subIn K (.ref (He.ga K "Lesser")) (.ref (He.ga K "Divided")) = some false),
  decide (PySem.W.subIn K (.ref (He.ga K "Greater")) (.ref (He.ga K "Divided")) = some false),
  decide ((He.ga K "Divided") ≠ (He.ga K "Lesser")),
  decide ((He.ga K "Divided") ≠ (He.ga K "Greater")),
  PySem.W.selfFirst K (He.ga K "Lesser"),
  decide (PySem.W.findIn K (.ref (He.ga K "Lesser")) "__rand__" = some none),
  decide (PySem.W.findIn K (.ref (He.ga K "Lesser")) "__ror__" = some none),
  decide (PySem.W.findIn K (.ref (He.ga K "Lesser")) "__format__" = some (some (.builtin "object.__format__"))),
  decide (PySem.W.subIn K (.ref (He.ga K "Fixed")) (.ref (He.ga K "Lesser")) = some false),
  decide (PySem.W.subIn K (.ref (He.ga K "Divided")) (.ref (He.ga K "Lesser")) = some false),
  decide (PySem.W.subIn K (.ref (He.ga K "Greater")) (.ref (He.ga K "Lesser")) = some false),
  decide ((He.ga K "Lesser") ≠ (He.ga K "Greater")),
  PySem.W.selfFirst K (He.ga K "Greater"),
  decide (PySem.W.findIn K (.ref (He.ga K "Greater")) "__rand__" = some none),
  decide (PySem.W.findIn K (.ref (He.ga K "Greater")) "__ror__" = some none),
  decide (PySem.W.findIn K (.ref (He.ga K "Greater")) "__format__" = some (some (.builtin "object.__format__"))),
  decide (PySem.W.subIn K (.ref (He.ga K "Fixed")) (.ref (He.ga K "Greater")) = some false),
  decide (PySem.W.subIn K (.ref (He.ga K "Divided")) (.ref (He.ga K "Greater")) = some false),
  decide (PySem.W.subIn K (.ref (He.ga K "Lesser")) (.ref (He.ga K "Greater")) = some false),
  decide (PySem.W.kitOne K (.ref (He.ga K "Fixed")) (.ref (He.ga K "Divided")) = some false),
  PySem.W.notFirst K (He.ga K "Fixed") (.ref (He.ga K "Divided"))]
def ex6 (K : PySem.W.Frag) : List Bool := [
  decide (PySem.W.kitOne K (.ref (He.ga K "Fixed")) (.ref (He.ga K "Lesser")) = some false),
  PySem.W.notFirst K (He.ga K "Fixed") (.ref (He.ga K "Lesser")),
  decide (PySem.W.kitOne K (.ref (He.ga K "Fixed")) (.ref (He.ga K "Greater")) = some false),
  PySem.W.notFirst K (He.ga K "Fixed") (.ref (He.ga K "Greater")),
  decide (PySem.W.kitOne K (.ref (He.ga K "Divided")) (.ref (He.ga K "Fixed")) = some false),
  PySem.W.notFirst K (He.ga K "Divided") (.ref (He.ga K "Fixed")),
  decide (PySem.W.kitOne K (.ref (He.ga K "Divided")) (.ref (He.ga K "Lesser")) = some false),
  PySem.W.notFirst K (He.ga K "Divided") (.ref (He.ga K "Lesser")),
  decide (PySem.W.kitOne K (.ref (He.ga K "Divided")) (.ref (He.ga K "Greater")) = some false),
  PySem.W.notFirst K (He.ga K "Divided") (.ref (He.ga K "Greater")),
  decide (PySem.W.kitOne K (.ref (He.ga K "Lesser")) (.ref (He.ga K "Fixed")) = some false),
  PySem.W.notFirst K (He.ga K "Lesser") (.ref (He.ga K "Fixed")),
  decide (PySem.W.kitOne K (.ref (He.ga K "Lesser")) (.ref (He.ga K "Divided")) = some false),
  PySem.W.notFirst K (He.ga K "Lesser") (.ref (He.ga K "Divided")),
  decide (PySem.W.kitOne K (.ref (He.ga K "Lesser")) (.ref (He.ga K "Greater")) = some false),
  PySem.W.notFirst K (He.ga K "Lesser") (.ref (He.ga K "Greater")),
  decide (PySem.W.kitOne K (.ref (He.ga K "Greater")) (.ref (He.ga K "Fixed")) = some false),
  PySem.W.notFirst K (He.ga K "Greater") (.ref (He.ga K "Fixed")),
  decide (PySem.W.kitOne K (.ref (He.ga K "Greater")) (.ref (He.ga K "Divided")) = some false),
  PySem.W.notFirst K (He.ga K "Greater") (.ref (He.ga K "Divided")),
  decide (PySem.W.kitOne K (.ref (He.ga K "Greater")) (.ref (He.ga K "Lesser")) = some false),
  PySem.W.notFirst K (He.ga K "Greater") (.ref (He.ga K "Lesser")),
  decide (PySem.W.kitOne K (.ref (He.ga K "Fixed")) (.type "int") = some false),
  decide (PySem.W.kitOne K (.ref (He.ga K "Fixed")) (.type "bool") = some false),
  decide (PySem.W.kitOne K (.ref (He.ga K "Fixed")) (.type "str") = some false),
  decide (PySem.W.nsIn K mainGlobals "lcm" = some (some (.builtin "math.lcm"))),
  decide (PySem.W.nsIn K mainGlobals "BadRule" = some (some (.ref (He.ga K "BadRule")))),
  Hz.exB K (He.ga K "BadRule") "ValueError.__new__",
  decide (PySem.W.findIn K (.ref (He.ga K "BadRule")) "__setattr__" = some (some (.builtin "object.__setattr__"))),
  decide (PySem.W.subIn K (.ref (He.ga K "BadRule")) (.type "BaseException") = some true),
  decide (PySem.W.typeIn K (.ref (He.ga K "BadRule")) = some (.type "type")),
  PySem.W.keepIn K (.ref (He.ga K "BadRule")),
  decide (PySem.W.findIn K (.ref (He.ga K "BadRule")) "__init__" = some (some (.ref (He.ma K (He.ga K "BadRule") "__init__")))),
  decide (PySem.W.typeIn K (.ref (He.ma K (He.ga K "BadRule") "__init__")) = some (.type "function")),
  decide (PySem.W.findIn K (.ref (He.ga K "BadRule")) "part" = some none),
  decide (PySem.W.findIn K (.ref (He.ga K "BadRule")) "__getattribute__" = some (some (.builtin "BaseException.__getattribute__"))),
  decide (PySem.W.findIn K (.ref (He.ga K "BadRule")) "__getattr__" = some none),
  PySem.W.hasDictIn K (He.ga K "BadRule"),
  decide (PySem.W.findIn K (.ref (He.ga K "BadRule")) "__class__" = some (some (.builtin "object.__class__"))),
  decide (PySem.W.mroIn K (He.ga K "BadRule") (.type "object") = some true)]
def ex7 (K : PySem.W.Frag) : List Bool := [
  decide (PySem.W.kitOne K (.ref (He.ga K "BadRule")) (.ref (He.ga K "BadRule")) = some true),
  decide (PySem.W.exmOne K (.ref (He.ga K "BadRule")) (.ref (He.ga K "LateError")) = some true),
  decide (PySem.W.nsIn K mainGlobals "BadSize" = some (some (.ref (He.ga K "BadSize")))),
  Hz.exB K (He.ga K "BadSize") "ValueError.__new__",
  decide (PySem.W.findIn K (.ref (He.ga K "BadSize")) "__setattr__" = some (some (.builtin "object.__setattr__"))),
  decide (PySem.W.subIn K (.ref (He.ga K "BadSize")) (.type "BaseException") = some true),
  decide (PySem.W.typeIn K (.ref (He.ga K "BadSize")) = some (.type "type")),
  PySem.W.keepIn K (.ref (He.ga K "BadSize")),
  decide (PySem.W.findIn K (.ref (He.ga K "BadSize")) "__init__" = some (some (.ref (He.ma K (He.ga K "BadSize") "__init__")))),
  decide (PySem.W.typeIn K (.ref (He.ma K (He.ga K "BadSize") "__init__")) = some (.type "function")),
  decide (PySem.W.findIn K (.ref (He.ga K "BadSize")) "value" = some none),
  decide (PySem.W.findIn K (.ref (He.ga K "BadSize")) "__getattribute__" = some (some (.builtin "BaseException.__getattribute__"))),
  decide (PySem.W.findIn K (.ref (He.ga K "BadSize")) "__getattr__" = some none),
  PySem.W.hasDictIn K (He.ga K "BadSize"),
  decide (PySem.W.findIn K (.ref (He.ga K "BadSize")) "__class__" = some (some (.builtin "object.__class__"))),
  decide (PySem.W.mroIn K (He.ga K "BadSize") (.type "object") = some true),
  decide (PySem.W.kitOne K (.ref (He.ga K "BadSize")) (.ref (He.ga K "BadSize")) = some true),
  decide (PySem.W.exmOne K (.ref (He.ga K "BadSize")) (.ref (He.ga K "LateError")) = some true),
  decide (PySem.W.nsIn K mainGlobals "BadRest" = some (some (.ref (He.ga K "BadRest")))),
  Hz.exB K (He.ga K "BadRest") "ValueError.__new__",
  decide (PySem.W.findIn K (.ref (He.ga K "BadRest")) "__setattr__" = some (some (.builtin "object.__setattr__"))),
  decide (PySem.W.subIn K (.ref (He.ga K "BadRest")) (.type "BaseException") = some true),
  decide (PySem.W.typeIn K (.ref (He.ga K "BadRest")) = some (.type "type")),
  PySem.W.keepIn K (.ref (He.ga K "BadRest")),
  decide (PySem.W.findIn K (.ref (He.ga K "BadRest")) "__init__" = some (some (.ref (He.ma K (He.ga K "BadRest") "__init__")))),
  decide (PySem.W.typeIn K (.ref (He.ma K (He.ga K "BadRest") "__init__")) = some (.type "function")),
  decide (PySem.W.findIn K (.ref (He.ga K "BadRest")) "value" = some none),
  decide (PySem.W.findIn K (.ref (He.ga K "BadRest")) "__getattribute__" = some (some (.builtin "BaseException.__getattribute__"))),
  decide (PySem.W.findIn K (.ref (He.ga K "BadRest")) "__getattr__" = some none),
  PySem.W.hasDictIn K (He.ga K "BadRest"),
  decide (PySem.W.findIn K (.ref (He.ga K "BadRest")) "__class__" = some (some (.builtin "object.__class__"))),
  decide (PySem.W.mroIn K (He.ga K "BadRest") (.type "object") = some true),
  decide (PySem.W.kitOne K (.ref (He.ga K "BadRest")) (.ref (He.ga K "BadRest")) = some true),
  decide (PySem.W.exmOne K (.ref (He.ga K "BadRest")) (.ref (He.ga K "LateError")) = some true),
  decide (PySem.W.nsIn K mainGlobals "BadTotal" = some (some (.ref (He.ga K "BadTotal")))),
  Hz.exB K (He.ga K "BadTotal") "ValueError.__new__",
  decide (PySem.W.findIn K (.ref (He.ga K "BadTotal")) "__setattr__" = some (some (.builtin "object.__setattr__"))),
  decide (PySem.W.subIn K (.ref (He.ga K "BadTotal")) (.type "BaseException") = some true),
  decide (PySem.W.typeIn K (.ref (He.ga K "BadTotal")) = some (.type "type")),
  PySem.W.keepIn K (.ref (He.ga K "BadTotal"))]
def ex8 (K : PySem.W.Frag) : List Bool := [
  decide (PySem.W.findIn K (.ref (He.ga K "BadTotal")) "__init__" = some (some (.ref (He.ma K (He.ga K "BadTotal") "__init__")))),
  decide (PySem.W.typeIn K (.ref (He.ma K (He.ga K "BadTotal") "__init__")) = some (.type "function")),
  decide (PySem.W.findIn K (.ref (He.ga K "BadTotal")) "value" = some none),
  decide (PySem.W.findIn K (.ref (He.ga K "BadTotal")) "__getattribute__" = some (some (.builtin "BaseException.__getattribute__"))),
  decide (PySem.W.findIn K (.ref (He.ga K "BadTotal")) "__getattr__" = some none),
  PySem.W.hasDictIn K (He.ga K "BadTotal"),
  decide (PySem.W.findIn K (.ref (He.ga K "BadTotal")) "__class__" = some (some (.builtin "object.__class__"))),
  decide (PySem.W.mroIn K (He.ga K "BadTotal") (.type "object") = some true),
  decide (PySem.W.kitOne K (.ref (He.ga K "BadTotal")) (.ref (He.ga K "BadTotal")) = some true),
  decide (PySem.W.exmOne K (.ref (He.ga K "BadTotal")) (.ref (He.ga K "LateError")) = some true),
  decide (PySem.W.nsIn K mainGlobals "BadText" = some (some (.ref (He.ga K "BadText")))),
  Hz.exB K (He.ga K "BadText") "ValueError.__new__",
  decide (PySem.W.findIn K (.ref (He.ga K "BadText")) "__setattr__" = some (some (.builtin "object.__setattr__"))),
  decide (PySem.W.subIn K (.ref (He.ga K "BadText")) (.type "BaseException") = some true),
  decide (PySem.W.typeIn K (.ref (He.ga K "BadText")) = some (.type "type")),
  PySem.W.keepIn K (.ref (He.ga K "BadText")),
  decide (PySem.W.findIn K (.ref (He.ga K "BadText")) "__init__" = some (some (.ref (He.ma K (He.ga K "BadText") "__init__")))),
  decide (PySem.W.typeIn K (.ref (He.ma K (He.ga K "BadText") "__init__")) = some (.type "function")),
  decide (PySem.W.findIn K (.ref (He.ga K "BadText")) "line" = some none),
  decide (PySem.W.findIn K (.ref (He.ga K "BadText")) "word" = some none),
  decide (PySem.W.findIn K (.ref (He.ga K "BadText")) "__getattribute__" = some (some (.builtin "BaseException.__getattribute__"))),
  decide (PySem.W.findIn K (.ref (He.ga K "BadText")) "__getattr__" = some none),
  PySem.W.hasDictIn K (He.ga K "BadText"),
  decide (PySem.W.findIn K (.ref (He.ga K "BadText")) "__class__" = some (some (.builtin "object.__class__"))),
  decide (PySem.W.mroIn K (He.ga K "BadText") (.type "object") = some true),
  decide (PySem.W.kitOne K (.ref (He.ga K "BadText")) (.ref (He.ga K "BadText")) = some true),
  decide (PySem.W.exmOne K (.ref (He.ga K "BadText")) (.ref (He.ga K "LateError")) = some true),
  decide (PySem.W.nsIn K mainGlobals "TooMany" = some (some (.ref (He.ga K "TooMany")))),
  Hz.exB K (He.ga K "TooMany") "ValueError.__new__",
  decide (PySem.W.findIn K (.ref (He.ga K "TooMany")) "__setattr__" = some (some (.builtin "object.__setattr__"))),
  decide (PySem.W.subIn K (.ref (He.ga K "TooMany")) (.type "BaseException") = some true),
  decide (PySem.W.typeIn K (.ref (He.ga K "TooMany")) = some (.type "type")),
  PySem.W.keepIn K (.ref (He.ga K "TooMany")),
  decide (PySem.W.findIn K (.ref (He.ga K "TooMany")) "__init__" = some (some (.ref (He.ma K (He.ga K "TooMany") "__init__")))),
  decide (PySem.W.typeIn K (.ref (He.ma K (He.ga K "TooMany") "__init__")) = some (.type "function")),
  decide (PySem.W.findIn K (.ref (He.ga K "TooMany")) "what" = some none),
  decide (PySem.W.findIn K (.ref (He.ga K "TooMany")) "most" = some none),
  decide (PySem.W.findIn K (.ref (He.ga K "TooMany")) "__getattribute__" = some (some (.builtin "BaseException.__getattribute__"))),
  decide (PySem.W.findIn K (.ref (He.ga K "TooMany")) "__getattr__" = some none),
  PySem.W.hasDictIn K (He.ga K "TooMany")]
def ex9 (K : PySem.W.Frag) : List Bool := [
  decide (PySem.W.findIn K (.ref (He.ga K "TooMany")) "__class__" = some (some (.builtin "object.__class__"))),
  decide (PySem.W.mroIn K (He.ga K "TooMany") (.type "object") = some true),
  decide (PySem.W.kitOne K (.ref (He.ga K "TooMany")) (.ref (He.ga K "TooMany")) = some true),
  decide (PySem.W.exmOne K (.ref (He.ga K "TooMany")) (.ref (He.ga K "LateError")) = some true),
  decide (PySem.W.kitOne K (.ref (He.ga K "BadRule")) (.ref (He.ga K "BadSize")) = some false),
  decide (PySem.W.kitOne K (.ref (He.ga K "BadRule")) (.ref (He.ga K "BadRest")) = some false),
  decide (PySem.W.kitOne K (.ref (He.ga K "BadRule")) (.ref (He.ga K "BadTotal")) = some false),
  decide (PySem.W.kitOne K (.ref (He.ga K "BadRule")) (.ref (He.ga K "BadText")) = some false),
  decide (PySem.W.kitOne K (.ref (He.ga K "BadRule")) (.ref (He.ga K "TooMany")) = some false),
  decide (PySem.W.kitOne K (.ref (He.ga K "BadSize")) (.ref (He.ga K "BadRule")) = some false),
  decide (PySem.W.kitOne K (.ref (He.ga K "BadSize")) (.ref (He.ga K "BadRest")) = some false),
  decide (PySem.W.kitOne K (.ref (He.ga K "BadSize")) (.ref (He.ga K "BadTotal")) = some false),
  decide (PySem.W.kitOne K (.ref (He.ga K "BadSize")) (.ref (He.ga K "BadText")) = some false),
  decide (PySem.W.kitOne K (.ref (He.ga K "BadSize")) (.ref (He.ga K "TooMany")) = some false),
  decide (PySem.W.kitOne K (.ref (He.ga K "BadRest")) (.ref (He.ga K "BadRule")) = some false),
  decide (PySem.W.kitOne K (.ref (He.ga K "BadRest")) (.ref (He.ga K "BadSize")) = some false),
  decide (PySem.W.kitOne K (.ref (He.ga K "BadRest")) (.ref (He.ga K "BadTotal")) = some false),
  decide (PySem.W.kitOne K (.ref (He.ga K "BadRest")) (.ref (He.ga K "BadText")) = some false),
  decide (PySem.W.kitOne K (.ref (He.ga K "BadRest")) (.ref (He.ga K "TooMany")) = some false),
  decide (PySem.W.kitOne K (.ref (He.ga K "BadTotal")) (.ref (He.ga K "BadRule")) = some false),
  decide (PySem.W.kitOne K (.ref (He.ga K "BadTotal")) (.ref (He.ga K "BadSize")) = some false),
  decide (PySem.W.kitOne K (.ref (He.ga K "BadTotal")) (.ref (He.ga K "BadRest")) = some false),
  decide (PySem.W.kitOne K (.ref (He.ga K "BadTotal")) (.ref (He.ga K "BadText")) = some false),
  decide (PySem.W.kitOne K (.ref (He.ga K "BadTotal")) (.ref (He.ga K "TooMany")) = some false),
  decide (PySem.W.kitOne K (.ref (He.ga K "BadText")) (.ref (He.ga K "BadRule")) = some false),
  decide (PySem.W.kitOne K (.ref (He.ga K "BadText")) (.ref (He.ga K "BadSize")) = some false),
  decide (PySem.W.kitOne K (.ref (He.ga K "BadText")) (.ref (He.ga K "BadRest")) = some false),
  decide (PySem.W.kitOne K (.ref (He.ga K "BadText")) (.ref (He.ga K "BadTotal")) = some false),
  decide (PySem.W.kitOne K (.ref (He.ga K "BadText")) (.ref (He.ga K "TooMany")) = some false),
  decide (PySem.W.kitOne K (.ref (He.ga K "TooMany")) (.ref (He.ga K "BadRule")) = some false),
  decide (PySem.W.kitOne K (.ref (He.ga K "TooMany")) (.ref (He.ga K "BadSize")) = some false),
  decide (PySem.W.kitOne K (.ref (He.ga K "TooMany")) (.ref (He.ga K "BadRest")) = some false),
  decide (PySem.W.kitOne K (.ref (He.ga K "TooMany")) (.ref (He.ga K "BadTotal")) = some false),
  decide (PySem.W.kitOne K (.ref (He.ga K "TooMany")) (.ref (He.ga K "BadText")) = some false),
  Hz.intB K "MOST_FACTOR" (24),
  Hz.intB K "MOST_START" (1000),
  Hz.intB K "GREATEST_SIZE" (10 ^ 30),
  Hz.intB K "MOST_PARTS" (6),
  Hz.intB K "MOST_RESIDUES" (5000),
  Hz.intB K "PIECE_FIGURES" (60)]
def ex10 (K : PySem.W.Frag) : List Bool := [
  Hz.intB K "PIECE_WORTH" (10 ^ 60),
  decide (PySem.W.nsIn K mainGlobals "SIGNS" = some (some (.ref (He.ga K "SIGNS")))),
  Hz.tupB K (He.ga K "SIGNS") [.str "&", .str "|"],
  decide (PySem.W.nsIn K mainGlobals "int" = some none),
  decide (PySem.W.nsIn K mainGlobals "list" = some none),
  decide (PySem.W.nsIn K mainGlobals "len" = some none),
  decide (PySem.W.nsIn K mainGlobals "abs" = some none),
  decide (PySem.W.nsIn K mainGlobals "bool" = some none),
  decide (PySem.W.nsIn K mainGlobals "str" = some none),
  decide (PySem.W.nsIn K mainGlobals "isinstance" = some none),
  decide (PySem.W.nsIn K mainGlobals "range" = some none),
  decide (PySem.W.nsIn K mainGlobals "repr" = some none),
  decide (PySem.W.nsIn K mainGlobals "all" = some none),
  decide (PySem.W.tabIn K "_law_read_right" = some (He.cT K ("_law_read_right", none))),
  decide (PySem.W.tabIn K "law" = some (He.cT K ("law", none)))]
def exK (K : PySem.W.Frag) : List (List Bool) := [ex0 K, ex1 K, ex2 K, ex3 K, ex4 K, ex5 K, ex6 K, ex7 K, ex8 K, ex9 K, ex10 K]
def hAS : List Addr := (mainGlobals :: (List.range 1200).reverse)
abbrev hR : PySem.W.OpenRow := PySem.W.OpenLaw.row PySem.Challenge.rw_latechunks_k49_texts_that_are_no_rules
abbrev hkZ : PySem.W.Hook := Hz.hookZ hAS hfn htf exK
def hob (s : PySem.W.SharedT) : List He.FnW × Bool := Hz.obsZ hAS hfn htf exK (HandSHeadRun.getT s)
theorem hob_eq (s : PySem.W.SharedT) : hob s = hkZ.obs s.abs := Hz.obsZ_eq (HandSHeadRun.getT_eq s)
set_option maxHeartbeats 0
theorem map3 {α β γ δ : Type _} {o : Option α} {f : α → β} {g : α → γ} {k : α → δ} {b : β} {c : γ} {d : δ} (h1 : o.map (fun x => (f x, g x)) = some (b, c)) (h2 : o.map k = some d) : o.map (fun x => (f x, g x, k x)) = some (b, c, d) := by
  cases o with
  | none => cases h1
  | some x =>
    have e1 : (f x, g x) = (b, c) := Option.some.inj h1
    have e2 : k x = d := Option.some.inj h2
    exact congrArg some (Prod.ext (Prod.mk.inj e1).1 (Prod.ext (Prod.mk.inj e1).2 e2))
theorem run_1a (w : World) : (HandSHeadRun.wholeF (fun p => HandSHeadRun.stepQ (HandSHeadRun.denQ HandSHeadRun.tabQ) p w) HandSHeadRun.fenceQ 12000 hR.prog).map (fun x => (HandSHeadRun.looksF hR.prog x.1.heap x.2.abs, HandSHeadRun.seenQ (PySem.W.view hR.prog [0, 56]) ((["_wall", "GREATEST_SIZE", "is_integer", "is_within", "is_size", "LateError", "BadSize", "BadTotal", "BadRest", "BadRule", "BadText", "TooMany", "PIECE_FIGURES", "PIECE_WORTH", "integer_of", "number_of", "Reader", "MOST_PARTS", "MOST_FACTOR", "MOST_START", "SIGNS", "is_factor", "is_start", "read_rule", "read_part", "read_sign", "MOST_RESIDUES", "Rule", "Fixed", "Divided"] : List PySem.Str) ++ (["Lesser", "Greater", "check_rest", "check_joined", "check_modulus", "chunk_for", "rule_of", "_law_pen", "_law_draw", "_law_pick", "_law_leaf", "_law_plain", "_law_text", "_law_heard", "_law_is_number", "_law_rule_end", "_law_due", "_law_read_right", "_law_bent"] : List PySem.Str)) (PySem.importedModules hR.prog.main.body) (fun s => PySem.W.xlAt (PySem.W.view hR.prog [0, 56]) [] s && PySem.W.recOk hR.toRowW.records s) x.2.abs)) = some (true, (PySem.W.openGood (PySem.W.view hR.prog [0, 56]) ((["_wall", "GREATEST_SIZE", "is_integer", "is_within", "is_size", "LateError", "BadSize", "BadTotal", "BadRest", "BadRule", "BadText", "TooMany", "PIECE_FIGURES", "PIECE_WORTH", "integer_of", "number_of", "Reader", "MOST_PARTS", "MOST_FACTOR", "MOST_START", "SIGNS", "is_factor", "is_start", "read_rule", "read_part", "read_sign", "MOST_RESIDUES", "Rule", "Fixed", "Divided"] : List PySem.Str) ++ (["Lesser", "Greater", "check_rest", "check_joined", "check_modulus", "chunk_for", "rule_of", "_law_pen", "_law_draw", "_law_pick", "_law_leaf", "_law_plain", "_law_text", "_law_heard", "_law_is_number", "_law_rule_end", "_law_due", "_law_read_right", "_law_bent"] : List PySem.Str)))) := by
  kernel_rfl
theorem run_1b (w : World) : (HandSHeadRun.wholeF (fun p => HandSHeadRun.stepQ (HandSHeadRun.denQ HandSHeadRun.tabQ) p w) HandSHeadRun.fenceQ 12000 hR.prog).map (fun x => hfn.map fun d => Hz.fnAt (He.frT (HandSHeadRun.getT x.2) hAS) (d.adr (He.frT (HandSHeadRun.getT x.2) hAS))) = some (hfn.map Hz.DefA.val) := by
  kernel_rfl
theorem run_1 (w : World) : (HandSHeadRun.wholeF (fun p => HandSHeadRun.stepQ (HandSHeadRun.denQ HandSHeadRun.tabQ) p w) HandSHeadRun.fenceQ 12000 hR.prog).map (fun x => (HandSHeadRun.looksF hR.prog x.1.heap x.2.abs, HandSHeadRun.seenQ (PySem.W.view hR.prog [0, 56]) ((["_wall", "GREATEST_SIZE", "is_integer", "is_within", "is_size", "LateError", "BadSize", "BadTotal", "BadRest", "BadRule", "BadText", "TooMany", "PIECE_FIGURES", "PIECE_WORTH", "integer_of", "number_of", "Reader", "MOST_PARTS", "MOST_FACTOR", "MOST_START", "SIGNS", "is_factor", "is_start", "read_rule", "read_part", "read_sign", "MOST_RESIDUES", "Rule", "Fixed", "Divided"] : List PySem.Str) ++ (["Lesser", "Greater", "check_rest", "check_joined", "check_modulus", "chunk_for", "rule_of", "_law_pen", "_law_draw", "_law_pick", "_law_leaf", "_law_plain", "_law_text", "_law_heard", "_law_is_number", "_law_rule_end", "_law_due", "_law_read_right", "_law_bent"] : List PySem.Str)) (PySem.importedModules hR.prog.main.body) (fun s => PySem.W.xlAt (PySem.W.view hR.prog [0, 56]) [] s && PySem.W.recOk hR.toRowW.records s) x.2.abs, hfn.map fun d => Hz.fnAt (He.frT (HandSHeadRun.getT x.2) hAS) (d.adr (He.frT (HandSHeadRun.getT x.2) hAS)))) = some (true, (PySem.W.openGood (PySem.W.view hR.prog [0, 56]) ((["_wall", "GREATEST_SIZE", "is_integer", "is_within", "is_size", "LateError", "BadSize", "BadTotal", "BadRest", "BadRule", "BadText", "TooMany", "PIECE_FIGURES", "PIECE_WORTH", "integer_of", "number_of", "Reader", "MOST_PARTS", "MOST_FACTOR", "MOST_START", "SIGNS", "is_factor", "is_start", "read_rule", "read_part", "read_sign", "MOST_RESIDUES", "Rule", "Fixed", "Divided"] : List PySem.Str) ++ (["Lesser", "Greater", "check_rest", "check_joined", "check_modulus", "chunk_for", "rule_of", "_law_pen", "_law_draw", "_law_pick", "_law_leaf", "_law_plain", "_law_text", "_law_heard", "_law_is_number", "_law_rule_end", "_law_due", "_law_read_right", "_law_bent"] : List PySem.Str))), hfn.map Hz.DefA.val) := map3 (run_1a w) (run_1b w)
theorem all2 {α β : Type _} {o : Option α} {l : List β} {p : α → β → Bool} (n : Nat) (h1 : o.map (fun x => (l.take n).all (p x)) = some true) (h2 : o.map (fun x => (l.drop n).all (p x)) = some true) : o.map (fun x => l.all (p x)) = some true := by
  cases o with
  | none => cases h1
  | some x =>
    have e1 : (l.take n).all (p x) = true := Option.some.inj h1
    have e2 : (l.drop n).all (p x) = true := Option.some.inj h2
    show some (l.all (p x)) = some true
    have e := List.take_append_drop n l
    rw [← e, List.all_append, e1, e2]; rfl
theorem run_2a (w : World) : (HandSHeadRun.wholeF (fun p => HandSHeadRun.stepQ (HandSHeadRun.denQ HandSHeadRun.tabQ) p w) HandSHeadRun.fenceQ 12000 hR.prog).map (fun x => (hfn.take 28).all fun d => d.ok (He.frT (HandSHeadRun.getT x.2) hAS)) = some true := by
  kernel_rfl
theorem run_2b (w : World) : (HandSHeadRun.wholeF (fun p => HandSHeadRun.stepQ (HandSHeadRun.denQ HandSHeadRun.tabQ) p w) HandSHeadRun.fenceQ 12000 hR.prog).map (fun x => (hfn.drop 28).all fun d => d.ok (He.frT (HandSHeadRun.getT x.2) hAS)) = some true := by
  kernel_rfl
theorem run_2 (w : World) : (HandSHeadRun.wholeF (fun p => HandSHeadRun.stepQ (HandSHeadRun.denQ HandSHeadRun.tabQ) p w) HandSHeadRun.fenceQ 12000 hR.prog).map (fun x => hfn.all fun d => d.ok (He.frT (HandSHeadRun.getT x.2) hAS)) = some true := all2 28 (run_2a w) (run_2b w)
theorem run_3 (w : World) : (HandSHeadRun.wholeF (fun p => HandSHeadRun.stepQ (HandSHeadRun.denQ HandSHeadRun.tabQ) p w) HandSHeadRun.fenceQ 12000 hR.prog).map (fun x => (exK (He.frT (HandSHeadRun.getT x.2) hAS)).all (fun l => l.all id) && He.tabsB (HandSHeadRun.getT x.2) htf (He.frT (HandSHeadRun.getT x.2) hAS)) = some true := by
  kernel_rfl
theorem head_run (w : World) : HandSHeadRun.RunEqI hR (PySem.W.view hR.prog [0, 56]) hkZ hob 12000 ((["_wall", "GREATEST_SIZE", "is_integer", "is_within", "is_size", "LateError", "BadSize", "BadTotal", "BadRest", "BadRule", "BadText", "TooMany", "PIECE_FIGURES", "PIECE_WORTH", "integer_of", "number_of", "Reader", "MOST_PARTS", "MOST_FACTOR", "MOST_START", "SIGNS", "is_factor", "is_start", "read_rule", "read_part", "read_sign", "MOST_RESIDUES", "Rule", "Fixed", "Divided"] : List PySem.Str) ++ (["Lesser", "Greater", "check_rest", "check_joined", "check_modulus", "chunk_for", "rule_of", "_law_pen", "_law_draw", "_law_pick", "_law_leaf", "_law_plain", "_law_text", "_law_heard", "_law_is_number", "_law_rule_end", "_law_due", "_law_read_right", "_law_bent"] : List PySem.Str)) w := by
  unfold HandSHeadRun.RunEqI
  exact Hz.comb (run_1 w) (run_2 w) (run_3 w)
end Lw
namespace Lw
open PySem PySem.Spec PyProof.Rows L2
def top (i : Nat) : Stmt := PySem.Challenge.pw_latechunks_k49_texts_that_are_no_rules.main.body.getD i (.Pass ⟨0, 0, 0, 0⟩)

theorem stir {x s : Int} (hx0 : 0 ≤ x) (hx : x < 2147483648) (hs0 : 0 ≤ s) (hs : s ≤ 1000000) (e f g : Int) (he0 : 0 ≤ e) (he : e ≤ 1000) (hf0 : 0 ≤ f) (hf : f ≤ 1000000) (hg0 : 0 ≤ g) (hg : g ≤ 1000000) :
    (x * (2 * s + e) + f * s * s + g).natAbs < 2 ^ 64 := by
  have a0 : 0 ≤ x * (2 * s + e) := Int.mul_nonneg hx0 (by omega)
  have a1 : x * (2 * s + e) ≤ 2147483648 * 2001000 := Int.mul_le_mul (by omega) (by omega) (by omega) (by omega)
  have b0 : 0 ≤ f * s := Int.mul_nonneg hf0 hs0
  have b1 : f * s ≤ 1000000 * 1000000 := Int.mul_le_mul hf hs hs0 (by omega)
  have c0 : 0 ≤ f * s * s := Int.mul_nonneg b0 hs0
  have c1 : f * s * s ≤ 1000000 * 1000000 * 1000000 := Int.mul_le_mul b1 hs hs0 (by omega)
  omega
theorem fsmall {f s : Int} (hf0 : 0 ≤ f) (hf : f ≤ 1000000) (hs0 : 0 ≤ s) (hs : s ≤ 1000000) : -(2 ^ 64) < f * s ∧ f * s < 2 ^ 64 := by
  have b0 : 0 ≤ f * s := Int.mul_nonneg hf0 hs0
  have b1 : f * s ≤ 1000000 * 1000000 := Int.mul_le_mul hf hs hs0 (by omega)
  omega
theorem fm0 {a d : Int} (hd : 0 < d) : 0 ≤ Int.fmod a d := Int.fmod_nonneg_of_pos _ hd
theorem fm1 {a d : Int} (hd : 0 < d) (h : d ≤ 2147483648) : Int.fmod a d < 2147483648 := Int.lt_of_lt_of_le (Int.fmod_lt_of_pos _ hd) h
theorem fm64 {a d : Int} (hd : 0 < d) (h : d ≤ 2147483648) : -(2 ^ 64) < Int.fmod a d ∧ Int.fmod a d < 2 ^ 64 := by
  have h0 := fm0 (a := a) hd
  have h1 := fm1 (a := a) hd h
  omega
theorem ite_false_of {c : Bool} {A B : Prop} (h : ¬ c = true) (hb : B) : if c = true then A else B := by rw [if_neg h]; exact hb
/-- behind an if: what both ways end in -/
theorem join_if {t u : TS} {D : Ends} {b : Bool} {σ : L2.St} {H : Hp} (Pj : L2.St → Hp → Prop) (hr : ∀ σ' H', Pj σ' H' → D.nx σ' H') (h : (∀ σ' H', Pj σ' H' → D.nx σ' H') → if b = true then t D σ H else u D σ H) : if b = true then t D σ H else u D σ H := h hr
theorem lay_ints : ∀ xs : List Int, PyData.canLayAll0 (xs.map PyData.int) = true
  | [] => rfl
  | x :: r => by
    show (PyData.canLay0 (.int x) && PyData.canLayAll0 (r.map PyData.int)) = true
    rw [lay_ints r]; rfl
theorem depth_ints : ∀ xs : List Int, PyData.depthAll (xs.map PyData.int) = 0
  | [] => rfl
  | x :: r => by
    show max (PyData.depth (.int x)) (PyData.depthAll (r.map PyData.int)) = 0
    rw [depth_ints r]; rfl
theorem shaped_ints (xs : List Int) : SeqAt.shaped (.list (xs.map PyData.int)) = true := by
  unfold SeqAt.shaped
  have h1 : PyData.canLay0 (.list (xs.map PyData.int)) = true := lay_ints xs
  have h2 : PyData.depth (.list (xs.map PyData.int)) = 1 := by
    show PyData.depthAll (xs.map PyData.int) + 1 = 1
    rw [depth_ints]
  rw [h1, h2]; rfl
theorem dp_ints {K : PySem.W.Frag} {H : Hp} : ∀ xs : List Int, DpAll K H (xs.map V.int) (xs.map PyData.int)
  | [] => .nil
  | x :: r => .cons (.int x) (dp_ints r)
theorem eqv_nil (xs : List Int) : PyData.eqv (.list (xs.map PyData.int)) (.list []) = decide (xs = []) := by
  cases xs <;> rfl
abbrev sPen : Stmt := top 44
abbrev sDraw : Stmt := top 45
abbrev sPick : Stmt := top 46
/-- all but what stands at p is as it was -/
def Kp (p : Addr) (H H' : Hp) : Prop := ∀ b o, b ≠ p → H b = some o → H' b = some o
/-- a pen at p: its numbers at l, its place, its rest -/
structure PenAt (H : Hp) (p l : Addr) (xs : List Int) (s g : Int) : Prop where
  at_ : H p = some (.lst [.ref l, .int s, .int g])
  ls : H l = some (.lst (xs.map V.int))
  ne : p ≠ l
  s0 : 0 ≤ s
  g0 : 0 ≤ g
def Pen (H : Hp) (p l : Addr) (n : Nat) : Prop := ∃ xs s g, PenAt H p l xs s g ∧ s ≤ n
def spDraw : Sp := fun vs H Q _ => ∃ (p l : Addr) (n : Nat) (m : Int), vs = [.ref p, .int m] ∧ 0 < m ∧ m < 2 ^ 200 ∧ Pen H p l n ∧ n ≤ 1000000 ∧
  ∀ (r : Int) (H' : Hp), 0 ≤ r → r < m → Pen H' p l (n + 1) → Kp p H H' → Q (.int r) H'
structure Txt0 (mg : Str → Option Value) : Prop where
  n_int : mg "int" = none
  n_list : mg "list" = none
  n_len : mg "len" = none
  n_abs : mg "abs" = none
section
variable {P : Program} {w : World} {K : PySem.W.Frag} {mg : Str → Option Value} {base : Heap}
theorem scDraw : FnScope ["_law_pen_here", "_law_many", "_law_digit", "_law_spot", "_law_cell", "_law_great", "_law_stirred"] ["_law_pen_here", "_law_many"] (C8.fnScope sDraw) := C8.fnScope_by (by decide +kernel)
theorem cal_draw {f : Addr} {fd : FuncData} (F : C8.Def K mg "_law_draw" sDraw f fd) (b : Binds K fd ["_law_pen_here", "_law_many"] []) (T : Txt0 mg) : C8.Cal P w K mg base 1 "_law_draw" spDraw [] := by
  refine C8.cal0 F b .nil scDraw (fun vs H Q E h => ?_) (fun cdv A outer st H vs Q E hr h => ?_)
  · obtain ⟨p, l, n, m, rfl, _⟩ := h
    rfl
  · obtain ⟨p, l, n, m, rfl, hm, hm2, ⟨xs, s, g, ⟨hp, hl, ne, s0, g0⟩, hs⟩, hn, k⟩ := h
    refine ⟨_, (pss_cons (ps_if (pt_cmpR op_gt (pe_ix ix_list (pv 0) pe_int (fun _ _ => rfl)) pe_int (nomark _)) (pss_cons (ps_set (i := 2) scDraw.nd rfl (Or.inl rfl) (pe_op op_modN (pe_callTy call_int1 (by rfl) T.n_int (by decide +kernel) (pa_cons (pe_ix ix_list (pv 0) pe_int (fun _ _ => rfl)) pa_nil)) (pv 1)))
  (pss_cons (ps_asg (pe_op op_fdivW (pe_callTy call_int1 (by rfl) T.n_int (by decide +kernel) (pa_cons (pe_ix ix_list (pv 0) pe_int (fun _ _ => rfl)) pa_nil)) (pv 1)) (pg_sub (pv 0) pe_int set_list))
  (pss_one (ps_ret (pv 2))))) pss_nil)
  (pss_cons (ps_set (i := 3) scDraw.nd rfl (Or.inl rfl) (pe_ix ix_list (pv 0) pe_int (fun _ _ => rfl)))
  (pss_cons (ps_asg (pe_op op_add (pv 3) pe_int) (pg_sub (pv 0) pe_int set_list))
  (pss_cons (ps_set (i := 4) scDraw.nd rfl (Or.inl rfl) (pe_op op_add (pe_op op_mul pe_int (pv 3)) pe_int))
  (pss_cons (ps_if (pt_cmpR (op_neD hr.units) (pe_ix ix_list (pv 0) pe_int (fun _ _ => rfl)) (pe_lst pa_nil) (nomark _)) (pss_one (ps_set (i := 4) scDraw.nd rfl (Or.inl rfl) (pe_ix ix_list (pe_ix ix_list (pv 0) pe_int (fun _ _ => rfl)) (pe_op op_modN (pe_callTy call_int1 (by rfl) T.n_int (by decide +kernel) (pa_cons (pv 3) pa_nil)) (pe_callB call_len_seq (by rfl) T.n_len (by decide +kernel) (pa_cons (pe_ix ix_list (pv 0) pe_int (fun _ _ => rfl)) pa_nil))) (fun _ _ => rfl)))) pss_nil)
  (pss_cons (ps_if (PW.pt (pw_and (pt_cmpR op_lt (pv 3) (pe_callB call_len_seq (by rfl) T.n_len (by decide +kernel) (pa_cons (pe_ix ix_list (pv 0) pe_int (fun _ _ => rfl)) pa_nil)) (nomark _)) (pw_and1 (pt_cmpR op_ge (pe_callB call_abs (by rfl) T.n_abs (by decide +kernel) (pa_cons (pv 4) pa_nil)) (pe_op op_pow pe_int pe_int) (nomark _))))) (pss_cons (ps_set (i := 5) scDraw.nd rfl (Or.inl rfl) (pe_op op_add (pe_op op_mul pe_int (pe_op op_sub (pe_callB call_abs (by rfl) T.n_abs (by decide +kernel) (pa_cons (pv 4) pa_nil)) (pe_op op_pow pe_int pe_int))) (pe_callTy call_int1 (by rfl) T.n_int (by decide +kernel) (pa_cons (pe_cmpR op_lt (pv 4) pe_int (nomark _)) pa_nil))))
  (pss_cons (ps_asg (pe_op op_fdivW (pe_callTy call_int1 (by rfl) T.n_int (by decide +kernel) (pa_cons (pv 5) pa_nil)) (pv 1)) (pg_sub (pv 0) pe_int set_list))
  (pss_one (ps_ret (pe_op op_modN (pe_callTy call_int1 (by rfl) T.n_int (by decide +kernel) (pa_cons (pv 5) pa_nil)) (pv 1)))))) pss_nil)
  (pss_cons (ps_set (i := 6) scDraw.nd rfl (Or.inl rfl) (pe_op op_modN (pe_callTy call_int1 (by rfl) T.n_int (by decide +kernel) (pa_cons (pe_op op_pow (pe_op op_add (pe_op op_add (pe_op op_modN (pe_callTy call_int1 (by rfl) T.n_int (by decide +kernel) (pa_cons (pv 4) pa_nil)) pe_int) (pe_op op_mul pe_int (pv 3))) pe_int) pe_int) pa_nil)) pe_int))
  (pss_cons (ps_set (i := 6) scDraw.nd rfl (Or.inl rfl) (pe_op op_modN (pe_callTy call_int1 (by rfl) T.n_int (by decide +kernel) (pa_cons (pe_op op_pow (pe_op op_add (pe_op op_add (pe_op op_mul (pv 6) (pe_op op_add (pe_op op_mul pe_int (pv 3)) pe_int)) (pe_op op_mul (pe_op op_mul pe_int (pv 3)) (pv 3))) pe_int) pe_int) pa_nil)) pe_int))
  (pss_one (ps_ret (pe_op op_modN (pe_callTy call_int1 (by rfl) T.n_int (by decide +kernel) (pa_cons (pe_op op_fdivW (pv 6) pe_int) pa_nil)) (pv 1)))))))))))), ?_⟩
    have hmb : CDivW 0 m := wide_div (b := 200) hm (by omega) (by decide) (by decide)
    refine ⟨_, rfl, p, _, _, _, rfl, rfl, SqL.of hp, rfl, _, _, rfl, rfl, _, rfl, ite2 (fun c => ?_) (fun c => ?_)⟩
    · -- the rest is above 0: a digit of it
      refine ⟨_, rfl, p, _, _, _, rfl, rfl, SqL.of hp, rfl, Or.inl ⟨_, rfl, ?_⟩⟩
      refine ⟨_, rfl, _, _, rfl, rfl, (by omega), ?_⟩
      refine ⟨_, rfl, p, _, _, _, rfl, rfl, SqL.of hp, rfl, Or.inl ⟨_, rfl, ?_⟩⟩
      refine ⟨_, rfl, _, _, rfl, rfl, hmb, ?_⟩
      refine ⟨_, rfl, p, _, _, _, rfl, rfl, hp, rfl, ?_⟩
      refine ⟨_, rfl, ?_⟩
      refine k _ _ (Int.fmod_nonneg_of_pos _ hm) (Int.fmod_lt_of_pos _ hm) ⟨xs, s, g / m, ⟨?_, ?_, ne, s0, Int.ediv_nonneg g0 (Int.le_of_lt hm)⟩, by omega⟩ fun b o hb e => ?_
      · rw [upd_same]; rfl
      · rw [upd_ne (Ne.symm ne)]; exact hl
      · rw [upd_ne hb]; exact e
    · -- the next place
      refine ⟨_, rfl, p, _, _, _, rfl, rfl, SqL.of hp, rfl, ?_⟩
      refine ⟨_, rfl, _, _, rfl, rfl, _, rfl, p, _, _, _, rfl, rfl, hp, rfl, ?_⟩
      have hp1 : upd H p (.lst [V.ref l, V.int (s + 1), V.int g]) p = some (.lst [V.ref l, V.int (s + 1), V.int g]) := upd_same
      have hl1 : upd H p (.lst [V.ref l, V.int (s + 1), V.int g]) l = some (.lst (xs.map V.int)) := by rw [upd_ne (Ne.symm ne)]; exact hl
      have k1 : Kp p H (upd H p (.lst [V.ref l, V.int (s + 1), V.int g])) := fun b o hb e => by rw [upd_ne hb]; exact e
      show tSeq _ _ _ _ (upd H p (.lst [V.ref l, V.int (s + 1), V.int g]))
      generalize upd H p (.lst [V.ref l, V.int (s + 1), V.int g]) = H1 at hp1 hl1 k1 ⊢
      have fin : ∀ (r g' : Int) (H' : Hp), 0 ≤ r → r < m → 0 ≤ g' → H' p = some (.lst [V.ref l, V.int (s + 1), V.int g']) → Kp p H1 H' → Q (.int r) H' := fun r g' H' h0 h1 h2 h3 h4 =>
        k r H' h0 h1 ⟨xs, s + 1, g', ⟨h3, h4 _ _ (Ne.symm ne) hl1, ne, by omega, h2⟩, by omega⟩ fun b o hb e => h4 b o hb (k1 b o hb e)
      refine ⟨_, rfl, _, _, rfl, rfl, Or.inl (by decide), _, _, rfl, rfl, ?_⟩
      refine ⟨_, rfl, p, _, _, _, rfl, rfl, SqL.of hp1, rfl, (by show 0 ≤ sizeLine; decide), fun q hq => ?_⟩
      have lq : l ≠ q := ne_of_none hl1 hq
      have pq : p ≠ q := ne_of_none hp1 hq
      have hl2 : upd H1 q (.lst []) l = some (.lst (xs.map V.int)) := by rw [upd_ne lq]; exact hl1
      have hp2 : upd H1 q (.lst []) p = some (.lst [V.ref l, V.int (s + 1), V.int g]) := by rw [upd_ne pq]; exact hp1
      have k2 : Kp p H1 (upd H1 q (.lst [])) := fun b o hb e => by rw [upd_ne (ne_of_none e hq)]; exact e
      refine ⟨.list (xs.map PyData.int), .list [], .lst (SqL.of hl2) (dp_ints xs), .lst (SqL.of upd_same) .nil, shaped_ints xs, rfl, _, rfl, ?_⟩
      generalize upd H1 q (.lst []) = H2 at hl2 hp2 k2 ⊢
      refine join_if (fun σ' H' => ∃ cell : Int, σ' = [some (V.ref p), some (V.int m), none, some (V.int s), some (V.int cell), none, none] ∧ H' = H2) ?rest (fun go => ?_)
      case rest =>
        rintro σ' H' ⟨cell, rfl, rfl⟩
        refine ⟨_, rfl, _, rfl, p, _, _, _, rfl, rfl, SqL.of hp2, rfl, l, xs.map V.int, rfl, .inl (SqL.of hl2), _, _, rfl, rfl, _, rfl, ?_⟩
        refine ite2 (fun c2 => ?_) (fun c2 => ?_)
        · refine ⟨_, rfl, _, rfl, _, _, rfl, rfl, ⟨by decide, by decide, by decide⟩, _, _, rfl, rfl, _, rfl, ?_⟩
          refine ite2 (fun c3 => ?_) (fun c3 => ?_)
          · refine ⟨_, rfl, _, rfl, _, _, rfl, rfl, ⟨by decide, by decide, by decide⟩, _, _, rfl, rfl, _, _, rfl, rfl, Or.inl (by decide), _, rfl, _, _, rfl, rfl, Or.inr ⟨_, rfl, _, _, rfl, rfl, ?_⟩⟩
            have hge : (10 : Int) ^ (18 : Int).toNat ≤ (if cell < 0 then -cell else cell) := of_decide_eq_true c3
            generalize hG : 2 * ((if cell < 0 then -cell else cell) - 10 ^ (18 : Int).toNat) + (if decide (cell < 0) = true then (1 : Int) else 0) = G
            have hG0 : 0 ≤ G := by
              rw [← hG]
              have h1 : 0 ≤ (if decide (cell < 0) = true then (1 : Int) else 0) := by split <;> decide
              omega
            refine ⟨_, rfl, Or.inl ⟨_, rfl, _, rfl, _, _, rfl, rfl, (by exact hmb), _, rfl, p, _, _, _, rfl, rfl, hp2, rfl, ?_⟩⟩
            refine ⟨_, rfl, Or.inl ⟨_, rfl, _, rfl, _, _, rfl, rfl, (by show ¬ (_ = _); omega), ?_⟩⟩
            refine fin _ (G / m) _ (fm0 hm) (Int.fmod_lt_of_pos _ hm) (Int.ediv_nonneg hG0 (Int.le_of_lt hm)) ?_ fun b o hb e => ?_
            · rw [upd_same, ← hG]; rfl
            · rw [upd_ne hb]; exact k2 b o hb e
          · refine ⟨_, rfl, Or.inl ⟨_, rfl, ?_⟩⟩
            refine ⟨_, _, rfl, rfl, (by show ¬ (_ = _); decide), _, rfl, _, _, rfl, rfl, Or.inl (by decide), _, _, rfl, rfl, _, _, rfl, rfl, ?_⟩
            generalize hz : Int.fmod cell _ = z
            have hz0 : 0 ≤ z := by rw [← hz]; exact fm0 (by decide)
            have hz1 : z < 2147483648 := by rw [← hz]; exact fm1 (by decide) (by decide)
            refine ⟨_, _, rfl, rfl, ⟨by decide, by decide, by omega⟩, Or.inl ⟨_, rfl, ?_⟩⟩
            refine ⟨_, _, rfl, rfl, (by show ¬ (_ = _); decide), ?_⟩
            refine ⟨_, rfl, _, rfl, _, _, rfl, rfl, Or.inl (by decide), _, _, rfl, rfl, _, _, rfl, rfl, Or.inl (by exact fm64 (by decide) (by decide)), ?_⟩
            refine ⟨_, rfl, _, _, rfl, rfl, Or.inl (by decide), _, rfl, _, _, rfl, rfl, Or.inl (by exact fsmall (by decide) (by decide) s0 (by omega)), _, _, rfl, rfl, _, _, rfl, rfl, ?_⟩
            refine ⟨_, _, rfl, rfl, ⟨by decide, by decide, by exact stir (fm0 (by decide)) (fm1 (by decide) (by decide)) s0 (by omega) _ _ _ (by decide) (by decide) (by decide) (by decide) (by decide) (by decide)⟩, Or.inl ⟨_, rfl, ?_⟩⟩
            refine ⟨_, _, rfl, rfl, (by show ¬ (_ = _); decide), ?_⟩
            refine ⟨_, rfl, _, _, rfl, rfl, ⟨by decide, by decide⟩, Or.inl ⟨_, rfl, _, rfl, _, _, rfl, rfl, (by show ¬ (_ = _); omega), ?_⟩⟩
            exact fin _ g _ (fm0 hm) (Int.fmod_lt_of_pos _ hm) g0 hp2 k2
        · refine iteF ?_
          refine ⟨_, rfl, Or.inl ⟨_, rfl, ?_⟩⟩
          refine ⟨_, _, rfl, rfl, (by show ¬ (_ = _); decide), _, rfl, _, _, rfl, rfl, Or.inl (by decide), _, _, rfl, rfl, _, _, rfl, rfl, ?_⟩
          generalize hz : Int.fmod cell _ = z
          have hz0 : 0 ≤ z := by rw [← hz]; exact fm0 (by decide)
          have hz1 : z < 2147483648 := by rw [← hz]; exact fm1 (by decide) (by decide)
          refine ⟨_, _, rfl, rfl, ⟨by decide, by decide, by omega⟩, Or.inl ⟨_, rfl, ?_⟩⟩
          refine ⟨_, _, rfl, rfl, (by show ¬ (_ = _); decide), ?_⟩
          refine ⟨_, rfl, _, rfl, _, _, rfl, rfl, Or.inl (by decide), _, _, rfl, rfl, _, _, rfl, rfl, Or.inl (by exact fm64 (by decide) (by decide)), ?_⟩
          refine ⟨_, rfl, _, _, rfl, rfl, Or.inl (by decide), _, rfl, _, _, rfl, rfl, Or.inl (by exact fsmall (by decide) (by decide) s0 (by omega)), _, _, rfl, rfl, _, _, rfl, rfl, ?_⟩
          refine ⟨_, _, rfl, rfl, ⟨by decide, by decide, by exact stir (fm0 (by decide)) (fm1 (by decide) (by decide)) s0 (by omega) _ _ _ (by decide) (by decide) (by decide) (by decide) (by decide) (by decide)⟩, Or.inl ⟨_, rfl, ?_⟩⟩
          refine ⟨_, _, rfl, rfl, (by show ¬ (_ = _); decide), ?_⟩
          refine ⟨_, rfl, _, _, rfl, rfl, ⟨by decide, by decide⟩, Or.inl ⟨_, rfl, _, rfl, _, _, rfl, rfl, (by show ¬ (_ = _); omega), ?_⟩⟩
          exact fin _ g _ (fm0 hm) (Int.fmod_lt_of_pos _ hm) g0 hp2 k2
      refine ite2 (fun c1 => ?_) (fun c1 => ?_)
      · rw [eqv_nil] at c1
        have hx : xs ≠ [] := by simpa using c1
        have hlen : 0 < xs.length := List.length_pos_iff.mpr hx
        refine ⟨_, rfl, p, _, _, _, rfl, rfl, SqL.of hp2, rfl, ?_⟩
        refine ⟨_, rfl, Or.inl ⟨_, rfl, ?_⟩⟩
        refine ⟨_, rfl, p, _, _, _, rfl, rfl, SqL.of hp2, rfl, l, xs.map V.int, rfl, .inl (SqL.of hl2), ?_⟩
        have hL : ((xs.map V.int).length : Int) = (xs.length : Int) := by rw [List.length_map]
        have hb1 : 0 ≤ s.fmod ((xs.map V.int).length : Int) := Int.fmod_nonneg_of_pos _ (by omega)
        have hb2 : s.fmod ((xs.map V.int).length : Int) < ((xs.map V.int).length : Int) := Int.fmod_lt_of_pos _ (by omega)
        obtain ⟨j, hj⟩ : ∃ j : Nat, s.fmod ((xs.map V.int).length : Int) = (j : Int) := ⟨(s.fmod ((xs.map V.int).length : Int)).toNat, by omega⟩
        have hjl : j < xs.length := by omega
        have hat : atI (xs.map V.int) (s.fmod ((xs.map V.int).length : Int)) = some (V.int xs[j]) := by
          rw [hj]; exact atI_nat (by simp [hjl])
        refine ⟨_, _, rfl, rfl, (by omega), ?_⟩
        refine ⟨l, _, _, V.int xs[j], rfl, rfl, SqL.of hl2, hat, ?_⟩
        exact go _ _ ⟨xs[j], rfl, rfl⟩
      · exact go _ _ ⟨_, rfl, rfl⟩
end
end Lw
namespace Lw
open PySem PySem.Spec PyProof.Rows L2

theorem Kp.refl (p : Addr) (H : Hp) : Kp p H H := fun _ _ _ e => e
theorem Kp.trans {p : Addr} {H H1 H2 : Hp} (a : Kp p H H1) (b : Kp p H1 H2) : Kp p H H2 := fun c o hc e => b c o hc (a c o hc e)
theorem Kp.of {p : Addr} {H H' : Hp} (s : Same H H') : Kp p H H' := fun b o _ e => s b o e
theorem Kp.seq {K : PySem.W.Frag} {p a : Addr} {H H' : Hp} {ys : List V} (k : Kp p H H') (ne : a ≠ p) (h : SqL K H a ys) : SqL K H' a ys := by
  rcases h with (h | ⟨o, h⟩) | h
  · exact .inl (.inl (k _ _ ne h))
  · exact .inl (.inr ⟨o, k _ _ ne h⟩)
  · exact .inr h
theorem same_new {H : Hp} {q : Addr} {o : HO} (hq : H q = none) : Same H (upd H q o) := fun b u e => by rw [upd_ne (ne_of_none e hq)]; exact e
theorem Pen.keep {H H' : Hp} {p l : Addr} {n : Nat} (h : Pen H p l n) (s : Same H H') : Pen H' p l n := by
  obtain ⟨xs, a, g, ⟨h1, h2, h3, h4, h5⟩, h6⟩ := h
  exact ⟨xs, a, g, ⟨s _ _ h1, s _ _ h2, h3, h4, h5⟩, h6⟩
theorem Pen.at {H : Hp} {p l : Addr} {n : Nat} (h : Pen H p l n) : ∃ o, H p = some o := by
  obtain ⟨xs, a, g, h, _⟩ := h
  exact ⟨_, h.at_⟩
theorem Pen.ne_new {H : Hp} {p l q : Addr} {n : Nat} (h : Pen H p l n) (hq : H q = none) : q ≠ p := by
  obtain ⟨o, h1⟩ := h.at
  exact (ne_of_none h1 hq).symm
theorem Pen.more {H : Hp} {p l : Addr} {n m : Nat} (h : Pen H p l n) (hm : n ≤ m) : Pen H p l m := by
  obtain ⟨xs, a, g, h1, h2⟩ := h
  exact ⟨xs, a, g, h1, by omega⟩
def spPick (K : PySem.W.Frag) : Sp := fun vs H Q _ => ∃ (p l a : Addr) (n : Nat) (ys : List V), vs = [.ref p, .ref a] ∧ Pen H p l n ∧ n ≤ 1000000 ∧ SqL K H a ys ∧ a ≠ p ∧ 0 < ys.length ∧ ys.length < 1000000 ∧
  ∀ (j : Nat) (v : V) (H' : Hp), ys[j]? = some v → Pen H' p l (n + 1) → Kp p H H' → Q v H'
def spPen (K : PySem.W.Frag) : Sp := fun vs H Q _ => ∃ (a : Addr) (ns : List Int), vs = [.ref a] ∧ SqL K H a (ns.map V.int) ∧ ns.length ≤ 63 ∧ ∀ (p l : Addr) (H' : Hp), Pen H' p l 0 → Same H H' → H p = none → Q (.ref p) H'
theorem Pen.over {H : Hp} {p l q : Addr} {n : Nat} {o : HO} (h : Pen H p l n) (h1 : q ≠ p) (h2 : q ≠ l) : Pen (upd H q o) p l n := by
  obtain ⟨xs, a, g, ⟨e1, e2, e3, e4, e5⟩, h6⟩ := h
  exact ⟨xs, a, g, ⟨by rw [upd_ne h1.symm]; exact e1, by rw [upd_ne h2.symm]; exact e2, e3, e4, e5⟩, h6⟩
theorem Pen.ne_new2 {H : Hp} {p l q : Addr} {n : Nat} (h : Pen H p l n) (hq : H q = none) : q ≠ l := by
  obtain ⟨xs, a, g, h, _⟩ := h
  exact (ne_of_none h.ls hq).symm
section
variable {P : Program} {w : World} {K : PySem.W.Frag} {mg : Str → Option Value} {base : Heap}
theorem scPick : FnScope ["_law_pen_here", "_law_some"] ["_law_pen_here", "_law_some"] (C8.fnScope sPick) := C8.fnScope_by (by decide +kernel)
theorem cal_pick {f : Addr} {fd : FuncData} (F : C8.Def K mg "_law_pick" sPick f fd) (b : Binds K fd ["_law_pen_here", "_law_some"] []) (T : Txt0 mg) (D : C8.Cal P w K mg base 1 "_law_draw" spDraw []) : C8.Cal P w K mg base 2 "_law_pick" (spPick K) [] := by
  refine C8.cal0 F b .nil scPick (fun vs H Q E h => ?_) (fun cdv A outer st H vs Q E hr h => ?_)
  · obtain ⟨p, l, a, n, ys, rfl, _⟩ := h
    rfl
  · obtain ⟨p, l, a, n, ys, rfl, hp, hn, hs, ne, h0, h1, k⟩ := h
    refine ⟨_, (pss_one (ps_ret (pe_ix ix_list (pv 1) (C8.pe_c D hr (by decide) (by rfl) (pa_cons (pv 0) (pa_cons (pe_callB call_len_seq (by rfl) T.n_len (by decide +kernel) (pa_cons (pv 1) pa_nil)) pa_nil))) (fun _ _ => rfl)))), ?_⟩
    refine ⟨_, rfl, _, rfl, _, rfl, a, ys, rfl, .inl hs, ?_⟩
    refine ⟨p, l, n, _, rfl, (by omega), (by omega), hp, hn, fun r H' r0 r1 hp' k' => ?_⟩
    obtain ⟨j, hj⟩ : ∃ j : Nat, r = (j : Int) := ⟨r.toNat, by omega⟩
    subst hj
    have hjl : j < ys.length := by omega
    refine ⟨a, ys, _, ys[j], rfl, rfl, k'.seq ne hs, atI_nat (by simp [hjl]), ?_⟩
    exact k j _ H' (by simp [hjl]) hp' k'
theorem scPen : FnScope ["_law_script"] ["_law_script"] (C8.fnScope sPen) := C8.fnScope_by (by decide +kernel)
theorem cut_ints (xs : List Int) (lo hi : Option Int) : cutV (xs.map V.int) lo hi = ((xs.drop (HT.sIx xs.length 0 lo)).take (HT.sIx xs.length xs.length hi - HT.sIx xs.length 0 lo)).map V.int := by
  unfold cutV
  rw [List.length_map, List.map_take, List.map_drop]
theorem cal_pen {f : Addr} {fd : FuncData} (F : C8.Def K mg "_law_pen" sPen f fd) (b : Binds K fd ["_law_script"] []) (T : Txt0 mg) : C8.Cal P w K mg base 1 "_law_pen" (spPen K) [] := by
  refine C8.cal0 F b .nil scPen (fun vs H Q E h => ?_) (fun cdv A outer st H vs Q E hr h => ?_)
  · obtain ⟨a, ns, rfl, _⟩ := h
    rfl
  · obtain ⟨a, ns, rfl, hs, hl, k⟩ := h
    refine ⟨_, (pss_one (ps_ret (pe_lst (pa_cons (pe_callTy call_list_of (by rfl) T.n_list (by decide +kernel) (pa_cons (pe_slice sl_list (pv 0) po_none (po_some pe_int)) pa_nil)) (pa_cons pe_int (pa_cons pe_int pa_nil)))))), ?_⟩
    refine ⟨_, rfl, _, rfl, a, _, rfl, hs, fun c hc => ?_⟩
    refine ⟨c, _, rfl, .inl (SqL.of upd_same), fun l hl2 => ?_⟩
    refine ⟨(by show 3 ≤ sizeLine; decide), fun p hp => ?_⟩
    have s1 := same_new (o := HO.lst (cutV (ns.map V.int) none (some 63))) hc
    have s2 := same_new (o := HO.lst (cutV (ns.map V.int) none (some 63))) hl2
    have s3 := same_new (o := HO.lst [V.ref l, V.int 0, V.int 0]) hp
    have pl : p ≠ l := fun e => by rw [e, upd_same] at hp; cases hp
    refine k p l _ ⟨((ns.drop (HT.sIx ns.length 0 none)).take (HT.sIx ns.length ns.length (some 63) - HT.sIx ns.length 0 none)), 0, 0, ⟨upd_same, ?_, pl, by omega, by omega⟩, by omega⟩ ((s1.trans s2).trans s3) ((s1.trans s2).free hp)
    rw [upd_ne pl.symm, upd_same, cut_ints]
end
end Lw
namespace Lw
open PySem PySem.Spec PyProof.Rows L2

/-! ### C.m(e, ..), m a static method -/
structure SMet (K : PySem.W.Frag) (C : Addr) (m : Str) (p g : Addr) : Prop where
  mc : ∃ mc, PySem.W.typeIn K (.ref C) = some mc ∧ PySem.W.readsIn K C mc = true ∧ PySem.W.findCls K (.ref C) mc m = some (.get (.builtin "staticmethod.__get__") (.ref p) .none (.ref C))
  ga : PySem.W.specialIn K (.ref C) "__getattribute__" = some (some (.builtin "type.__getattribute__"))
  rc : ∃ rest, PySem.W.recIn K p "staticmethod" = some (.ref g :: rest)
  kp : PySem.W.keepIn K (.ref g) = true
def tStatic (C : Addr) (sp : Sp) (dvs : List V) (E : XK) (ta : TE) (t : TA) : TE := fun σ H Q => ta σ H fun x H1 => x = .ref C ∧ t σ H1 fun vs H2 => sp (vs ++ dvs) H2 Q E
section
variable {X : Cx} {CX : CXT} {C p g : Addr} {k : Nat} {fd : FuncData} {ps : List Str} {sp : Sp} {E : XK} {ds : List Value} {dvs : List V} {o e : Expr} {es : List Expr} {m : Str} {pos apos : Pos} {ta : TE} {t : TA} {pl : Sem Bool}
theorem pe_static (he : PE X o ta) (c : SMet X.K C m p g) (F : FnOk X.prog X.w X.K X.mg X.base CX k g fd ps sp) (hr : Room k X.A) (b : Binds X.K fd ps ds) (d : Vals dvs ds) (hx : Passes CX X E) (ha : PA X (e :: es) t)
    (hst : starEach (e :: es) X.env = (false, eval e X.env) :: starEach es X.env := by rfl) (hpl : (backTo pos (starEach es X.env)).any (·.1) = false := by rfl)
    (ht : eval (.Call (.Attribute o m apos) (e :: es) [] pos) X.env = (do
      let ov ← eval o X.env
      standAt apos.atName
      let (f, first) ← holding [ov] (getMethod ov m pl)
      callWith pos f first (backTo pos (starEach (e :: es) X.env)) (backToKw pos (keywordEach [] X.env))) := by rfl) :
    PE X (.Call (.Attribute o m apos) (e :: es) [] pos) (tStatic C sp dvs E ta t) := by
  refine ⟨fun pins s σ H Q I h => ?_⟩
  refine PySem.W.methodCall_KW (pl := pl) (thn (he.run pins s σ H _ I h) fun u s1 ⟨x, H1, I1, rx, ex, q⟩ => ?_) ht
  subst ex
  obtain rfl : u = Value.ref C := rx
  obtain ⟨mc, h1, h2, h3⟩ := c.mc
  obtain ⟨rest, h4⟩ := c.rc
  obtain ⟨fm, hF⟩ := I1.fr
  refine PySem.W.method_cls I1.kIn c.ga (PySem.W.cls_sm hF I1.ok.mod.kin h1 h2 h3 h4 rfl ?_)
  have I2 : Inv X pins σ H1 { s1 with toks := s1.toks + 1 } := I1.tok _
  refine PySem.W.callWith_K (h₀ := X.base) I2.ok.mod.kin c.kp (thn (ha.run pos pins _ σ H1 _ I2 q) fun us s3 ⟨vs, H2, I3, rv, q2⟩ => ⟨I3.kIn, ?_⟩) hst hpl
  exact run_fn F hr b d hx I3 rv q2
end
end Lw
namespace Lw
open PySem PySem.Spec PyProof.Rows L2

/-! ### own operators: + - * // % and the sign, of instances of one class and of a built-in value beside -/
section
variable {X : Cx} {C : Addr} {k j : Nat} {sp : Sp} {pins : List (Addr × Obj)} {σ : L2.St} {H : Hp} {s : Shared}
theorem ins_at {a dx : Addr} {fs : List (Str × V)} (I : Inv X pins σ H s) (h : H a = some (.ins C dx fs)) : ∃ ox od, PySem.W.InstAt s.heap a ox C (some od) := by
  obtain ⟨mA, O, _⟩ := ins_get I.hok h
  obtain ⟨od, J, _⟩ := O.look
  exact ⟨_, od, J⟩
/-- a method of the class, called with an instance and another value -/
theorem run_two {m : Str} {us : List Value} {vs : List V} {Q : VK} (M : C8.Met X.prog X.w X.K X.mg X.base k C m sp []) (hr : Room j X.A) (hk : k ≤ j) (I : Inv X pins σ H s) (r : Vals vs us) (q : sp vs H Q C8.E0) :
    ∃ g : Addr, Meth X.K C m g ∧ wpAny (model X.prog X.w) X.A (call (.ref g) us) (PySem.W.CmpBack (EP X pins σ Q)) X.xe s := by
  obtain ⟨g, fd, ps, ds, hC, hm, F, b, d⟩ := M.ex
  have q' : sp (vs ++ []) H Q C8.E0 := by rw [List.append_nil]; exact q
  refine ⟨g, hm, wpAny_mono (run_fn F (hr.mono hk) b d C8.pass0 I r q') (fun w s' z => ?_) fun _ _ x => x⟩
  obtain ⟨z', H', I', rz, qz⟩ := z
  exact SlX.cmpback rz ⟨z', H', I', rz, qz⟩
def rSame (C : Addr) (sp : Sp) : R2 := fun x y H Q => ∃ a dx fs b dy gs, x = .ref a ∧ y = .ref b ∧ H a = some (.ins C dx fs) ∧ H b = some (.ins C dy gs) ∧ sp [x, y] H Q C8.E0
theorem op_same {op : Operator} (M : C8.Met X.prog X.w X.K X.mg X.base k C (PySem.dunder op.info.2) sp []) (hc : PySem.W.selfFirst X.K C = true) (hr : Room j X.A) (hk : k ≤ j) : OpR X (binaryOp op) (rSame C sp) := by
  intro pins s σ H x y v u Q I rx ry h
  obtain ⟨a, dx, fs, b, dy, gs, rfl, rfl, ha, hb, q⟩ := h
  cases (show v = Value.ref a from rx)
  cases (show u = Value.ref b from ry)
  obtain ⟨_, _, J⟩ := ins_at I ha
  obtain ⟨_, _, J'⟩ := ins_at I hb
  obtain ⟨g, hm, w⟩ := run_two (us := [.ref a, .ref b]) (vs := [.ref a, .ref b]) M hr hk I (.cons rfl (.cons rfl .nil)) q
  obtain ⟨m, hF⟩ := I.fr
  exact PySem.W.binop_K hF I.ok.mod.kin J J'.type hc hm.at_ hm.fn w
/-- what the operator asks of the class and of a built-in type beside it -/
structure Beside (K : PySem.W.Frag) (C : Addr) (op : Operator) (T : String) : Prop where
  first : PySem.W.selfFirst K C = true
  back : ∃ rc, PySem.W.findIn K (.ref C) (dunderR op.info.2) = some rc ∧ (rc = none ∨ ∃ g : Addr, rc = some (.ref g))
  ahead : ∃ fo, PySem.W.findIn K (.type T) (PySem.dunder op.info.2) = some fo
  behind : ∃ ro, PySem.W.findIn K (.type T) (dunderR op.info.2) = some ro
  sub : PySem.W.subIn K (.type T) (.ref C) = some false
/-- a built-in value's kind, as typeOf tells it -/
inductive Kind : V → String → Prop where
  | int (i : Int) : Kind (.int i) "int"
  | bl (b : Bool) : Kind (.bl b) "bool"
  | non : Kind .non "NoneType"
  | str (z : Str) : Kind (.str z) "str"
theorem Kind.type {y : V} {T : String} {u : Value} (h : Kind y T) (r : RelV y u) : typeOf u = pure (.type T) := by
  cases h with
  | int i => obtain ⟨t, e⟩ := (show ∃ t, u = Value.int i t from r); subst e; rfl
  | bl b => cases (show u = Value.bool b from r); rfl
  | non => cases (show u = Value.none from r); rfl
  | str z => obtain ⟨t, e⟩ := (show ∃ t, u = Value.str z t from r); subst e; rfl
def rBeside (K : PySem.W.Frag) (C : Addr) (op : Operator) (sp : Sp) : R2 := fun x y H Q => ∃ a dx fs T, x = .ref a ∧ H a = some (.ins C dx fs) ∧ Kind y T ∧ Beside K C op T ∧ sp [x, y] H Q C8.E0
theorem op_beside {op : Operator} (M : C8.Met X.prog X.w X.K X.mg X.base k C (PySem.dunder op.info.2) sp []) (hr : Room j X.A) (hk : k ≤ j) : OpR X (binaryOp op) (rBeside X.K C op sp) := by
  intro pins s σ H x y v u Q I rx ry h
  obtain ⟨a, dx, fs, T, rfl, ha, hT, hB, q⟩ := h
  cases (show v = Value.ref a from rx)
  obtain ⟨_, _, J⟩ := ins_at I ha
  obtain ⟨g, hm, w⟩ := run_two (us := [.ref a, u]) (vs := [.ref a, y]) M hr hk I (.cons rfl (.cons ry .nil)) q
  obtain ⟨m, hF⟩ := I.fr
  obtain ⟨rc, r1, r2⟩ := hB.back
  obtain ⟨fo, f1⟩ := hB.ahead
  obtain ⟨ro, o1⟩ := hB.behind
  exact PySem.W.ksp_binT hF I.ok.mod.kin J (hT.type ry) hB.first hm.at_ hm.fn r1 r2 f1 o1 hB.sub w
def rSign (C : Addr) (sp : Sp) : V → Hp → VK → Prop := fun x H Q => ∃ a dx fs, x = .ref a ∧ H a = some (.ins C dx fs) ∧ sp [x] H Q C8.E0
theorem un_sign (M : C8.Met X.prog X.w X.K X.mg X.base k C "__neg__" sp []) (hr : Room j X.A) (hk : k ≤ j) : UnR X (unaryOp .USub) (rSign C sp) := by
  intro pins s σ H x v Q I rx h
  obtain ⟨a, dx, fs, rfl, ha, q⟩ := h
  cases (show v = Value.ref a from rx)
  obtain ⟨_, _, J⟩ := ins_at I ha
  obtain ⟨g, fd, ps, ds, hC, hm, F, b, d⟩ := M.ex
  obtain ⟨m, hF⟩ := I.fr
  have q' : sp ([V.ref a] ++ []) H Q C8.E0 := q
  exact PySem.W.ksp_neg hF I.ok.mod.kin J hm.at_ hm.fn (run_fn (us := [.ref a]) (vs := [.ref a]) F (hr.mono hk) b d C8.pass0 I (.cons rfl .nil) q')
end
end Lw
namespace Lw.Ow
open PySem PySem.Spec PyProof.Rows PySem.W PySem.Calls

/-! ### own operators, the instance on the right -/
section
variable {prog : Program} {w : World} {A : Around} {E : Value → Shared → Prop} {s : Shared} {K : Frag} {x C f g : Addr} {ox : Obj} {od : Option Obj}
theorem right_bare {op : Operator} {a : Value} {T : String} {Q : Value → Shared → Prop} (X : K.In s.heap) (I : InstAt s.heap x ox C od) (ht : Looks (model prog w) s.heap (typeOf a) (.type T)) (hc : selfFirst K C = true) (hs : findIn K (.ref C) (PySem.dunder op.info.2) = some (some (.ref f))) (hr : findIn K (.ref C) (dunderR op.info.2) = some (some (.ref g)))
    (hg : isFn K (.ref g) = true) (hL : fillsNumberSlot (.type T) op.info.2 = pure false) (h : wpAny (model prog w) A (call (.ref g) [.ref x, a]) (PySem.W.CmpBack Q) E s) : wpAny (model prog w) A (binaryOp op a (.ref x)) Q E s := by
  obtain ⟨cd, rest, hcd, hm⟩ := ksp_first hc
  rcases hi : op.info with ⟨sym, nm⟩
  rw [hi] at hs hr hL
  dsimp only at hs hr hL
  have one := ksp_try X I hr hg h
  obtain ⟨hh, gg, d, tt, os⟩ := s
  have L2 : Looks (model prog w) hh (typeOf (.ref x)) (.ref C) := I.type
  have L3 : Looks (model prog w) hh (fillsNumberSlot (.ref C) nm) true := fills_K X hcd hm hs
  have hne : (Value.type T == Value.ref C) = false := Bool.eq_false_iff.mpr fun q => by cases beq_iff_eq.mp q
  simp only [binaryOp, hi]
  refine wpAny_holding (wpAny_bind ?_)
  unfold binaryOp1
  refine wpAny_bind (ht.at (wpAny_bind (L2.at (wpAny_bind (wpAny_of_eq hL ?_)))))
  simp only [hne, Bool.false_eq_true, if_false]
  refine wpAny_bind (L3.at ?_)
  simp only [Bool.false_and, Bool.false_eq_true, if_false, pure_bind, Bool.not_false, Bool.and_true, if_true]
  refine wpAny_bind (wpAny_mono one (fun r s' hr' => ?_) fun _ _ e => e)
  obtain ⟨v, rfl, hq⟩ := hr'
  exact wpAny_bind (wpAny_rule (wpAny_pure (wpAny_pure hq)))
theorem right_number {op : Operator} {a : Value} {T id : String} {Q : Value → Shared → Prop} (X : K.In s.heap) (I : InstAt s.heap x ox C od) (ht : typeOf a = pure (.type T)) (hT : s.TypeIs a T) (hc : selfFirst K C = true) (hs : findIn K (.ref C) (PySem.dunder op.info.2) = some (some (.ref f))) (hr : findIn K (.ref C) (dunderR op.info.2) = some (some (.ref g)))
    (hg : isFn K (.ref g) = true) (hL : fillsNumberSlot (.type T) op.info.2 = pure true) (hsub : subIn K (.ref C) (.type T) = some false) (sl : Slot T (PySem.dunder op.info.2) id) (hd : ∀ Q' : Value → Shared → Prop, Q' .notImplemented s → wpAny (model prog w) A (call (.builtin id) [a, .ref x]) Q' E s)
    (h : wpAny (model prog w) A (call (.ref g) [.ref x, a]) (PySem.W.CmpBack Q) E s) : wpAny (model prog w) A (binaryOp op a (.ref x)) Q E s := by
  obtain ⟨cd, rest, hcd, hm⟩ := ksp_first hc
  rcases hi : op.info with ⟨sym, nm⟩
  rw [hi] at hs hr hL sl
  dsimp only at hs hr hL sl
  have one := ksp_try X I hr hg h
  have two := wpAny_tryMethod_declines (Q := fun r s' => r = none ∧ s' = s) hT sl (hd _ ⟨rfl, rfl, rfl⟩)
  obtain ⟨hh, gg, d, tt, os⟩ := s
  have L2 : Looks (model prog w) hh (typeOf (.ref x)) (.ref C) := I.type
  have L3 : Looks (model prog w) hh (fillsNumberSlot (.ref C) nm) true := fills_K X hcd hm hs
  have L4 : Looks (model prog w) hh (isSubtype (.ref C) (.type T)) false := looks_subIn X hsub
  have hpy : numberSlotInPython (.type T) nm = pure false := rfl
  have hne : (Value.type T == Value.ref C) = false := Bool.eq_false_iff.mpr fun q => by cases beq_iff_eq.mp q
  simp only [binaryOp, hi]
  refine wpAny_holding (wpAny_bind ?_)
  unfold binaryOp1
  refine wpAny_bind (wpAny_of_eq ht (wpAny_bind (L2.at (wpAny_bind (wpAny_of_eq hL ?_)))))
  simp only [hne, Bool.false_eq_true, if_false]
  refine wpAny_bind (L3.at ?_)
  simp only [Bool.and_self, if_true]
  refine wpAny_bind (L4.at ?_)
  simp only [Bool.false_eq_true, if_false, pure_bind, Bool.not_false, Bool.and_self, if_true, hpy]
  refine wpAny_bind (wpAny_mono two (fun r s' z => ?_) fun _ _ e => e)
  obtain ⟨rfl, rfl⟩ := z
  refine wpAny_bind (wpAny_mono one (fun r s' hr' => ?_) fun _ _ e => e)
  obtain ⟨v, rfl, hq⟩ := hr'
  exact wpAny_bind (wpAny_rule (wpAny_pure (wpAny_pure hq)))
end
end Lw.Ow
namespace Lw.Ow
open PySem PySem.Spec PyProof.Rows

section
variable {prog : Program} {w : World} {A : Around} {E : Value → Shared → Prop} {s : Shared}
theorem binary_no {nm : String} {f : Int → Int → Sem Fin} {i : Int} {t : Tok} {x : Addr} {o : Obj} {Q : Value → Shared → Prop} (ho : s.heap.get? x = some o) (hp : o.data = .plain) (h : Q .notImplemented s) :
    wpAny (model prog w) A (Builtin.Int.intBinary nm f false ⟨[.int i t, .ref x], []⟩) (fun fin s' => ∃ v, fin = .done (.ret v) ∧ Q v s') E s := by
  unfold Builtin.Int.intBinary
  refine wpAny_bind (wpAny_of_eq (a := (Value.int i t, [Value.ref x])) rfl ?_)
  refine wpAny_bind (wpAny_of_eq (a := i) rfl ?_)
  refine wpAny_bind ?_
  show wpAny _ _ (load x >>= fun ob => match ob.data with | .prim (.int i _) => pure (some i) | _ => pure none) _ _ _
  refine wpAny_bind (wpAny_load ho ?_)
  rw [hp]
  exact wpAny_pure (wpAny_bind (wpAny_rule (wpAny_pure ⟨_, rfl, h⟩)))
theorem no_add {i : Int} {t : Tok} {x : Addr} {o : Obj} {Q : Value → Shared → Prop} (ho : s.heap.get? x = some o) (hp : o.data = .plain) (h : Q .notImplemented s) : wpAny (model prog w) A (call (.builtin "int.__add__") [.int i t, .ref x]) Q E s :=
  wpAny_call_entry F.slot_int_add (typeIs_int s i t) F.entry_int_add (binary_no ho hp h) (F.args_int_add_2 _ _)
theorem no_sub {i : Int} {t : Tok} {x : Addr} {o : Obj} {Q : Value → Shared → Prop} (ho : s.heap.get? x = some o) (hp : o.data = .plain) (h : Q .notImplemented s) : wpAny (model prog w) A (call (.builtin "int.__sub__") [.int i t, .ref x]) Q E s :=
  wpAny_call_entry F.slot_int_sub (typeIs_int s i t) F.entry_int_sub (binary_no ho hp h) (F.args_int_sub_2 _ _)
theorem no_mul {i : Int} {t : Tok} {x : Addr} {o : Obj} {Q : Value → Shared → Prop} (ho : s.heap.get? x = some o) (hp : o.data = .plain) (h : Q .notImplemented s) : wpAny (model prog w) A (call (.builtin "int.__mul__") [.int i t, .ref x]) Q E s :=
  wpAny_call_entry F.slot_int_mul (typeIs_int s i t) F.entry_int_mul (binary_no ho hp h) (F.args_int_mul_2 _ _)
theorem no_mod {i : Int} {t : Tok} {x : Addr} {o : Obj} {Q : Value → Shared → Prop} (ho : s.heap.get? x = some o) (hp : o.data = .plain) (h : Q .notImplemented s) : wpAny (model prog w) A (call (.builtin "int.__mod__") [.int i t, .ref x]) Q E s :=
  wpAny_call_entry F.slot_int_mod (typeIs_int s i t) F.entry_int_mod (binary_no ho hp h) (F.args_int_mod_2 _ _)
theorem no_floordiv {i : Int} {t : Tok} {x : Addr} {o : Obj} {Q : Value → Shared → Prop} (ho : s.heap.get? x = some o) (hp : o.data = .plain) (h : Q .notImplemented s) : wpAny (model prog w) A (call (.builtin "int.__floordiv__") [.int i t, .ref x]) Q E s := by
  refine wpAny_call_entry F.slot_int_floordiv (typeIs_int s i t) F.entry_int_floordiv ?_ (F.args_int_floordiv_2 _ _)
  unfold Builtin.«int.__floordiv__»
  refine wpAny_bind ?_
  unfold Builtin.exactOperandsForPylong
  rw [if_pos (by rfl)]
  dsimp only
  refine wpAny_bind (wpAny_of_eq (a := some i) rfl ?_)
  refine wpAny_bind ?_
  show wpAny _ _ (load x >>= fun ob => match ob.data with | .prim (.int i _) => pure (some i) | _ => pure none) _ _ _
  refine wpAny_bind (wpAny_load ho ?_)
  rw [hp]
  exact wpAny_pure (wpAny_pure (binary_no ho hp h))
end

end Lw.Ow
namespace Lw
open PySem PySem.Spec PyProof.Rows L2
section
variable {X : Cx} {C f : Addr} {k j : Nat} {sp : Sp}
def rRight (C : Addr) (P : V → Prop) (sp : Sp) : R2 := fun x y H Q => ∃ a dx fs, P x ∧ y = .ref a ∧ H a = some (.ins C dx fs) ∧ sp [y, x] H Q C8.E0
theorem ins_plain {pins : List (Addr × Obj)} {σ : L2.St} {H : Hp} {s : Shared} {a dx : Addr} {fs : List (Str × V)} (I : Inv X pins σ H s) (h : H a = some (.ins C dx fs)) : ∃ ox od, PySem.W.InstAt s.heap a ox C (some od) ∧ s.heap.get? a = some ox ∧ ox.data = .plain := by
  obtain ⟨mA, O, _⟩ := ins_get I.hok h
  obtain ⟨od, J, _⟩ := O.look
  exact ⟨_, od, J, J.at_, rfl⟩
/-- an int beside an instance on the right -/
theorem op_rightI {op : Operator} {id : String} (M : C8.Met X.prog X.w X.K X.mg X.base k C (dunderR op.info.2) sp []) (hc : PySem.W.selfFirst X.K C = true) (hs : PySem.W.findIn X.K (.ref C) (PySem.dunder op.info.2) = some (some (.ref f))) (hL : fillsNumberSlot (.type "int") op.info.2 = pure true)
    (hsub : PySem.W.subIn X.K (.ref C) (.type "int") = some false) (sl : Slot "int" (PySem.dunder op.info.2) id) (hd : ∀ {A : Around} {E : Value → Shared → Prop} {s : Shared} {i : Int} {t : Tok} {x : Addr} {o : Obj} {Q' : Value → Shared → Prop}, s.heap.get? x = some o → o.data = .plain → Q' .notImplemented s → wpAny (model X.prog X.w) A (call (.builtin id) [.int i t, .ref x]) Q' E s)
    (hr : Room j X.A) (hk : k ≤ j) : OpR X (binaryOp op) (rRight C (fun x => ∃ i, x = .int i) sp) := by
  intro pins s σ H x y v u Q I rx ry h
  obtain ⟨a, dx, fs, ⟨i, rfl⟩, rfl, ha, q⟩ := h
  cases (show u = Value.ref a from ry)
  obtain ⟨t, rfl⟩ := (show ∃ t, v = Value.int i t from rx)
  obtain ⟨ox, od, J, hx, hp⟩ := ins_plain I ha
  obtain ⟨g, hm, w⟩ := run_two (us := [.ref a, .int i t]) (vs := [.ref a, .int i]) M hr hk I (.cons rfl (.cons ⟨t, rfl⟩ .nil)) q
  exact Ow.right_number I.kIn J rfl (typeIs_int s i t) hc hs hm.at_ hm.fn hL hsub sl (fun Q' z => hd hx hp z) w
/-- a value whose type has no number slot for the operator -/
theorem op_rightB {op : Operator} {T : String} (M : C8.Met X.prog X.w X.K X.mg X.base k C (dunderR op.info.2) sp []) (hc : PySem.W.selfFirst X.K C = true) (hs : PySem.W.findIn X.K (.ref C) (PySem.dunder op.info.2) = some (some (.ref f))) (hL : fillsNumberSlot (.type T) op.info.2 = pure false)
    (hr : Room j X.A) (hk : k ≤ j) : OpR X (binaryOp op) (rRight C (fun x => Kind x T) sp) := by
  intro pins s σ H x y v u Q I rx ry h
  obtain ⟨a, dx, fs, hT, rfl, ha, q⟩ := h
  cases (show u = Value.ref a from ry)
  obtain ⟨ox, od, J, hx, hp⟩ := ins_plain I ha
  obtain ⟨g, hm, w⟩ := run_two (us := [.ref a, v]) (vs := [.ref a, x]) M hr hk I (.cons rfl (.cons rx .nil)) q
  exact Ow.right_bare I.kIn J (PySem.W.Looks.of_pure (hT.type rx)) hc hs hm.at_ hm.fn hL w
end
end Lw
namespace Lw.Ow
open PySem PySem.Spec PyProof.Rows PySem.W PySem.Calls

/-! ### x op= y of instances whose class has no operator of that kind -/
section
variable {prog : Program} {w : World} {A : Around} {E : Value → Shared → Prop} {s : Shared} {K : Frag} {x C f g : Addr} {ox : Obj} {od : Option Obj}
/-- the operator's first half tells a value -/
def Told (Q : Value → Shared → Prop) (r : Option Value) (s' : Shared) : Prop := ∃ v, r = some v ∧ Q v s'
theorem half_same {nm : String} {b : Value} {Q : Value → Shared → Prop} (X : K.In s.heap) (I : InstAt s.heap x ox C od) (hb : Looks (model prog w) s.heap (typeOf b) (.ref C)) (hc : selfFirst K C = true) (hs : findIn K (.ref C) (PySem.dunder nm) = some (some (.ref f))) (hf : isFn K (.ref f) = true)
    (h : wpAny (model prog w) A (call (.ref f) [.ref x, b]) (PySem.W.CmpBack Q) E s) : wpAny (model prog w) A (binaryOp1 nm (.ref x) b) (Told Q) E s := by
  obtain ⟨cd, rest, hcd, hm⟩ := ksp_first hc
  have one := ksp_try X I hs hf h
  obtain ⟨hh, gg, d, tt, os⟩ := s
  have L1 : Looks (model prog w) hh (typeOf (.ref x)) (.ref C) := I.type
  have L2 : Looks (model prog w) hh (typeOf b) (.ref C) := hb
  have L3 : Looks (model prog w) hh (fillsNumberSlot (.ref C) nm) true := fills_K X hcd hm hs
  unfold binaryOp1
  refine wpAny_bind (L1.at (wpAny_bind (L2.at (wpAny_bind (L3.at ?_)))))
  simp only [beq_self_eq_true, if_true]
  refine wpAny_bind (wpAny_pure ?_)
  simp only [Bool.and_false, Bool.false_and, Bool.false_eq_true, if_false, if_true, pure_bind]
  refine wpAny_bind (wpAny_mono one (fun r s' z => ?_) fun _ _ e => e)
  obtain ⟨v, rfl, hq⟩ := z
  exact wpAny_pure ⟨v, rfl, hq⟩
/-- no class above has the operator of that kind -/
theorem bare_inplace {nm : String} {add : Bool} {cd : ClassData} {h : Heap} {M : Model} (X : K.In h) (hc : clsIn K C = some cd) (hm : cd.mro = [.ref C, .type "object"]) (h1 : findIn K (.ref C) (dunderI nm) = some none) (h2 : findIn K (.type "object") (dunderI nm) = some none) : Looks M h (fillsInplaceSlot (.ref C) nm add) false := by
  intro A Q E s k q
  have Lm : Looks M h (mroOf (.ref C)) cd.mro := (looks_clsIn X hc).andThen (f := fun cd => pure cd.mro) .now
  have Lm2 := Lm.keeps k
  obtain ⟨hh, gg, d, tt, os⟩ := s
  have X2 : K.In hh := X.keeps k
  have L1 : Looks M hh (typeLookup (.ref C) (dunderI nm)) none := looks_findIn X2 h1
  have L2 : Looks M hh (typeLookup (.type "object") (dunderI nm)) none := looks_findIn X2 h2
  unfold fillsInplaceSlot
  refine wpAny_bind (Lm2.at ?_)
  rw [hm, List.anyM_cons]
  refine wpAny_bind (wpAny_bind (L1.at ?_))
  refine wpAny_pure ?_
  rw [List.anyM_cons]
  refine wpAny_bind (wpAny_bind (L2.at ?_))
  refine wpAny_pure ?_
  rw [List.anyM_nil]
  exact wpAny_pure q
theorem inplace_of {op : Operator} {b : Value} {cd : ClassData} {Q : Value → Shared → Prop} (X : K.In s.heap) (I : InstAt s.heap x ox C od) (hc : clsIn K C = some cd) (hm : cd.mro = [.ref C, .type "object"]) (h1 : findIn K (.ref C) (dunderI op.info.2) = some none) (h2 : findIn K (.type "object") (dunderI op.info.2) = some none)
    (h : wpAny (model prog w) A (binaryOp1 op.info.2 (.ref x) b) (Told Q) E s) : wpAny (model prog w) A (inplaceOp op (.ref x) b) Q E s := by
  have L1 : Looks (model prog w) s.heap (typeOf (.ref x)) (.ref C) := I.type
  have L2 : Looks (model prog w) s.heap (fillsInplaceSlot (.ref C) op.info.2 (op == .Add)) false := bare_inplace X hc hm h1 h2
  unfold inplaceOp
  refine wpAny_holding ?_
  refine wpAny_bind (L1.here (wpAny_bind (L2.here ?_)))
  simp only [Bool.false_eq_true, if_false, pure_bind]
  refine wpAny_bind (wpAny_mono h (fun r s' z => ?_) fun _ _ e => e)
  obtain ⟨v, rfl, hq⟩ := z
  exact wpAny_pure hq
end
end Lw.Ow
namespace Lw.Ow
open PySem PySem.Spec PyProof.Rows PySem.W PySem.Calls

section
variable {prog : Program} {w : World} {A : Around} {E : Value → Shared → Prop} {s : Shared} {K : Frag} {x C f g : Addr} {ox : Obj} {od : Option Obj}
theorem half_left {nm : String} {b : Value} {T : String} {fo ro rc : Option Value} {Q : Value → Shared → Prop} (X : K.In s.heap) (I : InstAt s.heap x ox C od) (hb : Looks (model prog w) s.heap (typeOf b) (.type T)) (hc : selfFirst K C = true) (hs : findIn K (.ref C) (PySem.dunder nm) = some (some (.ref f))) (hf : isFn K (.ref f) = true)
    (hr : findIn K (.ref C) (dunderR nm) = some rc) (hp : rc = none ∨ ∃ g : Addr, rc = some (.ref g)) (h1 : findIn K (.type T) (PySem.dunder nm) = some fo) (h2 : findIn K (.type T) (dunderR nm) = some ro) (hsub : subIn K (.type T) (.ref C) = some false)
    (h : wpAny (model prog w) A (call (.ref f) [.ref x, b]) (PySem.W.CmpBack Q) E s) : wpAny (model prog w) A (binaryOp1 nm (.ref x) b) (Told Q) E s := by
  obtain ⟨cd, rest, hcd, hm⟩ := ksp_first hc
  have one := ksp_try X I hs hf h
  obtain ⟨hh, gg, d, tt, os⟩ := s
  have L1 : Looks (model prog w) hh (typeOf (.ref x)) (.ref C) := I.type
  have L3 : Looks (model prog w) hh (fillsNumberSlot (.ref C) nm) true := fills_K X hcd hm hs
  have L4 : Looks (model prog w) hh (fillsNumberSlot (.type T) nm) ((fo.isSome && !isSeqSlot fo) || (ro.isSome && !isSeqSlot ro)) := ksp_fillsT X h1 h2
  have L5 : Looks (model prog w) hh (isSubtype (.type T) (.ref C)) false := looks_subIn X hsub
  have L6 : Looks (model prog w) hh (numberSlotInPython (.ref C) nm) true := ksp_inPy X hs hr hp
  have L7 : Looks (model prog w) hh (numberSlotInPython (.type T) nm) false := Looks.of_pure rfl
  have L8 : Looks (model prog w) hh (typeLookup (.type T) (dunderR nm)) ro := looks_findIn X h2
  have hne : (Value.ref C == Value.type T) = false := Bool.eq_false_iff.mpr fun q => by cases beq_iff_eq.mp q
  have done : ∀ {r : Option Value} {s' : Shared}, (∃ v, r = some v ∧ Q v s') → ∃ v, r = some v ∧ Told Q r s' := fun ⟨v, e, q⟩ => ⟨v, e, v, e, q⟩
  generalize ((fo.isSome && !isSeqSlot fo) || (ro.isSome && !isSeqSlot ro)) = right at L4
  unfold binaryOp1
  refine wpAny_bind (L1.at (wpAny_bind (hb.at (wpAny_bind (L3.at ?_)))))
  simp only [hne, Bool.false_eq_true, if_false]
  refine wpAny_bind (L4.at ?_)
  cases right with
  | false =>
    simp only [Bool.and_false, Bool.false_and, Bool.false_eq_true, if_false, if_true, pure_bind]
    refine wpAny_bind (wpAny_mono one (fun r s' z => ?_) fun _ _ e => e)
    obtain ⟨v, rfl, hq⟩ := z
    exact wpAny_pure ⟨v, rfl, hq⟩
  | true =>
    simp only [Bool.and_self, if_true]
    refine wpAny_bind (L5.at ?_)
    simp only [Bool.false_eq_true, if_false, if_true, Bool.not_false, Bool.and_self]
    refine wpAny_bind (L6.at ?_)
    simp only [if_true]
    refine wpAny_bind (L7.at ?_)
    simp only [Bool.not_false, if_true]
    refine wpAny_bind (L8.at ?_)
    refine wpAny_bind (wpAny_mono one (fun r s' z => ?_) fun _ _ e => e)
    obtain ⟨v, rfl, hq⟩ := z
    exact wpAny_pure ⟨v, rfl, hq⟩
theorem half_number {nm : String} {a : Value} {T id : String} {Q : Value → Shared → Prop} (X : K.In s.heap) (I : InstAt s.heap x ox C od) (ht : typeOf a = pure (.type T)) (hT : s.TypeIs a T) (hc : selfFirst K C = true) (hs : findIn K (.ref C) (PySem.dunder nm) = some (some (.ref f))) (hr : findIn K (.ref C) (dunderR nm) = some (some (.ref g)))
    (hg : isFn K (.ref g) = true) (hL : fillsNumberSlot (.type T) nm = pure true) (hsub : subIn K (.ref C) (.type T) = some false) (sl : Slot T (PySem.dunder nm) id) (hd : ∀ Q' : Value → Shared → Prop, Q' .notImplemented s → wpAny (model prog w) A (call (.builtin id) [a, .ref x]) Q' E s)
    (h : wpAny (model prog w) A (call (.ref g) [.ref x, a]) (PySem.W.CmpBack Q) E s) : wpAny (model prog w) A (binaryOp1 nm a (.ref x)) (Told Q) E s := by
  obtain ⟨cd, rest, hcd, hm⟩ := ksp_first hc
  have one := ksp_try X I hr hg h
  have two := wpAny_tryMethod_declines (Q := fun r s' => r = none ∧ s' = s) hT sl (hd _ ⟨rfl, rfl, rfl⟩)
  obtain ⟨hh, gg, d, tt, os⟩ := s
  have L2 : Looks (model prog w) hh (typeOf (.ref x)) (.ref C) := I.type
  have L3 : Looks (model prog w) hh (fillsNumberSlot (.ref C) nm) true := fills_K X hcd hm hs
  have L4 : Looks (model prog w) hh (isSubtype (.ref C) (.type T)) false := looks_subIn X hsub
  have hpy : numberSlotInPython (.type T) nm = pure false := rfl
  have hne : (Value.type T == Value.ref C) = false := Bool.eq_false_iff.mpr fun q => by cases beq_iff_eq.mp q
  unfold binaryOp1
  refine wpAny_bind (wpAny_of_eq ht (wpAny_bind (L2.at (wpAny_bind (wpAny_of_eq hL ?_)))))
  simp only [hne, Bool.false_eq_true, if_false]
  refine wpAny_bind (L3.at ?_)
  simp only [Bool.and_self, if_true]
  refine wpAny_bind (L4.at ?_)
  simp only [Bool.false_eq_true, if_false, pure_bind, Bool.not_false, Bool.and_self, if_true, hpy]
  refine wpAny_bind (wpAny_mono two (fun r s' z => ?_) fun _ _ e => e)
  obtain ⟨rfl, rfl⟩ := z
  refine wpAny_bind (wpAny_mono one (fun r s' z => ?_) fun _ _ e => e)
  obtain ⟨v, rfl, hq⟩ := z
  exact wpAny_bind (wpAny_rule (wpAny_pure ⟨v, rfl, hq⟩))
end
end Lw.Ow
namespace Lw
open PySem PySem.Spec PyProof.Rows L2

/-- a class right below object that has no operator of the kind op= -/
structure NoInplace (K : PySem.W.Frag) (C : Addr) (op : Operator) : Prop where
  mro : ∃ cd, PySem.W.clsIn K C = some cd ∧ cd.mro = [.ref C, .type "object"]
  own : PySem.W.findIn K (.ref C) (dunderI op.info.2) = some none
  obj : PySem.W.findIn K (.type "object") (dunderI op.info.2) = some none
section
variable {X : Cx} {C f : Addr} {k j : Nat} {sp : Sp}
theorem iop_same {op : Operator} (M : C8.Met X.prog X.w X.K X.mg X.base k C (PySem.dunder op.info.2) sp []) (hc : PySem.W.selfFirst X.K C = true) (ni : NoInplace X.K C op) (hr : Room j X.A) (hk : k ≤ j) : OpR X (inplaceOp op) (rSame C sp) := by
  intro pins s σ H x y v u Q I rx ry h
  obtain ⟨a, dx, fs, b, dy, gs, rfl, rfl, ha, hb, q⟩ := h
  cases (show v = Value.ref a from rx)
  cases (show u = Value.ref b from ry)
  obtain ⟨_, _, J⟩ := ins_at I ha
  obtain ⟨_, _, J'⟩ := ins_at I hb
  obtain ⟨g, hm, w⟩ := run_two (us := [.ref a, .ref b]) (vs := [.ref a, .ref b]) M hr hk I (.cons rfl (.cons rfl .nil)) q
  obtain ⟨cd, h1, h2⟩ := ni.mro
  exact Ow.inplace_of I.kIn J h1 h2 ni.own ni.obj (Ow.half_same I.kIn J J'.type hc hm.at_ hm.fn w)
theorem iop_beside {op : Operator} (M : C8.Met X.prog X.w X.K X.mg X.base k C (PySem.dunder op.info.2) sp []) (ni : NoInplace X.K C op) (hr : Room j X.A) (hk : k ≤ j) : OpR X (inplaceOp op) (rBeside X.K C op sp) := by
  intro pins s σ H x y v u Q I rx ry h
  obtain ⟨a, dx, fs, T, rfl, ha, hT, hB, q⟩ := h
  cases (show v = Value.ref a from rx)
  obtain ⟨_, _, J⟩ := ins_at I ha
  obtain ⟨g, hm, w⟩ := run_two (us := [.ref a, u]) (vs := [.ref a, y]) M hr hk I (.cons rfl (.cons ry .nil)) q
  obtain ⟨cd, h1, h2⟩ := ni.mro
  obtain ⟨rc, r1, r2⟩ := hB.back
  obtain ⟨fo, f1⟩ := hB.ahead
  obtain ⟨ro, o1⟩ := hB.behind
  exact Ow.inplace_of I.kIn J h1 h2 ni.own ni.obj (Ow.half_left I.kIn J (PySem.W.Looks.of_pure (hT.type ry)) hB.first hm.at_ hm.fn r1 r2 f1 o1 hB.sub w)
/-- i op= x, i an int, x an instance -/
theorem iop_rightI {op : Operator} {id : String} (M : C8.Met X.prog X.w X.K X.mg X.base k C (dunderR op.info.2) sp []) (hc : PySem.W.selfFirst X.K C = true) (hs : PySem.W.findIn X.K (.ref C) (PySem.dunder op.info.2) = some (some (.ref f))) (hL : fillsNumberSlot (.type "int") op.info.2 = pure true) (hI : fillsInplaceSlot (.type "int") op.info.2 (op == .Add) = pure false)
    (hsub : PySem.W.subIn X.K (.ref C) (.type "int") = some false) (sl : Slot "int" (PySem.dunder op.info.2) id) (hd : ∀ {A : Around} {E : Value → Shared → Prop} {s : Shared} {i : Int} {t : Tok} {x : Addr} {o : Obj} {Q' : Value → Shared → Prop}, s.heap.get? x = some o → o.data = .plain → Q' .notImplemented s → wpAny (model X.prog X.w) A (call (.builtin id) [.int i t, .ref x]) Q' E s)
    (hr : Room j X.A) (hk : k ≤ j) : OpR X (inplaceOp op) (rRight C (fun x => ∃ i, x = .int i) sp) := by
  intro pins s σ H x y v u Q I rx ry h
  obtain ⟨a, dx, fs, ⟨i, rfl⟩, rfl, ha, q⟩ := h
  cases (show u = Value.ref a from ry)
  obtain ⟨t, rfl⟩ := (show ∃ t, v = Value.int i t from rx)
  obtain ⟨ox, od, J, hx, hp⟩ := ins_plain I ha
  obtain ⟨g, hm, w⟩ := run_two (us := [.ref a, .int i t]) (vs := [.ref a, .int i]) M hr hk I (.cons rfl (.cons ⟨t, rfl⟩ .nil)) q
  have half := Ow.half_number I.kIn J rfl (typeIs_int s i t) hc hs hm.at_ hm.fn hL hsub sl (fun Q' z => hd hx hp z) w
  unfold inplaceOp
  refine wpAny_holding ?_
  refine wpAny_bind (wpAny_of_eq (a := Value.type "int") rfl (wpAny_bind (wpAny_of_eq hI ?_)))
  simp only [Bool.false_eq_true, if_false, pure_bind]
  refine wpAny_bind (wpAny_mono half (fun r s' z => ?_) fun _ _ e => e)
  obtain ⟨v, rfl, hq⟩ := z
  exact wpAny_pure hq
theorem int_no_inplace : fillsInplaceSlot (.type "int") "add" true = pure false ∧ fillsInplaceSlot (.type "int") "sub" false = pure false ∧ fillsInplaceSlot (.type "int") "mul" false = pure false := by
  refine ⟨?_, ?_, ?_⟩ <;> · simp only [fillsInplaceSlot, typeLookup_type]; rfl
end
end Lw
namespace Lw
open PySem PySem.Spec PyProof.Rows L2

/-! ### the same operators, their methods may raise -/
/-- a method of the class that may raise what E tells -/
structure MetX (P : Program) (w : World) (K : PySem.W.Frag) (mg : Str → Option Value) (base : Heap) (k : Nat) (C : Addr) (m : Str) (sp : Sp) : Prop where
  ex : ∃ (g : Addr) (fd : FuncData) (ps : List Str), Meth K C m g ∧ FnOk P w K mg base (L2.CX P w) k g fd ps sp ∧ Binds K fd ps []
section
variable {X : Cx} {C f : Addr} {k j : Nat} {sp : Sp} {E : XK} {pins : List (Addr × Obj)} {σ : L2.St} {H : Hp} {s : Shared}
theorem run_met {m : Str} {us : List Value} {vs : List V} {Q : VK} (M : MetX X.prog X.w X.K X.mg X.base k C m sp) (hx : Passes (L2.CX X.prog X.w) X E) (hr : Room j X.A) (hk : k ≤ j) (I : Inv X pins σ H s) (r : Vals vs us) (q : sp vs H Q E) :
    ∃ g : Addr, Meth X.K C m g ∧ wpAny (model X.prog X.w) X.A (call (.ref g) us) (PySem.W.CmpBack (EP X pins σ Q)) X.xe s ∧ wpAny (model X.prog X.w) X.A (call (.ref g) us) (EP X pins σ Q) X.xe s := by
  obtain ⟨g, fd, ps, hm, F, b⟩ := M.ex
  have q' : sp (vs ++ []) H Q E := by rw [List.append_nil]; exact q
  have ran := run_fn F (hr.mono hk) b .nil hx I r q'
  refine ⟨g, hm, wpAny_mono ran (fun w s' z => ?_) (fun _ _ x => x), ran⟩
  obtain ⟨z', H', I', rz, qz⟩ := z
  exact SlX.cmpback rz ⟨z', H', I', rz, qz⟩
def rSameX (C : Addr) (sp : Sp) (E : XK) : R2 := fun x y H Q => ∃ a dx fs b dy gs, x = .ref a ∧ y = .ref b ∧ H a = some (.ins C dx fs) ∧ H b = some (.ins C dy gs) ∧ sp [x, y] H Q E
theorem op_sameX {op : Operator} (M : MetX X.prog X.w X.K X.mg X.base k C (PySem.dunder op.info.2) sp) (hx : Passes (L2.CX X.prog X.w) X E) (hc : PySem.W.selfFirst X.K C = true) (hr : Room j X.A) (hk : k ≤ j) : OpR X (binaryOp op) (rSameX C sp E) := by
  intro pins s σ H x y v u Q I rx ry h
  obtain ⟨a, dx, fs, b, dy, gs, rfl, rfl, ha, hb, q⟩ := h
  cases (show v = Value.ref a from rx)
  cases (show u = Value.ref b from ry)
  obtain ⟨_, _, J⟩ := ins_at I ha
  obtain ⟨_, _, J'⟩ := ins_at I hb
  obtain ⟨g, hm, w, _⟩ := run_met (us := [.ref a, .ref b]) (vs := [.ref a, .ref b]) M hx hr hk I (.cons rfl (.cons rfl .nil)) q
  obtain ⟨m, hF⟩ := I.fr
  exact PySem.W.binop_K hF I.ok.mod.kin J J'.type hc hm.at_ hm.fn w
def rBesideX (K : PySem.W.Frag) (C : Addr) (op : Operator) (sp : Sp) (E : XK) : R2 := fun x y H Q => ∃ a dx fs T, x = .ref a ∧ H a = some (.ins C dx fs) ∧ Kind y T ∧ Beside K C op T ∧ sp [x, y] H Q E
theorem op_besideX {op : Operator} (M : MetX X.prog X.w X.K X.mg X.base k C (PySem.dunder op.info.2) sp) (hx : Passes (L2.CX X.prog X.w) X E) (hr : Room j X.A) (hk : k ≤ j) : OpR X (binaryOp op) (rBesideX X.K C op sp E) := by
  intro pins s σ H x y v u Q I rx ry h
  obtain ⟨a, dx, fs, T, rfl, ha, hT, hB, q⟩ := h
  cases (show v = Value.ref a from rx)
  obtain ⟨_, _, J⟩ := ins_at I ha
  obtain ⟨g, hm, w, _⟩ := run_met (us := [.ref a, u]) (vs := [.ref a, y]) M hx hr hk I (.cons rfl (.cons ry .nil)) q
  obtain ⟨m, hF⟩ := I.fr
  obtain ⟨rc, r1, r2⟩ := hB.back
  obtain ⟨fo, f1⟩ := hB.ahead
  obtain ⟨ro, o1⟩ := hB.behind
  exact PySem.W.ksp_binT hF I.ok.mod.kin J (hT.type ry) hB.first hm.at_ hm.fn r1 r2 f1 o1 hB.sub w
def rSignX (C : Addr) (sp : Sp) (E : XK) : V → Hp → VK → Prop := fun x H Q => ∃ a dx fs, x = .ref a ∧ H a = some (.ins C dx fs) ∧ sp [x] H Q E
theorem un_signX (M : MetX X.prog X.w X.K X.mg X.base k C "__neg__" sp) (hx : Passes (L2.CX X.prog X.w) X E) (hr : Room j X.A) (hk : k ≤ j) : UnR X (unaryOp .USub) (rSignX C sp E) := by
  intro pins s σ H x v Q I rx h
  obtain ⟨a, dx, fs, rfl, ha, q⟩ := h
  cases (show v = Value.ref a from rx)
  obtain ⟨_, _, J⟩ := ins_at I ha
  obtain ⟨g, hm, _, w⟩ := run_met (us := [.ref a]) (vs := [.ref a]) M hx hr hk I (.cons rfl .nil) q
  obtain ⟨m, hF⟩ := I.fr
  exact PySem.W.ksp_neg hF I.ok.mod.kin J hm.at_ hm.fn w
end
end Lw
namespace Lw
open PySem PySem.Spec PyProof.Rows L2

/-! ### defs that are called where no repr runs -/
/-- a def's promise where nothing is being shown -/
structure FnG (P : Program) (w : World) (K : PySem.W.Frag) (mg : Str → Option Value) (base : Heap) (k : Nat) (f : Addr) (fd : FuncData) (ps : List Str) (sp : Sp) : Prop where
  len : ∀ vs H Q E, sp vs H Q E → vs.length = ps.length
  run : ∀ (A : Around) (outer : List Env) (s : Shared) (H : Hp) (args : Args) (us : List Value) (vs : List V) (Q : VK) (E : XK), A.guards = some [] → Room k A → Env0 P w K mg base A outer s H →
    BindsTo s fd args (ps.zip us) → Vals vs us → sp vs H Q E → codeAny (model P w) A (.call (.ref f) args) (CR C8.CX0 outer P w H s Q E) s
structure CalG (P : Program) (w : World) (K : PySem.W.Frag) (mg : Str → Option Value) (base : Heap) (k : Nat) (x : Str) (sp : Sp) (dvs : List V) : Prop where
  ex : ∃ (f : Addr) (fd : FuncData) (ps : List Str) (ds : List Value), FnG P w K mg base k f fd ps sp ∧ mg x = some (.ref f) ∧ PySem.W.keepIn K (.ref f) = true ∧ Binds K fd ps ds ∧ Vals dvs ds
section
variable {P : Program} {w : World} {K : PySem.W.Frag} {mg : Str → Option Value} {base : Heap}
theorem calG {x : Str} {st : Stmt} {f : Addr} {fd : FuncData} {N ps : List Str} {ds : List Value} {dvs : List V} {k : Nat} {sp : Sp} (F : C8.Def K mg x st f fd) (b : Binds K fd ps ds) (d : Vals dvs ds) (S : FnScope N ps (C8.fnScope st))
    (len : ∀ vs H Q E, sp vs H Q E → vs.length = ps.length)
    (body : ∀ (cdv : Value) (A : Around) (outer : List Env) (s : Shared) (H : Hp) (vs : List V) (Q : VK) (E : XK), (A.deeper (envOfC x (C8.fnScope st) s.heap.objs.size f cdv)).guards = some [] → Room k (A.deeper (envOfC x (C8.fnScope st) s.heap.objs.size f cdv)) → sp vs H Q E →
      ∃ t, PSs (cxOf C8.CX0 P w K mg base N x (C8.fnScope st) f cdv A outer s H E).nox (C8.fnBody st) t ∧ t { nx := fun _ H' => Q .non H', rt := Q } (start N vs) H) : CalG P w K mg base (k + 1) x sp dvs := by
  refine ⟨f, fd, ps, ds, ⟨len, ?_⟩, F.mgf, F.kp, b, d⟩
  intro A outer s H args us vs Q E hg hr e0 hb r hs
  obtain ⟨oc, od, dV, kV, doc, pm, an, cdv, ct, osl, rfl, lk, hcd⟩ := F.fn.ex
  refine LamX.run_ofS lk hcd S hr e0 hb r (len _ _ _ _ hs) fun hr' => ?_
  obtain ⟨t, h1, h2⟩ := body cdv A outer s H vs Q E hg hr' hs
  exact ⟨t, h1.nox, h2⟩
end
section
variable {X : Cx} {k j : Nat} {x : Str} {sp : Sp} {dvs : List V} {p pos : Pos} {e : Expr} {es : List Expr} {t : TA}
theorem pe_g (c : CalG X.prog X.w X.K X.mg X.base k x sp dvs) (hG : X.A.guards = some []) (hr : Room j X.A) (hk : k ≤ j) (hg : Gl X x) (ha : PA X (e :: es) t)
    (hdb : (x == ("__debug__" : Str)) = false := by decide) (he : starEach (e :: es) X.env = (false, eval e X.env) :: starEach es X.env := by rfl) (hpl : (backTo pos (starEach es X.env)).any (·.1) = false := by rfl) :
    PE X (.Call (.Name x p) (e :: es) [] pos) (tCall sp dvs C8.E0 t) := by
  obtain ⟨f, fd, ps, ds, F, hm, kp, b, d⟩ := c.ex
  refine ⟨fun pins s σ H Q I h => ?_⟩
  refine wpAny_Call_Name_kw (ld_glob I hg hm ?_ hdb)
  refine PySem.W.callWith_K (h₀ := X.base) I.ok.mod.kin kp (thn (ha.run pos pins s σ H _ I h) fun us s1 g => ?_) he hpl
  obtain ⟨vs, H1, I1, r, q⟩ := g
  refine ⟨I1.kIn, ?_⟩
  have r2 := r.append d
  have hl : (us ++ ds).length = ps.length := r2.length.symm.trans (F.len _ _ _ _ q)
  refine wpAny_call (codeAny_mono (F.run X.A X.stack s1 H1 ⟨us, []⟩ (us ++ ds) (vs ++ dvs) Q C8.E0 hG (hr.mono hk) I1.env0 (b s1 us I1.kIn hl) r2 q) fun r s' hq => ?_)
  match r, hq with
  | .error e, hq => exact hq.elim
  | .ok (.ret u), hq => exact I1.after hq
  | .ok .next, hq => exact hq.elim
  | .ok .brk, hq => exact hq.elim
  | .ok .cont, hq => exact hq.elim
/-! ### repr of data -/
def rRepr (K : PySem.W.Frag) : List V → Hp → VK → Prop := fun xs H Q => ∃ (a : Addr) (d : PyData), xs = [.ref a] ∧ Dp K H (.ref a) d ∧ d.showable = true ∧ d.hasDict = false ∧ d.depth ≤ 100 ∧ d.shown.length ≤ sizeLine ∧ Q (.str d.shown) H
theorem call_reprD (hG : X.A.guards = some []) (hr : Room 0 X.A) : CallR X (.builtin "repr") (rRepr X.K) := by
  intro pins s σ H xs us Q I r h
  obtain ⟨a, d, rfl, hd, h1, h2, h3, h4, q⟩ := h
  obtain ⟨u, rfl, ru⟩ := vals1 r
  have e : u = Value.ref a := ru
  subst e
  obtain ⟨as, rd⟩ := Dp.reads I d _ _ hd rfl
  have hun := hr.un
  exact repr_of_reads' rd h1 (fun z => by rw [h2] at z; cases z) hG (by omega) (fun _ _ e => e) (fun h' u' tk kp => ⟨.str d.shown, H, I.kept kp, ⟨u', rfl⟩, q⟩) h4
end
end Lw
namespace Lw
open PySem PySem.Spec PyProof.Rows L2

open LamX
/-! ### a lambda as a value -/
def FnO (f : Addr) : HO := .ext fun h => ∃ o : Obj, h.get? f = some o ∧ o.cls = .type "function"
section
variable {X : Cx} {pins : List (Addr × Obj)} {σ : L2.St} {H : Hp} {s : Shared}
theorem lay_fn {h' : Heap} {t' : Nat} {o : Obj} (I : Inv X pins σ H { s with heap := h', toks := t' }) (ho : o.cls = .type "function") (hs : o.isFreed = false) :
    Inv X pins σ (upd H h'.objs.size (FnO h'.objs.size)) { s with heap := h'.push o, toks := t' } := by
  refine I.laid (h' := h'.push o) (t' := t') (fun b u e => Heap.get?_push_of_some _ e) (Nat.le_refl _) ?_
  have g : (h'.push o).get? h'.objs.size = some o := Heap.get?_push_size _ hs
  refine ⟨⟨o, g, ho⟩, ⟨o, g⟩, ?_⟩
  rintro h1 h2 ⟨u, e1, e2⟩ st
  exact ⟨u, st u e1, e2⟩
theorem lam_val {T : List (Addr × Str)} {c B : Addr} {params : Arguments} {body : Expr} {scope : Scope} {pos : Pos} {E Q : Value → Shared → Prop} (I : Inv X pins σ H s) (TB : TabB X.base X.mg c B) (hcode : X.env.code = .ref c)
    (hm : (B, X.env.qual ++ "<lambda>") ∈ T) (hu : ∀ p ∈ T, p.1 = B → p.2 = X.env.qual ++ "<lambda>") (hT : Tabs T H) (hdef : defaultsOf params X.env = ([], []))
    (hfree : ∀ y ∈ scope.names, y.2 = .free → ∃ c, X.env.cells.lookup y.1 = some c)
    (h : ∀ (f : Addr) (H1 : Hp) (s' : Shared), Inv X pins σ (upd H1 f (FnO f)) s' → ExtN H H1 → Tabs T H1 → H1 f = none → Q (.ref f) s') :
    wpAny (model X.prog X.w) X.A (eval (.Lambda params body scope pos) X.env) Q E s := by
  have known := hT _ hm
  obtain ⟨ps, hB, trip, amg⟩ := known
  refine PySem.W.kla_eval hdef ?_
  have hat : s.heap.get? B = some { cls := .none, data := .fields ps } := I.hok B _ hB
  have blt := TB.bm.keeps I.bk
  have hdc := TB.code.keeps I.bk
  have glb := I.mod.glob.keeps I.bk
  rcases hc : codeAmong pos ps.toList with _ | cv
  · refine PySem.W.kla_makeFunction (mg := X.mg) (c := c) (P := B) (ps := ps) (closure_ok hfree) I.ok.glob glb hcode hdc hat trip hc TB.gP blt ?_
    intro c2 ctv h' tk hx hge hlt hrec htb
    obtain ⟨c3, oc, vs, t, e3, g1, g2, g3⟩ := hrec
    cases e3
    have nC : H c2 = none := I.hok.fresh hge
    have I0 := inv_table (t' := tk) (more := #[rawInt pos.line, rawInt pos.col, .ref c2]) (h' := h') I hB hx htb hge ⟨oc, vs, t, g1, g2, g3⟩
    have stays : ExtN H (upd (upd H B (.tbl (ps ++ #[rawInt pos.line, rawInt pos.col, .ref c2]))) c2 (CodeO c2 (X.env.qual ++ "<lambda>"))) := by
      intro b o e n
      rw [upd_ne (ne_of_none e nC)]
      by_cases hb : b = B
      · subst hb
        rw [hB] at e
        exact absurd (Option.some.inj e).symm (n ps)
      · rw [upd_ne hb]; exact e
    refine h h'.objs.size _ _ (lay_fn (t' := tk) I0 rfl rfl) stays ?_ ?_
    · intro p hp
      by_cases hb : p.1 = B
      · rw [hu p hp hb, hb]
        refine ⟨ps ++ #[rawInt pos.line, rawInt pos.col, .ref c2], ?_, ?_, ?_⟩
        · rw [upd_ne (ne_of_none hB nC), upd_same]
        · rw [show (ps ++ #[rawInt pos.line, rawInt pos.col, .ref c2]).toList = ps.toList ++ [rawInt pos.line, rawInt pos.col, .ref c2] by simp]
          exact PySem.TriplesOk_snoc _ _ _ _ trip
        · intro p' cv' hcv
          rw [show (ps ++ #[rawInt pos.line, rawInt pos.col, .ref c2]).toList = ps.toList ++ [rawInt pos.line, rawInt pos.col, .ref c2] by simp] at hcv
          rcases among_app _ trip hcv with z | z
          · obtain ⟨c0, a1, a2⟩ := amg p' cv' z
            exact ⟨c0, a1, stays _ _ a2 codeO_ne⟩
          · exact ⟨c2, z, upd_same⟩
      · obtain ⟨qs, a1, a2, a3⟩ := hT p hp
        refine ⟨qs, ?_, a2, ?_⟩
        · rw [upd_ne (ne_of_none a1 nC), upd_ne hb]; exact a1
        · intro p' cv' hcv
          obtain ⟨c0, b1, b2⟩ := a3 p' cv' hcv
          exact ⟨c0, b1, stays _ _ b2 codeO_ne⟩
    · have n1 : h'.objs.size ≠ c2 := Nat.ne_of_gt hlt
      have n2 : h'.objs.size ≠ B := Nat.ne_of_gt (Nat.lt_of_lt_of_le (Heap.lt_size hat) (Nat.le_trans hge (Nat.le_of_lt hlt)))
      rw [upd_ne n1, upd_ne n2]
      exact I.hok.fresh (Nat.le_trans hge (Nat.le_of_lt hlt))
  · obtain ⟨c2, e, hco⟩ := amg pos cv hc
    subst e
    refine PySem.W.kla_makeFunctionHit (mg := X.mg) (c := c) (P := B) (ps := ps) (closure_ok hfree) I.ok.glob glb hcode hdc hat trip hc blt ?_
    intro ctv h' tk hx hsz
    have I0 : Inv X pins σ H { s with heap := h', toks := tk } := I.kept hx
    exact h h'.objs.size H _ (lay_fn (t' := tk) I0 rfl rfl) (ExtN.refl H) hT (I.hok.fresh hsz)
end
def tLamV (T : List (Addr × Str)) : TE := fun _ H Q => Tabs T H ∧ ∀ (f : Addr) (H1 : Hp), ExtN H H1 → Tabs T H1 → H1 f = none → Q (.ref f) (upd H1 f (FnO f))
section
variable {X : Cx}
theorem pe_lamV {T : List (Addr × Str)} {c B : Addr} {params : Arguments} {body : Expr} {scope : Scope} {pos : Pos} (TB : TabB X.base X.mg c B) (hcode : X.env.code = .ref c)
    (hm : (B, X.env.qual ++ "<lambda>") ∈ T) (hu : ∀ p ∈ T, p.1 = B → p.2 = X.env.qual ++ "<lambda>") (hdef : defaultsOf params X.env = ([], [])) (L : ∀ y ∈ scope.names, y.2 ≠ .free) :
    PE X (.Lambda params body scope pos) (tLamV T) := by
  refine ⟨fun pins s σ H Q I h => ?_⟩
  refine lam_val I TB hcode hm hu h.1 hdef (fun y hy e => absurd e (L y hy)) fun f H1 s' I1 eN T1 nf => ?_
  exact ⟨.ref f, _, I1, rfl, h.2 f H1 eN T1 nf⟩
end
end Lw
namespace Lf
open PySem
open Sem (wp)

theorem ga : Slot "function" "__getattribute__" "object.__getattribute__" := by
  refine .of (owner := "object") (n := "__getattribute__") ?_ (by decide +kernel) (by decide +kernel) (by decide +kernel) ?_ ?_
  · rw [typeLookup_type, builtinLookup_eq_fast]
    kernel_rfl
  · first
      | exact .inl (by decide +kernel)
      | exact .inr (by decide +kernel)
  · rw [isSubtype_type]
    kernel_rfl
theorem lkc : typeLookup (.type "function") "__class__" = pure (some (.builtin "object.__class__")) := by
  rw [typeLookup_type, builtinLookup_eq_fast]
  kernel_rfl
theorem sub_own : isSubtype (.type "function") (.type (".".intercalate ("object.__class__".cutAt '.').dropLast)) = pure true := by
  rw [F.owner_object_class]
  rw [isSubtype_type]
  kernel_rfl
section
variable {prog : Program} {w : World} {A : Around} {E : Value → Shared → Prop} {h : Heap} {g : Array GenState} {d : Drawn} {t : Nat} {os : OsState} {a : Addr} {o : Obj}
theorem fn_get {R : Result → Shared → Prop} (hx : h.get? a = some o) (hc : o.cls = .type "function")
    (hq : R (.ok (.ret (.type "function"))) ⟨h, g, d, t, os⟩) :
    codeAny (model prog w) A (.call (.builtin "getset_descriptor.__get__") ⟨[.builtin "object.__class__", .ref a, .type "function"], []⟩) R ⟨h, g, d, t, os⟩ := by
  have i1 : (⟨h, g, d, t, os⟩ : Shared).TypeIs (.ref a) "function" := ⟨o, hx, hc⟩
  have i2 : (⟨h, g, d, t, os⟩ : Shared).TypeIs (.builtin "object.__class__") "getset_descriptor" := F.typeOf_object_class
  have i3 := sub_own
  refine codeAny_call_builtin F.slot_gs_get.plain F.entry_gs_get ?_
  refine F.slot_gs_get.check _ _ _ _ _ _ _ _ i2 (F.args_gs_get _ _ _) ?_
  repeat (any_goals (first | assumption | wp_step))
  refine ⟨Code.quiet_builtin _ (by decide +kernel), ?_⟩
  refine codeAny_builtin F.entry_object_class ?_
  repeat (any_goals (first | assumption | wp_step))
theorem fn_ga {tk : Tok} {Q : Fin → Shared → Prop} (hx : h.get? a = some o) (hc : o.cls = .type "function")
    (hq : Q (.done (.ret (.type "function"))) ⟨h, g, d, t, os⟩) :
    wpAny (model prog w) A (Builtin.«object.__getattribute__» ⟨[.ref a, .str "__class__" tk], []⟩) Q E ⟨h, g, d, t, os⟩ := by
  have i1 : (⟨h, g, d, t, os⟩ : Shared).TypeIs (.ref a) "function" := ⟨o, hx, hc⟩
  have i2 : (⟨h, g, d, t, os⟩ : Shared).TypeIs (.builtin "object.__class__") "getset_descriptor" := F.typeOf_object_class
  have i3 := lkc
  have i4 := F.typeOf_object_class
  have i5 := F.slot_gs_get.lookup
  have i6 := F.slot_gs_set.lookup
  repeat (any_goals (first | assumption | wp_step))
  refine fn_get hx hc ?_
  repeat (any_goals (first | assumption | wp_step))
theorem fn_call {tk : Tok} {R : Result → Shared → Prop} (hx : h.get? a = some o) (hc : o.cls = .type "function")
    (hq : R (.ok (.ret (.type "function"))) ⟨h, g, d, t, os⟩) :
    codeAny (model prog w) A (.call (.builtin "object.__getattribute__") ⟨[.ref a, .str "__class__" tk], []⟩) R ⟨h, g, d, t, os⟩ := by
  refine codeAny_call_builtin ga.plain F.entry_object_getattribute ?_
  exact ga.check _ _ _ _ _ _ _ _ (show (⟨h, g, d, t, os⟩ : Shared).TypeIs (.ref a) "function" from ⟨o, hx, hc⟩) (F.args_object_getattribute_2 _ _) (fn_ga hx hc hq)
theorem fn_by {tk : Tok} {Q : Value → Shared → Prop} (hx : h.get? a = some o) (hc : o.cls = .type "function") (hq : Q (.type "function") ⟨h, g, d, t, os⟩) :
    wpAny (model prog w) A (getAttrBy (.ref a) (.str "__class__" tk) false) Q E ⟨h, g, d, t, os⟩ := by
  have i1 : (⟨h, g, d, t, os⟩ : Shared).TypeIs (.ref a) "function" := ⟨o, hx, hc⟩
  have i2 := ga.lookup
  have i3 := ga.bind (.ref a)
  repeat (any_goals (first | assumption | wp_step))
  refine fn_call hx hc ?_
  repeat (any_goals (first | assumption | wp_step))
theorem fn_attr {Q : Option Value → Shared → Prop} (hx : h.get? a = some o) (hc : o.cls = .type "function") (hq : Q (some (.type "function")) ⟨h, g, d, t + 1, os⟩) :
    wpAny (model prog w) A (getAttr? (.ref a) "__class__") Q E ⟨h, g, d, t, os⟩ := by
  unfold getAttr? getAttrBy?
  repeat (any_goals (first | assumption | with_reducible apply fn_by hx hc | wp_step))
end
end Lf
namespace Lw
open PySem PySem.Spec PyProof.Rows L2

open LamX
theorem kitx_fn {K : PySem.W.Frag} {a : Addr} : PySem.W.KitX K (.ref a) (.type "function") (PySem.W.KitAt a "function") := PySem.W.kitx_of PySem.W.kitAt_ty (fun {_ _ _ _ _ s} p k => by
  obtain ⟨h, g, d, t, os⟩ := s
  obtain ⟨o, h1, h2⟩ := p
  exact Lf.fn_attr h1 h2 k)
/-- a value's type: a def's, too -/
inductive TyZ (K : PySem.W.Frag) (H : Hp) : V → Value → Prop where
  | x {v : V} {t : Value} (h : TyX K H v t) : TyZ K H v t
  | fn {a : Addr} (e : H a = some (FnO a)) : TyZ K H (.ref a) (.type "function")
def rIsz (K : PySem.W.Frag) : List V → Hp → VK → Prop := fun xs H Q => ∃ (x c : V) (t u : Value) (b : Bool), xs = [x, c] ∧ ClsV c u ∧ TyZ K H x t ∧ PySem.W.kitOne K t u = some b ∧ Q (.bl b) H
theorem call_isz {X : Cx} : CallR X (.builtin "isinstance") (rIsz X.K) := by
  intro pins s σ H xs us Q I r h
  obtain ⟨x, c, t, u, b, rfl, k, ty, e, q⟩ := h
  obtain ⟨u1, u2, rfl, r1, r2⟩ := vals2 r
  have e2 := k.eq r2
  subst e2
  cases ty with
  | x ty =>
    obtain ⟨W, Z, p, hx⟩ := kit_of I r1 ty
    exact PySem.W.kia_one Z I.kIn p e hx fun tk => ⟨.bl b, H, I.tok tk, rfl, q⟩
  | @fn a ea =>
    have e3 : u1 = Value.ref a := r1
    subst e3
    obtain ⟨⟨o, h1, h2⟩, _⟩ := I.hok a _ ea
    exact PySem.W.kia_one kitx_fn I.kIn ⟨o, h1, h2⟩ e (fun z => by cases z) fun tk => ⟨.bl b, H, I.tok tk, rfl, q⟩
end Lw
namespace Lw
open PySem PySem.Spec PyProof.Rows L2

open LamX
abbrev sIsInt : Stmt := top 4
abbrev sWithin : Stmt := top 5
/-- what the top has told of the module's names -/
structure Txt (mg : Str → Option Value) : Prop extends Txt0 mg where
  n_bool : mg "bool" = none
  n_str : mg "str" = none
  n_isinstance : mg "isinstance" = none
  n_range : mg "range" = none
  n_repr : mg "repr" = none
  n_all : mg "all" = none
/-- any value that a caller may pass here -/
inductive Anyv (K : PySem.W.Frag) (H : Hp) : V → Prop where
  | int (i : Int) : Anyv K H (.int i)
  | non : Anyv K H .non
  | bl (b : Bool) : Anyv K H (.bl b)
  | str (z : Str) : Anyv K H (.str z)
  | obj {a : Addr} {t : Value} (h : TyZ K H (.ref a) t) (h1 : PySem.W.kitOne K t (.type "int") = some false) (h2 : PySem.W.kitOne K t (.type "bool") = some false) (h3 : PySem.W.kitOne K t (.type "str") = some false) : Anyv K H (.ref a)
def isI : V → Bool
  | .int _ => true
  | _ => false
def clsI : V → Bool
  | .int _ => true
  | .bl _ => true
  | _ => false
def clsB : V → Bool
  | .bl _ => true
  | _ => false
def isS : V → Bool
  | .str _ => true
  | _ => false
def inB (x : V) (lo hi : Int) : Bool := match x with
  | .int i => decide (lo ≤ i) && decide (i ≤ hi)
  | _ => false
def spIsInt (K : PySem.W.Frag) : Sp := fun vs H Q _ => ∃ x, vs = [x] ∧ Anyv K H x ∧ Q (.bl (isI x)) H
def spWithin (K : PySem.W.Frag) : Sp := fun vs H Q _ => ∃ x lo hi, vs = [x, .int lo, .int hi] ∧ Anyv K H x ∧ Q (.bl (inB x lo hi)) H
def spSize (K : PySem.W.Frag) : Sp := fun vs H Q _ => ∃ x, vs = [x] ∧ Anyv K H x ∧ Q (.bl (inB x 1 (10 ^ 30))) H
section
variable {P : Program} {w : World} {K : PySem.W.Frag} {mg : Str → Option Value} {base : Heap}
theorem isz_int {H : Hp} {x : V} {Q : V → Hp → Prop} (a : Anyv K H x) (q : Q (.bl (clsI x)) H) : rIsz K [x, .ty "int"] H Q := by
  cases a with
  | int i => exact ⟨_, _, .type "int", .type "int", true, rfl, .ty "int", .x (.base (.int i)), kit_ty (r := true) (by decide +kernel), q⟩
  | non => exact ⟨_, _, .type "NoneType", .type "int", false, rfl, .ty "int", .x (.base .non), kit_ty (r := false) (by decide +kernel), q⟩
  | bl b => exact ⟨_, _, .type "bool", .type "int", true, rfl, .ty "int", .x (.base (.bl b)), kit_ty (r := true) (by decide +kernel), q⟩
  | str z => exact ⟨_, _, .type "str", .type "int", false, rfl, .ty "int", .x (.base (.str z)), kit_ty (r := false) (by decide +kernel), q⟩
  | obj h h1 h2 h3 => exact ⟨_, _, _, .type "int", _, rfl, .ty "int", h, h1, q⟩
theorem isz_bool {H : Hp} {x : V} {Q : V → Hp → Prop} (a : Anyv K H x) (q : Q (.bl (clsB x)) H) : rIsz K [x, .ty "bool"] H Q := by
  cases a with
  | int i => exact ⟨_, _, .type "int", .type "bool", false, rfl, .ty "bool", .x (.base (.int i)), kit_ty (r := false) (by decide +kernel), q⟩
  | non => exact ⟨_, _, .type "NoneType", .type "bool", false, rfl, .ty "bool", .x (.base .non), kit_ty (r := false) (by decide +kernel), q⟩
  | bl b => exact ⟨_, _, .type "bool", .type "bool", true, rfl, .ty "bool", .x (.base (.bl b)), kit_ty (r := true) (by decide +kernel), q⟩
  | str z => exact ⟨_, _, .type "str", .type "bool", false, rfl, .ty "bool", .x (.base (.str z)), kit_ty (r := false) (by decide +kernel), q⟩
  | obj h h1 h2 h3 => exact ⟨_, _, _, .type "bool", _, rfl, .ty "bool", h, h2, q⟩
theorem isz_str {H : Hp} {x : V} {Q : V → Hp → Prop} (a : Anyv K H x) (q : Q (.bl (isS x)) H) : rIsz K [x, .ty "str"] H Q := by
  cases a with
  | int i => exact ⟨_, _, .type "int", .type "str", false, rfl, .ty "str", .x (.base (.int i)), kit_ty (r := false) (by decide +kernel), q⟩
  | non => exact ⟨_, _, .type "NoneType", .type "str", false, rfl, .ty "str", .x (.base .non), kit_ty (r := false) (by decide +kernel), q⟩
  | bl b => exact ⟨_, _, .type "bool", .type "str", false, rfl, .ty "str", .x (.base (.bl b)), kit_ty (r := false) (by decide +kernel), q⟩
  | str z => exact ⟨_, _, .type "str", .type "str", true, rfl, .ty "str", .x (.base (.str z)), kit_ty (r := true) (by decide +kernel), q⟩
  | obj h h1 h2 h3 => exact ⟨_, _, _, .type "str", _, rfl, .ty "str", h, h3, q⟩
theorem scIsInt : FnScope ["value"] ["value"] (C8.fnScope sIsInt) := C8.fnScope_by (by decide +kernel)
theorem fn_isint {f : Addr} {fd : FuncData} (F : C8.Def K mg "is_integer" sIsInt f fd) (T : Txt mg) : FnOk P w K mg base C8.CX0 1 f fd ["value"] (spIsInt K) := by
  refine C8.fn0 F.fn scIsInt (fun vs H Q E h => ?_) (fun cdv A outer st H vs Q E hr h => ?_)
  · obtain ⟨x, rfl, _⟩ := h
    rfl
  · obtain ⟨x, rfl, a, k⟩ := h
    refine ⟨_, (pss_one (ps_ret (pe_and (pe_callB call_isz (by rfl) T.n_isinstance (by decide +kernel) (pa_cons (pv 0) (pa_cons (pe_bltn (v := .ty "int") (by rfl) T.n_int (by decide +kernel) rfl) pa_nil))) (pe_one (pe_not (pe_callB call_isz (by rfl) T.n_isinstance (by decide +kernel) (pa_cons (pv 0) (pa_cons (pe_bltn (v := .ty "bool") (by rfl) T.n_bool (by decide +kernel) rfl) pa_nil)))))))), ?_⟩
    refine ⟨_, rfl, ?_⟩
    dsimp only [tCons, tC, tNil]
    refine isz_int a ⟨_, rfl, ?_⟩
    cases a with
    | int i =>
      refine iteT ⟨_, rfl, ?_⟩
      dsimp only [tCons, tC, tNil]
      exact isz_bool (.int i) ⟨_, rfl, k⟩
    | bl b =>
      refine iteT ⟨_, rfl, ?_⟩
      dsimp only [tCons, tC, tNil]
      exact isz_bool (.bl b) ⟨_, rfl, k⟩
    | non => exact iteF k
    | str z => exact iteF k
    | obj h h1 h2 h3 => exact iteF k
theorem cal_isint {f : Addr} {fd : FuncData} (F : C8.Def K mg "is_integer" sIsInt f fd) (b : Binds K fd ["value"] []) (T : Txt mg) : C8.Cal P w K mg base 1 "is_integer" (spIsInt K) [] :=
  ⟨f, fd, _, [], fn_isint F T, F.mgf, F.kp, b, .nil⟩
theorem scWithin : FnScope ["value", "least", "most"] ["value", "least", "most"] (C8.fnScope sWithin) := C8.fnScope_by (by decide +kernel)
theorem fn_within {f : Addr} {fd : FuncData} (F : C8.Def K mg "is_within" sWithin f fd) (T : Txt mg) (D : C8.Cal P w K mg base 1 "is_integer" (spIsInt K) []) : FnOk P w K mg base C8.CX0 2 f fd ["value", "least", "most"] (spWithin K) := by
  refine C8.fn0 F.fn scWithin (fun vs H Q E h => ?_) (fun cdv A outer st H vs Q E hr h => ?_)
  · obtain ⟨x, lo, hi, rfl, _⟩ := h
    rfl
  · obtain ⟨x, lo, hi, rfl, a, k⟩ := h
    refine ⟨_, (pss_one (ps_ret (pe_and (C8.pe_c D hr (by decide) (by rfl) (pa_cons (pv 0) pa_nil)) (pe_one (pe_chain op_le op_le (pv 1) (pv 0) (pv 2)))))), ?_⟩
    refine ⟨_, rfl, x, rfl, a, _, rfl, ?_⟩
    cases a with
    | int i =>
      refine iteT ⟨_, rfl, _, rfl, _, _, rfl, rfl, _, rfl, ite2 (fun c => ?_) (fun c => ?_)⟩
      · refine ⟨_, rfl, _, _, rfl, rfl, ?_⟩
        rw [show inB (.int i) lo hi = decide (i ≤ hi) by simp [inB, of_decide_eq_true c]] at k
        exact k
      · rw [show inB (.int i) lo hi = false by simp [inB, of_decide_eq_false (Bool.eq_false_iff.mpr c)]] at k
        exact k
    | bl b => exact iteF k
    | non => exact iteF k
    | str z => exact iteF k
    | obj h h1 h2 h3 => exact iteF k
theorem cal_within {f : Addr} {fd : FuncData} (F : C8.Def K mg "is_within" sWithin f fd) (b : Binds K fd ["value", "least", "most"] []) (T : Txt mg) (D : C8.Cal P w K mg base 1 "is_integer" (spIsInt K) []) : C8.Cal P w K mg base 2 "is_within" (spWithin K) [] :=
  ⟨f, fd, _, [], fn_within F T D, F.mgf, F.kp, b, .nil⟩
end
end Lw
namespace Lw
open PySem PySem.Spec PyProof.Rows L2

open LamX
/-- a comprehension over a text, whose tests and element leave the heap as it is -/
theorem lc_text {z : Str} {g : TG} {tt : TT} {te : TE} {vs : List Nat} {σ : L2.St} {H1 : Hp} {D : Addr} {Qd : Hp → Prop} (σc : Nat → L2.St) (flt : Nat → Bool) (f : Nat → V)
    (hg : ∀ c H (R : L2.St → Hp → Prop), R (σc c) H → g (.str ⟨#[c]⟩) (wipe σ vs) H R) (hw : ∀ c, wipe (σc c) vs = wipe σ vs) (ht : ∀ c H (R : Bool → Hp → Prop), R (flt c) H → tt (σc c) H R)
    (he : ∀ c H (R : V → Hp → Prop), flt c = true → R (f c) H → te (σc c) H R) (hz : z.cps.size ≤ 1000000) (hd : Qd (upd H1 D (.lst ((z.cps.toList.filter flt).map f)))) :
    ∃ W : Nat → Nat → Hp → Prop, (∃ m, W 0 m (upd H1 D (.lst []))) ∧ ∀ i m H, W i m H →
      ((Its z).stop i H ∧ Qd H) ∨ ((Its z).go i H ∧ ∃ Nx : Hp → Prop, (∀ H', Nx H' → ∃ m', m' < m ∧ W (i + 1) m' H') ∧ ∀ x H', (Its z).yld i H x H' → g x (wipe σ vs) H' fun σ2 H2 => wipe σ2 vs = wipe σ vs ∧ tt σ2 H2 fun b H3 =>
        if b = true then te σ2 H3 fun y H4 => ∃ acc, H4 D = some (.lst acc) ∧ acc.length < sizeLine ∧ Nx (upd H4 D (.lst (acc ++ [y]))) else Nx H3) := by
  refine lc_it (walk_str (z := z)) (fun i H => H = upd H1 D (.lst (((z.cps.toList.take i).filter flt).map f))) (by simp) (fun _ _ _ _ => trivial) ?_ ?_
  · intro i x H H' hi hP hY
    obtain ⟨rfl, c, hc, rfl⟩ := hY
    have hc' : z.cps.toList[i]? = some c := by rw [Array.getElem?_toList]; exact hc
    have htake : z.cps.toList.take (i + 1) = z.cps.toList.take i ++ [c] := by
      rw [List.take_add_one, hc']; rfl
    refine hg c _ _ ⟨hw c, ht c _ _ ?_⟩
    rw [hP]
    cases hf : flt c with
    | true =>
      refine iteT (he c _ _ hf ⟨_, upd_same, ?_, ?_⟩)
      · have h1 : (((z.cps.toList.take i).filter flt).map f).length ≤ z.cps.toList.length := by
          rw [List.length_map]
          exact Nat.le_trans (List.length_filter_le _ _) (List.length_take_le' _ _)
        rw [Array.length_toList] at h1
        exact Nat.lt_of_le_of_lt (Nat.le_trans h1 hz) (by show 1000000 < sizeLine; decide)
      · rw [upd_upd, htake, List.filter_append, List.map_append]
        simp [hf]
    | false =>
      refine iteF ?_
      rw [htake, List.filter_append, List.map_append]
      simp [hf]
  · rintro H rfl
    have e : z.cps.toList.take z.cps.size = z.cps.toList := List.take_of_length_le (by rw [Array.length_toList]; exact Nat.le_refl _)
    rw [e]
    exact hd
theorem inV_str (z : Str) : ∀ ws : List Str, inV (.str z) (ws.map V.str) = decide (z ∈ ws)
  | [] => rfl
  | x :: r => by
    show (eqV (.str x) (.str z) || inV (.str z) (r.map V.str)) = decide (z ∈ x :: r)
    rw [inV_str z r]
    show ((x == z) || decide (z ∈ r)) = _
    by_cases h : z = x
    · subst h; simp
    · have h2 : ¬ x = z := fun e => h e.symm
      simp [h, h2]
theorem flat_strs (ws : List Str) : (ws.map V.str).all flatV = true := by
  induction ws with
  | nil => rfl
  | cons x r ih => show (true && (r.map V.str).all flatV) = true; rw [ih]; rfl
theorem dp_signs {K : PySem.W.Frag} {H : Hp} : ∀ cs : List Nat, DpAll K H (cs.map fun c => V.str ⟨#[c]⟩) (cs.map fun c => PyData.str ⟨#[c]⟩)
  | [] => .nil
  | c :: r => .cons (.str _) (dp_signs r)
theorem lay_signs : ∀ cs : List Nat, (∀ c ∈ cs, c < 1114112) → PyData.canLayAll0 (cs.map fun c => PyData.str ⟨#[c]⟩) = true
  | [], _ => rfl
  | c :: r, h => by
    have h1 : PyData.canLay0 (.str ⟨#[c]⟩) = true := by
      show (#[c] : Array Nat).all (· < 1114112) = true
      simp [h c List.mem_cons_self]
    show (PyData.canLay0 (.str ⟨#[c]⟩) && PyData.canLayAll0 (r.map fun c => PyData.str ⟨#[c]⟩)) = true
    rw [h1, lay_signs r fun d hd => h d (List.mem_cons_of_mem _ hd)]; rfl
theorem depth_signs : ∀ cs : List Nat, PyData.depthAll (cs.map fun c => PyData.str ⟨#[c]⟩) = 0
  | [] => rfl
  | c :: r => by
    show max 0 (PyData.depthAll (r.map fun c => PyData.str ⟨#[c]⟩)) = 0
    rw [depth_signs r]; rfl
theorem shaped_signs (cs : List Nat) (h : ∀ c ∈ cs, c < 1114112) : SeqAt.shaped (.list (cs.map fun c => PyData.str ⟨#[c]⟩)) = true := by
  unfold SeqAt.shaped
  have h1 : PyData.canLay0 (.list (cs.map fun c => PyData.str ⟨#[c]⟩)) = true := lay_signs cs h
  have h2 : PyData.depth (.list (cs.map fun c => PyData.str ⟨#[c]⟩)) = 1 := by
    show PyData.depthAll (cs.map fun c => PyData.str ⟨#[c]⟩) + 1 = 1
    rw [depth_signs]
  rw [h1, h2]; rfl
theorem eqv_signs (cs : List Nat) : PyData.eqv (.list (cs.map fun c => PyData.str ⟨#[c]⟩)) (.list []) = cs.isEmpty := by
  cases cs <;> rfl
theorem filt_nil (p : Nat → Bool) : ∀ l : List Nat, (l.filter fun c => !p c).isEmpty = l.all p
  | [] => rfl
  | c :: r => by
    have ih := filt_nil p r
    cases h : p c with
    | true => simp only [List.filter_cons, h, Bool.not_true, List.all_cons, Bool.true_and]; exact ih
    | false => simp [h]
end Lw
namespace Lw
open PySem PySem.Spec PyProof.Rows L2

open SX PySem.NumText
/-! ### texts as lists of signs -/
def figs : List Nat → List Nat
  | 45 :: r => r
  | cs => cs
theorem figs_minus (r : List Nat) : figs (45 :: r) = r := rfl
theorem figs_other {c : Nat} (r : List Nat) (h : c ≠ 45) : figs (c :: r) = c :: r := by
  unfold figs
  split
  · rename_i e
    exact absurd (List.cons.inj e).1 h
  · rfl
theorem len1 : Str.length (S [45]) = 1 := rfl
theorem sub_head (c d : Nat) (r : List Nat) : Builtin.Str.subAt (S (c :: r)) (S [d]) 0 = decide (c = d) := by
  unfold Builtin.Str.subAt
  show ((c :: r).toArray.extract 0 (0 + 1) == #[d]) = _
  simp
  by_cases h : c = d <;> simp [h]
theorem rm_minus (cs : List Nat) : Txt.removeprefix (S cs) (S [45]) = S (figs cs) := by
  unfold Txt.removeprefix
  cases cs with
  | nil => rfl
  | cons c r =>
    rw [sub_head]
    by_cases h : c = 45
    · subst h
      rw [figs_minus]
      simp only [decide_true, if_true]
      show (if (((45 :: r).toArray.size - 1) == (45 :: r).toArray.size) = true then S (45 :: r) else Builtin.Str.strSub (S (45 :: r)) 1 ((45 :: r).toArray.size)) = S r
      have e : ((45 :: r).toArray.size - 1 == (45 :: r).toArray.size) = false := by simp
      rw [e]
      simp [Builtin.Str.strSub, S]
    · rw [figs_other r h]
      simp only [decide_eq_false h, Bool.false_eq_true, if_false]
      rfl
theorem sw_head (c d : Nat) (r : List Nat) : Txt.startswith (S (c :: r)) (S [d]) = decide (c = d) := by
  unfold Txt.startswith
  rw [sub_head]
  have e : decide (0 + (S [d]).length ≤ (S (c :: r)).length) = true := decide_eq_true (by rw [S_len, S_len]; simp)
  rw [e, Bool.true_and]
theorem sw_nil (d : Nat) : Txt.startswith (S []) (S [d]) = false := by
  unfold Txt.startswith
  have e : decide (0 + (S [d]).length ≤ (S []).length) = false := decide_eq_false (by rw [S_len, S_len]; simp)
  rw [e, Bool.false_and]
theorem ascii_S {cs : List Nat} (h : ∀ c ∈ cs, c < 128) : Txt.isascii (S cs) = true := by
  unfold Txt.isascii
  show cs.toArray.all (· < 128) = true
  simp only [List.all_toArray, List.all_eq_true, decide_eq_true_eq]
  exact h
theorem dig128 : ∀ c, c < 128 → Unicode.isDigit c = (decide (48 ≤ c) && decide (c ≤ 57)) := by decide +kernel
/-- all are figures, and there is one -/
def digB (cs : List Nat) : Bool := !cs.isEmpty && cs.all fun c => decide (48 ≤ c) && decide (c ≤ 57)
theorem isdigit_S {cs : List Nat} (h : ∀ c ∈ cs, c < 128) : Txt.isdigit (S cs) = digB cs := by
  unfold Txt.isdigit digB
  have e1 : decide ((S cs).length > 0) = !cs.isEmpty := by
    rw [S_len]
    cases cs <;> simp
  have e2 : (S cs).cps.all Unicode.isDigit = cs.all fun c => decide (48 ≤ c) && decide (c ≤ 57) := by
    show cs.toArray.all Unicode.isDigit = _
    rw [List.all_toArray]
    induction cs with
    | nil => rfl
    | cons c r ih =>
      rw [List.all_cons, List.all_cons, dig128 c (h c List.mem_cons_self), ih (fun d hd => h d (List.mem_cons_of_mem _ hd)) (by rw [S_len]; cases r <;> simp)]
  rw [e1, e2]
theorem digB_all {cs : List Nat} (h : digB cs = true) : AllDigits cs ∧ cs ≠ [] := by
  unfold digB at h
  rw [Bool.and_eq_true] at h
  refine ⟨fun c hc => ?_, fun e => by rw [e] at h; exact absurd h.1 (by decide)⟩
  have := List.all_eq_true.mp h.2 c hc
  rw [Bool.and_eq_true, decide_eq_true_eq, decide_eq_true_eq] at this
  exact this
theorem figs_sub {cs : List Nat} {c : Nat} (h : c ∈ figs cs) : c ∈ cs := by
  unfold figs at h
  split at h
  · exact List.mem_cons_of_mem _ h
  · exact h
theorem figs_len (cs : List Nat) : (figs cs).length ≤ cs.length := by
  unfold figs
  split
  · simp
  · exact Nat.le_refl _
/-! ### what figures are worth -/
theorem fold_app (a b : List Nat) (x : Nat) : (a ++ b).foldl (fun acc c => acc * 10 + (c - 48)) x = b.foldl (fun acc c => acc * 10 + (c - 48)) (a.foldl (fun acc c => acc * 10 + (c - 48)) x) := List.foldl_append
theorem fold_from : ∀ (b : List Nat) (x : Nat), b.foldl (fun acc c => acc * 10 + (c - 48)) x = x * 10 ^ b.length + digitsVal b
  | [], x => by simp [digitsVal]
  | c :: r, x => by
    show r.foldl _ (x * 10 + (c - 48)) = x * 10 ^ (r.length + 1) + r.foldl _ (0 * 10 + (c - 48))
    rw [fold_from r, fold_from r (0 * 10 + (c - 48)), Nat.pow_succ, Nat.zero_mul, Nat.zero_add, Nat.add_mul, Nat.mul_assoc, Nat.mul_comm 10 (10 ^ r.length), Nat.add_assoc]
theorem val_app (a b : List Nat) : digitsVal (a ++ b) = digitsVal a * 10 ^ b.length + digitsVal b := by
  show (a ++ b).foldl _ 0 = _
  rw [fold_app, fold_from b]; rfl
theorem val_zeros : ∀ k : Nat, digitsVal (List.replicate k 48) = 0
  | 0 => rfl
  | k + 1 => val_zeros k
theorem val_lt : ∀ cs : List Nat, AllDigits cs → digitsVal cs < 10 ^ cs.length
  | [], _ => by decide
  | c :: r, h => by
    have h1 := h c List.mem_cons_self
    have ih := val_lt r fun d hd => h d (List.mem_cons_of_mem _ hd)
    have e : digitsVal (c :: r) = (c - 48) * 10 ^ r.length + digitsVal r := by
      rw [show c :: r = [c] ++ r from rfl, val_app]
      show (0 * 10 + (c - 48)) * _ + _ = _
      rw [Nat.zero_mul, Nat.zero_add]
    rw [e, List.length_cons, Nat.pow_succ]
    have h2 : (c - 48) * 10 ^ r.length ≤ 9 * 10 ^ r.length := Nat.mul_le_mul_right _ (by omega)
    omega
theorem ten_two (n : Nat) : 10 ^ n ≤ 2 ^ (4 * n) := by
  rw [Nat.pow_mul]
  exact Nat.pow_le_pow_left (by decide) n
theorem all_zeros (k : Nat) : AllDigits (List.replicate k 48) := fun c hc => by
  rw [List.eq_of_mem_replicate hc]
  decide
theorem AllDigits.app {a b : List Nat} (ha : AllDigits a) (hb : AllDigits b) : AllDigits (a ++ b) := fun c hc => (List.mem_append.mp hc).elim (ha c) (hb c)
/-- the integer that a text writes just as str does -/
def intOf (cs : List Nat) : Option Int :=
  if digB (figs cs) = true then
    if (figs cs).head? = some 48 ∧ cs ≠ [48] then none
    else if cs.head? = some 45 then some (-((digitsVal (figs cs) : Nat) : Int)) else some ((digitsVal (figs cs) : Nat) : Int)
  else none
def optV : Option Int → V
  | none => .non
  | some i => .int i
end Lw
namespace Lw
open PySem PySem.Spec PyProof.Rows L2

open SX PySem.NumText
abbrev sIntOf : Stmt := top 18
theorem rep_list (z : Array Nat) : ∀ n : Nat, ∀ acc : Array Nat, ((List.replicate n z).foldl (· ++ ·) acc).toList = acc.toList ++ (List.replicate n z.toList).flatten
  | 0, acc => by simp
  | n + 1, acc => by
    rw [List.replicate_succ, List.foldl_cons, rep_list z n, List.replicate_succ, List.flatten_cons, Array.toList_append, List.append_assoc]
/-- a text, so many times -/
theorem op_mulS {X : Cx} : OpR X (binaryOp .Mult) (fun x y H Q => ∃ (cs : List Nat) (n : Int), x = .str (S cs) ∧ y = .int n ∧ 0 ≤ n ∧ n ≤ 10000 ∧ cs.length ≤ 1000 ∧ Q (.str (S (List.replicate n.toNat cs).flatten)) H) := by
  intro pins s σ H x y v u Q I rx ry h
  obtain ⟨cs, n, rfl, rfl, h0, h1, h2, q⟩ := h
  obtain ⟨t, rfl⟩ := rx
  obtain ⟨t2, rfl⟩ := ry
  refine PySem.P.mul_str ?_ ?_ ?_ ?_
  · rw [decide_eq_false (show ¬ n < -(2 ^ 63 : Int) by omega), decide_eq_false (show ¬ n ≥ 2 ^ 63 by omega)]; rfl
  · intro hn _ hz
    rw [S_len] at hz
    have : (9223372036854775807 : Int) / n ≥ 922337203685477 := by
      rw [ge_iff_le, Int.le_ediv_iff_mul_le (by omega)]
      omega
    have e : ((2 : Int) ^ 63 - 1) = 9223372036854775807 := by decide
    rw [e] at hz
    omega
  · intro hn _
    rw [S_len]
    have : cs.length * n.toNat ≤ 1000 * 10000 := Nat.mul_le_mul h2 (by omega)
    refine decide_eq_false ?_
    exact Nat.not_lt.mpr (Nat.le_trans this (by rw [sizeLine_eq]; decide))
  · by_cases hn : n < 1
    · rw [if_pos hn]
      have e : n.toNat = 0 := by omega
      rw [e] at q
      exact ⟨by decide, ⟨.str (S []), H, I.tok _, ⟨_, rfl⟩, q⟩⟩
    · rw [if_neg hn]
      by_cases hc : (n == 1 || (S cs).length == 0) = true
      · rw [if_pos hc]
        have e : (List.replicate n.toNat cs).flatten = cs := by
          rw [Bool.or_eq_true, beq_iff_eq, beq_iff_eq, S_len] at hc
          rcases hc with e | e
          · subst e; simp
          · rw [List.length_eq_zero_iff.mp e]; simp
        rw [e] at q
        exact ⟨.str (S cs), H, I, ⟨t, rfl⟩, q⟩
      · rw [if_neg hc]
        have e : (⟨(List.replicate n.toNat (S cs).cps).foldl (· ++ ·) #[]⟩ : Str) = S (List.replicate n.toNat cs).flatten := by
          refine congrArg Str.mk ?_
          refine Array.toList_inj.mp ?_
          rw [rep_list]; simp [S]
        rw [e]
        refine ⟨?_, ⟨.str _, H, I.tok _, ⟨_, rfl⟩, q⟩⟩
        rw [S_len, List.length_flatten, List.map_replicate, List.sum_replicate_nat]
        exact Nat.le_trans (Nat.mul_le_mul (show n.toNat ≤ 10000 by omega) h2) (by rw [sizeLine_eq]; decide)
theorem join_ifS {c : TT} {t u : TS} {D : Ends} {σ : L2.St} {H : Hp} (Pj : L2.St → Hp → Prop) (hr : ∀ σ' H', Pj σ' H' → D.nx σ' H') (h : (∀ σ' H', Pj σ' H' → D.nx σ' H') → tIfS c t u D σ H) : tIfS c t u D σ H := h hr
theorem nxt {t u : TS} {D D' : Ends} {σ : L2.St} {H : Hp} (e : D'.nx = tSeq t u D) (h : t { D with nx := u D } σ H) : tNext D' σ H := by
  show D'.nx σ H
  rw [e]; exact h
theorem slice_mid {a : List Nat} {i j : Int} (h0 : 0 ≤ i) (h1 : i ≤ j) (h2 : j ≤ (a.length : Int)) : Txt.slice (S a) (some i) (some j) = S ((a.drop i.toNat).take (j - i).toNat) :=
  beq_iff_eq.mp (PyProof.Rows.slice_closesL (x := S a) h0 h1 (by rw [S_len]; exact h2))
theorem rg60 (m : Nat) (hm : m ≤ 1000) : RgC 0 ((60 * m : Nat) : Int) 60 m := by
  refine ⟨by decide, by decide, ?_, ?_⟩
  · have key : ∀ x : Int, 0 ≤ x → x ≤ 100000 → Builtin.Range.rangeFitsLong x = true := fun x h0 h1 => by
      unfold Builtin.Range.rangeFitsLong
      rw [decide_eq_true (show -(2 ^ 63) ≤ x by omega), decide_eq_true (show x < 2 ^ 63 by omega)]; rfl
    have size : Builtin.Range.rangeSize 0 ((60 * m : Nat) : Int) 60 = (m : Int) := by
      unfold Builtin.Range.rangeSize
      rw [if_pos (show (60 : Int) > 0 by decide)]
      split <;> omega
    unfold Builtin.Range.small
    rw [size, if_pos (show (60 : Int) > 0 by decide), key 0 (by omega) (by omega), key _ (by omega) (by omega), key 60 (by omega) (by omega), key _ (by omega) (by omega), key _ (by omega) (by omega)]
    simp
  · unfold Builtin.Range.rangeSize
    rw [if_pos (show (60 : Int) > 0 by decide)]
    split <;> omega
structure TxtN (mg : Str → Option Value) : Prop extends Txt mg where
  c_PF : ∃ t, mg "PIECE_FIGURES" = some (.int 60 t)
  c_PW : ∃ t, mg "PIECE_WORTH" = some (.int (10 ^ 60) t)
def TextOk (x : V) : Prop := ∀ z, x = .str z → ∃ cs, z = S cs ∧ (∀ c ∈ cs, c < 128) ∧ cs.length ≤ 5000
def intV : V → Option Int
  | .str z => intOf z.cps.toList
  | _ => none
def spIntOf (K : PySem.W.Frag) : Sp := fun vs H Q _ => ∃ x, vs = [x] ∧ Anyv K H x ∧ TextOk x ∧ Q (optV (intV x)) H
section
variable {P : Program} {w : World} {K : PySem.W.Frag} {mg : Str → Option Value} {base : Heap}
theorem scIntOf : FnScope ["word", "figures", "filled", "worth", "at"] ["word"] (C8.fnScope sIntOf) := C8.fnScope_by (by decide +kernel)
theorem cal_intof {f : Addr} {fd : FuncData} (F : C8.Def K mg "integer_of" sIntOf f fd) (b : Binds K fd ["word"] []) (T : TxtN mg) : C8.Cal P w K mg base 1 "integer_of" (spIntOf K) [] := by
  refine C8.cal0 F b .nil scIntOf (fun vs H Q E h => ?_) (fun cdv A outer st H vs Q E hr h => ?_)
  · obtain ⟨x, rfl, _⟩ := h
    rfl
  · obtain ⟨x, rfl, a, ok, k⟩ := h
    obtain ⟨t1, hPF⟩ := T.c_PF
    obtain ⟨t2, hPW⟩ := T.c_PW
    refine ⟨_, (pss_cons (ps_if (pt_not (pt_val (pe_callB call_isz (by rfl) T.n_isinstance (by decide +kernel) (pa_cons (pv 0) (pa_cons (pe_bltn (v := .ty "str") (by rfl) T.n_str (by decide +kernel) rfl) pa_nil))))) (pss_one (ps_ret pe_non)) pss_nil)
  (pss_cons (ps_set (i := 1) scIntOf.nd rfl (Or.inl rfl) (pe_m1 PySem.F.slot_str_removeprefix PySem.F.type_str_removeprefix mt_removeprefix (pv 0) pe_str))
  (pss_cons (ps_if (PW.pt (pw_or (pt_not (pt_val (pe_m0 PySem.F.slot_str_isascii PySem.F.type_str_isascii mt_isascii (pv 1)))) (pw_or1 (pt_not (pt_val (pe_m0 PySem.F.slot_str_isdigit PySem.F.type_str_isdigit mt_isdigit (pv 1))))))) (pss_one (ps_ret pe_non)) pss_nil)
  (pss_cons (ps_if (PW.pt (pw_and (pt_val (pe_m1 PySem.F.slot_str_startswith PySem.F.type_str_startswith mt_startswith (pv 1) pe_str)) (pw_and1 (pt_cmpR op_ne (pv 0) pe_str (nomark _))))) (pss_one (ps_ret pe_non)) pss_nil)
  (pss_cons (ps_set (i := 2) scIntOf.nd rfl (Or.inl rfl) (pe_op op_add_str (pe_op op_mulS pe_str (pe_op op_modN (pe_un un_neg (pe_callB call_len_str (by rfl) T.n_len (by decide +kernel) (pa_cons (pv 1) pa_nil))) (pe_glob (v := .int 60) rfl hPF ⟨_, rfl⟩))) (pv 1)))
  (pss_cons (ps_set (i := 3) scIntOf.nd rfl (Or.inl rfl) pe_int)
  (pss_cons (ps_for PassesOwn.never rfl (pi_range3 (by rfl) T.n_range (pa_cons pe_int (pa_cons (pe_callB call_len_str (by rfl) T.n_len (by decide +kernel) (pa_cons (pv 2) pa_nil)) (pa_cons (pe_glob (v := .int 60) rfl hPF ⟨_, rfl⟩) pa_nil)))) (pg_name (i := 4) scIntOf.nd rfl (Or.inl rfl)) (pss_one (ps_set (i := 3) scIntOf.nd rfl (Or.inl rfl) (pe_op op_add (pe_op op_mulW (pv 3) (pe_glob (v := .int (10 ^ 60)) rfl hPW ⟨_, rfl⟩)) (pe_callTy call_int_str (by rfl) T.n_int (by decide +kernel) (pa_cons (pe_slice C8.sl_txt (pv 2) (po_some (pv 4)) (po_some (pe_op op_add (pv 4) (pe_glob (v := .int 60) rfl hPF ⟨_, rfl⟩)))) pa_nil))))))
  (pss_one (ps_ret (pe_ifExp (pt_val (pe_m1 PySem.F.slot_str_startswith PySem.F.type_str_startswith mt_startswith (pv 0) pe_str)) (pe_un un_neg (pv 3)) (pv 3))))))))))), ?_⟩
    refine ⟨_, rfl, ?_⟩
    dsimp only [tCons, tC, tNil]
    refine isz_str a ⟨_, rfl, ?_⟩
    cases a with
    | str z =>
      obtain ⟨cs, rfl, h128, hlen⟩ := ok z rfl
      refine iteF ?_
      have hl : (S cs).length ≤ sizeLine := by rw [S_len]; exact Nat.le_trans hlen (by decide)
      have f128 : ∀ c ∈ figs cs, c < 128 := fun c hc => h128 c (figs_sub hc)
      have flen : (figs cs).length ≤ 5000 := Nat.le_trans (figs_len cs) hlen
      refine ⟨_, rfl, ⟨_, rfl⟩, _, _, rfl, rfl, hl, ?_⟩
      rw [show (Str.ofString "-") = S [45] from rfl, rm_minus]
      refine ⟨_, rfl, ⟨_, rfl⟩, _, rfl, rfl, trivial, _, rfl, ?_⟩
      rw [ascii_S f128]
      refine iteF ⟨_, rfl, ⟨_, rfl⟩, _, rfl, rfl, trivial, _, rfl, ?_⟩
      rw [isdigit_S f128]
      have kk : ∀ o : Option Int, o = intOf cs → Q (optV o) H := fun o e => by rw [e]; exact k
      cases hd : digB (figs cs) with
      | false =>
        refine iteT (kk none ?_)
        unfold intOf
        rw [hd]; rfl
      | true =>
        refine iteF ?_
        obtain ⟨hall, hne⟩ := digB_all hd
        obtain ⟨f, fr, hfig⟩ : ∃ f fr, figs cs = f :: fr := by
          cases e : figs cs with
          | nil => exact absurd e hne
          | cons f fr => exact ⟨f, fr, rfl⟩
        have bad : ¬ ((figs cs).head? = some 48 ∧ cs ≠ [48]) → ∀ o : Option Int, (o = if cs.head? = some 45 then some (-((digitsVal (figs cs) : Nat) : Int)) else some ((digitsVal (figs cs) : Nat) : Int)) → Q (optV o) H := fun hb o e => by
          refine kk o ?_
          unfold intOf
          rw [if_pos hd, if_neg hb]; exact e
        have s0 : Str.ofString "0" = S [48] := rfl
        dsimp only [tNext, tSeq]
        refine join_ifS (fun σ' H' => σ' = [some (.str (S cs)), some (.str (S (figs cs))), none, none, none] ∧ H' = H ∧ ¬ ((figs cs).head? = some 48 ∧ cs ≠ [48])) ?rest (fun go => ?_)
        case rest =>
          rintro σ' H' ⟨rfl, rfl, hb⟩
          have fl : ((S (figs cs)).length : Int) = ((figs cs).length : Int) := by rw [S_len]
          obtain ⟨pad, hpad⟩ : ∃ pad : Nat, Int.fmod (-((S (figs cs)).length : Int)) 60 = (pad : Int) := ⟨(Int.fmod (-((S (figs cs)).length : Int)) 60).toNat, by have := fm0 (a := -((S (figs cs)).length : Int)) (d := 60) (by decide); omega⟩
          have hpad' : (-((figs cs).length : Int)) % 60 = (pad : Int) := by rw [← fl, ← hpad, Int.fmod_eq_emod_of_nonneg _ (by decide)]
          obtain ⟨m, hm⟩ : ∃ m : Nat, pad + (figs cs).length = 60 * m := ⟨(pad + (figs cs).length) / 60, by omega⟩
          have hfl : (S (figs cs)).length ≤ sizeLine := by rw [S_len]; exact Nat.le_trans flen (by decide)
          refine ⟨_, rfl, _, rfl, hfl, _, rfl, _, _, rfl, rfl, (by show ¬ (_ = _); decide), [48], _, s0 ▸ rfl, rfl, ?_⟩
          rw [hpad]
          have pl : pad < 60 := by omega
          have ez : (List.replicate ((pad : Int).toNat) [48]).flatten = List.replicate pad 48 := by
            rw [Int.toNat_natCast]
            induction pad with
            | zero => rfl
            | succ p ih => rw [List.replicate_succ, List.flatten_cons, List.replicate_succ]; simp
          rw [ez]
          obtain ⟨fill, hfill⟩ : ∃ fill, fill = List.replicate pad 48 ++ figs cs := ⟨_, rfl⟩
          have flenF : fill.length = 60 * m := by rw [hfill, List.length_append, List.length_replicate]; exact hm
          have allF : AllDigits fill := by rw [hfill]; exact AllDigits.app (all_zeros pad) hall
          have valF : digitsVal fill = digitsVal (figs cs) := by rw [hfill, val_app, val_zeros, Nat.zero_mul, Nat.zero_add]
          have hm60 : m ≤ 90 := by omega
          have lF : (S fill).length ≤ sizeLine := by rw [S_len, flenF]; exact Nat.le_trans (show 60 * m ≤ 5400 by omega) (by decide)
          refine ⟨by omega, by omega, by decide, _, rfl, _, _, rfl, rfl, ?_, ?_⟩
          · rw [S_len, S_len, List.length_replicate]; exact Nat.le_trans (show pad + (figs cs).length ≤ 5400 by omega) (by decide)
          rw [S_cat, ← hfill]
          refine ⟨_, rfl, _, rfl, lF, 0, _, 60, m, rfl, ?_, for_rangeC (fun i σ' H2 => ∃ at_, σ' = [some (V.str (S cs)), some (V.str (S (figs cs))), some (V.str (S fill)), some (V.int ((digitsVal (fill.take (60 * i)) : Nat) : Int)), at_] ∧ H2 = H') ⟨none, rfl, rfl⟩ ?_ ?_⟩
          · rw [show ((S fill).length : Int) = ((60 * m : Nat) : Int) by rw [S_len, flenF]]
            exact rg60 m (by omega)
          · rintro i σ' H2 hi ⟨at_, rfl, rfl⟩
            have h60 : 60 * i + 60 ≤ 60 * m := by omega
            have sl : Txt.slice (S fill) (some (0 + ((i : Nat) : Int) * 60)) (some (0 + ((i : Nat) : Int) * 60 + 60)) = S ((fill.drop (60 * i)).take 60) := by
              rw [slice_mid (by omega) (by omega) (by rw [flenF]; omega)]
              rw [show (0 + ((i : Nat) : Int) * 60).toNat = 60 * i by omega, show (0 + ((i : Nat) : Int) * 60 + 60 - (0 + ((i : Nat) : Int) * 60)).toNat = 60 by omega]
            have cl : ((fill.drop (60 * i)).take 60).length = 60 := by rw [List.length_take, List.length_drop, flenF]; omega
            have cd : AllDigits ((fill.drop (60 * i)).take 60) := fun c hc => allF c (List.mem_of_mem_drop (List.mem_of_mem_take hc))
            have tk : fill.take (60 * (i + 1)) = fill.take (60 * i) ++ (fill.drop (60 * i)).take 60 := by rw [Nat.mul_succ, List.take_add]
            have td : AllDigits (fill.take (60 * i)) := fun c hc => allF c (List.mem_of_mem_take hc)
            have tl : (fill.take (60 * i)).length = 60 * i := by rw [List.length_take, flenF]; omega
            have big : (((digitsVal (fill.take (60 * i)) : Nat) : Int)).natAbs < 2 ^ (4 * (60 * i) + 1) := by
              have h1 := val_lt _ td
              rw [tl] at h1
              have h2 := ten_two (60 * i)
              have h3 : (2 : Nat) ^ (4 * (60 * i)) < 2 ^ (4 * (60 * i) + 1) := Nat.pow_lt_pow_right (by decide) (by omega)
              rw [Int.natAbs_natCast]
              omega
            refine ⟨_, rfl, _, _, rfl, rfl, wide_mul big (show ((10 : Int) ^ 60).natAbs < 2 ^ 240 by decide) (by omega) (by decide) (by omega), ?_⟩
            have hint : intText? (Txt.slice (S fill) (some (0 + ((i : Nat) : Int) * 60)) (some (0 + ((i : Nat) : Int) * 60 + 60))) = some ((digitsVal ((fill.drop (60 * i)).take 60) : Nat) : Int) := by
              rw [sl]
              exact intText_digits (x := S ((fill.drop (60 * i)).take 60)) cd (fun e => by rw [show (fill.drop (60 * i)).take 60 = [] from e] at cl; exact absurd cl (by decide)) (by rw [S_len, cl]; decide)
            have hsl : (Txt.slice (S fill) (some (0 + ((i : Nat) : Int) * 60)) (some (0 + ((i : Nat) : Int) * 60 + 60))).length ≤ 640 := by rw [sl, S_len, cl]; decide
            have val : ((digitsVal (fill.take (60 * i)) : Nat) : Int) * 10 ^ 60 + ((digitsVal ((fill.drop (60 * i)).take 60) : Nat) : Int) = ((digitsVal (fill.take (60 * (i + 1))) : Nat) : Int) := by
              rw [tk, val_app, cl]
              rw [Int.natCast_add, Int.natCast_mul, Int.natCast_pow]; rfl
            refine ⟨_, rfl, ⟨_, rfl, _, rfl, ⟨_, rfl, _, _, rfl, rfl, _, rfl, _, rfl, lF, _, _, rfl, hint, hsl, _, _, rfl, rfl, some (V.int (0 + ((i : Nat) : Int) * 60)), ?_, rfl⟩⟩⟩
            rw [← val]; rfl
          · rintro σ' H2 ⟨at_, rfl, rfl⟩
            have full : fill.take (60 * m) = fill := List.take_of_length_le (by omega)
            rw [full, valF]
            refine ⟨_, rfl, ⟨_, rfl⟩, _, _, rfl, rfl, _, rfl, ?_⟩
            obtain ⟨c, r, hcs⟩ : ∃ c r, cs = c :: r := by
              cases e : cs with
              | nil => rw [e] at hfig; cases hfig
              | cons c r => exact ⟨c, r, rfl⟩
            have esw : Txt.startswith (S cs) (S [45]) = decide (c = 45) := by rw [hcs]; exact sw_head c 45 r
            rw [esw]
            refine ite2 (fun c2 => ?_) (fun c2 => ?_)
            · have e2 : c = 45 := of_decide_eq_true c2
              refine ⟨_, rfl, _, rfl, bad hb (some (-((digitsVal (figs cs) : Nat) : Int))) ?_⟩
              rw [if_pos (show cs.head? = some 45 by rw [hcs, e2]; rfl)]
            · have e2 : c ≠ 45 := of_decide_eq_false (Bool.eq_false_iff.mpr c2)
              refine ⟨_, rfl, bad hb (some ((digitsVal (figs cs) : Nat) : Int)) ?_⟩
              rw [if_neg (show ¬ cs.head? = some 45 by rw [hcs]; exact fun z => e2 (Option.some.inj z))]
        refine ⟨_, rfl, ⟨_, rfl⟩, _, _, rfl, rfl, _, rfl, ?_⟩
        rw [hfig, s0, sw_head]
        refine ite2 (fun c0 => ?_) (fun c0 => ?_)
        · refine ⟨_, rfl, rfl, _, rfl, ite2 (fun c1 => ?_) (fun c1 => ?_)⟩
          · refine kk none ?_
            unfold intOf
            rw [if_pos hd, if_pos]
            refine ⟨by rw [hfig, of_decide_eq_true c0]; rfl, fun e => ?_⟩
            rw [e] at c1
            exact absurd c1 (by decide)
          · refine go _ _ ⟨by rw [hfig]; rfl, rfl, fun hb => hb.2 ?_⟩
            have e : V.str (S cs) = V.str (S [48]) := by simpa using c1
            exact S_inj (V.str.inj e)
        · refine iteF (go _ _ ⟨by rw [hfig]; rfl, rfl, fun hb => ?_⟩)
          rw [hfig] at hb
          have e : f = 48 := Option.some.inj hb.1
          exact c0 (decide_eq_true e)
    | int i => exact iteT k
    | bl b => exact iteT k
    | non => exact iteT k
    | obj h h1 h2 h3 => exact iteT k
end
end Lw
namespace Lw
open PySem PySem.Spec PyProof.Rows L2
open SX PySem.NumText TL
abbrev sNumOf : Stmt := top 19
theorem dig_back : ∀ cs : List Nat, AllDigits cs → (cs.map Char.ofNat).map Char.toNat = cs
  | [], _ => rfl
  | c :: r, h => by
    have h1 := h c List.mem_cons_self
    have e : (Char.ofNat c).toNat = c := by
      have k : ∀ d : Nat, d < 58 → (Char.ofNat d).toNat = d := by decide
      exact k c (by omega)
    rw [List.map_cons, List.map_cons, e, dig_back r fun d hd => h d (List.mem_cons_of_mem _ hd)]
theorem num_back {c : Nat} {r : List Nat} (h : AllDigits (c :: r)) (hc : 49 ≤ c ∨ r = []) : numL (digitsVal (c :: r)) = c :: r := by
  unfold numL
  rw [toDigits_digitsVal r.length (c :: r) rfl h (hc.elim (fun h => .inr ⟨c, r, rfl, h⟩) fun e => .inl (by rw [e]; rfl)), dig_back _ h]
theorem num_head : ∀ n : Nat, 0 < n → ∃ c r, numL n = c :: r ∧ 49 ≤ c := by
  intro n
  induction n using Nat.strongRecOn with
  | _ n ih =>
    intro h0
    by_cases h : n < 10
    · exact ⟨48 + n, [], numL_lt h, by omega⟩
    · obtain ⟨c, r, e, hc⟩ := ih (n / 10) (by omega) (by omega)
      exact ⟨c, r ++ [48 + n % 10], by rw [numL_step (by omega), e]; rfl, hc⟩
def numV (x : V) (lo hi : Int) : Option Int := match intV x with
  | some i => if lo ≤ i ∧ i ≤ hi then some i else none
  | none => none
theorem join_any {t : TS} {D : Ends} {σ : L2.St} {H : Hp} (Pj : L2.St → Hp → Prop) (hr : ∀ σ' H', Pj σ' H' → D.nx σ' H') (h : (∀ σ' H', Pj σ' H' → D.nx σ' H') → t D σ H) : t D σ H := h hr
def spNumOf (K : PySem.W.Frag) : Sp := fun vs H Q _ => ∃ x lo hi, vs = [x, .int lo, .int hi] ∧ Anyv K H x ∧ TextOk x ∧ Q (optV (numV x lo hi)) H
section
variable {P : Program} {w : World} {K : PySem.W.Frag} {mg : Str → Option Value} {base : Heap}
theorem scNumOf : FnScope ["word", "least", "most", "value"] ["word", "least", "most"] (C8.fnScope sNumOf) := C8.fnScope_by (by decide +kernel)
theorem fn_numof {f : Addr} {fd : FuncData} (F : C8.Def K mg "number_of" sNumOf f fd) (DI : C8.Cal P w K mg base 1 "integer_of" (spIntOf K) []) (DW : C8.Cal P w K mg base 2 "is_within" (spWithin K) []) :
    FnOk P w K mg base C8.CX0 3 f fd ["word", "least", "most"] (spNumOf K) := by
  refine C8.fn0 F.fn scNumOf (fun vs H Q E h => ?_) (fun cdv A outer st H vs Q E hr h => ?_)
  · obtain ⟨x, lo, hi, rfl, _⟩ := h
    rfl
  · obtain ⟨x, lo, hi, rfl, a, ok, k⟩ := h
    refine ⟨_, (pss_cons (ps_set (i := 3) scNumOf.nd rfl (Or.inl rfl) (C8.pe_c DI hr (by decide) (by rfl) (pa_cons (pv 0) pa_nil)))
  (pss_one (ps_ret (pe_ifExp (pt_val (C8.pe_c DW hr (by decide) (by rfl) (pa_cons (pv 3) (pa_cons (pv 1) (pa_cons (pv 2) pa_nil))))) (pv 3) pe_non)))), ?_⟩
    refine ⟨_, rfl, x, rfl, a, ok, ?_⟩
    have av : Anyv K H (optV (intV x)) := by cases intV x with | none => exact .non | some i => exact .int i
    refine ⟨_, rfl, _, rfl, _, rfl, _, _, _, rfl, av, _, rfl, ?_⟩
    unfold numV at k
    cases e : intV x with
    | none =>
      rw [e] at k
      exact iteF k
    | some i =>
      rw [e] at k
      refine ite2 (fun c => ?_) (fun c => ?_)
      · have h2 : lo ≤ i ∧ i ≤ hi := by
          have c' : (decide (lo ≤ i) && decide (i ≤ hi)) = true := c
          rw [Bool.and_eq_true, decide_eq_true_eq, decide_eq_true_eq] at c'
          exact c'
        refine ⟨_, rfl, ?_⟩
        simp only [h2, and_self, if_true] at k
        exact k
      · have h2 : ¬ (lo ≤ i ∧ i ≤ hi) := fun z => c (by
          show (decide (lo ≤ i) && decide (i ≤ hi)) = true
          rw [decide_eq_true z.1, decide_eq_true z.2]; rfl)
        simp only [h2, if_false] at k
        exact k
theorem cal_numof {f : Addr} {fd : FuncData} (F : C8.Def K mg "number_of" sNumOf f fd) (b : Binds K fd ["word", "least", "most"] []) (DI : C8.Cal P w K mg base 1 "integer_of" (spIntOf K) []) (DW : C8.Cal P w K mg base 2 "is_within" (spWithin K) []) :
    C8.Cal P w K mg base 3 "number_of" (spNumOf K) [] :=
  ⟨f, fd, _, [], fn_numof F DI DW, F.mgf, F.kp, b, .nil⟩
end
end Lw
namespace Lw
open PySem PySem.Spec PyProof.Rows L2
open LamX ClX
/-! ### errors of two fields, raised -/
abbrev sTxE : Stmt := inClass (top 13) 0
abbrev sMnE : Stmt := inClass (top 14) 0
/-- what an __init__ that keeps its two arguments promises -/
def spE2 (C : Addr) (f1 f2 : Str) : Sp := fun vs H Q _ => ∃ (a : Addr) (v1 v2 : V), vs = [.ref a, v1, v2] ∧ H a = some (exo a C none) ∧ ∀ dx, H dx = none → dx ≠ a → ∀ fs, fs.lookup f1 = some v1 → fs.lookup f2 = some v2 → Q .non (upd (upd H dx (exd dx fs)) a (exo a C (some dx)))
theorem two_fields {H : Hp} {a C dx : Addr} {f1 f2 : Str} {v1 v2 : V} (ne : dx ≠ a) : upd (upd (upd H dx (exd dx [(f1, v1)])) a (exo a C (some dx))) dx (exd dx [(f2, v2), (f1, v1)]) = upd (upd H dx (exd dx [(f2, v2), (f1, v1)])) a (exo a C (some dx)) := by
  funext b
  by_cases h1 : b = a
  · rw [h1, upd_ne ne.symm, upd_same, upd_same]
  · by_cases h2 : b = dx
    · rw [h2, upd_same, upd_ne ne, upd_same]
    · rw [upd_ne h2, upd_ne h1, upd_ne h2, upd_ne h1, upd_ne h2]
section
variable {P : Program} {w : World} {K : PySem.W.Frag} {mg : Str → Option Value} {base : Heap}
theorem sctxE : FnScope ["self", "line", "word"] ["self", "line", "word"] (C8.fnScope sTxE) := C8.fnScope_by (by decide +kernel)
theorem fn_txE {C f : Addr} {fd : FuncData} (F : C8.Fun K "__init__" "BadText.__init__" sTxE f fd) (T : OexC K C) (no1 : PySem.W.findIn K (.ref C) "line" = some none) (no2 : PySem.W.findIn K (.ref C) "word" = some none) : FnOk P w K mg base C8.CX0 1 f fd ["self", "line", "word"] (spE2 C "line" "word") := by
  refine C8.fn0 F sctxE (fun vs H Q E h => ?_) (fun cdv A outer st H vs Q E hr h => ?_)
  · obtain ⟨a, v1, v2, rfl, _⟩ := h
    rfl
  · obtain ⟨a, v1, v2, rfl, ha, k⟩ := h
    refine ⟨_, pss_cons (ps_ost (pv 0) (pv 1)) (pss_one (ps_ost (pv 0) (pv 2))), ?_⟩
    refine ⟨_, rfl, _, rfl, a, C, rfl, T, no1, .inl ⟨ha, fun dx h1 h2 => ?_⟩⟩
    refine ⟨_, rfl, _, rfl, a, C, rfl, T, no2, .inr ⟨dx, [("line", v1)], upd_same, (by rw [upd_ne h2]; exact upd_same), (by show 1 ≤ 900; decide), ?_⟩⟩
    rw [two_fields h2]
    exact k dx h1 h2 _ (by rw [lookup_put, if_neg (by decide +kernel), lookup_put, if_pos rfl]) (by rw [lookup_put, if_pos rfl])
theorem scmnE : FnScope ["self", "what", "most"] ["self", "what", "most"] (C8.fnScope sMnE) := C8.fnScope_by (by decide +kernel)
theorem fn_mnE {C f : Addr} {fd : FuncData} (F : C8.Fun K "__init__" "TooMany.__init__" sMnE f fd) (T : OexC K C) (no1 : PySem.W.findIn K (.ref C) "what" = some none) (no2 : PySem.W.findIn K (.ref C) "most" = some none) : FnOk P w K mg base C8.CX0 1 f fd ["self", "what", "most"] (spE2 C "what" "most") := by
  refine C8.fn0 F scmnE (fun vs H Q E h => ?_) (fun cdv A outer st H vs Q E hr h => ?_)
  · obtain ⟨a, v1, v2, rfl, _⟩ := h
    rfl
  · obtain ⟨a, v1, v2, rfl, ha, k⟩ := h
    refine ⟨_, pss_cons (ps_ost (pv 0) (pv 1)) (pss_one (ps_ost (pv 0) (pv 2))), ?_⟩
    refine ⟨_, rfl, _, rfl, a, C, rfl, T, no1, .inl ⟨ha, fun dx h1 h2 => ?_⟩⟩
    refine ⟨_, rfl, _, rfl, a, C, rfl, T, no2, .inr ⟨dx, [("what", v1)], upd_same, (by rw [upd_ne h2]; exact upd_same), (by show 1 ≤ 900; decide), ?_⟩⟩
    rw [two_fields h2]
    exact k dx h1 h2 _ (by rw [lookup_put, if_neg (by decide +kernel), lookup_put, if_pos rfl]) (by rw [lookup_put, if_pos rfl])
end
/-- the error's class, ready to be raised -/
structure Err2 (nm f1 f2 : Str) (P : Program) (w : World) (K : PySem.W.Frag) (mg : Str → Option Value) (base : Heap) (D fE : Addr) (fdE : FuncData) : Prop where
  T : OexC K D
  iC : PySem.W.findIn K (.ref D) "__init__" = some (some (.ref fE))
  tI : PySem.W.typeIn K (.ref fE) = some (.type "function")
  F : FnOk P w K mg base C8.CX0 1 fE fdE ["self", f1, f2] (spE2 D f1 f2)
  b : Binds K fdE ["self", f1, f2] []
  hm : mg nm = some (.ref D)
section
variable {X : Cx} {f1 f2 : Str} {C fI : Addr} {fd : FuncData} {W : WX} {j : Nat} {e1 e2 : Expr} {te1 te2 : TE} {p pos pos2 : Pos}
/-- raise X(e1, e2), X such a class -/
def tBad2 (f1 f2 : Str) (C : Addr) (W : WX) (te1 te2 : TE) : TS := fun _ σ H => tMkO C (spE2 C f1 f2) [] (tCons te1 (tCons te2 tNil)) σ H fun cls d H' => W cls d σ H'
theorem ps_bad2 {x : Str} (hc : X.calm = true) (tk : Takes X W) (T : OexC X.K C) (iC : PySem.W.findIn X.K (.ref C) "__init__" = some (some (.ref fI))) (tI : PySem.W.typeIn X.K (.ref fI) = some (.type "function")) (F : FnOk X.prog X.w X.K X.mg X.base C8.CX0 1 fI fd ["self", f1, f2] (spE2 C f1 f2)) (hr : Room (j + 2) X.A) (hb : Binds X.K fd ["self", f1, f2] [])
    (hg : Gl X x) (hm : X.mg x = some (.ref C)) (he1 : PE X e1 te1) (he2 : PE X e2 te2) (hst2 : starEach [e2] X.env = [(false, eval e2 X.env)] := by rfl) (hst : starEach [e1, e2] X.env = (false, eval e1 X.env) :: starEach [e2] X.env := by rfl) (hdb : (x == ("__debug__" : Str)) = false := by decide) (hpl : (backTo pos (starEach [e2] X.env)).any (·.1) = false := by rfl) :
    PS X (.Raise (some (.Call (.Name x p) [e1, e2] [] pos)) none pos2) (tBad2 f1 f2 C W te1 te2) :=
  ps_raise hc tk (pmk_oex T iC tI F (hr.mono (by omega)) hb .nil C8.pass0 hg hm (pa_cons he1 (pa_cons he2 pa_nil hst2) hst) hdb hst hpl)
theorem bad_leaf2 {H1 : Hp} {v1 v2 : V} {Q : XK} (k : ∀ d fs, H1 d = none → fs.lookup f1 = some v1 → fs.lookup f2 = some v2 → Q (.ref C) (some d) (upd H1 d (.xd fs))) :
    ([v1, v2] : List V).length ≤ 1000 ∧ ∀ a, H1 a = none → spE2 C f1 f2 (.ref a :: ([v1, v2] ++ [])) (upd H1 a (exo a C none)) (fun z H2 => z = .non ∧ ∃ (d : Addr) (fs : List (Str × V)), H2 a = some (exo a C (some d)) ∧ H2 d = some (exd d fs) ∧ H1 d = none ∧ Q (.ref C) (some d) (upd (del H2 a) d (.xd fs))) (fun _ _ _ => False) := by
  refine ⟨(by show 2 ≤ 1000; decide), fun a ha => ⟨a, v1, v2, rfl, upd_same, fun dx h1 h2 fs e1 e2 => ?_⟩⟩
  rw [upd_ne h2] at h1
  refine ⟨rfl, dx, fs, upd_same, by rw [upd_ne h2]; exact upd_same, h1, ?_⟩
  have e : upd (del (upd (upd (upd H1 a (exo a C none)) dx (exd dx fs)) a (exo a C (some dx))) a) dx (.xd fs) = upd H1 dx (.xd fs) := by
    funext b
    by_cases q : b = dx
    · rw [q, upd_same, upd_same]
    · rw [upd_ne q, upd_ne q]
      by_cases q2 : b = a
      · rw [q2, del_same, ha]
      · rw [del_ne q2, upd_ne q2, upd_ne q, upd_ne q2]
  rw [e]
  exact k dx fs h1 e1 e2
end
/-! ### a classmethod by keywords -/
section
variable {X : Cx} {CX : CXT} {C p g : Addr} {mc : Value} {k : Nat} {fd : FuncData} {ps ks : List Str} {sp : Sp} {E : XK} {o : Expr} {kws : List Keyword} {m : Str} {pos apos : Pos} {ta : TE} {tkw : TA} {gU : List Value → List Value → List Value} {gV : List V → List V → List V} {pl : Sem Bool}
theorem pe_cmethK (he : PE X o ta) (r : CRead X.K C mc) (c : CMet X.K C mc m p g) (F : FnOk X.prog X.w X.K X.mg X.base CX k g fd ps sp) (hr : Room k X.A) (hb : KBn X.K fd ps 1 ks gU gV) (hx : Passes CX X E) (hkw : PK X kws tkw)
    (hall : (backToKw pos (keywordEach kws X.env)).all (·.1.isSome) = true := by rfl) (hks : (backToKw pos (keywordEach kws X.env)).filterMap (·.1) = ks := by rfl)
    (hpl : ((backTo pos (starEach [] X.env)).any (·.1) || (backToKw pos (keywordEach kws X.env)).any (·.1.isNone)) = false := by rfl)
    (ht : eval (.Call (.Attribute o m apos) [] kws pos) X.env = (do
      let ov ← eval o X.env
      standAt apos.atName
      let (f, first) ← holding [ov] (getMethod ov m pl)
      callWith pos f first (backTo pos (starEach [] X.env)) (backToKw pos (keywordEach kws X.env))) := by rfl) :
    PE X (.Call (.Attribute o m apos) [] kws pos) (fun σ H Q => ta σ H fun x H1 => x = .ref C ∧ tkw σ H1 fun zs H2 => zs.length = ks.length ∧ sp (gV [.ref C] zs) H2 Q E) := by
  refine ⟨fun pins s σ H Q I h => ?_⟩
  refine PySem.W.methodCall_KW (pl := pl) (thn (he.run pins s σ H _ I h) fun u s1 ⟨x, H1, I1, rx, ex, q⟩ => ?_) ht
  subst ex
  obtain rfl : u = Value.ref C := rx
  refine getmethcm_ok I1 r c fun s2 I2 => ?_
  refine PySem.W.callWith_of (P := PySem.W.MethP X.K s1.heap.objs.size g (.ref C)) hpl (PySem.W.keeps_M c.fi) (evalArgs_kw2_nil hall ?_)
  refine thn (hkw.run pos _ s2 σ H1 _ I2 q) fun ws s3 ⟨zs, H2, I3, rz, l2, q2⟩ => ⟨⟨pin_at I3, I3.kIn⟩, ?_⟩
  rw [hks]
  have hl : ws.length = ks.length := rz.length.symm.trans l2
  have z : wpAny (model X.prog X.w) X.A (call (.ref s1.heap.objs.size) [] (ks.zip ws)) (EP X ((s1.heap.objs.size, PySem.W.methodObj (.ref g) (.ref C)) :: pins) σ Q) X.xe s3 := by
    refine wpAny_call (PySem.W.method_call (pin_at I3) ?_)
    have r2 : Vals (gV [.ref C] zs) (gU [.ref C] ws) := hb.rel (.cons rfl .nil) rz
    refine codeAny_mono (F.run X.A X.stack s3 H2 ⟨[.ref C], ks.zip ws⟩ (gU [.ref C] ws) (gV [.ref C] zs) Q E hr I3.env0 (hb.to s3 [.ref C] ws I3.kIn rfl hl) r2 q2) fun r s' hq => ?_
    cases r with
    | error e => exact hx _ σ H2 s3 e s' I3 hq
    | ok fl =>
      cases fl with
      | ret u => exact I3.after hq
      | next => exact False.elim hq
      | brk => exact False.elim hq
      | cont => exact False.elim hq
  exact thn z fun _ _ y => unpinE y
end
end Lw
namespace Lw
open PySem PySem.Spec PyProof.Rows L2
/-! ### str(x) of an own class -/
section
variable {X : Cx} {C f : Addr} {k j : Nat} {sp : Sp} {E : XK} {pins : List (Addr × Obj)} {σ : L2.St} {H : Hp} {s : Shared}
/-- a method that runs one or two levels further in -/
theorem run_metA {A : Around} {m : Str} {us : List Value} {vs : List V} {Q : VK} (M : MetX X.prog X.w X.K X.mg X.base k C m sp) (hx : Passes (L2.CX X.prog X.w) X E) (hr : Room k A) (e0 : Env0 X.prog X.w X.K X.mg X.base A X.stack s H) (I : Inv X pins σ H s) (r : Vals vs us) (q : sp vs H Q E) :
    ∃ g : Addr, Meth X.K C m g ∧ wpAny (model X.prog X.w) A (call (.ref g) us) (EP X pins σ Q) X.xe s := by
  obtain ⟨g, fd, ps, hm, F, b⟩ := M.ex
  have l : us.length = ps.length := r.length.symm.trans (F.len _ _ _ _ q)
  have b' := b s us I.kIn (by rw [List.append_nil]; exact l)
  rw [List.append_nil] at b'
  refine ⟨g, hm, wpAny_call (codeAny_mono (F.run A X.stack s H ⟨us, []⟩ us vs Q E hr e0 b' r q) fun r s' hq => ?_)⟩
  cases r with
  | error e => exact hx pins σ H s e s' I hq
  | ok fl =>
    cases fl with
    | ret u => exact I.after hq
    | next => exact False.elim hq
    | brk => exact False.elim hq
    | cont => exact False.elim hq
/-- str(x) of an instance -/
def rStrOwn (C : Addr) (sp : Sp) (E : XK) : List V → Hp → VK → Prop := fun xs H Q => ∃ a dx fs, xs = [V.ref a] ∧ H a = some (.ins C dx fs) ∧ sp [.ref a] H (fun z H' => ∃ y, z = .str y ∧ Q z H') E
theorem call_strOwn (M : MetX X.prog X.w X.K X.mg X.base k C "__str__" sp) (hx : Passes (L2.CX X.prog X.w) X E) (hr : Room j X.A) (hk : k + 2 ≤ j) : CallR X (.type "str") (rStrOwn C sp E) := by
  intro pins s σ H xs us Q I r h
  obtain ⟨a, dx, fs, rfl, ha, q⟩ := h
  obtain ⟨u, rfl, ru⟩ := r.one
  cases (show u = Value.ref a from ru)
  obtain ⟨_, _, J⟩ := ins_at I ha
  have hr2 : Room k X.A.in1.in1 := (show Room (k + 1) X.A.in1 from Room.in1 (hr.mono hk)).in1
  obtain ⟨g, hm, w⟩ := run_metA (us := [.ref a]) (vs := [.ref a]) M hx hr2 I.env0.in1.in1 I (.cons rfl .nil) q
  refine PySem.W.kso_call hr2.units0 I.kIn J hm.at_ hm.fn (wpAny_mono w (fun v s' z => ?_) fun _ _ x => x)
  obtain ⟨z', H', I', rz, y, rfl, qz⟩ := z
  obtain ⟨t, rfl⟩ := rz
  exact ⟨.str y, H', I', ⟨t, rfl⟩, qz⟩
end
end Lw
namespace Lw.Ow
open PySem PySem.Spec PyProof.Rows PySem.W PySem.Calls
/-! ### != by the own == -/
theorem sl_obj_ne : Slot "object" "__ne__" "object.__ne__" :=
  .of (owner := "object") (n := "__ne__") (by rw [typeLookup_type, builtinLookup_eq_fast]; kernel_rfl) (by decide +kernel) (by decide +kernel) (by decide +kernel)
    (by first | exact .inl (by decide +kernel) | exact .inr (by decide +kernel)) (by rw [isSubtype_type]; kernel_rfl)
section
variable {prog : Program} {w : World} {A : Around} {E : Value → Shared → Prop} {s : Shared} {K : Frag} {x C f : Addr} {ox : Obj} {od : Option Obj}
theorem ifBound_S {M : Model} {name : Str} {id : String} {args : List Value} {Q : Option Value → Shared → Prop} (X : K.In s.heap) (I : InstAt s.heap x ox C od) (hs : findIn K (.ref C) name = some (some (.builtin id))) (hb : ∀ self, bindSpecial (.builtin id) self = pure (.builtin id, [self]))
    (h : wpAny M A (call (.builtin id) (.ref x :: args)) (fun v => Q (some v)) E s) : wpAny M A (callSpecialIfBound? (.ref x) name args) Q E s := by
  simp only [callSpecialIfBound?, bindSpecialIfBound?]
  refine wpAny_holding (wpAny_bind (wpAny_bind (wpAny_bind (I.type.here ((looks_findIn X hs).here ?_)))))
  refine wpAny_bind (wpAny_askSetting (wpAny_ite ?_))
  have fin : wpAny M A (call (.builtin id) ([.ref x] ++ args) >>= fun v => pure (some v)) Q E s := wpAny_bind (wpAny_mono h (fun v s' h' => wpAny_pure h') fun _ _ h' => h')
  split
  · exact wpAny_bind ((Looks.of_pure (hb _)).here (wpAny_pure (by exact fin)))
  · exact wpAny_tryCatch (wpAny_bind ((Looks.of_pure (hb _)).here (wpAny_pure (by exact fin))))
theorem try_ne {b : Value} {Q : Value → Shared → Prop} (hu : A.in1.units < cLine) (X : K.In s.heap) (I : InstAt s.heap x ox C od) (hm : mroIn K C (.type "object") = some true) (hn : findIn K (.ref C) "__ne__" = some (some (.builtin "object.__ne__"))) (he : findIn K (.ref C) "__eq__" = some (some (.ref f))) (hf : isFn K (.ref f) = true)
    (h : wpAny (model prog w) A.in1 (call (.ref f) [.ref x, b]) (fun v s' => ∃ c, v = .bool c ∧ Q (.bool (!c)) s') E s) : wpAny (model prog w) A (tryCompare (.ref x) "__ne__" b) (fun r s' => ∃ v, r = some v ∧ Q v s') E s := by
  unfold tryCompare
  refine wpAny_bind (ifBound_S X I hn sl_obj_ne.bind (wpAny_call (codeAny_call_builtin sl_obj_ne.plain F.cmpEntry_ne (check_slot (i := "object.__ne__") (owner := "object") (n := "__ne__") F.cmpKind_ne F.cmpSplit_ne (I.type.andThen (looks_mroIn X hm)) (F.cmpArgs_ne _ _) ?_))))
  unfold Builtin.«object.__ne__»
  refine wpAny_bind (wpAny_of_eq (a := (Value.ref x, [b])) rfl ?_)
  refine wpAny_bind (m := cRoomFor _ _) (wpAny_cRoomFor hu ?_)
  refine wpAny_bind (m := callSpecialIfBound? (.ref x) (Str.ofString "__eq__") _) (ifBound_K X I he hf (wpAny_mono h (fun r s' hq => ?_) fun _ _ y => y))
  obtain ⟨c, rfl, q⟩ := hq
  refine wpAny_bind (m := truthy (.bool c)) (wpAny_truthy_bool ?_)
  first | exact wpAny_pure (wpAny_pure ⟨_, rfl, q⟩) | exact wpAny_pure ⟨_, rfl, q⟩ | exact ⟨_, rfl, wpAny_pure ⟨_, rfl, q⟩⟩
theorem cmp_ne {b tb : Value} {Q : Value → Shared → Prop} (hu : A.units < cLine) (X : K.In s.heap) (I : InstAt s.heap x ox C od) (hb : Looks (model prog w) s.heap (typeOf b) tb) (hn : notFirst K C tb = true)
    (one : wpAny (model prog w) A (tryCompare (.ref x) "__ne__" b) (fun r s' => ∃ v, r = some v ∧ Q v s') E s) : wpAny (model prog w) A (richCompare .NotEq (.ref x) b) Q E s := by
  unfold richCompare
  simp only [oneThing_ref]
  refine wpAny_holding (wpAny_bind (wpAny_cRoomFor hu ?_))
  refine wpAny_bind (I.type.here (wpAny_bind (hb.here ?_)))
  split
  · rename_i q
    have e : subIn K tb (.ref C) = some false := by
      rcases Bool.or_eq_true_iff.mp hn with e | e
      · rw [beq_iff_eq.mp e] at q; simp at q
      · exact beq_iff_eq.mp e
    refine wpAny_bind ((looks_subIn X e).here ?_)
    simp only [Bool.false_eq_true, if_false]
    refine wpAny_bind (wpAny_mono one (fun r s' z => ?_) fun _ _ e => e)
    obtain ⟨v, rfl, hq⟩ := z
    exact wpAny_pure hq
  · refine wpAny_bind (wpAny_pure ?_)
    simp only [Bool.false_eq_true, if_false]
    refine wpAny_bind (wpAny_mono one (fun r s' z => ?_) fun _ _ e => e)
    obtain ⟨v, rfl, hq⟩ := z
    exact wpAny_pure hq
end
end Lw.Ow
namespace Lw
open PySem PySem.Spec PyProof.Rows L2 LamX
section
variable {X : Cx} {C f : Addr} {k j : Nat} {sp : Sp} {E : XK} {pins : List (Addr × Obj)} {σ : L2.St} {H : Hp} {s : Shared}
structure NeC (K : PySem.W.Frag) (C : Addr) : Prop where
  m : PySem.W.mroIn K C (.type "object") = some true
  n : PySem.W.findIn K (.ref C) "__ne__" = some (some (.builtin "object.__ne__"))
def Nb (Q : VK) : VK := fun v H => ∃ c, v = .bl c ∧ Q (.bl (!c)) H
def rNR (C : Addr) (sp : Sp) (E : XK) : R2 := fun x y H Q => ∃ a dx fs b dy gs, x = .ref a ∧ H a = some (.ins C dx fs) ∧ y = .ref b ∧ H b = some (.ins C dy gs) ∧ sp [x, y] H (Nb Q) E
theorem op_neR (nc : NeC X.K C) (M : MetX X.prog X.w X.K X.mg X.base k C "__eq__" sp) (hx : Passes (L2.CX X.prog X.w) X E) (hr : Room j X.A) (hk : k + 1 ≤ j) : OpR X (compareOp .NotEq) (rNR C sp E) := by
  intro pins s σ H x y v u Q I rx ry h
  obtain ⟨a, dx, fs, b, dy, gs, rfl, ha, rfl, hb, q⟩ := h
  cases (show v = Value.ref a from rx)
  cases (show u = Value.ref b from ry)
  obtain ⟨_, _, J⟩ := ins_at I ha
  obtain ⟨_, _, J'⟩ := ins_at I hb
  have hr1 : Room k X.A.in1 := Room.in1 (hr.mono hk)
  obtain ⟨g, hm, w⟩ := run_metA (us := [.ref a, .ref b]) (vs := [.ref a, .ref b]) M hx hr1 I.env0.in1 I (.cons rfl (.cons rfl .nil)) q
  refine Ow.cmp_ne hr.units0 I.kIn J J'.type (by simp [PySem.W.notFirst]) (Ow.try_ne hr1.units0 I.kIn J nc.m nc.n hm.at_ hm.fn (wpAny_mono w (fun v s' z => ?_) fun _ _ x => x))
  obtain ⟨z', H', I', rz, c, rfl, qz⟩ := z
  cases (show v = Value.bool c from rz)
  exact ⟨c, rfl, .bl (!c), H', I', rfl, qz⟩
end
theorem TyX.same {K : PySem.W.Frag} {H H' : Hp} {v : V} {t : Value} (s : Same H H') (h : TyX K H v t) : TyX K H' v t := by
  cases h with
  | base h =>
    refine .base ?_
    cases h with
    | non => exact .non
    | bl x => exact .bl x
    | int i => exact .int i
    | str x => exact .str x
    | flt x => exact .flt x
    | lst e => exact .lst (s _ _ e)
    | frz e => exact .frz (s _ _ e)
    | tup e => exact .tup (s _ _ e)
    | dK e => exact .dK (s _ _ e)
    | dT e => exact .dT (s _ _ e)
    | ins e cl ha hn htk hm => exact .ins (s _ _ e) cl ha hn htk hm
  | byt b => exact .byt b
  | set e => exact .set (s _ _ e)
  | kList e c => exact .kList e c
  | kTuple e c => exact .kTuple e c
  | kDict e c => exact .kDict e c
  | fTuple e => exact .fTuple (s _ _ e)
  | fDict e => exact .fDict (s _ _ e)
theorem TyZ.same {K : PySem.W.Frag} {H H' : Hp} {v : V} {t : Value} (s : Same H H') (h : TyZ K H v t) : TyZ K H' v t := by
  cases h with
  | x h => exact .x (Lw.TyX.same s h)
  | fn e => exact .fn (s _ _ e)
theorem Anyv.same {K : PySem.W.Frag} {H H' : Hp} {v : V} (s : Same H H') (h : Anyv K H v) : Anyv K H' v := by
  cases h with
  | int i => exact .int i
  | non => exact .non
  | bl b => exact .bl b
  | str z => exact .str z
  | obj h h1 h2 h3 => exact .obj (Lw.TyZ.same s h) h1 h2 h3
open SX PySem.NumText TL
theorem tl_neg {n : Nat} (h : 0 < n) : (Str.ofString (toString (-((n : Nat) : Int)))).cps.toList = 45 :: numL n := by
  obtain ⟨m, rfl⟩ : ∃ m, n = m + 1 := ⟨n - 1, by omega⟩
  rw [PyProof.Rows.signs_ofString]
  have e : toString (-(((m + 1 : Nat) : Int))) = "-" ++ Nat.repr (m + 1) := rfl
  rw [e, String.toList_append, List.map_append, Nat.toList_repr]
  rfl
theorem str_neg {n : Nat} (h : 0 < n) : Str.ofString (toString (-((n : Nat) : Int))) = S (45 :: numL n) := TL.ext_tl (tl_neg h)
/-- the figures of an integer, its sign ahead -/
def intL (i : Int) : List Nat := if i < 0 then 45 :: numL i.natAbs else numL i.natAbs
theorem str_int (i : Int) : Str.ofString (toString i) = S (intL i) := by
  unfold intL
  by_cases h : i < 0
  · rw [if_pos h]
    obtain ⟨n, rfl⟩ : ∃ n : Nat, i = -((n : Nat) : Int) := ⟨i.natAbs, by omega⟩
    rw [show (-((n : Nat) : Int)).natAbs = n by omega]
    exact str_neg (by omega)
  · rw [if_neg h]
    obtain ⟨n, rfl⟩ : ∃ n : Nat, i = ((n : Nat) : Int) := ⟨i.natAbs, by omega⟩
    rw [Int.natAbs_natCast]
    exact num_S n
open SX PySem.NumText TL LamX
structure DefC (K : PySem.W.Frag) (mg : Str → Option Value) (x : Str) (st : Stmt) (f : Addr) (fd : FuncData) (c : Addr) : Prop where
  ex : ∃ (oc : Value) (od : Option Addr) (dV kV doc pm : Value) (an : Option Addr) (ct : Value) (osl : Array (Option Value)),
    fd = PySem.W.fnOf x x (C8.fnArgs st) (C8.fnBody st) (C8.fnScope st) dV kV doc pm an (.ref c) ct ∧ K.lookup f = some ⟨oc, od, .func fd, osl⟩ ∧ PySem.W.codeIn K (.ref c) x = true
  mgf : mg x = some (.ref f)
  kp : PySem.W.keepIn K (.ref f) = true
theorem calGC {P : Program} {w : World} {K : PySem.W.Frag} {mg : Str → Option Value} {base : Heap} {x : Str} {st : Stmt} {f c : Addr} {fd : FuncData} {N ps : List Str} {ds : List Value} {dvs : List V} {k : Nat} {sp : Sp} (F : DefC K mg x st f fd c) (b : Binds K fd ps ds) (d : Vals dvs ds) (S : FnScope N ps (C8.fnScope st)) (len : ∀ vs H Q E, sp vs H Q E → vs.length = ps.length)
    (body : ∀ (A : Around) (outer : List Env) (s : Shared) (H : Hp) (vs : List V) (Q : VK) (E : XK), (A.deeper (envOfC x (C8.fnScope st) s.heap.objs.size f (.ref c))).guards = some [] → Room k (A.deeper (envOfC x (C8.fnScope st) s.heap.objs.size f (.ref c))) → sp vs H Q E →
      ∃ t, PSs (cxOf C8.CX0 P w K mg base N x (C8.fnScope st) f (.ref c) A outer s H E).nox (C8.fnBody st) t ∧ t { nx := fun _ H' => Q .non H', rt := Q } (start N vs) H) : CalG P w K mg base (k + 1) x sp dvs := by
  refine ⟨f, fd, ps, ds, ⟨len, ?_⟩, F.mgf, F.kp, b, d⟩
  intro A outer s H args us vs Q E hg hr e0 hb r hs
  obtain ⟨oc, od, dV, kV, doc, pm, an, ct, osl, rfl, lk, hcd⟩ := F.ex
  refine LamX.run_ofS lk hcd S hr e0 hb r (len _ _ _ _ hs) fun hr' => ?_
  obtain ⟨t, h1, h2⟩ := body A outer s H vs Q E hg hr' hs
  exact ⟨t, h1.nox, h2⟩
theorem Tabs.put {T : List (Addr × Str)} {H : Hp} {l : Addr} {o : HO} {xs : List V} (t : Tabs T H) (hl : H l = some (.lst xs)) : Tabs T (upd H l o) := by
  intro q hq
  obtain ⟨ps, h1, h2, h3⟩ := t q hq
  refine ⟨ps, ?_, h2, fun pos cv hc => ?_⟩
  · rw [upd_ne (fun e => by rw [e, hl] at h1; cases h1)]; exact h1
  · obtain ⟨c, e1, e2⟩ := h3 pos cv hc
    refine ⟨c, e1, ?_⟩
    rw [upd_ne (fun e => by rw [e, hl] at e2; unfold CodeO at e2; cases e2)]; exact e2
theorem Tabs.kp {T : List (Addr × Str)} {p pl : Addr} {n : Nat} {H H' : Hp} (t : Tabs T H) (hp : Pen H p pl n) (k : Kp p H H') : Tabs T H' := by
  intro q hq
  obtain ⟨ps, h1, h2, h3⟩ := t q hq
  obtain ⟨xs, a, g, hh, _⟩ := hp
  refine ⟨ps, k _ _ (fun e => ?_) h1, h2, fun pos cv hc => ?_⟩
  · rw [e, hh.at_] at h1; cases h1
  · obtain ⟨c, e1, e2⟩ := h3 pos cv hc
    refine ⟨c, e1, k _ _ (fun e => ?_) e2⟩
    rw [e, hh.at_] at e2
    unfold CodeO at e2
    cases e2
theorem Pen.extn {H H' : Hp} {p l : Addr} {n : Nat} (h : Pen H p l n) (e : ExtN H H') : Pen H' p l n := by
  obtain ⟨xs, a, g, ⟨h1, h2, h3, h4, h5⟩, h6⟩ := h
  have nl : ∀ (ys : List V) ps, HO.lst ys ≠ .tbl ps := fun ys ps z => by cases z
  exact ⟨xs, a, g, ⟨e _ _ h1 (nl _), e _ _ h2 (nl _), h3, h4, h5⟩, h6⟩
open ClX StX
/-! ### errors of one field, raised -/
def spE1 (C : Addr) (f1 : Str) : Sp := fun vs H Q _ => ∃ (a : Addr) (v1 : V), vs = [.ref a, v1] ∧ H a = some (exo a C none) ∧ ∀ dx, H dx = none → dx ≠ a → ∀ fs, fs.lookup f1 = some v1 → Q .non (upd (upd H dx (exd dx fs)) a (exo a C (some dx)))
/-- the error's class, ready to be raised -/
structure Err1 (nm f1 : Str) (P : Program) (w : World) (K : PySem.W.Frag) (mg : Str → Option Value) (base : Heap) (D fE : Addr) (fdE : FuncData) : Prop where
  T : OexC K D
  iC : PySem.W.findIn K (.ref D) "__init__" = some (some (.ref fE))
  tI : PySem.W.typeIn K (.ref fE) = some (.type "function")
  F : FnOk P w K mg base C8.CX0 1 fE fdE ["self", f1] (spE1 D f1)
  b : Binds K fdE ["self", f1] []
  hm : mg nm = some (.ref D)
section
variable {X : Cx} {f1 : Str} {C fI : Addr} {fd : FuncData} {W : WX} {j : Nat} {e1 : Expr} {te1 : TE} {p pos pos2 : Pos}
/-- raise X(e1), X such a class -/
def tBad1 (f1 : Str) (C : Addr) (W : WX) (te1 : TE) : TS := fun _ σ H => tMkO C (spE1 C f1) [] (tCons te1 tNil) σ H fun cls d H' => W cls d σ H'
theorem ps_bad1 {x : Str} (hc : X.calm = true) (tk : Takes X W) (T : OexC X.K C) (iC : PySem.W.findIn X.K (.ref C) "__init__" = some (some (.ref fI))) (tI : PySem.W.typeIn X.K (.ref fI) = some (.type "function")) (F : FnOk X.prog X.w X.K X.mg X.base C8.CX0 1 fI fd ["self", f1] (spE1 C f1)) (hr : Room (j + 2) X.A) (hb : Binds X.K fd ["self", f1] [])
    (hg : Gl X x) (hm : X.mg x = some (.ref C)) (he1 : PE X e1 te1) (hst : starEach [e1] X.env = (false, eval e1 X.env) :: starEach [] X.env := by rfl) (hdb : (x == ("__debug__" : Str)) = false := by decide) (hpl : (backTo pos (starEach [] X.env)).any (·.1) = false := by rfl) :
    PS X (.Raise (some (.Call (.Name x p) [e1] [] pos)) none pos2) (tBad1 f1 C W te1) :=
  ps_raise hc tk (pmk_oex T iC tI F (hr.mono (by omega)) hb .nil C8.pass0 hg hm (pa_cons he1 pa_nil hst) hdb hst hpl)
theorem bad_leaf1 {H1 : Hp} {v1 : V} {Q : XK} (k : ∀ d fs, H1 d = none → fs.lookup f1 = some v1 → Q (.ref C) (some d) (upd H1 d (.xd fs))) :
    ([v1] : List V).length ≤ 1000 ∧ ∀ a, H1 a = none → spE1 C f1 (.ref a :: ([v1] ++ [])) (upd H1 a (exo a C none)) (fun z H2 => z = .non ∧ ∃ (d : Addr) (fs : List (Str × V)), H2 a = some (exo a C (some d)) ∧ H2 d = some (exd d fs) ∧ H1 d = none ∧ Q (.ref C) (some d) (upd (del H2 a) d (.xd fs))) (fun _ _ _ => False) := by
  refine ⟨(by show 1 ≤ 1000; decide), fun a ha => ⟨a, v1, rfl, upd_same, fun dx h1 h2 fs e1 => ?_⟩⟩
  rw [upd_ne h2] at h1
  refine ⟨rfl, dx, fs, upd_same, by rw [upd_ne h2]; exact upd_same, h1, ?_⟩
  have e : upd (del (upd (upd (upd H1 a (exo a C none)) dx (exd dx fs)) a (exo a C (some dx))) a) dx (.xd fs) = upd H1 dx (.xd fs) := by
    funext b
    by_cases q : b = dx
    · rw [q, upd_same, upd_same]
    · rw [upd_ne q, upd_ne q]
      by_cases q2 : b = a
      · rw [q2, del_same, ha]
      · rw [del_ne q2, upd_ne q2, upd_ne q, upd_ne q2]
  rw [e]
  exact k dx fs h1 e1
end
/-- refused: the error keeps the value -/
def Bf (D : Addr) (f : Str) (x : V) (H : Hp) (E : XK) : Prop := ∀ d fs H', Same H H' → H' d = none → fs.lookup f = some x → E (.ref D) (some d) (upd H' d (.xd fs))
theorem Bf.of {D : Addr} {f : Str} {x : V} {H H' : Hp} {E : XK} (h : Bf D f x H E) (s : Same H H') : Bf D f x H' E := fun d fs H2 s2 hd f1 => h d fs H2 (s.trans s2) hd f1
section
variable {X : Cx} {CX : CXT} {k : Nat} {f C : Addr} {sp : Sp} {E : XK} {x : Str} {p pos : Pos}
theorem pe_makeR0 (M : Mk X.K C f) (F : FnR X.prog X.w X.K X.mg X.base CX k f sp) (hr : Room (k + 1) X.A) (hg : Gl X x) (hm : X.mg x = some (.ref C)) (hx : Passes CX X E) (hdb : (x == ("__debug__" : Str)) = false := by decide) : PE X (.Call (.Name x p) [] [] pos) (tMakeR C sp E tNil) := by
  refine ⟨fun pins s σ H Q I h => ?_⟩
  refine wpAny_Call_Name_kw (ld_glob I hg hm ?_ hdb)
  exact PySem.W.callWith_K0 I.kIn M.kp (run_makeR M F hr hx I .nil h)
end
/-- neither a list nor a tuple -/
def NoSeq (K : PySem.W.Frag) (H : Hp) (v : V) : Prop := ∃ t, TyX K H v t ∧ PySem.W.kitAny K t [.type "list", .type "tuple"] = some false
theorem NoSeq.same {K : PySem.W.Frag} {H H' : Hp} {v : V} (h : NoSeq K H v) (s : Same H H') : NoSeq K H' v := by
  obtain ⟨t, h1, h2⟩ := h
  exact ⟨t, Lw.TyX.same s h1, h2⟩
end Lw
namespace Lw
open PySem PySem.Spec PyProof.Rows L2
end Lw
namespace Lw.Ow
open PySem PySem.Spec PyProof.Rows PySem.W PySem.Calls
section
variable {prog : Program} {w : World} {A : Around} {E : Value → Shared → Prop} {s : Shared} {K : Frag} {x C f : Addr} {ox : Obj} {od : Option Obj}
theorem len_own {Q : Value → Shared → Prop} (X : K.In s.heap) (I : InstAt s.heap x ox C od) (hs : findIn K (.ref C) "__len__" = some (some (.ref f))) (hf : isFn K (.ref f) = true)
    (h : wpAny (model prog w) A.in1 (call (.ref f) [.ref x]) (fun v s' => ∃ (n : Int) (t : Tok), v = .int n t ∧ 0 ≤ n ∧ n < 2 ^ 63 ∧ ∀ t' tk, Q (.int n t') { s' with toks := tk }) E s) : wpAny (model prog w) A (call (.builtin "len") [.ref x]) Q E s := by
  refine call_function_entry kind_len plain_len entry_len (args_len1 _) ?_
  unfold Builtin.«len»
  refine wpAny_bind (m := oneArg "len" _) (wpAny_pure ?_)
  refine wpAny_bind (m := callSpecial? (.ref x) (Str.ofString "__len__")) (special_fn X I hs (beq_iff_eq.mp hf) (wpAny_mono h (fun r s' hr => ?_) fun _ _ y => y))
  obtain ⟨n, t, rfl, h0, h1, q⟩ := hr
  refine wpAny_bind (wpAny_holding (wpAny_pure ?_))
  refine wpAny_bind (wpAny_letGo ?_)
  show wpAny _ _ (if n < 0 then _ else _) _ _ _
  rw [if_neg (by omega)]
  show wpAny _ _ (if n ≥ 2 ^ 63 then _ else _) _ _ _
  rw [if_neg (by omega)]
  exact wpAny_bind (wpAny_mkInt (wpAny_pure ⟨_, rfl, q _ _⟩))
theorem cmp_eq {b tb : Value} {Q : Value → Shared → Prop} (hu : A.units < cLine) (X : K.In s.heap) (I : InstAt s.heap x ox C od) (hb : Looks (model prog w) s.heap (typeOf b) tb) (hn : notFirst K C tb = true)
    (one : wpAny (model prog w) A (tryCompare (.ref x) "__eq__" b) (fun r s' => ∃ v, r = some v ∧ Q v s') E s) : wpAny (model prog w) A (richCompare .Eq (.ref x) b) Q E s := by
  unfold richCompare
  simp only [oneThing_ref]
  refine wpAny_holding (wpAny_bind (wpAny_cRoomFor hu ?_))
  refine wpAny_bind (I.type.here (wpAny_bind (hb.here ?_)))
  split
  · rename_i q
    have e : subIn K tb (.ref C) = some false := by
      rcases Bool.or_eq_true_iff.mp hn with e | e
      · rw [beq_iff_eq.mp e] at q; simp at q
      · exact beq_iff_eq.mp e
    refine wpAny_bind ((looks_subIn X e).here ?_)
    simp only [Bool.false_eq_true, if_false]
    refine wpAny_bind (wpAny_mono one (fun r s' z => ?_) fun _ _ e => e)
    obtain ⟨v, rfl, hq⟩ := z
    exact wpAny_pure hq
  · refine wpAny_bind (wpAny_pure ?_)
    simp only [Bool.false_eq_true, if_false]
    refine wpAny_bind (wpAny_mono one (fun r s' z => ?_) fun _ _ e => e)
    obtain ⟨v, rfl, hq⟩ := z
    exact wpAny_pure hq
theorem try_ownE {nm : Str} {b : Value} {Q : Value → Shared → Prop} (X : K.In s.heap) (I : InstAt s.heap x ox C od) (hs : findIn K (.ref C) nm = some (some (.ref f))) (hf : isFn K (.ref f) = true) (h : wpAny (model prog w) A (call (.ref f) [.ref x, b]) (PySem.W.CmpBack Q) E s) :
    wpAny (model prog w) A (tryCompare (.ref x) nm b) (fun r s' => ∃ v, r = some v ∧ Q v s') E s := by
  unfold tryCompare
  refine wpAny_bind (ifBound_K X I hs hf (wpAny_mono h (fun v s' hv => ?_) fun _ _ e => e))
  cases v <;> first | exact hv.elim | exact wpAny_pure ⟨_, rfl, hv⟩
end
end Lw.Ow
namespace Lw
open PySem PySem.Spec PyProof.Rows L2 LamX
section
variable {X : Cx} {C f : Addr} {k j : Nat} {sp : Sp} {E : XK} {pins : List (Addr × Obj)} {σ : L2.St} {H : Hp} {s : Shared}
/-- x == y by the own == of both -/
def rER (C : Addr) (sp : Sp) (E : XK) : R2 := fun x y H Q => ∃ a dx fs b dy gs, x = .ref a ∧ H a = some (.ins C dx fs) ∧ y = .ref b ∧ H b = some (.ins C dy gs) ∧ sp [x, y] H Q E
theorem op_eqR (M : MetX X.prog X.w X.K X.mg X.base k C "__eq__" sp) (hx : Passes (L2.CX X.prog X.w) X E) (hr : Room j X.A) (hk : k ≤ j) : OpR X (compareOp .Eq) (rER C sp E) := by
  intro pins s σ H x y v u Q I rx ry h
  obtain ⟨a, dx, fs, b, dy, gs, rfl, ha, rfl, hb, q⟩ := h
  cases (show v = Value.ref a from rx)
  cases (show u = Value.ref b from ry)
  obtain ⟨_, _, J⟩ := ins_at I ha
  obtain ⟨_, _, J'⟩ := ins_at I hb
  obtain ⟨g, hm, w, _⟩ := run_met (us := [.ref a, .ref b]) (vs := [.ref a, .ref b]) M hx hr hk I (.cons rfl (.cons rfl .nil)) q
  exact Ow.cmp_eq hr.units0 I.kIn J J'.type (by simp [PySem.W.notFirst]) (Ow.try_ownE I.kIn J hm.at_ hm.fn w)
/-- len(x) by the own __len__ -/
def rLenOwn (C : Addr) (sp : Sp) (E : XK) : List V → Hp → VK → Prop := fun xs H Q => ∃ a dx fs, xs = [V.ref a] ∧ H a = some (.ins C dx fs) ∧ sp [.ref a] H (fun z H' => ∃ n : Int, z = .int n ∧ 0 ≤ n ∧ n < 2 ^ 63 ∧ Q z H') E
theorem call_lenOwn (M : MetX X.prog X.w X.K X.mg X.base k C "__len__" sp) (hx : Passes (L2.CX X.prog X.w) X E) (hr : Room j X.A) (hk : k + 1 ≤ j) : CallR X (.builtin "len") (rLenOwn C sp E) := by
  intro pins s σ H xs us Q I r h
  obtain ⟨a, dx, fs, rfl, ha, q⟩ := h
  obtain ⟨u, rfl, ru⟩ := r.one
  cases (show u = Value.ref a from ru)
  obtain ⟨_, _, J⟩ := ins_at I ha
  have hr1 : Room k X.A.in1 := Room.in1 (hr.mono hk)
  obtain ⟨g, hm, w⟩ := run_metA (us := [.ref a]) (vs := [.ref a]) M hx hr1 I.env0.in1 I (.cons rfl .nil) q
  refine Ow.len_own I.kIn J hm.at_ hm.fn (wpAny_mono w (fun v s' z => ?_) fun _ _ x => x)
  obtain ⟨z', H', I', rz, n, rfl, h0, h1, qz⟩ := z
  obtain ⟨t, rfl⟩ := rz
  exact ⟨n, t, rfl, h0, h1, fun t' tk => ⟨.int n, H', I'.tok tk, ⟨t', rfl⟩, qz⟩⟩
end
/-! ### a static method by keywords -/
section
variable {X : Cx} {CX : CXT} {C p g : Addr} {k : Nat} {fd : FuncData} {ps ks : List Str} {sp : Sp} {E : XK} {o : Expr} {kws : List Keyword} {m : Str} {pos apos : Pos} {ta : TE} {tkw : TA} {gU : List Value → List Value → List Value} {gV : List V → List V → List V} {pl : Sem Bool}
theorem pe_staticK (he : PE X o ta) (c : SMet X.K C m p g) (F : FnOk X.prog X.w X.K X.mg X.base CX k g fd ps sp) (hr : Room k X.A) (hb : KBn X.K fd ps 0 ks gU gV) (hx : Passes CX X E) (hkw : PK X kws tkw)
    (hall : (backToKw pos (keywordEach kws X.env)).all (·.1.isSome) = true := by rfl) (hks : (backToKw pos (keywordEach kws X.env)).filterMap (·.1) = ks := by rfl)
    (hpl : ((backTo pos (starEach [] X.env)).any (·.1) || (backToKw pos (keywordEach kws X.env)).any (·.1.isNone)) = false := by rfl)
    (ht : eval (.Call (.Attribute o m apos) [] kws pos) X.env = (do
      let ov ← eval o X.env
      standAt apos.atName
      let (f, first) ← holding [ov] (getMethod ov m pl)
      callWith pos f first (backTo pos (starEach [] X.env)) (backToKw pos (keywordEach kws X.env))) := by rfl) :
    PE X (.Call (.Attribute o m apos) [] kws pos) (fun σ H Q => ta σ H fun x H1 => x = .ref C ∧ tkw σ H1 fun zs H2 => zs.length = ks.length ∧ sp (gV [] zs) H2 Q E) := by
  refine ⟨fun pins s σ H Q I h => ?_⟩
  refine PySem.W.methodCall_KW (pl := pl) (thn (he.run pins s σ H _ I h) fun u s1 ⟨x, H1, I1, rx, ex, q⟩ => ?_) ht
  subst ex
  obtain rfl : u = Value.ref C := rx
  obtain ⟨mc, h1, h2, h3⟩ := c.mc
  obtain ⟨rest, h4⟩ := c.rc
  obtain ⟨fm, hF⟩ := I1.fr
  refine PySem.W.method_cls I1.kIn c.ga (PySem.W.cls_sm hF I1.ok.mod.kin h1 h2 h3 h4 rfl ?_)
  have I2 : Inv X pins σ H1 { s1 with toks := s1.toks + 1 } := I1.tok _
  refine PySem.W.callWith_KW0 (h₀ := X.base) I2.ok.mod.kin c.kp hall ?_ hpl
  refine thn (hkw.run pos pins _ σ H1 _ I2 q) fun ws s2 ⟨zs, H2, I3, rz, l2, q2⟩ => ⟨I3.kIn, ?_⟩
  rw [hks]
  exact run_fnN (us := []) (vs := []) F hr hb hx I3 .nil rz rfl l2 q2
end

end Lw
namespace Lw
open PySem PySem.Spec PyProof.Rows L2
open SX PySem.NumText TL LamX ClX StX
set_option pp.maxSteps 900
abbrev sFac : Stmt := top 26
abbrev sSta : Stmt := top 27
abbrev sFxi : Stmt := inClass (top 34) 0
abbrev sFxe : Stmt := inClass (top 34) 7
abbrev sDvi : Stmt := inClass (top 35) 0
abbrev sDve : Stmt := inClass (top 35) 8
abbrev sDvu : Stmt := inClass (top 35) 1
/-! ### what rules are -/
def fxP (n : Int) (p : Addr) : List (Str × V) := putF "modulus" (.int 1) (putF "parts" (.ref p) (putF "size" (.int n) []))
def dvP (x y w : Int) (p : Addr) : List (Str × V) := putF "modulus" (.int w) (putF "parts" (.ref p) (putF "w" (.int w) (putF "y" (.int y) (putF "x" (.int x) []))))
def byP (v : V) (p : Addr) : List (Str × V) := putF "modulus" (.int 1) (putF "parts" (.ref p) (putF "function" v []))
theorem fxP_size (n : Int) (p : Addr) : (fxP n p).lookup ("size" : Str) = some (.int n) := by
  unfold fxP
  rw [lookup_putF, if_neg (by decide +kernel), lookup_putF, if_neg (by decide +kernel), lookup_putF, if_pos rfl]
theorem fxP_parts (n : Int) (p : Addr) : (fxP n p).lookup ("parts" : Str) = some (.ref p) := by
  unfold fxP
  rw [lookup_putF, if_neg (by decide +kernel), lookup_putF, if_pos rfl]
theorem fxP_mod (n : Int) (p : Addr) : (fxP n p).lookup ("modulus" : Str) = some (.int 1) := by
  unfold fxP
  rw [lookup_putF, if_pos rfl]
theorem dvP_x (x y w : Int) (p : Addr) : (dvP x y w p).lookup ("x" : Str) = some (.int x) := by
  unfold dvP
  rw [lookup_putF, if_neg (by decide +kernel), lookup_putF, if_neg (by decide +kernel), lookup_putF, if_neg (by decide +kernel), lookup_putF, if_neg (by decide +kernel), lookup_putF, if_pos rfl]
theorem dvP_y (x y w : Int) (p : Addr) : (dvP x y w p).lookup ("y" : Str) = some (.int y) := by
  unfold dvP
  rw [lookup_putF, if_neg (by decide +kernel), lookup_putF, if_neg (by decide +kernel), lookup_putF, if_neg (by decide +kernel), lookup_putF, if_pos rfl]
theorem dvP_w (x y w : Int) (p : Addr) : (dvP x y w p).lookup ("w" : Str) = some (.int w) := by
  unfold dvP
  rw [lookup_putF, if_neg (by decide +kernel), lookup_putF, if_neg (by decide +kernel), lookup_putF, if_pos rfl]
theorem dvP_parts (x y w : Int) (p : Addr) : (dvP x y w p).lookup ("parts" : Str) = some (.ref p) := by
  unfold dvP
  rw [lookup_putF, if_neg (by decide +kernel), lookup_putF, if_pos rfl]
theorem dvP_mod (x y w : Int) (p : Addr) : (dvP x y w p).lookup ("modulus" : Str) = some (.int w) := by
  unfold dvP
  rw [lookup_putF, if_pos rfl]
theorem byP_fn (v : V) (p : Addr) : (byP v p).lookup ("function" : Str) = some v := by
  unfold byP
  rw [lookup_putF, if_neg (by decide +kernel), lookup_putF, if_neg (by decide +kernel), lookup_putF, if_pos rfl]
theorem byP_parts (v : V) (p : Addr) : (byP v p).lookup ("parts" : Str) = some (.ref p) := by
  unfold byP
  rw [lookup_putF, if_neg (by decide +kernel), lookup_putF, if_pos rfl]
theorem byP_mod (v : V) (p : Addr) : (byP v p).lookup ("modulus" : Str) = some (.int 1) := by
  unfold byP
  rw [lookup_putF, if_pos rfl]
def FxAt (FC : Addr) (H : Hp) (a : Addr) (n : Int) : Prop := ∃ dx p, H a = some (.ins FC dx (fxP n p)) ∧ H p = some (.tup [.ref a])
def DvAt (VC : Addr) (H : Hp) (a : Addr) (x y w : Int) : Prop := ∃ dx p, H a = some (.ins VC dx (dvP x y w p)) ∧ H p = some (.tup [.ref a])
def ByAt (BC : Addr) (H : Hp) (a : Addr) (v : V) : Prop := ∃ dx p, H a = some (.ins BC dx (byP v p)) ∧ H p = some (.tup [])
theorem FxAt.on {FC : Addr} {H H' : Hp} {a : Addr} {n : Int} (h : FxAt FC H a n) (s : Same H H') : FxAt FC H' a n := by
  obtain ⟨dx, p, h1, h2⟩ := h
  exact ⟨dx, p, s _ _ h1, s _ _ h2⟩
theorem DvAt.on {VC : Addr} {H H' : Hp} {a : Addr} {x y w : Int} (h : DvAt VC H a x y w) (s : Same H H') : DvAt VC H' a x y w := by
  obtain ⟨dx, p, h1, h2⟩ := h
  exact ⟨dx, p, s _ _ h1, s _ _ h2⟩
theorem ByAt.on {BC : Addr} {H H' : Hp} {a : Addr} {v : V} (h : ByAt BC H a v) (s : Same H H') : ByAt BC H' a v := by
  obtain ⟨dx, p, h1, h2⟩ := h
  exact ⟨dx, p, s _ _ h1, s _ _ h2⟩
def spFac (K : PySem.W.Frag) : Sp := fun vs H Q _ => ∃ x lo, vs = [x, .int lo] ∧ Anyv K H x ∧ Q (.bl (inB x lo 24)) H
def spSta (K : PySem.W.Frag) : Sp := fun vs H Q _ => ∃ x, vs = [x] ∧ Anyv K H x ∧ Q (.bl (inB x (-1000) 1000)) H
def spFxi (K : PySem.W.Frag) (FC DS : Addr) : Sp := fun vs H Q E => ∃ (x dx : Addr) (v : V), vs = [.ref x, v] ∧ H x = some (.ins FC dx []) ∧ Anyv K H v ∧ (inB v 1 (10 ^ 30) = false → Bf DS "value" v H E) ∧
  ∀ n, v = .int n → 1 ≤ n → n ≤ 10 ^ 30 → ∀ p H', Kp x H H' → H' x = some (.ins FC dx (fxP n p)) → H' p = some (.tup [.ref x]) → Q .non H'
/-- what Divided(x, y, w) comes to -/
def MkD (K : PySem.W.Frag) (DU : Addr) (vx vy vw : V) (H : Hp) (E : XK) (R : Int → Int → Int → Prop) : Prop :=
  (inB vx 0 24 = false → Bf DU "part" (.str (Str.ofString "x")) H E) ∧ ∀ x, vx = .int x → 0 ≤ x → x ≤ 24 → (inB vy (-1000) 1000 = false → Bf DU "part" (.str (Str.ofString "y")) H E) ∧ ∀ y, vy = .int y → -1000 ≤ y → y ≤ 1000 →
    (inB vw 1 24 = false → Bf DU "part" (.str (Str.ofString "w")) H E) ∧ ∀ w, vw = .int w → 1 ≤ w → w ≤ 24 → R x y w
def spDvi (K : PySem.W.Frag) (VC DU : Addr) : Sp := fun vs H Q E => ∃ (a dx : Addr) (vx vy vw : V), vs = [.ref a, vx, vy, vw] ∧ H a = some (.ins VC dx []) ∧ Anyv K H vx ∧ Anyv K H vy ∧ Anyv K H vw ∧
  MkD K DU vx vy vw H E fun x y w => ∀ p H', Kp a H H' → H' a = some (.ins VC dx (dvP x y w p)) → H' p = some (.tup [.ref a]) → Q .non H'
def spByi (BC : Addr) : Sp := fun vs H Q _ => ∃ (x dx : Addr) (v : V), vs = [.ref x, v] ∧ H x = some (.ins BC dx []) ∧ ∀ p H', Kp x H H' → H' x = some (.ins BC dx (byP v p)) → H' p = some (.tup []) → Q .non H'
theorem wt_in {v : V} {lo hi : Int} (h : inB v lo hi = true) : ∃ i, v = .int i ∧ lo ≤ i ∧ i ≤ hi := by
  unfold inB at h
  split at h
  · exact ⟨_, rfl, by simpa using h⟩
  · cases h
theorem Bf.leaf {D : Addr} {f : Str} {x : V} {H : Hp} {E : XK} (h : Bf D f x H E) : ∀ d fs, H d = none → fs.lookup f = some x → E (.ref D) (some d) (upd H d (.xd fs)) := fun d fs hd e => h d fs H (Same.refl _) hd e
/-- an instance's fields set, a tuple made in between -/
theorem kp_three {H : Hp} {x p : Addr} {o0 o1 o3 tp : HO} (hx : H x = some o0) (hp : upd H x o1 p = none) : Kp x H (upd (upd (upd H x o1) p tp) x o3) ∧ upd (upd (upd H x o1) p tp) x o3 p = some tp := by
  have px : p ≠ x := fun z => by rw [z, upd_same] at hp; cases hp
  refine ⟨fun b o nb e => ?_, ?_⟩
  · rw [upd_ne nb, upd_ne (fun z => by rw [upd_ne px] at hp; rw [z, hp] at e; cases e), upd_ne nb]
    exact e
  · rw [upd_ne px]
    exact upd_same
structure FxC (K : PySem.W.Frag) (FC : Addr) : Prop where
  cl : Cls K FC
  n1 : NoAttr K FC "size"
  n2 : NoAttr K FC "parts"
  n3 : NoAttr K FC "modulus"
structure DvC (K : PySem.W.Frag) (VC : Addr) : Prop where
  cl : Cls K VC
  n1 : NoAttr K VC "x"
  n2 : NoAttr K VC "y"
  n3 : NoAttr K VC "w"
  n4 : NoAttr K VC "parts"
  n5 : NoAttr K VC "modulus"
structure ByC (K : PySem.W.Frag) (BC : Addr) : Prop where
  cl : Cls K BC
  n1 : NoAttr K BC "function"
  n2 : NoAttr K BC "parts"
  n3 : NoAttr K BC "modulus"
section
variable {P : Program} {w : World} {K : PySem.W.Frag} {mg : Str → Option Value} {base : Heap}
theorem scFac : FnScope ["value", "least"] ["value", "least"] (C8.fnScope sFac) := C8.fnScope_by (by decide +kernel)
theorem cal_fac {f : Addr} {fd : FuncData} (F : C8.Def K mg "is_factor" sFac f fd) (b : Binds K fd ["value", "least"] []) (hMF : ∃ t, mg "MOST_FACTOR" = some (.int 24 t)) (DW : C8.Cal P w K mg base 2 "is_within" (spWithin K) []) : C8.Cal P w K mg base 3 "is_factor" (spFac K) [] := by
  obtain ⟨tf, hMF⟩ := hMF
  refine C8.cal0 F b .nil scFac (fun vs H Q E h => ?_) (fun cdv A outer st H vs Q E hr h => ?_)
  · obtain ⟨x, lo, rfl, _⟩ := h
    rfl
  · obtain ⟨x, lo, rfl, ax, k⟩ := h
    refine ⟨_, (pss_one (ps_ret (C8.pe_c DW hr (by decide) (by rfl) (pa_cons (pv 0) (pa_cons (pv 1) (pa_cons (pe_glob (v := .int 24) rfl hMF ⟨_, rfl⟩) pa_nil)))))), ?_⟩
    exact ⟨_, rfl, _, rfl, x, lo, 24, rfl, ax, k⟩
theorem scSta : FnScope ["value"] ["value"] (C8.fnScope sSta) := C8.fnScope_by (by decide +kernel)
theorem cal_sta {f : Addr} {fd : FuncData} (F : C8.Def K mg "is_start" sSta f fd) (b : Binds K fd ["value"] []) (hMS : ∃ t, mg "MOST_START" = some (.int 1000 t)) (DW : C8.Cal P w K mg base 2 "is_within" (spWithin K) []) : C8.Cal P w K mg base 3 "is_start" (spSta K) [] := by
  obtain ⟨tf, hMS⟩ := hMS
  refine C8.cal0 F b .nil scSta (fun vs H Q E h => ?_) (fun cdv A outer st H vs Q E hr h => ?_)
  · obtain ⟨x, rfl, _⟩ := h
    rfl
  · obtain ⟨x, rfl, ax, k⟩ := h
    refine ⟨_, (pss_one (ps_ret (C8.pe_c DW hr (by decide) (by rfl) (pa_cons (pv 0) (pa_cons (pe_un un_neg (pe_glob (v := .int 1000) rfl hMS ⟨_, rfl⟩)) (pa_cons (pe_glob (v := .int 1000) rfl hMS ⟨_, rfl⟩) pa_nil)))))), ?_⟩
    exact ⟨_, rfl, _, rfl, x, _, _, rfl, ax, k⟩
theorem scFxi : FnScope ["self", "size"] ["self", "size"] (C8.fnScope sFxi) := C8.fnScope_by (by decide +kernel)
theorem fn_fxi {FC DS f fS : Addr} {fd fdS : FuncData} (F : C8.Fun K "__init__" "Fixed.__init__" sFxi f fd) (Z : FxC K FC) (ES : Err1 "BadSize" "value" P w K mg base DS fS fdS) (DSz : C8.Cal P w K mg base 3 "is_size" (spSize K) []) : FnOk P w K mg base (L2.CX P w) 4 f fd ["self", "size"] (spFxi K FC DS) := by
  obtain ⟨oc, od, dV, kV, doc, pm, an, cdv, ct, osl, rfl, lk, hcd⟩ := F.ex
  refine fn_of lk hcd scFxi (fun vs H Q E h => ?_) fun A outer s H vs Q E hr h => ?_
  · obtain ⟨x, dx, v, rfl, _⟩ := h
    rfl
  · obtain ⟨x, dx, v, rfl, hx, av, k1, k2⟩ := h
    have tk : Takes (cxOf (L2.CX P w) P w K mg base ["self", "size"] "Fixed.__init__" (C8.fnScope sFxi) f cdv A outer s H E) (fun cls d _ H' => E cls d H') := takes_of rfl rfl rfl rfl
    refine ⟨_, (pss_cons (ps_if (pt_not (pt_val (C8.pe_c DSz hr (by decide) (by rfl) (pa_cons (pv 1) pa_nil)))) (pss_one (ps_bad1 (x := "BadSize") rfl tk ES.T ES.iC ES.tI ES.F hr ES.b (by rfl) ES.hm (pv 1))) pss_nil)
  (pss_cons (ps_fld (pv 0) (pv 1) rfl)
  (pss_cons (ps_fld (pv 0) (pe_tup (pa_cons (pv 0) pa_nil)) rfl)
  (pss_one (ps_fld (pv 0) pe_int rfl))))), ?_⟩
    refine ⟨_, rfl, v, rfl, av, _, rfl, ?_⟩
    cases hv : inB v 1 (10 ^ 30) with
    | false => exact iteT ⟨_, rfl, bad_leaf1 (Bf.leaf (k1 hv))⟩
    | true =>
      obtain ⟨n, rfl, n1, n2⟩ := wt_in hv
      refine iteF ?_
      dsimp only [tNext, tSeq]
      refine ⟨_, rfl, _, rfl, x, FC, dx, _, rfl, hx, Z.cl, Z.n1, (by show 0 < 1000; decide), ?_⟩
      refine ⟨_, rfl, (by show 1 ≤ sizeLine; decide), fun p hp => ?_⟩
      have px : x ≠ p := fun z => by rw [← z, upd_same] at hp; cases hp
      refine ⟨_, rfl, x, FC, dx, _, rfl, by rw [upd_ne px]; exact upd_same, Z.cl, Z.n2, (by show 1 < 1000; decide), ?_⟩
      refine ⟨_, rfl, x, FC, dx, _, rfl, upd_same, Z.cl, Z.n3, (by show 2 < 1000; decide), ?_⟩
      rw [upd_upd]
      obtain ⟨a1, a2⟩ := kp_three (o3 := .ins FC dx (fxP n p)) (tp := .tup [.ref x]) hx hp
      exact k2 n rfl n1 n2 p _ a1 upd_same a2
theorem scDvi : FnScope ["self", "x", "y", "w"] ["self", "x", "y", "w"] (C8.fnScope sDvi) := C8.fnScope_by (by decide +kernel)
theorem fn_dvi {VC DU f fU : Addr} {fd fdU : FuncData} (F : C8.Fun K "__init__" "Divided.__init__" sDvi f fd) (Z : DvC K VC) (EU : Err1 "BadRule" "part" P w K mg base DU fU fdU) (DFa : C8.Cal P w K mg base 3 "is_factor" (spFac K) []) (DSt : C8.Cal P w K mg base 3 "is_start" (spSta K) []) : FnOk P w K mg base (L2.CX P w) 4 f fd ["self", "x", "y", "w"] (spDvi K VC DU) := by
  obtain ⟨oc, od, dV, kV, doc, pm, an, cdv, ct, osl, rfl, lk, hcd⟩ := F.ex
  refine fn_of lk hcd scDvi (fun vs H Q E h => ?_) fun A outer s H vs Q E hr h => ?_
  · obtain ⟨a, dx, vx, vy, vw, rfl, _⟩ := h
    rfl
  · obtain ⟨a, dx, vx, vy, vw, rfl, ha, ax, ay, aw, k1, k2⟩ := h
    have tk : Takes (cxOf (L2.CX P w) P w K mg base ["self", "x", "y", "w"] "Divided.__init__" (C8.fnScope sDvi) f cdv A outer s H E) (fun cls d _ H' => E cls d H') := takes_of rfl rfl rfl rfl
    refine ⟨_, (pss_cons (ps_if (pt_not (pt_val (C8.pe_c DFa hr (by decide) (by rfl) (pa_cons (pv 1) (pa_cons pe_int pa_nil))))) (pss_one (ps_bad1 (x := "BadRule") rfl tk EU.T EU.iC EU.tI EU.F hr EU.b (by rfl) EU.hm pe_str)) pss_nil)
  (pss_cons (ps_if (pt_not (pt_val (C8.pe_c DSt hr (by decide) (by rfl) (pa_cons (pv 2) pa_nil)))) (pss_one (ps_bad1 (x := "BadRule") rfl tk EU.T EU.iC EU.tI EU.F hr EU.b (by rfl) EU.hm pe_str)) pss_nil)
  (pss_cons (ps_if (pt_not (pt_val (C8.pe_c DFa hr (by decide) (by rfl) (pa_cons (pv 3) (pa_cons pe_int pa_nil))))) (pss_one (ps_bad1 (x := "BadRule") rfl tk EU.T EU.iC EU.tI EU.F hr EU.b (by rfl) EU.hm pe_str)) pss_nil)
  (pss_cons (ps_fld (pv 0) (pv 1) rfl)
  (pss_cons (ps_fld (pv 0) (pv 2) rfl)
  (pss_cons (ps_fld (pv 0) (pv 3) rfl)
  (pss_cons (ps_fld (pv 0) (pe_tup (pa_cons (pv 0) pa_nil)) rfl)
  (pss_one (ps_fld (pv 0) (pv 3) rfl))))))))), ?_⟩
    refine ⟨_, rfl, vx, 0, rfl, ax, _, rfl, ?_⟩
    cases hv : inB vx 0 24 with
    | false => exact iteT (bad_leaf1 (Bf.leaf (k1 hv)))
    | true =>
      obtain ⟨x, rfl, x1, x2⟩ := wt_in hv
      obtain ⟨k3, k4⟩ := k2 x rfl x1 x2
      refine iteF ?_
      dsimp only [tNext, tSeq]
      refine ⟨_, rfl, vy, rfl, ay, _, rfl, ?_⟩
      cases hy : inB vy (-1000) 1000 with
      | false => exact iteT (bad_leaf1 (Bf.leaf (k3 hy)))
      | true =>
        obtain ⟨y, rfl, y1, y2⟩ := wt_in hy
        obtain ⟨k5, k6⟩ := k4 y rfl y1 y2
        refine iteF ?_
        dsimp only [tNext, tSeq]
        refine ⟨_, rfl, vw, 1, rfl, aw, _, rfl, ?_⟩
        cases hw : inB vw 1 24 with
        | false => exact iteT (bad_leaf1 (Bf.leaf (k5 hw)))
        | true =>
          obtain ⟨w0, rfl, w1, w2⟩ := wt_in hw
          refine iteF ?_
          dsimp only [tNext, tSeq]
          refine ⟨_, rfl, _, rfl, a, VC, dx, _, rfl, ha, Z.cl, Z.n1, (by show 0 < 1000; decide), ?_⟩
          refine ⟨_, rfl, _, rfl, a, VC, dx, _, rfl, upd_same, Z.cl, Z.n2, (by show 1 < 1000; decide), ?_⟩
          refine ⟨_, rfl, _, rfl, a, VC, dx, _, rfl, upd_same, Z.cl, Z.n3, (by show 2 < 1000; decide), ?_⟩
          rw [upd_upd, upd_upd]
          refine ⟨_, rfl, (by show 1 ≤ sizeLine; decide), fun p hp => ?_⟩
          have px : a ≠ p := fun z => by rw [← z, upd_same] at hp; cases hp
          refine ⟨_, rfl, a, VC, dx, _, rfl, by rw [upd_ne px]; exact upd_same, Z.cl, Z.n4, (by show 3 < 1000; decide), ?_⟩
          refine ⟨_, rfl, _, rfl, a, VC, dx, _, rfl, upd_same, Z.cl, Z.n5, (by show 4 < 1000; decide), ?_⟩
          rw [upd_upd]
          obtain ⟨a1, a2⟩ := kp_three (o3 := .ins VC dx (dvP x y w0 p)) (tp := .tup [.ref a]) ha hp
          exact k6 w0 rfl w1 w2 p _ a1 upd_same a2
end
end Lw
namespace Lw
open PySem PySem.Spec PyProof.Rows L2
/-! ### == of functions -/
end Lw
namespace Lw.Fq
open PySem PySem.Spec PyProof.Rows PySem.SeqAt
theorem sl_fn_eq : Slot "function" "__eq__" "object.__eq__" :=
  .of (owner := "object") (n := "__eq__") (by rw [typeLookup_type, builtinLookup_eq_fast]; kernel_rfl) (by decide +kernel) (by decide +kernel) (by decide +kernel)
    (by first | exact .inl (by decide +kernel) | exact .inr (by decide +kernel)) (by rw [isSubtype_type]; kernel_rfl)
section
variable {P : Program} {w : World} {A : Around} {E : Value → Shared → Prop} {s : Shared} {x y : Addr} {o o' : Obj} {Q : Value → Shared → Prop}
theorem fn_same (hx : s.heap.get? x = some o) (hc : o.cls = .type "function") (hu : A.units < cLine) (q : Q (.bool true) s) : wpAny (model P w) A (richCompare .Eq (.ref x) (.ref x)) Q E s := by
  refine wpAny_richCompare_same_room (op := .Eq) ⟨o, hx, hc⟩ ⟨o, hx, hc⟩ sl_fn_eq (GQ.call_here sl_fn_eq ⟨o, hx, hc⟩ F.entry_object_eq (F.args_object_eq_2 _ _) ?_) hu
  exact objEq_entry_same ⟨(fun z => nomatch z), q⟩
theorem call_other (hx : s.heap.get? x = some o) (hc : o.cls = .type "function") (hy : s.heap.get? y = some o') (ne : x ≠ y) (q : Q .notImplemented s) : wpAny (model P w) A (call (.builtin "object.__eq__") [.ref x, .ref y]) Q E s :=
  GQ.call_here sl_fn_eq ⟨o, hx, hc⟩ F.entry_object_eq (F.args_object_eq_2 _ _) (objEq_entry_other ne hx hy (by rw [hc]; exact fun z => absurd (Value.type.inj z) (by decide)) q)
theorem fn_other (hx : s.heap.get? x = some o) (hc : o.cls = .type "function") (hy : s.heap.get? y = some o') (hc' : o'.cls = .type "function") (ne : x ≠ y) (hu : A.units < cLine) (q : Q (.bool false) s) : wpAny (model P w) A (richCompare .Eq (.ref x) (.ref y)) Q E s := by
  have tx : s.TypeIs (.ref x) "function" := ⟨o, hx, hc⟩
  have ty : s.TypeIs (.ref y) "function" := ⟨o', hy, hc'⟩
  simp only [richCompare, cmpInfo_Eq, oneThing_ref]
  refine wpAny_holding ?_
  refine wpAny_bind (wpAny_cRoomFor_or (.inr hu) ?_)
  refine wpAny_bind (wpAny_typeOf tx (wpAny_bind (wpAny_typeOf ty ?_)))
  simp only [bne_self_eq_false, Bool.false_eq_true, if_false, pure_bind, Bool.not_false, if_true]
  refine wpAny_bind (m := tryCompare (.ref x) _ (.ref y)) (wpAny_tryCompare_declines tx sl_fn_eq (call_other hx hc hy ne ⟨rfl, ?_⟩))
  refine wpAny_bind (m := tryCompare (.ref y) _ (.ref x)) (wpAny_tryCompare_declines ty sl_fn_eq (call_other hy hc' hx ne.symm ⟨rfl, ?_⟩))
  exact wpAny_bind (wpAny_rule (wpAny_bind (wpAny_isSame_ref_other ne hx hy (by rw [hc]; exact fun z => absurd (Value.type.inj z) (by decide)) (wpAny_pure q))))
end
end Lw.Fq
namespace Lw
open PySem PySem.Spec PyProof.Rows L2 LamX
open SX PySem.NumText TL LamX ClX StX
set_option pp.maxSteps 900
/-- two functions compared: the same one or not -/
def rEqFn : R2 := fun x y H Q => ∃ a b, x = .ref a ∧ y = .ref b ∧ H a = some (FnO a) ∧ H b = some (FnO b) ∧ Q (.bl (decide (a = b))) H
theorem op_eqFn {X : Cx} (hu : X.A.units < cLine) : OpR X (compareOp .Eq) rEqFn := by
  intro pins s σ H x y v u Q I rx ry h
  obtain ⟨a, b, rfl, rfl, ha, hb, q⟩ := h
  cases (show v = Value.ref a from rx)
  cases (show u = Value.ref b from ry)
  obtain ⟨⟨o, g1, c1⟩, _⟩ := (show ObjOk X.prog X.w H s.heap a (FnO a) from I.hok a _ ha)
  obtain ⟨⟨o2, g2, c2⟩, _⟩ := (show ObjOk X.prog X.w H s.heap b (FnO b) from I.hok b _ hb)
  show wpAny (model X.prog X.w) X.A (richCompare .Eq _ _) (EP X pins σ Q) X.xe s
  by_cases c : a = b
  · subst c
    rw [decide_eq_true rfl] at q
    exact Fq.fn_same g1 c1 hu ⟨.bl true, H, I, rfl, q⟩
  · rw [decide_eq_false c] at q
    exact Fq.fn_other g1 c1 g2 c2 c hu ⟨.bl false, H, I, rfl, q⟩
/-- what stands on the right of ==: no instance of C -/
def NoI (K : PySem.W.Frag) (C : Addr) (H : Hp) (y : V) : Prop := ∃ t, TyZ K H y t ∧ PySem.W.kitOne K t (.ref C) = some false
def spFxe (K : PySem.W.Frag) (FC : Addr) : Sp := fun vs H Q _ => ∃ a y n, vs = [.ref a, y] ∧ FxAt FC H a n ∧ ((NoI K FC H y ∧ Q (.bl false) H) ∨ ∃ b m, y = .ref b ∧ FxAt FC H b m ∧ Q (.bl (decide (n = m))) H)
def spDve (K : PySem.W.Frag) (VC : Addr) : Sp := fun vs H Q _ => ∃ a z x y w, vs = [.ref a, z] ∧ DvAt VC H a x y w ∧ ((NoI K VC H z ∧ Q (.bl false) H) ∨ ∃ b x' y' w', z = .ref b ∧ DvAt VC H b x' y' w' ∧ Q (.bl (decide (x = x') && (decide (y = y') && decide (w = w')))) H)
def spBye (K : PySem.W.Frag) (BC : Addr) : Sp := fun vs H Q _ => ∃ a b f g, vs = [.ref a, .ref b] ∧ ByAt BC H a (.ref f) ∧ ByAt BC H b (.ref g) ∧ H f = some (FnO f) ∧ H g = some (FnO g) ∧ Q (.bl (decide (f = g))) H
/-- Divided, ready to be made -/
def DivV (K : PySem.W.Frag) (VC DU : Addr) (vx vy vw : V) (H : Hp) (Q : VK) (E : XK) : Prop := Anyv K H vx ∧ Anyv K H vy ∧ Anyv K H vw ∧ MkD K DU vx vy vw H E fun x y w => ∀ a H', Same H H' → H a = none → DvAt VC H' a x y w → Q (.ref a) H'
def FixV (K : PySem.W.Frag) (FC DS : Addr) (v : V) (H : Hp) (Q : VK) (E : XK) : Prop := Anyv K H v ∧ (inB v 1 (10 ^ 30) = false → Bf DS "value" v H E) ∧ ∀ n, v = .int n → 1 ≤ n → n ≤ 10 ^ 30 → ∀ a H', Same H H' → H a = none → FxAt FC H' a n → Q (.ref a) H'
theorem MkD.of {K : PySem.W.Frag} {DU : Addr} {vx vy vw : V} {H H' : Hp} {E : XK} {R R' : Int → Int → Int → Prop} (h : MkD K DU vx vy vw H E R) (s : Same H H') (m : ∀ x y w, R x y w → R' x y w) : MkD K DU vx vy vw H' E R' := by
  have bf : ∀ {D : Addr} {f : Str} {x : V}, Bf D f x H E → Bf D f x H' E := fun b d fs H2 s2 hd e => b d fs H2 (s.trans s2) hd e
  obtain ⟨k1, k2⟩ := h
  refine ⟨fun z => bf (k1 z), fun x e x1 x2 => ?_⟩
  obtain ⟨k3, k4⟩ := k2 x e x1 x2
  refine ⟨fun z => bf (k3 z), fun y e y1 y2 => ?_⟩
  obtain ⟨k5, k6⟩ := k4 y e y1 y2
  exact ⟨fun z => bf (k5 z), fun w e w1 w2 => m x y w (k6 w e w1 w2)⟩
theorem DivV.make {K : PySem.W.Frag} {VC DU : Addr} {vx vy vw : V} {H : Hp} {Q : VK} {E : XK} (h : DivV K VC DU vx vy vw H Q E) (x dx : Addr) (hx : H x = none) (hdx : H dx = none) (ne : dx ≠ x) :
    spDvi K VC DU [.ref x, vx, vy, vw] (upd (upd H dx (.own x)) x (.ins VC dx [])) (fun v H2 => v = .non ∧ Q (.ref x) H2) E := by
  obtain ⟨h1, h2, h3, h4⟩ := h
  have s1 : Same H (upd H dx (.own x)) := same_new hdx
  have hx1 : upd H dx (.own x) x = none := by rw [upd_ne ne.symm]; exact hx
  have s2 := s1.trans (same_new (o := HO.ins VC dx []) hx1)
  exact ⟨x, dx, vx, vy, vw, rfl, upd_same, Lw.Anyv.same s2 h1, Lw.Anyv.same s2 h2, Lw.Anyv.same s2 h3, h4.of s2 fun i j k g p H' kp hx' hp => ⟨rfl, g x H' (fun b o e => kp _ _ (ne_of_none e hx) (s2 _ _ e)) hx ⟨dx, p, hx', hp⟩⟩⟩
theorem FixV.make {K : PySem.W.Frag} {FC DS : Addr} {v : V} {H : Hp} {Q : VK} {E : XK} (h : FixV K FC DS v H Q E) (x dx : Addr) (hx : H x = none) (hdx : H dx = none) (ne : dx ≠ x) :
    spFxi K FC DS [.ref x, v] (upd (upd H dx (.own x)) x (.ins FC dx [])) (fun v H2 => v = .non ∧ Q (.ref x) H2) E := by
  obtain ⟨h1, h2, h3⟩ := h
  have s1 : Same H (upd H dx (.own x)) := same_new hdx
  have hx1 : upd H dx (.own x) x = none := by rw [upd_ne ne.symm]; exact hx
  have s2 := s1.trans (same_new (o := HO.ins FC dx []) hx1)
  exact ⟨x, dx, v, rfl, upd_same, Lw.Anyv.same s2 h1, (fun z d fs H2 s3 hd e => h2 z d fs H2 (s2.trans s3) hd e), fun n e n1 n2 p H' kp hx' hp => ⟨rfl, h3 n e n1 n2 x H' (fun b o e => kp _ _ (ne_of_none e hx) (s2 _ _ e)) hx ⟨dx, p, hx', hp⟩⟩⟩
def spDvu (K : PySem.W.Frag) (VC DU : Addr) : Sp := fun vs H Q E => ∃ v, vs = [v] ∧ Anyv K H v ∧ (inB v 1 24 = false → Bf DU "part" (.str (Str.ofString "w")) H E) ∧ ∀ n, v = .int n → 1 ≤ n → n ≤ 24 → ∀ a H', Same H H' → H a = none → DvAt VC H' a 1 (n - 1) n → Q (.ref a) H'
structure DivM (P : Program) (w : World) (K : PySem.W.Frag) (mg : Str → Option Value) (base : Heap) (VC DU f : Addr) (fd : FuncData) : Prop where
  M : Mk K VC f
  F : FnOk P w K mg base (L2.CX P w) 4 f fd ["self", "x", "y", "w"] (spDvi K VC DU)
  hm : mg "Divided" = some (.ref VC)
  b : Binds K fd ["self", "x", "y", "w"] []
structure FixM (P : Program) (w : World) (K : PySem.W.Frag) (mg : Str → Option Value) (base : Heap) (FC DS f : Addr) (fd : FuncData) : Prop where
  M : Mk K FC f
  F : FnOk P w K mg base (L2.CX P w) 4 f fd ["self", "size"] (spFxi K FC DS)
  hm : mg "Fixed" = some (.ref FC)
  b : Binds K fd ["self", "size"] []
structure ByM (P : Program) (w : World) (K : PySem.W.Frag) (mg : Str → Option Value) (base : Heap) (BC f : Addr) (fd : FuncData) : Prop where
  M : Mk K BC f
  F : FnOk P w K mg base (L2.CX P w) 1 f fd ["self", "function"] (spByi BC)
  hm : mg "By" = some (.ref BC)
  b : Binds K fd ["self", "function"] []
section
variable {X : Cx}
theorem pe_fldK (K' : PySem.W.Frag) (hK : X.K = K') {e : Expr} {te : TE} {f : Str} {pos : Pos} (he : PE X e te) (hb : attributeBase e f X.env (eval e X.env) = eval e X.env) : PE X (.Attribute e f pos) (tFld K' te f) := by
  subst hK
  exact pe_fld he hb
end
section
variable {P : Program} {w : World} {K : PySem.W.Frag} {mg : Str → Option Value} {base : Heap}
theorem scFxe : FnScope ["self", "other"] ["self", "other"] (C8.fnScope sFxe) := C8.fnScope_by (by decide +kernel)
theorem fn_fxe {FC f : Addr} {fd : FuncData} (F : C8.Fun K "__eq__" "Fixed.__eq__" sFxe f fd) (T : Txt mg) (Z : FxC K FC) (hm : mg "Fixed" = some (.ref FC)) (I : C8.InsC K FC) : FnOk P w K mg base (L2.CX P w) 1 f fd ["self", "other"] (spFxe K FC) := by
  obtain ⟨oc, od, dV, kV, doc, pm, an, cdv, ct, osl, rfl, lk, hcd⟩ := F.ex
  refine fn_of lk hcd scFxe (fun vs H Q E h => ?_) fun A outer s H vs Q E hr h => ?_
  · obtain ⟨a, y, n, rfl, _⟩ := h
    rfl
  · obtain ⟨a, y, n, rfl, ⟨dx, p, ha, hp⟩, k⟩ := h
    refine ⟨_, (pss_one (ps_ret (pe_and (pe_callB call_isz (by rfl) T.n_isinstance (by decide +kernel) (pa_cons (pv 1) (pa_cons (pe_glob (v := .ref FC) (by rfl) hm rfl) pa_nil))) (pe_one (pe_cmpR op_eq (pe_fldK K rfl (pv 0) rfl) (pe_fldK K rfl (pv 1) rfl) (nomark _)))))), ?_⟩
    rcases k with ⟨⟨t, ty, hk⟩, k⟩ | ⟨b, m, rfl, ⟨dy, q, hb, hq⟩, k⟩
    · refine ⟨_, rfl, _, .ref FC, t, .ref FC, false, rfl, .own FC, ty, hk, _, rfl, iteF k⟩
    · refine ⟨_, rfl, _, .ref FC, .ref FC, .ref FC, true, rfl, .own FC, .x (.base (.ins hb I.cl I.ha I.hn I.htk I.hm)), I.me, _, rfl, iteT ?_⟩
      refine ⟨_, rfl, a, FC, dx, _, _, rfl, ha, Z.cl, Z.n1, fxP_size _ _, _, rfl, b, FC, dy, _, _, rfl, hb, Z.cl, Z.n1, fxP_size _ _, rfl, ?_⟩
      rw [show decide (V.int n = V.int m) = decide (n = m) from decide_eq_decide.mpr ⟨fun e => V.int.inj e, fun e => by rw [e]⟩]
      exact k
theorem scDve : FnScope ["self", "other"] ["self", "other"] (C8.fnScope sDve) := C8.fnScope_by (by decide +kernel)
theorem fn_dve {VC f : Addr} {fd : FuncData} (F : C8.Fun K "__eq__" "Divided.__eq__" sDve f fd) (T : Txt mg) (Z : DvC K VC) (hm : mg "Divided" = some (.ref VC)) (I : C8.InsC K VC) : FnOk P w K mg base (L2.CX P w) 1 f fd ["self", "other"] (spDve K VC) := by
  obtain ⟨oc, od, dV, kV, doc, pm, an, cdv, ct, osl, rfl, lk, hcd⟩ := F.ex
  refine fn_of lk hcd scDve (fun vs H Q E h => ?_) fun A outer s H vs Q E hr h => ?_
  · obtain ⟨a, z, x, y, w, rfl, _⟩ := h
    rfl
  · obtain ⟨a, z, x, y, w0, rfl, ⟨dx, p, ha, hp⟩, k⟩ := h
    have di : ∀ i j : Int, decide (V.int i = V.int j) = decide (i = j) := fun i j => decide_eq_decide.mpr ⟨fun e => V.int.inj e, fun e => by rw [e]⟩
    refine ⟨_, (pss_one (ps_ret (pe_and (pe_callB call_isz (by rfl) T.n_isinstance (by decide +kernel) (pa_cons (pv 1) (pa_cons (pe_glob (v := .ref VC) (by rfl) hm rfl) pa_nil))) (pe_and (pe_cmpR op_eq (pe_fldK K rfl (pv 0) rfl) (pe_fldK K rfl (pv 1) rfl) (nomark _)) (pe_and (pe_cmpR op_eq (pe_fldK K rfl (pv 0) rfl) (pe_fldK K rfl (pv 1) rfl) (nomark _)) (pe_one (pe_cmpR op_eq (pe_fldK K rfl (pv 0) rfl) (pe_fldK K rfl (pv 1) rfl) (nomark _)))))))), ?_⟩
    rcases k with ⟨⟨t, ty, hk⟩, k⟩ | ⟨b, x', y', w', rfl, ⟨dy, q, hb, hq⟩, k⟩
    · refine ⟨_, rfl, _, .ref VC, t, .ref VC, false, rfl, .own VC, ty, hk, _, rfl, iteF k⟩
    · refine ⟨_, rfl, _, .ref VC, .ref VC, .ref VC, true, rfl, .own VC, .x (.base (.ins hb I.cl I.ha I.hn I.htk I.hm)), I.me, _, rfl, iteT ?_⟩
      refine ⟨_, rfl, a, VC, dx, _, _, rfl, ha, Z.cl, Z.n1, dvP_x _ _ _ _, _, rfl, b, VC, dy, _, _, rfl, hb, Z.cl, Z.n1, dvP_x _ _ _ _, rfl, ?_⟩
      rw [di]
      cases h1 : decide (x = x') with
      | false =>
        rw [h1, Bool.false_and] at k
        exact ⟨_, rfl, iteF k⟩
      | true =>
        rw [h1, Bool.true_and] at k
        refine ⟨_, rfl, iteT ⟨_, rfl, a, VC, dx, _, _, rfl, ha, Z.cl, Z.n2, dvP_y _ _ _ _, _, rfl, b, VC, dy, _, _, rfl, hb, Z.cl, Z.n2, dvP_y _ _ _ _, rfl, ?_⟩⟩
        rw [di]
        cases h2 : decide (y = y') with
        | false =>
          rw [h2, Bool.false_and] at k
          exact ⟨_, rfl, iteF k⟩
        | true =>
          rw [h2, Bool.true_and] at k
          refine ⟨_, rfl, iteT ⟨_, rfl, a, VC, dx, _, _, rfl, ha, Z.cl, Z.n3, dvP_w _ _ _ _, _, rfl, b, VC, dy, _, _, rfl, hb, Z.cl, Z.n3, dvP_w _ _ _ _, rfl, ?_⟩⟩
          rw [di]
          exact k
theorem scDvu : FnScope ["w"] ["w"] (C8.fnScope sDvu) := C8.fnScope_by (by decide +kernel)
end
end Lw
namespace Lw
open PySem PySem.Spec PyProof.Rows L2
open SX PySem.NumText TL LamX ClX StX
section
variable {prog : Program} {w : World} {A : Around} {E : Value → Shared → Prop} {s : Shared} {K : PySem.W.Frag} {x b C D L f f' : Addr} {h₀ : Heap} {m : Str → Option Value} {ox oy : Obj} {od od' : Option Obj}
open PySem.W PySem.Calls PyProof.Rows in
/-- a binary operator of two own instances, neither class derived from the other -/
theorem bin_other {op : Operator} {Q : Value → Shared → Prop} (F : Fr h₀ L s.heap m) (X₀ : K.In h₀) (I : InstAt s.heap x ox C od) (J : InstAt s.heap b oy D od') (ne : C ≠ D) (hc : selfFirst K C = true) (hd : selfFirst K D = true)
    (hs : findIn K (.ref C) (PySem.dunder op.info.2) = some (some (.ref f))) (hf : isFn K (.ref f) = true) (hr : findIn K (.ref C) (dunderR op.info.2) = some none)
    (hs' : findIn K (.ref D) (PySem.dunder op.info.2) = some (some (.ref f'))) (hr' : findIn K (.ref D) (dunderR op.info.2) = some none) (hsub : subIn K (.ref D) (.ref C) = some false)
    (h : wpAny (model prog w) A (call (.ref f) [.ref x, .ref b]) (PySem.W.CmpBack Q) E s) : wpAny (model prog w) A (binaryOp op (.ref x) (.ref b)) Q E s := by
  have X := X₀.keeps F.keep
  obtain ⟨cd, rest, hcd, hm⟩ := ksp_first hc
  obtain ⟨cd', rest', hcd', hm'⟩ := ksp_first hd
  rcases hi : op.info with ⟨sym, nm'⟩
  rw [hi] at hs hr hs' hr'
  dsimp only at hs hr hs' hr'
  have one := ksp_try X I hs hf h
  obtain ⟨hh, g, d, tt, os⟩ := s
  have L1 : Looks (model prog w) hh (typeOf (.ref x)) (.ref C) := I.type
  have L2 : Looks (model prog w) hh (typeOf (.ref b)) (.ref D) := J.type
  have L3 : Looks (model prog w) hh (fillsNumberSlot (.ref C) nm') true := fills_K X hcd hm hs
  have L4 : Looks (model prog w) hh (fillsNumberSlot (.ref D) nm') true := fills_K X hcd' hm' hs'
  have L5 : Looks (model prog w) hh (isSubtype (.ref D) (.ref C)) false := looks_subIn X hsub
  have L6 : Looks (model prog w) hh (numberSlotInPython (.ref C) nm') true := ksp_inPy X hs hr (.inl rfl)
  have L7 : Looks (model prog w) hh (numberSlotInPython (.ref D) nm') true := ksp_inPy X hs' hr' (.inl rfl)
  have hne : (Value.ref C == Value.ref D) = false := Bool.eq_false_iff.mpr fun q => by cases beq_iff_eq.mp q; exact ne rfl
  simp only [binaryOp, hi]
  refine wpAny_holding (wpAny_bind ?_)
  unfold binaryOp1
  refine wpAny_bind (L1.at (wpAny_bind (L2.at (wpAny_bind (L3.at ?_)))))
  simp only [hne, Bool.false_eq_true, if_false]
  ksp_lk
  refine wpAny_mono one (fun r s' hr' => ?_) fun _ _ e => e
  obtain ⟨v, rfl, hq⟩ := hr'
  ksp_lk
  exact hq
end
/-- a method that every class of a kind has -/
structure MetP (P : Program) (w : World) (K : PySem.W.Frag) (mg : Str → Option Value) (base : Heap) (k : Nat) (Pc : Addr → Prop) (m : Str) (sp : Addr → Sp) : Prop where
  all : ∀ C, Pc C → MetX P w K mg base k C m (sp C)
/-- ready to be called by keyword, too -/
structure MetPK (P : Program) (w : World) (K : PySem.W.Frag) (mg : Str → Option Value) (base : Heap) (k : Nat) (Pc : Addr → Prop) (m : Str) (ks : List Str) (sp : Addr → Sp) : Prop where
  all : ∀ C, Pc C → ∃ (g : Addr) (fd : FuncData) (ps : List Str) (gU : List Value → List Value → List Value), Meth K C m g ∧ FnOk P w K mg base (L2.CX P w) k g fd ps (sp C) ∧ KBn K fd ps 1 ks gU (fun a zs => a ++ zs)
/-- instances of these classes may be called -/
structure CalP (P : Program) (w : World) (K : PySem.W.Frag) (mg : Str → Option Value) (base : Heap) (k : Nat) (Pc : Addr → Prop) (ks : List Str) (sp : Addr → Sp) : Prop where
  all : ∀ C, Pc C → ∃ (g : Addr) (fd : FuncData) (ps : List Str) (gU : List Value → List Value → List Value), CallO K C g ∧ FnOk P w K mg base (L2.CX P w) k g fd ps (sp C) ∧ Binds K fd ps [] ∧ KBn K fd ps 1 ks gU (fun a zs => a ++ zs)
theorem MetP.mono {P : Program} {w : World} {K : PySem.W.Frag} {mg : Str → Option Value} {base : Heap} {k : Nat} {Pc Pd : Addr → Prop} {m : Str} {sp : Addr → Sp} (M : MetP P w K mg base k Pc m sp) (h : ∀ C, Pd C → Pc C) : MetP P w K mg base k Pd m sp := ⟨fun C c => M.all C (h C c)⟩
/-- operators of two of a kind -/
structure OpP (K : PySem.W.Frag) (Pc : Addr → Prop) (op : Operator) : Prop where
  first : ∀ C, Pc C → PySem.W.selfFirst K C = true
  back : ∀ C, Pc C → PySem.W.findIn K (.ref C) (dunderR op.info.2) = some none
  sub : ∀ C D, Pc C → Pc D → C ≠ D → PySem.W.subIn K (.ref D) (.ref C) = some false
section
variable {X : Cx} {Pc : Addr → Prop} {k j : Nat} {sp : Addr → Sp} {E : XK} {o : Expr} {m : Str} {pos apos p : Pos} {ta tf : TE} {t tkw : TA} {pl : Sem Bool} {e : Expr} {es : List Expr} {kws : List Keyword} {ks : List Str} {x : Str}
def tMp (Pc : Addr → Prop) (m : Str) (sp : Addr → Sp) (E : XK) (ta : TE) (t : TA) : TE := fun σ H Q => ta σ H fun x H1 => ∃ a C dx fs, x = .ref a ∧ Pc C ∧ H1 a = some (.ins C dx fs) ∧ fs.lookup m = none ∧ t σ H1 fun vs H2 => sp C (x :: vs) H2 Q E
def tMpK (Pc : Addr → Prop) (m : Str) (ks : List Str) (sp : Addr → Sp) (E : XK) (ta : TE) (t : TA) : TE := fun σ H Q => ta σ H fun x H1 => ∃ a C dx fs, x = .ref a ∧ Pc C ∧ H1 a = some (.ins C dx fs) ∧ fs.lookup m = none ∧ t σ H1 fun zs H2 => zs.length = ks.length ∧ sp C (x :: zs) H2 Q E
/-- o.m(e, ..), o of any class of the kind -/
theorem pe_mxP (he : PE X o ta) (c : ∀ C, Pc C → Cls X.K C) (M : MetP X.prog X.w X.K X.mg X.base k Pc m sp) (hr : Room j X.A) (hk : k ≤ j) (hx : Passes (L2.CX X.prog X.w) X E) (ha : PA X (e :: es) t)
    (hst : starEach (e :: es) X.env = (false, eval e X.env) :: starEach es X.env := by rfl) (hpl : (backTo pos (starEach es X.env)).any (·.1) = false := by rfl)
    (ht : eval (.Call (.Attribute o m apos) (e :: es) [] pos) X.env = (do
      let ov ← eval o X.env
      standAt apos.atName
      let (f, first) ← holding [ov] (getMethod ov m pl)
      callWith pos f first (backTo pos (starEach (e :: es) X.env)) (backToKw pos (keywordEach [] X.env))) := by rfl) :
    PE X (.Call (.Attribute o m apos) (e :: es) [] pos) (tMp Pc m sp E ta t) := by
  refine ⟨fun pins s σ H Q I h => ?_⟩
  refine PySem.W.methodCall_KW (pl := pl) (thn (he.run pins s σ H _ I h) fun u s1 ⟨x, H1, I1, rx, a, C, dx, fs, ex, pc, ea, l, q⟩ => ?_) ht
  subst ex
  obtain rfl : u = Value.ref a := rx
  obtain ⟨g, fd, ps, hm, F, b⟩ := (M.all C pc).ex
  refine getmeth_ok I1 ea (c C pc) hm l ?_
  refine PySem.W.callWith_K (first := [.ref a]) (h₀ := X.base) I.ok.mod.kin hm.kp (thn (ha.run pos pins s1 σ H1 _ I1 q) fun us s2 ⟨vs, H2, I2, r, q2⟩ => ⟨I2.kIn, ?_⟩) hst hpl
  exact run_fn (us := .ref a :: us) (vs := .ref a :: vs) F (hr.mono hk) b .nil hx I2 (.cons rfl r) (by rw [List.append_nil]; exact q2)
/-- o.m(k=e, ..) -/
theorem pe_mxPK (he : PE X o ta) (c : ∀ C, Pc C → Cls X.K C) (M : MetPK X.prog X.w X.K X.mg X.base k Pc m ks sp) (hr : Room j X.A) (hk : k ≤ j) (hx : Passes (L2.CX X.prog X.w) X E) (hkw : PK X kws tkw)
    (hall : (backToKw pos (keywordEach kws X.env)).all (·.1.isSome) = true := by rfl) (hks : (backToKw pos (keywordEach kws X.env)).filterMap (·.1) = ks := by rfl)
    (hpl : ((backTo pos (starEach [] X.env)).any (·.1) || (backToKw pos (keywordEach kws X.env)).any (·.1.isNone)) = false := by rfl)
    (ht : eval (.Call (.Attribute o m apos) [] kws pos) X.env = (do
      let ov ← eval o X.env
      standAt apos.atName
      let (f, first) ← holding [ov] (getMethod ov m pl)
      callWith pos f first (backTo pos (starEach [] X.env)) (backToKw pos (keywordEach kws X.env))) := by rfl) :
    PE X (.Call (.Attribute o m apos) [] kws pos) (tMpK Pc m ks sp E ta tkw) := by
  refine ⟨fun pins s σ H Q I h => ?_⟩
  refine PySem.W.methodCall_KW (pl := pl) (thn (he.run pins s σ H _ I h) fun u s1 ⟨x, H1, I1, rx, a, C, dx, fs, ex, pc, ea, l, q⟩ => ?_) ht
  subst ex
  obtain rfl : u = Value.ref a := rx
  obtain ⟨g, fd, ps, gU, hm, F, hb⟩ := M.all C pc
  refine getmeth_ok I1 ea (c C pc) hm l ?_
  refine PySem.W.callWith_KW0 (first := [.ref a]) (h₀ := X.base) I.ok.mod.kin hm.kp hall ?_ hpl
  refine thn (hkw.run pos pins _ σ H1 _ I1 q) fun ws s2 ⟨zs, H2, I3, rz, l2, q2⟩ => ⟨I3.kIn, ?_⟩
  rw [hks]
  exact run_fnN (us := [.ref a]) (vs := [.ref a]) F (hr.mono hk) hb hx I3 (.cons rfl .nil) rz rfl l2 q2
def tCp (Pc : Addr → Prop) (sp : Addr → Sp) (E : XK) (tf : TE) (t : TA) : TE := fun σ H Q => tf σ H fun y H1 => ∃ a, y = V.ref a ∧ t σ H1 fun vs H2 => ∃ C dx fs, Pc C ∧ H2 a = some (.ins C dx fs) ∧ sp C (V.ref a :: vs) H2 Q E
def tCpK (Pc : Addr → Prop) (ks : List Str) (sp : Addr → Sp) (E : XK) (tf : TE) (t : TA) : TE := fun σ H Q => tf σ H fun y H1 => ∃ a, y = V.ref a ∧ t σ H1 fun zs H2 => zs.length = ks.length ∧ ∃ C dx fs, Pc C ∧ H2 a = some (.ins C dx fs) ∧ sp C (V.ref a :: zs) H2 Q E
theorem run_instP {pins : List (Addr × Obj)} {σ : L2.St} {H : Hp} {s : Shared} {Q : VK} {a : Addr} {us : List Value} {vs : List V} (M : CalP X.prog X.w X.K X.mg X.base k Pc ks sp) (hr : Room j X.A) (hk : k ≤ j) (hx : Passes (L2.CX X.prog X.w) X E) (I : Inv X pins σ H s) (r : Vals vs us)
    (h : ∃ C dx fs, Pc C ∧ H a = some (.ins C dx fs) ∧ sp C (V.ref a :: vs) H Q E) : (∃ C ox od, PySem.W.InstAt s.heap a ox C od ∧ ox.data = .plain) ∧ wpAny (model X.prog X.w) X.A (call (.ref a) us) (EP X pins σ Q) X.xe s := by
  obtain ⟨C, dx, fs, pc, ha, h⟩ := h
  obtain ⟨mA, O, _⟩ := ins_get I.hok ha
  obtain ⟨od, J, _⟩ := O.look
  obtain ⟨g, fd, ps, gU, c, F, b, _⟩ := M.all C pc
  refine ⟨⟨C, _, _, J, rfl⟩, wpAny_call (PySem.W.kco_code I.kIn J rfl c.at_ c.fn c.fi ?_)⟩
  have r2 : Vals (V.ref a :: vs) (Value.ref a :: us) := .cons rfl r
  have hl : (Value.ref a :: us).length = ps.length := by rw [← r2.length]; exact F.len _ _ _ _ h
  have hbd := b s (.ref a :: us) I.kIn (by rw [List.append_nil]; exact hl)
  rw [List.append_nil] at hbd
  refine codeAny_mono (F.run X.A X.stack s H ⟨.ref a :: us, []⟩ (.ref a :: us) (V.ref a :: vs) Q E (hr.mono hk) I.env0 hbd r2 h) fun r s' hq => ?_
  cases r with
  | error e => exact hx pins σ H s e s' I hq
  | ok fl =>
    cases fl with
    | ret u => exact I.after hq
    | next => exact False.elim hq
    | brk => exact False.elim hq
    | cont => exact False.elim hq
theorem run_instPK {pins : List (Addr × Obj)} {σ : L2.St} {H : Hp} {s : Shared} {Q : VK} {a : Addr} {ws : List Value} {zs : List V} (M : CalP X.prog X.w X.K X.mg X.base k Pc ks sp) (hr : Room j X.A) (hk : k ≤ j) (hx : Passes (L2.CX X.prog X.w) X E) (I : Inv X pins σ H s) (r : Vals zs ws) (l2 : zs.length = ks.length)
    (h : ∃ C dx fs, Pc C ∧ H a = some (.ins C dx fs) ∧ sp C (V.ref a :: zs) H Q E) : (∃ C ox od, PySem.W.InstAt s.heap a ox C od ∧ ox.data = .plain) ∧ wpAny (model X.prog X.w) X.A (call (.ref a) [] (ks.zip ws)) (EP X pins σ Q) X.xe s := by
  obtain ⟨C, dx, fs, pc, ha, h⟩ := h
  obtain ⟨mA, O, _⟩ := ins_get I.hok ha
  obtain ⟨od, J, _⟩ := O.look
  obtain ⟨g, fd, ps, gU, c, F, _, hb⟩ := M.all C pc
  refine ⟨⟨C, _, _, J, rfl⟩, wpAny_call (PySem.W.kco_code I.kIn J rfl c.at_ c.fn c.fi ?_)⟩
  have r1 : Vals [V.ref a] [Value.ref a] := .cons rfl .nil
  refine codeAny_mono (F.run X.A X.stack s H ⟨[.ref a], ks.zip ws⟩ (gU [.ref a] ws) ([V.ref a] ++ zs) Q E (hr.mono hk) I.env0 (hb.to s [.ref a] ws I.kIn rfl (r.length.symm.trans l2)) (hb.rel r1 r) h) fun r s' hq => ?_
  cases r with
  | error e => exact hx pins σ H s e s' I hq
  | ok fl =>
    cases fl with
    | ret u => exact I.after hq
    | next => exact False.elim hq
    | brk => exact False.elim hq
    | cont => exact False.elim hq
/-- f(e, ..), f an instance of the kind (a name) -/
theorem pe_callP (hf : PE X (.Name x p) tf) (M : CalP X.prog X.w X.K X.mg X.base k Pc ks sp) (hr : Room j X.A) (hk : k ≤ j) (hx : Passes (L2.CX X.prog X.w) X E) (ha : PA X (e :: es) t)
    (he : starEach (e :: es) X.env = (false, eval e X.env) :: starEach es X.env := by rfl) (hpl : (backTo pos (starEach es X.env)).any (·.1) = false := by rfl) : PE X (.Call (.Name x p) (e :: es) [] pos) (tCp Pc sp E tf t) := by
  refine ⟨fun pins s σ H Q I h => ?_⟩
  refine wpAny_Call_Name_kw (thn (hf.run pins s σ H _ I h) fun u s1 ⟨y, H1, I1, ry, a, ey, q⟩ => ?_)
  subst ey
  obtain rfl : u = Value.ref a := ry
  exact callO_with (thn (ha.run pos pins s1 σ H1 _ I1 q) fun us s2 ⟨vs, H2, I2, r, q2⟩ => run_instP M hr hk hx I2 r q2) he hpl
/-- f(e, ..), f an expression -/
theorem pe_callPE {fe : Expr} (hf : PE X fe tf) (M : CalP X.prog X.w X.K X.mg X.base k Pc ks sp) (hr : Room j X.A) (hk : k ≤ j) (hx : Passes (L2.CX X.prog X.w) X E) (ha : PA X (e :: es) t)
    (ht : eval (.Call fe (e :: es) [] pos) X.env = (do callWith pos (← eval fe X.env) [] (backTo pos (starEach (e :: es) X.env)) (backToKw pos (keywordEach [] X.env))) := by rfl)
    (he : starEach (e :: es) X.env = (false, eval e X.env) :: starEach es X.env := by rfl) (hpl : (backTo pos (starEach es X.env)).any (·.1) = false := by rfl) : PE X (.Call fe (e :: es) [] pos) (tCp Pc sp E tf t) := by
  refine ⟨fun pins s σ H Q I h => ?_⟩
  refine Call_ (thn (hf.run pins s σ H _ I h) fun u s1 ⟨y, H1, I1, ry, a, ey, q⟩ => ?_) ht
  subst ey
  obtain rfl : u = Value.ref a := ry
  exact callO_with (thn (ha.run pos pins s1 σ H1 _ I1 q) fun us s2 ⟨vs, H2, I2, r, q2⟩ => run_instP M hr hk hx I2 r q2) he hpl
theorem callO_ofK {M : Model} {A : Around} {E : Value → Shared → Prop} {s : Shared} {a : Addr} {pos : Pos} {Q : Value → Shared → Prop} {args : List (Bool × Sem Value)} {keywords : List (Option Str × Sem Value)} (hplain : (args.any (·.1) || keywords.any (·.1.isNone)) = false)
    (h : wpAny M A (evalArgs (.ref a) true args keywords) (fun z s₁ => (∃ C ox od, PySem.W.InstAt s₁.heap a ox C od ∧ ox.data = .plain) ∧ wpAny M A (call (.ref a) ([] ++ z.pos) z.kw) Q E s₁) E s) : wpAny M A (callWith pos (.ref a) [] args keywords) Q E s := by
  unfold callWith
  refine wpAny_bind (wpAny_holding (wpAny_mono h (fun z s₁ h₁ => wpAny_bind (wpAny_standAt ?_)) fun _ _ y => y))
  obtain ⟨⟨C, ox, od, J, hd⟩, h₁⟩ := h₁
  have L := PySem.W.kco_keeper (M := M) J hd
  simp only [hplain]
  refine wpAny_bind (L.here ?_)
  have tail : ∀ {t : Sem Value}, wpAny M A t Q E s₁ → wpAny M A (t >>= fun r => holding [r] point >>= fun _ => pure r) Q E s₁ :=
    fun ht => wpAny_bind (wpAny_mono ht (fun r s₂ hr => wpAny_bind (wpAny_holding (wpAny_point (wpAny_pure hr)))) fun _ _ y => y)
  exact tail (wpAny_operateT h₁)
/-- f(k=e, ..), f an instance of the kind (a name) -/
theorem pe_callPK (hf : PE X (.Name x p) tf) (M : CalP X.prog X.w X.K X.mg X.base k Pc ks sp) (hr : Room j X.A) (hk : k ≤ j) (hx : Passes (L2.CX X.prog X.w) X E) (hkw : PK X kws tkw)
    (hall : (backToKw pos (keywordEach kws X.env)).all (·.1.isSome) = true := by rfl) (hks : (backToKw pos (keywordEach kws X.env)).filterMap (·.1) = ks := by rfl)
    (hpl : ((backTo pos (starEach [] X.env)).any (·.1) || (backToKw pos (keywordEach kws X.env)).any (·.1.isNone)) = false := by rfl) : PE X (.Call (.Name x p) [] kws pos) (tCpK Pc ks sp E tf tkw) := by
  refine ⟨fun pins s σ H Q I h => ?_⟩
  refine wpAny_Call_Name_kw (thn (hf.run pins s σ H _ I h) fun u s1 ⟨y, H1, I1, ry, a, ey, q⟩ => ?_)
  subst ey
  obtain rfl : u = Value.ref a := ry
  refine callO_ofK hpl (evalArgs_kw2_nil hall (thn (hkw.run pos pins _ σ H1 _ I1 q) fun ws s2 ⟨zs, H2, I3, rz, l2, q2⟩ => ?_))
  rw [hks]
  exact run_instPK M hr hk hx I3 rz l2 q2
def rP (Pc : Addr → Prop) (sp : Addr → Sp) (E : XK) : R2 := fun x y H Q => ∃ a C dx fs b D dy gs, x = .ref a ∧ y = .ref b ∧ Pc C ∧ Pc D ∧ H a = some (.ins C dx fs) ∧ H b = some (.ins D dy gs) ∧ sp C [x, y] H Q E
/-- a & b, both of the kind -/
theorem op_P {op : Operator} (M : MetP X.prog X.w X.K X.mg X.base k Pc (PySem.dunder op.info.2) sp) (O : OpP X.K Pc op) (hx : Passes (L2.CX X.prog X.w) X E) (hr : Room j X.A) (hk : k ≤ j) : OpR X (binaryOp op) (rP Pc sp E) := by
  intro pins s σ H x y v u Q I rx ry h
  obtain ⟨a, C, dx, fs, b, D, dy, gs, rfl, rfl, pc, pd, ha, hb, q⟩ := h
  by_cases ne : C = D
  · subst ne
    exact op_sameX (M.all C pc) hx (O.first C pc) hr hk pins s σ H _ _ v u Q I rx ry ⟨a, dx, fs, b, dy, gs, rfl, rfl, ha, hb, q⟩
  · cases (show v = Value.ref a from rx)
    cases (show u = Value.ref b from ry)
    obtain ⟨_, _, J⟩ := ins_at I ha
    obtain ⟨_, _, J'⟩ := ins_at I hb
    obtain ⟨g, hm, w, _⟩ := run_met (us := [.ref a, .ref b]) (vs := [.ref a, .ref b]) (M.all C pc) hx hr hk I (.cons rfl (.cons rfl .nil)) q
    obtain ⟨g', _, _, hm', _⟩ := (M.all D pd).ex
    obtain ⟨m, hF⟩ := I.fr
    exact bin_other hF I.ok.mod.kin J J' ne (O.first C pc) (O.first D pd) hm.at_ hm.fn (O.back C pc) hm'.at_ (O.back D pd) (O.sub C D pc pd ne) w
end
end Lw
namespace Lw
open PySem PySem.Spec PyProof.Rows L2

/-! ### try: body / except X as n: suite, the caught exception held behind the suite -/
/-- an exception's object: its class, its dict -/
def ExO (a : Addr) (cls : Value) (d : Option Addr) : HO := .ext fun h => ∃ o, h.get? a = some o ∧ Zc cls d o ∧ ∃ vs, o.data = .fields vs
section
variable {X : Cx} {pins : List (Addr × Obj)} {σ : L2.St} {H : Hp} {s : Shared}
/-- a pinned object is tracked from now on -/
theorem promote {a : Addr} {o : Obj} {cls : Value} {d : Option Addr} (I : Inv X ((a, o) :: pins) σ H s) (hz : Zc cls d o) (hf : ∃ vs, o.data = .fields vs) (new : X.s_0.heap.get? a = none) (apart : ∀ p ∈ X.pn ++ pins, p.1 ≠ a) : Inv X pins σ (upd H a (ExO a cls d)) s := by
  obtain ⟨ha, na, nL, nF, nC⟩ := I.pin (a, o) (List.mem_append_right _ List.mem_cons_self)
  have here : ∀ b, b ≠ a → upd H a (ExO a cls d) b = H b := fun b n => upd_ne n
  have known : ∀ b u, H b = some u → b ≠ a := fun b u e z => by rw [z, na] at e; cases e
  have old : ∀ b u, X.s_0.heap.get? b = some u → b ≠ a := fun b u e z => by rw [z, new] at e; cases e
  refine ⟨I.ok, I.os, I.bare, ⟨I.base.keep, I.base.slot, fun b u e n hx => ?_, I.base.there, fun b xs e => ?_, fun b u v e => ?_, fun b ps e => ?_⟩, I.loc, I.cell, ?_, fun y c e => ?_, fun p hp => ?_, fun b u e => ?_, I.len⟩
  · rw [here b (old b u e)]
    exact I.base.free b u e n hx
  · have z := I.base.tups b xs e
    rw [here b (known b _ z)]
    exact z
  · have z := I.base.frzs b u v e
    rw [here b (known b _ z)]
    exact z
  · obtain ⟨more, z⟩ := I.base.tbls b ps e
    exact ⟨more, by rw [here b (known b _ z)]; exact z⟩
  · rw [here _ nL.symm]
    exact I.free
  · have ne : c ≠ a := fun z => by
      obtain ⟨v, oc, hoc, hdc⟩ := I.cell y c e
      rw [z, ha] at hoc
      cases hoc
      exact nC v hdc
    rw [here c ne]
    exact I.freeC y c e
  · have hp2 : p ∈ X.pn ++ ((a, o) :: pins) := by
      rcases List.mem_append.mp hp with h | h
      · exact List.mem_append_left _ h
      · exact List.mem_append_right _ (List.mem_cons_of_mem _ h)
    obtain ⟨e1, e2, e3⟩ := I.pin p hp2
    exact ⟨e1, by rw [here _ (apart p hp)]; exact e2, e3⟩
  · by_cases q : b = a
    · subst q
      rw [upd_same] at e
      cases e
      refine ⟨⟨o, ha, hz, hf⟩, ⟨o, ha⟩, ?_⟩
      rintro h1 h2 ⟨u, e1, e2⟩ st
      exact ⟨u, st u e1, e2⟩
    · rw [here b q] at e
      exact (I.hok b u e).stay (fun _ _ _ z => z) (fun c z => by rw [here c (known c _ z)]; exact z) fun c xs z => by rw [here c (known c _ z)]; exact z
end
end Lw
namespace Lw
open PySem PySem.Spec PyProof.Rows L2

/-- what the body's exceptions must be: of the class that is named; the suite ends plainly, and the exception stays known behind it -/
def wHeld (K : PySem.W.Frag) (c : Value) (i n : Nat) (ts : Addr → Value → Option Addr → TS) (D : Ends) : WX := fun cls d σ H => σ.length = n →
  PySem.W.exmOne K cls c = some true ∧ ∀ a, H a = none → ts a cls d { nx := fun σ' H' => H' a = none → D.nx (σ'.set i none) (upd H' a (ExO a cls d)), rt := fun _ _ => False, bk := fun _ _ => False, ct := fun _ _ => False } (σ.set i (some (.ref a))) H
section
variable {X : Cx} {x n : Str} {c : Value} {i : Nat} {body suite : List Stmt} {b₀ : Stmt} {np pos pos' : Pos} {tb : WX → TS} {ts : Addr → Value → Option Addr → TS}
theorem ps_try_held (stk : X.stack = X.env :: X.outer) (frm : X.env.frame = some X.env.locals) (hN : X.N.Nodup) (hi : X.N[i]? = some n) (loc : X.env.kindOf n = some .local) (nm : Names X x c) (noex : X.ex = [])
    (hb : ∀ (W : WX) (pn : List (Addr × Obj)) (xe : Value → Shared → Prop), Takes (X.tr pn xe) W → PassesOwn (model X.prog X.w) X.A X.env xe → PSs (X.tr pn xe) body (tb W))
    (hsu : ∀ (a : Addr) (oe : Obj) (cls : Value) (d : Option Addr) (pn : List (Addr × Obj)), Zc cls d oe → (∃ vs, oe.data = .fields vs) → PSs (X.suite a ((a, oe) :: pn)) (b₀ :: suite) (ts a cls d)) :
    PS X (.Try body [.ExceptHandler (some (.Name x np)) (some n) (b₀ :: suite) pos'] [] [] pos) (fun D σ H => tb (wHeld X.K c i X.N.length ts D) D σ H) := by
  refine ⟨fun pins s σ H D I h => ?_⟩
  have ok := I.ok
  have frames : X.A.frames = some (X.env :: X.outer) := by rw [ok.frames, stk]
  refine wpAny_Try_except ?_
  refine wpAny_mono ((hb (wHeld X.K c i X.N.length ts D) (X.pn ++ pins) (fun e s₁ => wpAny (model X.prog X.w) X.A (noteFrame e X.env) (fun _ s₂ => wpAny (model X.prog X.w) X.A (setFlight e none) (fun _ s₃ =>
    wpAny (model X.prog X.w) X.A (handleBy e X.env [.ExceptHandler (some (.Name x np)) (some n) (b₀ :: suite) pos']) (SP X pins D) X.xe s₃) X.xe s₂) X.xe s₁) (fun u s' air => ?_) PassesOwn.looking).run [] s σ H D (I.toTry _) h) (fun f s1 q => ?_) (fun e s1 q => q)
  · obtain ⟨a, B, sI, pins', σ', H', cls, d, rfl, JT, nb, up, sky, na, os, ag, hw⟩ := air
    have J : Inv X pins σ' H' sI := JT.ofTry ok
    obtain ⟨ours, go⟩ := hw J.len
    rw [stk] at sky
    show wpAny (model X.prog X.w) X.A (noteFrame (.ref a) X.env) _ _ _
    refine Sky.land Zc.steady frames frm sky fun hA flA upA => ?_
    have JA : Inv X pins σ' H' { s' with heap := hA } := J.landed nb flA.1 (up.trans upA) os ag
    obtain ⟨oA, vsA, eA, zA, dA⟩ := flA.there
    -- the exception's object is no frame, and it is new
    have noFrame : a ∉ frs (X.env :: X.outer) := fun hm => by
      obtain ⟨_, o', e', hnf⟩ := flA.2.2.1.mem hm
      rw [eA] at e'
      cases e'
      exact hnf _ dA
    have nL : a ≠ X.env.locals := fun z => noFrame (List.mem_filterMap.mpr ⟨X.env, List.mem_cons_self, by rw [frm, z]⟩)
    have nF : a ∉ X.fs := fun hm => by
      obtain ⟨e, he, q⟩ := List.mem_filterMap.mp hm
      exact noFrame (List.mem_filterMap.mpr ⟨e, List.mem_cons_of_mem _ he, q⟩)
    have nB : B.get? a = none := flA.2.1
    have ground : ∀ b o, sI.heap.get? b = some o → b ≠ a := fun b o e z => by
      rw [z] at e
      have k := nb a o e (by rw [stk]; exact noFrame)
      rw [nB] at k
      cases k
    have fresh : X.s_0.heap.get? a = none := by
      cases e : X.s_0.heap.get? a with
      | none => rfl
      | some o =>
        obtain ⟨o', e'⟩ := J.base.there a o e (by rw [noex]; simp)
        exact absurd rfl (ground a o' e')
    have apart : ∀ p ∈ X.pn ++ pins, p.1 ≠ a := fun p hp => ground p.1 p.2 (J.pin p hp).1
    refine wpAny_handleBy_cons (codeAny_handlers_test ?_) (by intro q; cases q)
    have LT : PySem.W.Looks (model X.prog X.w) hA (typeOf (.ref a)) cls := fun A Q E s k q => wpAny_typeOf_ref (k _ _ eA) (by rw [zA.1]; exact q)
    have LM := PySem.W.exm_one (M := model X.prog X.w) JA.kIn LT ours
    have SA := JA.suite eA dA na nL nF
    have look : ∀ {Q : Value → Shared → Prop} {E : Value → Shared → Prop}, Q c { s' with heap := hA } → wpAny (model X.prog X.w) (X.A.mark (some (.ref a))) (eval (.Name x np) X.env) Q E { s' with heap := hA } := fun {Q E} q => by
      rcases nm with ⟨g1, g2, g3 | ⟨g3, g4, g5⟩⟩
      · exact ld_glob (X := X.suite a ((a, oA) :: (X.pn ++ pins))) SA g1 g3 q g2
      · exact ld_blt (X := X.suite a ((a, oA) :: (X.pn ++ pins))) SA g1 g3 g4 q g5 g2
    refine look (LM.here ?_)
    refine codeAny_handlers_suite_as ?_
    refine HandSPX.lands_againZ flA fun hB flB upB => ?_
    have JB : Inv X pins σ' H' { s' with heap := hB } := J.landed nb flB.1 ((up.trans upA).trans upB) os ag
    obtain ⟨oB, vsB, eB, zB, dB⟩ := flB.there
    refine store_ok (X := X.suite a ((a, oB) :: (X.pn ++ pins))) (v := .ref a) (JB.suite eB dB na nL nF) hN hi (.inl loc) rfl (fun s5 S5 => ?_) (.inr loc)
    refine wpAny_mono ((hsu a oB cls d (X.pn ++ pins) zB ⟨_, dB⟩).run [] s5 _ H' _ S5 (go a na)) (fun f s6 q => ?_) (fun _ _ z => False.elim z)
    cases f with
    | next =>
      obtain ⟨σ6, H6, S6, q6⟩ := q
      have held : Inv X ((a, oB) :: pins) σ6 H6 s6 := ⟨ok, S6.os, S6.bare, S6.base, S6.loc, S6.cell, S6.free, S6.freeC, fun p hp => by
        refine S6.pin p (List.mem_append_left _ ?_)
        show p ∈ (a, oB) :: (X.pn ++ pins)
        rcases List.mem_append.mp hp with h | h
        · exact List.mem_cons_of_mem _ (List.mem_append_left _ h)
        · rcases List.mem_cons.mp h with h | h
          · rw [h]; exact List.mem_cons_self
          · exact List.mem_cons_of_mem _ (List.mem_append_right _ h), S6.hok, S6.len⟩
      refine gone_ok held hN hi loc fun s7 I7 => ?_
      exact ⟨_, _, promote I7 zB ⟨_, dB⟩ fresh apart, q6 (I7.pin (a, oB) (List.mem_append_right _ List.mem_cons_self)).2.1⟩
    | brk =>
      obtain ⟨_, _, _, z⟩ := q
      exact z.elim
    | cont =>
      obtain ⟨_, _, _, z⟩ := q
      exact z.elim
    | ret u =>
      obtain ⟨_, _, _, _, _, z⟩ := q
      exact z.elim
  · cases f with
    | next =>
      obtain ⟨σ1, H1, I1, q1⟩ := q
      exact wpAny_execs_nil ⟨σ1, H1, I1.ofTry ok, q1⟩
    | brk =>
      obtain ⟨σ1, H1, I1, q1⟩ := q
      exact ⟨σ1, H1, I1.ofTry ok, q1⟩
    | cont =>
      obtain ⟨σ1, H1, I1, q1⟩ := q
      exact ⟨σ1, H1, I1.ofTry ok, q1⟩
    | ret u =>
      obtain ⟨v1, σ1, H1, I1, r1, q1⟩ := q
      exact ⟨v1, σ1, H1, I1.ofTry ok, r1, q1⟩
end
end Lw
namespace Lw
open PySem PySem.Spec PyProof.Rows L2

section
variable {X : Cx} {pins : List (Addr × Obj)} {σ : L2.St} {H : Hp} {s : Shared}
theorem held_at {a : Addr} {cls : Value} {d : Option Addr} (I : Inv X pins σ H s) (h : H a = some (ExO a cls d)) : ∃ o vs, s.heap.get? a = some o ∧ o.cls = cls ∧ o.dict = d ∧ o.data = .fields vs := by
  obtain ⟨⟨o, h1, h2, vs, h3⟩, _⟩ := (show ObjOk X.prog X.w H s.heap a (ExO a cls d) from I.hok a _ h)
  exact ⟨o, vs, h1, h2.1, h2.2, h3⟩
/-- the exception as an instance, its attributes known -/
theorem held_inst {a C dd : Addr} {fs : List (Str × V)} (I : Inv X pins σ H s) (h : H a = some (ExO a (.ref C) (some dd))) (hd : H dd = some (.xd fs)) : ∃ o od, PySem.W.InstAt s.heap a o C (some od) ∧ ∀ f v, fs.lookup f = some v → ∃ u, PySem.W.lookIn f od = some (some u) ∧ RelV v u := by
  obtain ⟨o, vs, h1, h2, h3, h4⟩ := held_at I h
  obtain ⟨mA, hns, hr⟩ := (show ObjOk X.prog X.w H s.heap dd (.xd fs) from I.hok dd _ hd)
  obtain ⟨od, ho, hl⟩ := lookIn_ns hns
  refine ⟨o, od, ⟨h1, h2, by unfold PySem.W.notCls; rw [h4] <;> rfl, by rw [h3]; exact ho⟩, fun f v e => ?_⟩
  obtain ⟨u, hu, ru⟩ := RelO.some_of (v := v) (o := mA f) (by rw [← e]; exact hr f)
  exact ⟨u, by rw [hl, hu], ru⟩
/-- e.f of an exception that is held -/
def tHeld (C : Addr) (f : Str) (te : TE) : TE := fun σ H Q => te σ H fun x H1 => ∃ (a dd : Addr) (fs : List (Str × V)) (v : V), x = .ref a ∧ H1 a = some (ExO a (.ref C) (some dd)) ∧ H1 dd = some (.xd fs) ∧ fs.lookup f = some v ∧ Q v H1
theorem pe_held {C : Addr} {e : Expr} {te : TE} {pos : Pos} {f : Str} (T : XfC X.K C) (hno : PySem.W.findIn X.K (.ref C) f = some none) (he : PE X e te) (hb : attributeBase e f X.env (eval e X.env) = eval e X.env := by rfl) : PE X (.Attribute e f pos) (tHeld C f te) := by
  refine ⟨fun pins s σ H Q I q => attr_of hb (thn (he.run pins s σ H _ I q) fun u s1 got => ?_)⟩
  obtain ⟨x, H1, I1, rx, a, dd, fs, v, rfl, ha, hd, hl, q⟩ := got
  obtain rfl : u = Value.ref a := rx
  obtain ⟨o, od, J, fld⟩ := held_inst I1 ha hd
  obtain ⟨u, hu, ru⟩ := fld f v hl
  exact HandSPX.exc_get I1.kIn J T.ga T.gg T.exC (PySem.W.findObj_own T.hdC hno rfl hu) (handed_of ru) ⟨v, H1, I1.tok _, ru, q⟩
end
end Lw
namespace Lw.Hx
open PySem PySem.Spec PySem.Calls PyProof.Rows PySem.W

/-! ### isinstance of an exception that has attributes -/
/-- what isinstance asks of the exception's class -/
structure XCls (K : Frag) (D : Addr) : Prop where
  ga : findIn K (.ref D) "__getattribute__" = some (some (.builtin "BaseException.__getattribute__"))
  gt : findIn K (.ref D) "__getattr__" = some none
  sub : subIn K (.ref D) (.type "BaseException") = some true
  dct : hasDictIn K D = true
  ca : findIn K (.ref D) "__class__" = some (some (.builtin "object.__class__"))
  cn : specialIn K (.builtin "object.__class__") "__get__" = some (some (.builtin "getset_descriptor.__get__"))
  ct : takesIn K (.builtin "object.__class__") = some true
  cm : mroIn K D (.type "object") = some true
section
variable {prog : Program} {w : World} {A : Around} {E : Value → Shared → Prop} {s : Shared} {K : Frag} {x D : Addr} {ox : Obj} {od : Option Obj}
theorem finds (c : XCls K D) : findObj K D od "__class__" = some (.bind (.builtin "getset_descriptor.__get__") (.builtin "object.__class__")) := by
  obtain ⟨cd, hc, _⟩ := any_some c.dct
  unfold findObj
  rw [hc, Option.bind_some, c.ca, Option.bind_some]
  simp only [c.cn, c.ct, Option.bind_some]
theorem class_of (c : XCls K D) {Q : Option Value → Shared → Prop} (X : K.In s.heap) (I : InstAt s.heap x ox D od) (h : Q (some (.ref D)) { s with toks := s.toks + 1 }) : wpAny (model prog w) A (getAttr? (.ref x) "__class__") Q E s := by
  have found := finds (od := od) c
  obtain ⟨hp, gs, dr, tk, os⟩ := s
  have kind := I.type (M := model prog w)
  have asks := looks_findIn (M := model prog w) X c.ga
  have more := looks_findIn (M := model prog w) X c.gt
  have seen := looks_find (M := model prog w) X I found
  have under : Looks (model prog w) hp (isInstance (.ref x) (.type "BaseException")) true := kind.andThen (looks_subIn X c.sub)
  have n2 : (Value.builtin "BaseException.__getattribute__" == Value.builtin "object.__getattribute__") = false := by decide +kernel
  have n1 : (onTheHeap (Value.ref D) && Value.builtin "BaseException.__getattribute__" == Value.builtin "object.__getattribute__") = false := by rw [n2]; rfl
  unfold getAttr? getAttrBy? getAttrBy
  refine wpAny_bind (wpAny_mkText (wpAny_bind (wpAny_attempt (wpAny_holding (wpAny_bind (kind.at (wpAny_bind (asks.at ?_))))))))
  show wpAny _ _ (ite ((onTheHeap (Value.ref D) && Value.builtin "BaseException.__getattribute__" == Value.builtin "object.__getattribute__") = true) _ _) _ _ _
  rw [n1, if_neg (by decide)]
  unfold getAttrByItsOwn hookBefore
  refine wpAny_bind ?_
  rw [if_pos (show onTheHeap (.ref D) = true from rfl)]
  refine more.at (wpAny_bind (wpAny_attempt (wpAny_holding ?_)))
  unfold callGetattribute
  rw [if_neg (show ¬ (false && onTheHeap (Value.builtin "BaseException.__getattribute__")) = true from by decide)]
  unfold boundAndCalled
  rw [PySem.F.excAttr_ValueError.ga.bind (.ref x)]
  refine wpAny_bind (wpAny_pure ?_)
  show wpAny _ _ (call (.builtin "BaseException.__getattribute__") [.ref x, .str "__class__" tk]) _ _ _
  refine wpAny_call (codeAny_call_builtin PySem.F.excAttr_ValueError.ga.plain PySem.F.entry_bexc_ga ?_)
  refine @check_slot (model prog w) _ _ ⟨hp, gs, dr, tk + 1, os⟩ "BaseException.__getattribute__" "BaseException" "__getattribute__" (.ref x) [.str "__class__" tk] [] _ (by decide +kernel) (by decide +kernel) under (PySem.F.args_bexc_ga (.ref x) (.str "__class__" tk)) ?_
  unfold Builtin.«object.__getattribute__»
  refine wpAny_bind (wpAny_of_eq (a := ((Value.ref x : Value), [Value.str "__class__" tk])) (by first | rfl | (simp only [slotArgs] <;> rfl)) ?_)
  refine wpAny_bind (wpAny_pure (wpAny_bind (kind.at (wpAny_bind (seen.at ?_)))))
  show wpAny _ _ (holding [Value.builtin "object.__class__"] (call (.builtin "getset_descriptor.__get__") [.builtin "object.__class__", .ref x, .ref D]) >>= ret) _ _ _
  refine wpAny_bind (wpAny_holding (wpAny_call (class_get (s := ⟨hp, gs, dr, tk + 1, os⟩) X I c.cm ?_)))
  refine wpAny_pure ?_
  show wpAny _ _ (handedOut (.ref D)) _ _ _
  rw [handedOut_of (v := .ref D) rfl]
  first
    | exact wpAny_pure (wpAny_pure h)
    | exact wpAny_pure h
    | exact wpAny_pure (wpAny_bind (wpAny_pure (wpAny_pure h)))
theorem no_list (c : XCls K D) : ∃ o cd, K.lookup D = some o ∧ o.data = .cls cd := by
  obtain ⟨cd, hc, _⟩ := any_some c.dct
  unfold clsIn at hc
  split at hc
  · rename_i c' d' cd' sl' ho
    exact ⟨_, _, ho, rfl⟩
  · cases hc
theorem kitx_held (c : XCls K D) : KitX K (.ref x) (.ref D) (fun h => InstAt h x ox D od) where
  ty := fun _ _ _ I => I.type
  it := fun _ _ X _ => by
    obtain ⟨o, cd, ho, hd⟩ := no_list c
    intro A' Q' E' s' k q
    unfold isType loadHead
    refine wpAny_bind (wpAny_loadPart (k _ _ (X _ _ ho)) ?_)
    rw [hd]
    exact wpAny_pure q
  ne := fun h tp dd its n sl X htp => by
    refine Bool.eq_false_iff.mpr fun q => ?_
    have e : D = tp := Value.ref.inj (beq_iff_eq.mp q)
    obtain ⟨o, cd, ho, hd⟩ := no_list c
    have z := X _ _ ho
    rw [e, htp] at z
    cases z
    cases hd
  ca := fun X I k => class_of c X I k
end
end Lw.Hx
namespace Lw
open PySem PySem.Spec PyProof.Rows L2

/-- a value's kind: an exception's that is held, too -/
inductive TyW (K : PySem.W.Frag) (H : Hp) : V → Value → Prop where
  | z {v : V} {t : Value} (h : TyZ K H v t) : TyW K H v t
  | held {a D dd : Addr} {fs : List (Str × V)} (e : H a = some (ExO a (.ref D) (some dd))) (hd : H dd = some (.xd fs)) (c : Hx.XCls K D) : TyW K H (.ref a) (.ref D)
def rIsw (K : PySem.W.Frag) : List V → Hp → VK → Prop := fun xs H Q => ∃ (x c : V) (t u : Value) (b : Bool), xs = [x, c] ∧ ClsV c u ∧ TyW K H x t ∧ PySem.W.kitOne K t u = some b ∧ Q (.bl b) H
theorem call_isw {X : Cx} : CallR X (.builtin "isinstance") (rIsw X.K) := by
  intro pins s σ H xs us Q I r h
  obtain ⟨x, c, t, u, b, rfl, k, ty, e, q⟩ := h
  cases ty with
  | z ty => exact call_isz pins s σ H _ us Q I r ⟨x, c, t, u, b, rfl, k, ty, e, q⟩
  | @held a D dd fs ea hd cl =>
    obtain ⟨w1, w2, rfl, r1, r2⟩ := vals2 r
    obtain rfl := k.eq r2
    obtain rfl : w1 = Value.ref a := r1
    obtain ⟨o, od, J, _⟩ := held_inst I ea hd
    exact PySem.W.kia_one (Hx.kitx_held cl) I.kIn J e (fun z => by cases z) fun tk => ⟨.bl b, H, I.tok tk, rfl, q⟩
end Lw
namespace Lw
open PySem PySem.Spec PyProof.Rows L2
open LamX
/-! ### repr of any value of the drawn ones -/
theorem SqL.sames {K : PySem.W.Frag} {a : Addr} {H H' : Hp} {ys : List V} (s : Same H H') (h : SqL K H a ys) : SqL K H' a ys := by
  rcases h with (h | ⟨o, h⟩) | h
  · exact .inl (.inl (s _ _ h))
  · exact .inl (.inr ⟨o, s _ _ h⟩)
  · exact .inr h
theorem SqT.sames {K : PySem.W.Frag} {a : Addr} {H H' : Hp} {ys : List V} (s : Same H H') (h : SqT K H a ys) : SqT K H' a ys := by
  rcases h with (h | ⟨o, h⟩) | h
  · exact .inl (.inl (s _ _ h))
  · exact .inl (.inr ⟨o, s _ _ h⟩)
  · exact .inr h
mutual
theorem Dp.sames {K : PySem.W.Frag} {H H' : Hp} (s : Same H H') : ∀ {v : V} {d : PyData}, Dp K H v d → Dp K H' v d
  | _, _, .non => .non
  | _, _, .bl b => .bl b
  | _, _, .int i => .int i
  | _, _, .str x => .str x
  | _, _, .lst h hs => .lst (SqL.sames s h) (DpAll.sames s hs)
  | _, _, .tup h hs => .tup (SqT.sames s h) (DpAll.sames s hs)
theorem DpAll.sames {K : PySem.W.Frag} {H H' : Hp} (s : Same H H') : ∀ {vs : List V} {ds : List PyData}, DpAll K H vs ds → DpAll K H' vs ds
  | _, _, .nil => .nil
  | _, _, .cons h hs => .cons (Dp.sames s h) (DpAll.sames s hs)
end
inductive Rp (K : PySem.W.Frag) (H : Hp) : V → Str → Prop where
  | non : Rp K H .non "None"
  | bl (b : Bool) : Rp K H (.bl b) (if b then "True" else "False")
  | str (z : Str) (h : (reprText z).length ≤ sizeLine) : Rp K H (.str z) (reprText z)
  | int (i : Int) (h : i.natAbs.log2 < 1920) : Rp K H (.int i) (toString i)
  | data {a : Addr} {d : PyData} (h : Dp K H (.ref a) d) (h1 : d.showable = true) (h2 : d.hasDict = false) (h3 : d.depth ≤ 100) (h4 : d.shown.length ≤ sizeLine) : Rp K H (.ref a) d.shown
  | dnil {a : Addr} (h : H a = some (.dK [])) : Rp K H (.ref a) (PyData.dict []).shown
theorem Rp.same {K : PySem.W.Frag} {H H' : Hp} {v : V} {r : Str} (s : Same H H') (h : Rp K H v r) : Rp K H' v r := by
  cases h with
  | non => exact .non
  | bl b => exact .bl b
  | str z h => exact .str z h
  | int i h => exact .int i h
  | data h h1 h2 h3 h4 => exact .data (Lw.Dp.sames s h) h1 h2 h3 h4
  | dnil h => exact .dnil (s _ _ h)
def rRpx (K : PySem.W.Frag) : List V → Hp → VK → Prop := fun xs H Q => ∃ (v : V) (r : Str), xs = [v] ∧ Rp K H v r ∧ Q (.str r) H
section
variable {X : Cx}
theorem call_reprX (hG : X.A.guards = some []) (hr : Room 0 X.A) : CallR X (.builtin "repr") (rRpx X.K) := by
  intro pins s σ H xs us Q I r h
  obtain ⟨v, z, rfl, hv, q⟩ := h
  obtain ⟨u, rfl, ru⟩ := vals1 r
  have hun := hr.un
  cases hv with
  | non =>
    cases (show u = Value.none from ru)
    exact PySem.P.repr_of_none ⟨.str "None", H, I.tok _, ⟨_, rfl⟩, q⟩
  | int i h =>
    obtain ⟨t, rfl⟩ := (show ∃ t, u = Value.int i t from ru)
    exact PySem.P.repr_of_int h ⟨.str (toString i), H, I.tok _, ⟨_, rfl⟩, q⟩
  | bl b =>
    cases (show u = Value.bool b from ru)
    refine PySem.P.repr_of_bool ⟨.str (if b then "True" else "False"), H, I.tok _, ⟨_, rfl⟩, ?_⟩
    cases b <;> exact q
  | str z h =>
    obtain ⟨t, rfl⟩ := (show ∃ t, u = Value.str z t from ru)
    exact PySem.P.repr_of_str ⟨.str (reprText z), H, I.tok _, ⟨_, rfl⟩, q⟩ h
  | @data a d h h1 h2 h3 h4 =>
    cases (show u = Value.ref a from ru)
    obtain ⟨as, rd⟩ := Dp.reads I d _ _ h rfl
    exact repr_of_reads' rd h1 (fun z => by rw [h2] at z; cases z) hG (by omega) (fun _ _ e => e) (fun h' u' tk kp => ⟨.str d.shown, H, I.kept kp, ⟨u', rfl⟩, q⟩) h4
  | @dnil a h =>
    cases (show u = Value.ref a from ru)
    obtain ⟨_, hm, vs, kv, o, es, ep, ho, hx, hd, _, pr, _⟩ := dk_of I.hok h
    have e0 : vs = [] := by cases kv; rfl
    subst e0
    have e1 : es.toList = [] := by
      generalize es.toList = l at pr
      cases pr
      rfl
    have rd : Reads s.heap (.ref a) (.dict []) [a] := Reads.dict (as := []) (bs := []) ho hx.1 hd (by rw [e1]; exact .nil) (by rw [e1]; exact .nil)
    refine repr_of_reads' rd rfl (fun _ z => ?_) hG (by show _ + ((PyData.dict []).depth + 1) < cLine; have : (PyData.dict []).depth ≤ 1 := by decide
                                                        omega) (fun _ _ e => e) (fun h' u' tk kp => ⟨.str _, H, I.kept kp, ⟨u', rfl⟩, q⟩) (by decide)
    rw [List.mem_singleton] at z
    rw [← z] at hm
    simp at hm
end
end Lw
namespace Lw
open PySem PySem.Spec PyProof.Rows L2
open SX PySem.NumText TL LamX ClX StX
set_option pp.maxSteps 900
abbrev sCr : Stmt := top 38
abbrev sCh : Stmt := top 41
abbrev sMo : Stmt := top 40
abbrev sJo : Stmt := top 39
abbrev sFxw : Stmt := inClass (top 34) 2
abbrev sDvw : Stmt := inClass (top 35) 3
abbrev sLow : Stmt := inClass (top 36) 2
abbrev sHiw : Stmt := inClass (top 37) 2
abbrev sFxc : Stmt := inClass (top 34) 1
abbrev sDvc : Stmt := inClass (top 35) 2
abbrev sLoc : Stmt := inClass (top 36) 1
abbrev sHic : Stmt := inClass (top 37) 1
abbrev sLoi : Stmt := inClass (top 36) 0
abbrev sHii : Stmt := inClass (top 37) 0
/-- a rule, as a tree -/
inductive Rl where
  | fx (n : Int) | dv (x y w : Int) | lo (a b : Rl) | hi (a b : Rl)
namespace Rl
def cnt : Rl → Nat
  | .fx _ => 1 | .dv _ _ _ => 1 | .lo a b => a.cnt + b.cnt | .hi a b => a.cnt + b.cnt
def mdl : Rl → Nat
  | .fx _ => 1 | .dv _ _ w => w.toNat | .lo a b => Nat.lcm a.mdl b.mdl | .hi a b => Nat.lcm a.mdl b.mdl
def wish : Rl → Int → Int
  | .fx n, _ => n | .dv x y w, r => (x * r + y) / w
  | .lo a b, r => if a.wish r < b.wish r then a.wish r else b.wish r
  | .hi a b, r => if b.wish r < a.wish r then a.wish r else b.wish r
def lvs : Rl → List Rl
  | .fx n => [.fx n] | .dv x y w => [.dv x y w] | .lo a b => a.lvs ++ b.lvs | .hi a b => a.lvs ++ b.lvs
def Ok : Rl → Prop
  | .fx n => 1 ≤ n ∧ n ≤ 10 ^ 30 | .dv x y w => 0 ≤ x ∧ x ≤ 24 ∧ -1000 ≤ y ∧ y ≤ 1000 ∧ 1 ≤ w ∧ w ≤ 24
  | .lo a b => a.Ok ∧ b.Ok ∧ a.cnt + b.cnt ≤ 6 ∧ Nat.lcm a.mdl b.mdl ≤ 5000
  | .hi a b => a.Ok ∧ b.Ok ∧ a.cnt + b.cnt ≤ 6 ∧ Nat.lcm a.mdl b.mdl ≤ 5000
def cls (FC VC LC GC : Addr) : Rl → Addr
  | .fx _ => FC | .dv _ _ _ => VC | .lo _ _ => LC | .hi _ _ => GC
theorem cnt_pos : ∀ t : Rl, 1 ≤ t.cnt
  | .fx _ => Nat.le_refl _ | .dv _ _ _ => Nat.le_refl _
  | .lo a b => Nat.le_trans (cnt_pos a) (Nat.le_add_right _ _) | .hi a b => Nat.le_trans (cnt_pos a) (Nat.le_add_right _ _)
theorem lvs_len : ∀ t : Rl, t.lvs.length = t.cnt
  | .fx _ => rfl | .dv _ _ _ => rfl
  | .lo a b => by show (a.lvs ++ b.lvs).length = _; rw [List.length_append, lvs_len a, lvs_len b]; rfl
  | .hi a b => by show (a.lvs ++ b.lvs).length = _; rw [List.length_append, lvs_len a, lvs_len b]; rfl
theorem Ok.cnt6 : ∀ {t : Rl}, t.Ok → t.cnt ≤ 6
  | .fx _, _ => by show 1 ≤ 6; decide
  | .dv _ _ _, _ => by show 1 ≤ 6; decide
  | .lo _ _, h => h.2.2.1
  | .hi _ _, h => h.2.2.1
theorem Ok.mdl1 : ∀ {t : Rl}, t.Ok → 1 ≤ t.mdl ∧ t.mdl ≤ 5000
  | .fx _, _ => by show 1 ≤ 1 ∧ 1 ≤ 5000; decide
  | .dv _ _ w, h => by
    obtain ⟨_, _, _, _, h1, h2⟩ := h
    show 1 ≤ w.toNat ∧ w.toNat ≤ 5000
    omega
  | .lo _ _, h => ⟨Nat.lcm_pos (Ok.mdl1 h.1).1 (Ok.mdl1 h.2.1).1, h.2.2.2⟩
  | .hi _ _, h => ⟨Nat.lcm_pos (Ok.mdl1 h.1).1 (Ok.mdl1 h.2.1).1, h.2.2.2⟩
/-- a bound of what it wishes -/
theorem Ok.bd : ∀ {t : Rl} {r : Int}, t.Ok → 1 ≤ r → r ≤ 10 ^ 31 → -1000 ≤ t.wish r ∧ t.wish r ≤ 10 ^ 33
  | .fx n, r, h, _, _ => by
    obtain ⟨h1, h2⟩ := h
    show -1000 ≤ n ∧ n ≤ 10 ^ 33
    omega
  | .dv x y w, r, h, r1, r2 => by
    obtain ⟨x0, x1, y0, y1, w0, w1⟩ := h
    show -1000 ≤ (x * r + y) / w ∧ (x * r + y) / w ≤ 10 ^ 33
    have p0 : 0 ≤ x * r := Int.mul_nonneg x0 (by omega)
    have p1 : x * r ≤ 24 * r := Int.mul_le_mul_of_nonneg_right x1 (by omega)
    constructor
    · exact (Int.le_ediv_iff_mul_le (by omega)).mpr (Int.le_trans (Int.mul_le_mul_of_nonpos_left (by decide : (-1000 : Int) ≤ 0) w0 : -1000 * w ≤ -1000 * 1) (by omega))
    · refine Int.ediv_le_of_le_mul (by omega) (Int.le_trans ?_ (Int.mul_le_mul_of_nonneg_left w0 (by decide) : (10 : Int) ^ 33 * 1 ≤ 10 ^ 33 * w))
      omega
  | .lo a b, r, h, r1, r2 => by
    obtain ⟨a0, a1⟩ := Ok.bd h.1 r1 r2
    obtain ⟨b0, b1⟩ := Ok.bd h.2.1 r1 r2
    show -1000 ≤ (if a.wish r < b.wish r then a.wish r else b.wish r) ∧ (if a.wish r < b.wish r then a.wish r else b.wish r) ≤ 10 ^ 33
    split <;> exact ⟨by assumption, by assumption⟩
  | .hi a b, r, h, r1, r2 => by
    obtain ⟨a0, a1⟩ := Ok.bd h.1 r1 r2
    obtain ⟨b0, b1⟩ := Ok.bd h.2.1 r1 r2
    show -1000 ≤ (if b.wish r < a.wish r then a.wish r else b.wish r) ∧ (if b.wish r < a.wish r then a.wish r else b.wish r) ≤ 10 ^ 33
    split <;> exact ⟨by assumption, by assumption⟩
end Rl
def jnP (u v : V) (m : Int) (p : Addr) : List (Str × V) := putF "modulus" (.int m) (putF "parts" (.ref p) (putF "other" v (putF "one" u [])))
theorem jnP_one (u v : V) (m : Int) (p : Addr) : (jnP u v m p).lookup ("one" : Str) = some u := by
  unfold jnP
  rw [lookup_putF, if_neg (by decide +kernel), lookup_putF, if_neg (by decide +kernel), lookup_putF, if_neg (by decide +kernel), lookup_putF, if_pos rfl]
theorem jnP_other (u v : V) (m : Int) (p : Addr) : (jnP u v m p).lookup ("other" : Str) = some v := by
  unfold jnP
  rw [lookup_putF, if_neg (by decide +kernel), lookup_putF, if_neg (by decide +kernel), lookup_putF, if_pos rfl]
theorem jnP_parts (u v : V) (m : Int) (p : Addr) : (jnP u v m p).lookup ("parts" : Str) = some (.ref p) := by
  unfold jnP
  rw [lookup_putF, if_neg (by decide +kernel), lookup_putF, if_pos rfl]
theorem jnP_mod (u v : V) (m : Int) (p : Addr) : (jnP u v m p).lookup ("modulus" : Str) = some (.int m) := by
  unfold jnP
  rw [lookup_putF, if_pos rfl]
theorem jnP_no {n : Str} (u v : V) (m : Int) (p : Addr) (h1 : n ≠ "one") (h2 : n ≠ "other") (h3 : n ≠ "parts") (h4 : n ≠ "modulus") : (jnP u v m p).lookup n = none := by
  unfold jnP
  rw [lookup_putF, if_neg h4, lookup_putF, if_neg h3, lookup_putF, if_neg h2, lookup_putF, if_neg h1]; rfl
theorem fxP_no {m : Str} (n : Int) (p : Addr) (h1 : m ≠ "size") (h2 : m ≠ "parts") (h3 : m ≠ "modulus") : (fxP n p).lookup m = none := by
  unfold fxP
  rw [lookup_putF, if_neg h3, lookup_putF, if_neg h2, lookup_putF, if_neg h1]; rfl
theorem dvP_no {m : Str} (x y w : Int) (p : Addr) (h1 : m ≠ "x") (h2 : m ≠ "y") (h3 : m ≠ "w") (h4 : m ≠ "parts") (h5 : m ≠ "modulus") : (dvP x y w p).lookup m = none := by
  unfold dvP
  rw [lookup_putF, if_neg h5, lookup_putF, if_neg h4, lookup_putF, if_neg h3, lookup_putF, if_neg h2, lookup_putF, if_neg h1]; rfl
section
variable (FC VC LC GC : Addr)
def LfAt (H : Hp) (a : Addr) : Rl → Prop
  | .fx n => FxAt FC H a n | .dv x y w => DvAt VC H a x y w | _ => False
def PsAt (H : Hp) : List V → List Rl → Prop
  | [], [] => True
  | v :: vs, l :: ls => (∃ a, v = .ref a ∧ LfAt FC VC H a l) ∧ PsAt H vs ls
  | _, _ => False
/-- a rule in the heap -/
def RlAt (H : Hp) : Rl → Addr → Prop
  | .fx n, a => FxAt FC H a n
  | .dv x y w, a => DvAt VC H a x y w
  | .lo s t, a => ∃ dx p b c ps, H a = some (.ins LC dx (jnP (.ref b) (.ref c) (Nat.lcm s.mdl t.mdl) p)) ∧ H p = some (.tup ps) ∧ PsAt FC VC H ps (s.lvs ++ t.lvs) ∧ RlAt H s b ∧ RlAt H t c
  | .hi s t, a => ∃ dx p b c ps, H a = some (.ins GC dx (jnP (.ref b) (.ref c) (Nat.lcm s.mdl t.mdl) p)) ∧ H p = some (.tup ps) ∧ PsAt FC VC H ps (s.lvs ++ t.lvs) ∧ RlAt H s b ∧ RlAt H t c
def Rk (C : Addr) : Prop := C = FC ∨ C = VC ∨ C = LC ∨ C = GC
end
section
variable {FC VC LC GC : Addr} {H H' : Hp}
theorem LfAt.on {a : Addr} : ∀ {l : Rl}, LfAt FC VC H a l → Same H H' → LfAt FC VC H' a l
  | .fx _, h, s => FxAt.on h s
  | .dv _ _ _, h, s => DvAt.on h s
  | .lo _ _, h, _ => h
  | .hi _ _, h, _ => h
theorem PsAt.on (s : Same H H') : ∀ {vs : List V} {ls : List Rl}, PsAt FC VC H vs ls → PsAt FC VC H' vs ls
  | [], [], _ => trivial
  | _ :: _, _ :: _, ⟨⟨a, e, h⟩, r⟩ => ⟨⟨a, e, h.on s⟩, PsAt.on s r⟩
  | [], _ :: _, h => h
  | _ :: _, [], h => h
theorem PsAt.len : ∀ {vs : List V} {ls : List Rl}, PsAt FC VC H vs ls → vs.length = ls.length
  | [], [], _ => rfl
  | _ :: _, _ :: _, ⟨_, r⟩ => congrArg (· + 1) (PsAt.len r)
  | [], _ :: _, h => h.elim
  | _ :: _, [], h => h.elim
theorem PsAt.app : ∀ {vs us : List V} {ls ms : List Rl}, PsAt FC VC H vs ls → PsAt FC VC H us ms → PsAt FC VC H (vs ++ us) (ls ++ ms)
  | [], _, [], _, _, h => h
  | _ :: _, _, _ :: _, _, ⟨e, r⟩, h => ⟨e, PsAt.app r h⟩
  | [], _, _ :: _, _, h, _ => h.elim
  | _ :: _, _, [], _, h, _ => h.elim
theorem RlAt.on (s : Same H H') : ∀ {t : Rl} {a : Addr}, RlAt FC VC LC GC H t a → RlAt FC VC LC GC H' t a
  | .fx _, _, h => FxAt.on h s
  | .dv _ _ _, _, h => DvAt.on h s
  | .lo _ _, _, ⟨dx, p, b, c, ps, h1, h2, h3, h4, h5⟩ => ⟨dx, p, b, c, ps, s _ _ h1, s _ _ h2, h3.on s, RlAt.on s h4, RlAt.on s h5⟩
  | .hi _ _, _, ⟨dx, p, b, c, ps, h1, h2, h3, h4, h5⟩ => ⟨dx, p, b, c, ps, s _ _ h1, s _ _ h2, h3.on s, RlAt.on s h4, RlAt.on s h5⟩
theorem Rk.of (t : Rl) : Rk FC VC LC GC (t.cls FC VC LC GC) := by
  cases t
  · exact .inl rfl
  · exact .inr (.inl rfl)
  · exact .inr (.inr (.inl rfl))
  · exact .inr (.inr (.inr rfl))
/-- names that no rule keeps anything by -/
def NoF (m : Str) : Prop := m ≠ "one" ∧ m ≠ "other" ∧ m ≠ "parts" ∧ m ≠ "modulus" ∧ m ≠ "size" ∧ m ≠ "x" ∧ m ≠ "y" ∧ m ≠ "w"
/-- what every rule has -/
theorem RlAt.has : ∀ {t : Rl} {a : Addr}, t.Ok → RlAt FC VC LC GC H t a → ∃ dx fs p ps, H a = some (.ins (t.cls FC VC LC GC) dx fs) ∧ fs.lookup ("parts" : Str) = some (.ref p) ∧ H p = some (.tup ps) ∧ PsAt FC VC H ps t.lvs ∧ fs.lookup ("modulus" : Str) = some (.int t.mdl) ∧ ∀ m, NoF m → fs.lookup m = none
  | .fx n, a, _, h => by
    obtain ⟨dx, p, h1, h2⟩ := id h
    exact ⟨dx, _, p, _, h1, fxP_parts _ _, h2, ⟨⟨a, rfl, h⟩, trivial⟩, fxP_mod _ _, fun m ⟨_, _, n3, n4, n5, _⟩ => fxP_no _ _ n5 n3 n4⟩
  | .dv x y w, a, k, h => by
    obtain ⟨dx, p, h1, h2⟩ := id h
    refine ⟨dx, _, p, _, h1, dvP_parts _ _ _ _, h2, ⟨⟨a, rfl, h⟩, trivial⟩, ?_, fun m ⟨_, _, n3, n4, _, n6, n7, n8⟩ => dvP_no _ _ _ _ n6 n7 n8 n3 n4⟩
    rw [dvP_mod, show (((Rl.dv x y w).mdl : Nat) : Int) = w from Int.toNat_of_nonneg (by obtain ⟨_, _, _, _, h1, _⟩ := k; omega)]
  | .lo s t, a, _, h => by
    obtain ⟨dx, p, b, c, ps, h1, h2, h3, _⟩ := h
    exact ⟨dx, _, p, ps, h1, jnP_parts _ _ _ _, h2, h3, jnP_mod _ _ _ _, fun m ⟨n1, n2, n3, n4, _⟩ => jnP_no _ _ _ _ n1 n2 n3 n4⟩
  | .hi s t, a, _, h => by
    obtain ⟨dx, p, b, c, ps, h1, h2, h3, _⟩ := h
    exact ⟨dx, _, p, ps, h1, jnP_parts _ _ _ _, h2, h3, jnP_mod _ _ _ _, fun m ⟨n1, n2, n3, n4, _⟩ => jnP_no _ _ _ _ n1 n2 n3 n4⟩
end
/-- lcm(a, b) -/
def rLcm : List V → Hp → VK → Prop := fun vs H Q => ∃ a b : Int, vs = [.int a, .int b] ∧ a.natAbs < 2 ^ 64 ∧ b.natAbs < 2 ^ 64 ∧ Q (.int ((a.natAbs.lcm b.natAbs : Nat) : Int)) H
theorem cr_lcm {X : Cx} : CallR X (.builtin "math.lcm") rLcm := by
  intro pins s σ H vs us Q I r h
  obtain ⟨a, b, rfl, ha, hb, q⟩ := h
  obtain ⟨t, u, rfl⟩ := Vals.int2 r
  exact PySem.W.mc_lcm ha hb fun _ => ⟨.int _, H, I.tok _, ⟨_, rfl⟩, q⟩
/-- a def of the module that may raise -/
structure CalX (P : Program) (w : World) (K : PySem.W.Frag) (mg : Str → Option Value) (base : Heap) (k : Nat) (x : Str) (sp : Sp) : Prop where
  ex : ∃ (f : Addr) (fd : FuncData) (ps : List Str), FnOk P w K mg base (L2.CX P w) k f fd ps sp ∧ mg x = some (.ref f) ∧ PySem.W.keepIn K (.ref f) = true ∧ Binds K fd ps []
section
variable {X : Cx} {x : Str} {k j : Nat} {sp : Sp} {E : XK} {p pos : Pos} {e : Expr} {es : List Expr} {t : TA}
theorem pe_cX (c : CalX X.prog X.w X.K X.mg X.base k x sp) (hr : Room j X.A) (hk : k ≤ j) (hg : Gl X x) (hx : Passes (L2.CX X.prog X.w) X E) (ha : PA X (e :: es) t)
    (hdb : (x == ("__debug__" : Str)) = false := by decide) (he : starEach (e :: es) X.env = (false, eval e X.env) :: starEach es X.env := by rfl) (hpl : (backTo pos (starEach es X.env)).any (·.1) = false := by rfl) :
    PE X (.Call (.Name x p) (e :: es) [] pos) (tCall sp [] E t) := by
  obtain ⟨f, fd, ps, F, hm, kp, b⟩ := c.ex
  exact pe_call F (hr.mono hk) hg hm kp b .nil hx ha hdb he hpl
end
end Lw
namespace Lw
open PySem PySem.Spec PyProof.Rows L2
open SX PySem.NumText TL LamX ClX StX
set_option pp.maxSteps 900
structure JnC (K : PySem.W.Frag) (C : Addr) : Prop where
  cl : Cls K C
  n1 : NoAttr K C "one"
  n2 : NoAttr K C "other"
  n3 : NoAttr K C "parts"
  n4 : NoAttr K C "modulus"
/-- the four classes of rules -/
structure RlZ (K : PySem.W.Frag) (mg : Str → Option Value) (FC VC LC GC : Addr) : Prop where
  F : FxC K FC
  V : DvC K VC
  L : JnC K LC
  G : JnC K GC
  hF : mg "Fixed" = some (.ref FC)
  hV : mg "Divided" = some (.ref VC)
  hL : mg "Lesser" = some (.ref LC)
  hG : mg "Greater" = some (.ref GC)
  d1 : FC ≠ VC
  d2 : FC ≠ LC
  d3 : FC ≠ GC
  d4 : VC ≠ LC
  d5 : VC ≠ GC
  d6 : LC ≠ GC
  ins : ∀ C, Rk FC VC LC GC C → C8.InsC K C
  kit : ∀ C D, Rk FC VC LC GC C → Rk FC VC LC GC D → PySem.W.kitOne K (.ref C) (.ref D) = some (decide (C = D))
theorem RlZ.cls {K : PySem.W.Frag} {mg : Str → Option Value} {FC VC LC GC : Addr} (Z : RlZ K mg FC VC LC GC) : ∀ C, Rk FC VC LC GC C → Cls K C := fun C h => (Z.ins C h).cl
theorem RlZ.parts {K : PySem.W.Frag} {mg : Str → Option Value} {FC VC LC GC : Addr} (Z : RlZ K mg FC VC LC GC) : ∀ t : Rl, NoAttr K (t.cls FC VC LC GC) "parts" ∧ NoAttr K (t.cls FC VC LC GC) "modulus"
  | .fx _ => ⟨Z.F.n2, Z.F.n3⟩ | .dv _ _ _ => ⟨Z.V.n4, Z.V.n5⟩ | .lo _ _ => ⟨Z.L.n3, Z.L.n4⟩ | .hi _ _ => ⟨Z.G.n3, Z.G.n4⟩
/-- one of the four: isinstance says so -/
theorem RlZ.any {K : PySem.W.Frag} {mg : Str → Option Value} {FC VC LC GC : Addr} (Z : RlZ K mg FC VC LC GC) : ∀ t : Rl, PySem.W.kitAny K (.ref (t.cls FC VC LC GC)) [.ref FC, .ref VC, .ref LC, .ref GC] = some true := fun t => by
  have k : ∀ u v : Rl, PySem.W.kitOne K (.ref (u.cls FC VC LC GC)) (.ref (v.cls FC VC LC GC)) = some (decide (u.cls FC VC LC GC = v.cls FC VC LC GC)) := fun u v => Z.kit _ _ (Rk.of u) (Rk.of v)
  have kF := k t (.fx 0)
  have kV := k t (.dv 0 0 0)
  have kL := k t (.lo (.fx 0) (.fx 0))
  have kG := k t (.hi (.fx 0) (.fx 0))
  cases t with
  | fx n => exact L2.kitAny_cons kF (fun e => absurd e (by simp [Rl.cls])) (fun _ => rfl)
  | dv x y w => exact L2.kitAny_cons kF (fun _ => L2.kitAny_cons kV (fun e => absurd e (by simp [Rl.cls])) (fun _ => rfl)) (fun _ => rfl)
  | lo a b => exact L2.kitAny_cons kF (fun _ => L2.kitAny_cons kV (fun _ => L2.kitAny_cons kL (fun e => absurd e (by simp [Rl.cls])) (fun _ => rfl)) (fun _ => rfl)) (fun _ => rfl)
  | hi a b => exact L2.kitAny_cons kF (fun _ => L2.kitAny_cons kV (fun _ => L2.kitAny_cons kL (fun _ => L2.kitAny_cons kG (fun e => absurd e (by simp [Rl.cls])) (fun _ => rfl)) (fun _ => rfl)) (fun _ => rfl)) (fun _ => rfl)
theorem iteT' {c : Bool} {p q : Prop} (h : c = true) (hp : p) : if c = true then p else q := by
  rw [if_pos h]; exact hp
theorem iteF' {c : Bool} {p q : Prop} (h : c = false) (hq : q) : if c = true then p else q := by
  rw [if_neg (by rw [h]; decide)]; exact hq
theorem isI_of {v : V} (e : isI v = true) : ∃ i, v = .int i := by cases v <;> first | exact ⟨_, rfl⟩ | (cases e)
def goodR : V → Bool
  | .int i => decide (1 ≤ i)
  | _ => false
def chk (r w : Int) : Int := if w < 1 then 1 else if r < w then r else w
def spCr (K : PySem.W.Frag) (DR : Addr) : Sp := fun vs H Q E => ∃ v, vs = [v] ∧ Anyv K H v ∧ (goodR v = false → Bf DR "value" v H E) ∧ (goodR v = true → Q .non H)
def spCh : Sp := fun vs H Q _ => ∃ r w : Int, vs = [.int r, .int w] ∧ Q (.int (chk r w)) H
/-- what a rule's wish asks and gives -/
def spWi (K : PySem.W.Frag) (FC VC LC GC DR : Addr) (n : Nat) (C : Addr) : Sp := fun vs H Q E => ∃ a t v, vs = [.ref a, v] ∧ t.cls FC VC LC GC = C ∧ RlAt FC VC LC GC H t a ∧ t.Ok ∧ t.cnt ≤ n ∧ Anyv K H v ∧ (goodR v = false → Bf DR "value" v H E) ∧ (∀ r, v = .int r → 1 ≤ r → r ≤ 10 ^ 31 ∧ Q (.int (t.wish r)) H)
/-- what a rule's call asks and gives -/
def spCa (K : PySem.W.Frag) (FC VC LC GC DR : Addr) (C : Addr) : Sp := fun vs H Q E => ∃ a t v, vs = [.ref a, v] ∧ t.cls FC VC LC GC = C ∧ RlAt FC VC LC GC H t a ∧ t.Ok ∧ Anyv K H v ∧ (goodR v = false → Bf DR "value" v H E) ∧ (∀ r, v = .int r → 1 ≤ r → r ≤ 10 ^ 31 ∧ Q (.int (chk r (t.wish r))) H)
def Mf2 (DM : Addr) (what : String) (most : Int) (H : Hp) (E : XK) : Prop := ∀ d fs, H d = none → fs.lookup ("what" : Str) = some (.str (Str.ofString what)) → fs.lookup ("most" : Str) = some (.int most) → E (.ref DM) (some d) (upd H d (.xd fs))
def spMo (DM : Addr) : Sp := fun vs H Q E => ∃ m : Int, vs = [.int m] ∧ (5000 < m → Mf2 DM "residues" 5000 H E) ∧ (m ≤ 5000 → Q .non H)
section
variable {P : Program} {w : World} {K : PySem.W.Frag} {mg : Str → Option Value} {base : Heap} {FC VC LC GC DR DM DU : Addr}
theorem scCr : FnScope ["rest"] ["rest"] (C8.fnScope sCr) := C8.fnScope_by (by decide +kernel)
theorem fn_cr {f fE : Addr} {fd fdE : FuncData} (F : C8.Def K mg "check_rest" sCr f fd) (ER : Err1 "BadRest" "value" P w K mg base DR fE fdE) (DI : C8.Cal P w K mg base 1 "is_integer" (spIsInt K) []) : FnOk P w K mg base (L2.CX P w) 3 f fd ["rest"] (spCr K DR) := by
  obtain ⟨oc, od, dV, kV, doc, pm, an, cdv, ct, osl, rfl, lk, hcd⟩ := F.fn.ex
  refine fn_of lk hcd scCr (fun vs H Q E h => ?_) fun A outer s H vs Q E hr h => ?_
  · obtain ⟨v, rfl, _⟩ := h
    rfl
  · obtain ⟨v, rfl, av, k1, k2⟩ := h
    have tk : Takes (cxOf (L2.CX P w) P w K mg base ["rest"] "check_rest" (C8.fnScope sCr) f cdv A outer s H E) (fun cls d _ H' => E cls d H') := takes_of rfl rfl rfl rfl
    refine ⟨_, (pss_one (ps_if (PW.pt (pw_or (pt_not (pt_val (C8.pe_c DI hr (by decide) (by rfl) (pa_cons (pv 0) pa_nil)))) (pw_or1 (pt_cmpR op_lt (pv 0) pe_int (nomark _))))) (pss_one (ps_bad1 (x := "BadRest") rfl tk ER.T ER.iC ER.tI ER.F hr ER.b (by rfl) ER.hm (pv 0))) pss_nil)), ?_⟩
    refine ⟨_, rfl, v, rfl, av, _, rfl, ?_⟩
    cases hx : isI v with
    | false => exact iteT ⟨_, rfl, bad_leaf1 (Bf.leaf (k1 (by cases v <;> first | rfl | (cases hx))))⟩
    | true =>
      obtain ⟨i, rfl⟩ := isI_of hx
      refine iteF ⟨_, rfl, _, _, rfl, rfl, _, rfl, ?_⟩
      by_cases ci : i < 1
      · exact iteT' (decide_eq_true ci) ⟨_, rfl, bad_leaf1 (Bf.leaf (k1 (decide_eq_false (by omega))))⟩
      · exact iteF' (decide_eq_false ci) (k2 (decide_eq_true (by omega)))
theorem scCh : FnScope ["rest", "wish"] ["rest", "wish"] (C8.fnScope sCh) := C8.fnScope_by (by decide +kernel)
theorem cal_ch {f : Addr} {fd : FuncData} (F : C8.Def K mg "chunk_for" sCh f fd) (b : Binds K fd ["rest", "wish"] []) : C8.Cal P w K mg base 1 "chunk_for" spCh [] := by
  refine C8.cal0 F b .nil scCh (fun vs H Q E h => ?_) (fun cdv A outer st H vs Q E hr h => ?_)
  · obtain ⟨r, w, rfl, _⟩ := h
    rfl
  · obtain ⟨r, w, rfl, k⟩ := h
    refine ⟨_, (pss_cons (ps_if (pt_cmpR op_lt (pv 1) pe_int (nomark _)) (pss_one (ps_ret pe_int)) pss_nil)
  (pss_one (ps_ret (pe_ifExp (pt_cmpR op_gt (pv 1) (pv 0) (nomark _)) (pv 0) (pv 1))))), ?_⟩
    refine ⟨_, rfl, _, _, rfl, rfl, _, rfl, ?_⟩
    by_cases c1 : w < 1
    · rw [show chk r w = 1 from if_pos c1] at k
      exact iteT' (decide_eq_true c1) k
    refine iteF' (decide_eq_false c1) ?_
    dsimp only [tNext]
    by_cases c2 : r < w
    · rw [show chk r w = r by unfold chk; rw [if_neg c1, if_pos c2]] at k
      exact ⟨_, rfl, _, rfl, _, _, rfl, rfl, _, rfl, iteT' (decide_eq_true c2) ⟨_, rfl, k⟩⟩
    · rw [show chk r w = w by unfold chk; rw [if_neg c1, if_neg c2]] at k
      exact ⟨_, rfl, _, rfl, _, _, rfl, rfl, _, rfl, iteF' (decide_eq_false c2) ⟨_, rfl, k⟩⟩
theorem scMo : FnScope ["modulus"] ["modulus"] (C8.fnScope sMo) := C8.fnScope_by (by decide +kernel)
theorem fn_mo {f fE : Addr} {fd fdE : FuncData} (F : C8.Def K mg "check_modulus" sMo f fd) (EM : Err2 "TooMany" "what" "most" P w K mg base DM fE fdE) (hMR : ∃ t, mg "MOST_RESIDUES" = some (.int 5000 t)) : FnOk P w K mg base (L2.CX P w) 3 f fd ["modulus"] (spMo DM) := by
  obtain ⟨tf, hMR⟩ := hMR
  obtain ⟨oc, od, dV, kV, doc, pm, an, cdv, ct, osl, rfl, lk, hcd⟩ := F.fn.ex
  refine fn_of lk hcd scMo (fun vs H Q E h => ?_) fun A outer s H vs Q E hr h => ?_
  · obtain ⟨v, rfl, _⟩ := h
    rfl
  · obtain ⟨v, rfl, k1, k2⟩ := h
    have tk : Takes (cxOf (L2.CX P w) P w K mg base ["modulus"] "check_modulus" (C8.fnScope sMo) f cdv A outer s H E) (fun cls d _ H' => E cls d H') := takes_of rfl rfl rfl rfl
    refine ⟨_, (pss_one (ps_if (pt_cmpR op_gt (pv 0) (pe_glob (v := .int 5000) rfl hMR ⟨_, rfl⟩) (nomark _)) (pss_one (ps_bad2 (x := "TooMany") rfl tk EM.T EM.iC EM.tI EM.F hr EM.b (by rfl) EM.hm pe_str (pe_glob (v := .int 5000) rfl hMR ⟨_, rfl⟩))) pss_nil)), ?_⟩
    refine ⟨_, rfl, _, _, rfl, rfl, _, rfl, ?_⟩
    by_cases c1 : 5000 < v
    · exact iteT' (decide_eq_true c1) (bad_leaf2 fun d fs hd e1 e2 => k1 c1 d fs hd e1 e2)
    · exact iteF' (decide_eq_false c1) (k2 (by omega))
theorem scFxw : FnScope ["self", "rest"] ["self", "rest"] (C8.fnScope sFxw) := C8.fnScope_by (by decide +kernel)
theorem fn_fxw {f : Addr} {fd : FuncData} (F : C8.Fun K "wish" "Fixed.wish" sFxw f fd) (Z : RlZ K mg FC VC LC GC) (DCr : CalX P w K mg base 3 "check_rest" (spCr K DR)) (n : Nat) : FnOk P w K mg base (L2.CX P w) 4 f fd ["self", "rest"] (spWi K FC VC LC GC DR n FC) := by
  obtain ⟨oc, od, dV, kV, doc, pm, an, cdv, ct, osl, rfl, lk, hcd⟩ := F.ex
  refine fn_of lk hcd scFxw (fun vs H Q E h => ?_) fun A outer s H vs Q E hr h => ?_
  · obtain ⟨a, t, v, rfl, _⟩ := h
    rfl
  · obtain ⟨a, t, v, rfl, hc, ht, ok, hn, av, k1, k2⟩ := h
    refine ⟨_, (pss_cons (ps_expr (pe_cX DCr hr (by decide) (by rfl) (passes_call (takes_of rfl rfl rfl rfl) (fun _ _ _ _ z => z)) (pa_cons (pv 1) pa_nil)))
  (pss_one (ps_ret (pe_fldK K rfl (pv 0) rfl)))), ?_⟩
    obtain ⟨m, rfl⟩ : ∃ m, t = .fx m := by
      cases t with
      | fx m => exact ⟨m, rfl⟩
      | dv x y w => exact absurd hc.symm Z.d1
      | lo x y => exact absurd hc.symm Z.d2
      | hi x y => exact absurd hc.symm Z.d3
    obtain ⟨dx, p, h1, h2⟩ := id ht
    refine ⟨_, rfl, v, rfl, av, k1, fun g => ?_⟩
    obtain ⟨r, rfl, r1⟩ : ∃ r, v = .int r ∧ 1 ≤ r := by
      cases v <;> first | exact ⟨_, rfl, of_decide_eq_true g⟩ | (cases g)
    exact ⟨_, rfl, a, FC, dx, _, _, rfl, h1, Z.F.cl, Z.F.n1, fxP_size _ _, (k2 r rfl r1).2⟩
theorem nof_wish : NoF "wish" := by unfold NoF; decide +kernel
theorem goodR_of {v : V} (g : goodR v = true) : ∃ r, v = .int r ∧ 1 ≤ r := by
  cases v <;> first | exact ⟨_, rfl, of_decide_eq_true g⟩ | (cases g)
theorem scDvw : FnScope ["self", "rest"] ["self", "rest"] (C8.fnScope sDvw) := C8.fnScope_by (by decide +kernel)
theorem fn_dvw {f : Addr} {fd : FuncData} (F : C8.Fun K "wish" "Divided.wish" sDvw f fd) (Z : RlZ K mg FC VC LC GC) (DCr : CalX P w K mg base 3 "check_rest" (spCr K DR)) (n : Nat) : FnOk P w K mg base (L2.CX P w) 4 f fd ["self", "rest"] (spWi K FC VC LC GC DR n VC) := by
  obtain ⟨oc, od, dV, kV, doc, pm, an, cdv, ct, osl, rfl, lk, hcd⟩ := F.ex
  refine fn_of lk hcd scDvw (fun vs H Q E h => ?_) fun A outer s H vs Q E hr h => ?_
  · obtain ⟨a, t, v, rfl, _⟩ := h
    rfl
  · obtain ⟨a, t, v, rfl, hc, ht, ok, hn, av, k1, k2⟩ := h
    refine ⟨_, (pss_cons (ps_expr (pe_cX DCr hr (by decide) (by rfl) (passes_call (takes_of rfl rfl rfl rfl) (fun _ _ _ _ z => z)) (pa_cons (pv 1) pa_nil)))
  (pss_one (ps_ret (pe_op op_fdivW (pe_op op_add (pe_op op_mulW (pe_fldK K rfl (pv 0) rfl) (pv 1)) (pe_fldK K rfl (pv 0) rfl)) (pe_fldK K rfl (pv 0) rfl))))), ?_⟩
    obtain ⟨x, y, q, rfl⟩ : ∃ x y q, t = .dv x y q := by
      cases t with
      | fx m => exact absurd hc Z.d1
      | dv x y w => exact ⟨x, y, w, rfl⟩
      | lo x y => exact absurd hc.symm Z.d4
      | hi x y => exact absurd hc.symm Z.d5
    obtain ⟨dx, p, h1, h2⟩ := id ht
    obtain ⟨x0, x1, y0, y1, q0, q1⟩ := id ok
    refine ⟨_, rfl, v, rfl, av, k1, fun g => ?_⟩
    obtain ⟨r, rfl, r1⟩ := goodR_of g
    obtain ⟨r2, k3⟩ := k2 r rfl r1
    exact ⟨_, rfl, a, VC, dx, _, _, rfl, h1, Z.V.cl, Z.V.n1, dvP_x _ _ _ _, _, rfl, x, r, rfl, rfl, L2.wide_mul (a := 5) (b := 103) (by omega) (by omega) (by decide) (by decide) (by decide),
      _, rfl, a, VC, dx, _, _, rfl, h1, Z.V.cl, Z.V.n2, dvP_y _ _ _ _, _, _, rfl, rfl, _, rfl, a, VC, dx, _, _, rfl, h1, Z.V.cl, Z.V.n3, dvP_w _ _ _ _, _, _, rfl, rfl, L2.wide_div (b := 5) (by omega) (by omega) (by decide) (by decide), k3⟩
theorem scLow : FnScope ["self", "rest", "one", "other"] ["self", "rest"] (C8.fnScope sLow) := C8.fnScope_by (by decide +kernel)
theorem fn_low {f : Addr} {fd : FuncData} (F : C8.Fun K "wish" "Lesser.wish" sLow f fd) (Z : RlZ K mg FC VC LC GC) {n : Nat} (W : MetP P w K mg base (3 + n) (Rk FC VC LC GC) "wish" (spWi K FC VC LC GC DR n)) : FnOk P w K mg base (L2.CX P w) (4 + n) f fd ["self", "rest"] (spWi K FC VC LC GC DR (n + 1) LC) := by
  obtain ⟨oc, od, dV, kV, doc, pm, an, cdv, ct, osl, rfl, lk, hcd⟩ := F.ex
  rw [show 4 + n = (3 + n) + 1 by omega]
  refine fn_of lk hcd scLow (fun vs H Q E h => ?_) fun A outer s H vs Q E hr h => ?_
  · obtain ⟨a, t, v, rfl, _⟩ := h
    rfl
  · obtain ⟨a, t, v, rfl, hc, ht, ok, hn, av, k1, k2⟩ := h
    refine ⟨_, (pss_cons (ps_set (i := 2) scLow.nd rfl (Or.inl rfl) (pe_mxP (pe_fldK K rfl (pv 0) rfl) Z.cls W hr (Nat.le_refl _) (passes_call (takes_of rfl rfl rfl rfl) (fun _ _ _ _ z => z)) (pa_cons (pv 1) pa_nil)))
  (pss_cons (ps_set (i := 3) scLow.nd rfl (Or.inl rfl) (pe_mxP (pe_fldK K rfl (pv 0) rfl) Z.cls W hr (Nat.le_refl _) (passes_call (takes_of rfl rfl rfl rfl) (fun _ _ _ _ z => z)) (pa_cons (pv 1) pa_nil)))
  (pss_one (ps_ret (pe_ifExp (pt_cmpR op_lt (pv 2) (pv 3) (nomark _)) (pv 2) (pv 3)))))), ?_⟩
    obtain ⟨s1, s2, rfl⟩ : ∃ s1 s2, t = .lo s1 s2 := by
      cases t with
      | fx m => exact absurd hc Z.d2
      | dv x y w => exact absurd hc Z.d4
      | lo x y => exact ⟨x, y, rfl⟩
      | hi x y => exact absurd hc.symm Z.d6
    obtain ⟨dx, p, b, c, ps, h1, h2, h3, h4, h5⟩ := id ht
    obtain ⟨o1, o2, _, _⟩ := id ok
    have n1 : s1.cnt + s2.cnt ≤ n + 1 := hn
    have p1 := Rl.cnt_pos s1
    have p2 := Rl.cnt_pos s2
    obtain ⟨db, fb, _, _, hb, _, _, _, _, nb⟩ := h4.has o1
    obtain ⟨dc, fc, _, _, hc, _, _, _, _, nc⟩ := h5.has o2
    dsimp only [tSeq]
    refine ⟨_, rfl, a, LC, dx, _, _, rfl, h1, Z.L.cl, Z.L.n1, jnP_one _ _ _ _, b, _, db, fb, rfl, Rk.of s1, hb, nb _ nof_wish, _, rfl, b, s1, v, rfl, rfl, h4, o1, by omega, av, k1, fun r er r1 => ?_⟩
    subst er
    obtain ⟨r2, k3⟩ := k2 r rfl r1
    refine ⟨r2, ?_⟩
    dsimp only [gName]
    refine ⟨_, rfl, a, LC, dx, _, _, rfl, h1, Z.L.cl, Z.L.n2, jnP_other _ _ _ _, c, _, dc, fc, rfl, Rk.of s2, hc, nc _ nof_wish, _, rfl, c, s2, _, rfl, rfl, h5, o2, by omega, .int _, k1, fun r' er' r1' => ?_⟩
    cases er'
    refine ⟨r2, ?_⟩
    dsimp only [gName]
    by_cases c1 : s1.wish r < s2.wish r
    · rw [show (Rl.lo s1 s2).wish r = s1.wish r from if_pos c1] at k3
      exact ⟨_, rfl, _, rfl, _, _, rfl, rfl, _, rfl, iteT' (decide_eq_true c1) ⟨_, rfl, k3⟩⟩
    · rw [show (Rl.lo s1 s2).wish r = s2.wish r from if_neg c1] at k3
      exact ⟨_, rfl, _, rfl, _, _, rfl, rfl, _, rfl, iteF' (decide_eq_false c1) ⟨_, rfl, k3⟩⟩
theorem scHiw : FnScope ["self", "rest", "one", "other"] ["self", "rest"] (C8.fnScope sHiw) := C8.fnScope_by (by decide +kernel)
theorem fn_hiw {f : Addr} {fd : FuncData} (F : C8.Fun K "wish" "Greater.wish" sHiw f fd) (Z : RlZ K mg FC VC LC GC) {n : Nat} (W : MetP P w K mg base (3 + n) (Rk FC VC LC GC) "wish" (spWi K FC VC LC GC DR n)) : FnOk P w K mg base (L2.CX P w) (4 + n) f fd ["self", "rest"] (spWi K FC VC LC GC DR (n + 1) GC) := by
  obtain ⟨oc, od, dV, kV, doc, pm, an, cdv, ct, osl, rfl, lk, hcd⟩ := F.ex
  rw [show 4 + n = (3 + n) + 1 by omega]
  refine fn_of lk hcd scHiw (fun vs H Q E h => ?_) fun A outer s H vs Q E hr h => ?_
  · obtain ⟨a, t, v, rfl, _⟩ := h
    rfl
  · obtain ⟨a, t, v, rfl, hc, ht, ok, hn, av, k1, k2⟩ := h
    refine ⟨_, (pss_cons (ps_set (i := 2) scHiw.nd rfl (Or.inl rfl) (pe_mxP (pe_fldK K rfl (pv 0) rfl) Z.cls W hr (Nat.le_refl _) (passes_call (takes_of rfl rfl rfl rfl) (fun _ _ _ _ z => z)) (pa_cons (pv 1) pa_nil)))
  (pss_cons (ps_set (i := 3) scHiw.nd rfl (Or.inl rfl) (pe_mxP (pe_fldK K rfl (pv 0) rfl) Z.cls W hr (Nat.le_refl _) (passes_call (takes_of rfl rfl rfl rfl) (fun _ _ _ _ z => z)) (pa_cons (pv 1) pa_nil)))
  (pss_one (ps_ret (pe_ifExp (pt_cmpR op_gt (pv 2) (pv 3) (nomark _)) (pv 2) (pv 3)))))), ?_⟩
    obtain ⟨s1, s2, rfl⟩ : ∃ s1 s2, t = .hi s1 s2 := by
      cases t with
      | fx m => exact absurd hc Z.d3
      | dv x y w => exact absurd hc Z.d5
      | lo x y => exact absurd hc Z.d6
      | hi x y => exact ⟨x, y, rfl⟩
    obtain ⟨dx, p, b, c, ps, h1, h2, h3, h4, h5⟩ := id ht
    obtain ⟨o1, o2, _, _⟩ := id ok
    have n1 : s1.cnt + s2.cnt ≤ n + 1 := hn
    have p1 := Rl.cnt_pos s1
    have p2 := Rl.cnt_pos s2
    obtain ⟨db, fb, _, _, hb, _, _, _, _, nb⟩ := h4.has o1
    obtain ⟨dc, fc, _, _, hc, _, _, _, _, nc⟩ := h5.has o2
    dsimp only [tSeq]
    refine ⟨_, rfl, a, GC, dx, _, _, rfl, h1, Z.G.cl, Z.G.n1, jnP_one _ _ _ _, b, _, db, fb, rfl, Rk.of s1, hb, nb _ nof_wish, _, rfl, b, s1, v, rfl, rfl, h4, o1, by omega, av, k1, fun r er r1 => ?_⟩
    subst er
    obtain ⟨r2, k3⟩ := k2 r rfl r1
    refine ⟨r2, ?_⟩
    dsimp only [gName]
    refine ⟨_, rfl, a, GC, dx, _, _, rfl, h1, Z.G.cl, Z.G.n2, jnP_other _ _ _ _, c, _, dc, fc, rfl, Rk.of s2, hc, nc _ nof_wish, _, rfl, c, s2, _, rfl, rfl, h5, o2, by omega, .int _, k1, fun r' er' r1' => ?_⟩
    cases er'
    refine ⟨r2, ?_⟩
    dsimp only [gName]
    by_cases c1 : s2.wish r < s1.wish r
    · rw [show (Rl.hi s1 s2).wish r = s1.wish r from if_pos c1] at k3
      exact ⟨_, rfl, _, rfl, _, _, rfl, rfl, _, rfl, iteT' (decide_eq_true c1) ⟨_, rfl, k3⟩⟩
    · rw [show (Rl.hi s1 s2).wish r = s2.wish r from if_neg c1] at k3
      exact ⟨_, rfl, _, rfl, _, _, rfl, rfl, _, rfl, iteF' (decide_eq_false c1) ⟨_, rfl, k3⟩⟩
end
end Lw
namespace Lw
open PySem PySem.Spec PyProof.Rows L2
open SX PySem.NumText TL LamX ClX StX
set_option pp.maxSteps 900
section
variable {P : Program} {w : World} {K : PySem.W.Frag} {mg : Str → Option Value} {base : Heap} {FC VC LC GC DR DM DU : Addr}
theorem spWi_none {C : Addr} {vs : List V} {H : Hp} {Q : VK} {E : XK} (h : spWi K FC VC LC GC DR 0 C vs H Q E) : False := by
  obtain ⟨_, t, _, _, _, _, _, hn, _⟩ := h
  have := Rl.cnt_pos t
  omega
/-- every rule's wish, by the number of its parts -/
theorem wishP (Z : RlZ K mg FC VC LC GC) (DCr : CalX P w K mg base 3 "check_rest" (spCr K DR)) {f1 f2 f3 f4 : Addr} {d1 d2 d3 d4 : FuncData}
    (F1 : C8.Fun K "wish" "Fixed.wish" sFxw f1 d1) (m1 : Meth K FC "wish" f1) (b1 : Binds K d1 ["self", "rest"] []) (F2 : C8.Fun K "wish" "Divided.wish" sDvw f2 d2) (m2 : Meth K VC "wish" f2) (b2 : Binds K d2 ["self", "rest"] [])
    (F3 : C8.Fun K "wish" "Lesser.wish" sLow f3 d3) (m3 : Meth K LC "wish" f3) (b3 : Binds K d3 ["self", "rest"] []) (F4 : C8.Fun K "wish" "Greater.wish" sHiw f4 d4) (m4 : Meth K GC "wish" f4) (b4 : Binds K d4 ["self", "rest"] []) :
    ∀ n, MetP P w K mg base (3 + n) (Rk FC VC LC GC) "wish" (spWi K FC VC LC GC DR n)
  | 0 => ⟨fun C hC => by
    have no : ∀ {f : Addr} {fd : FuncData}, FnOk P w K mg base (L2.CX P w) 3 f fd ["self", "rest"] (spWi K FC VC LC GC DR 0 C) := fun {f fd} => ⟨fun _ _ _ _ h => (spWi_none h).elim, fun _ _ _ _ _ _ _ _ _ _ _ _ _ h => (spWi_none h).elim⟩
    rcases hC with rfl | rfl | rfl | rfl
    · exact ⟨_, _, _, m1, no, b1⟩
    · exact ⟨_, _, _, m2, no, b2⟩
    · exact ⟨_, _, _, m3, no, b3⟩
    · exact ⟨_, _, _, m4, no, b4⟩⟩
  | n + 1 => ⟨fun C hC => by
    have W := wishP Z DCr F1 m1 b1 F2 m2 b2 F3 m3 b3 F4 m4 b4 n
    rw [show 3 + (n + 1) = 4 + n by omega]
    rcases hC with rfl | rfl | rfl | rfl
    · exact ⟨_, _, _, m1, (fn_fxw F1 Z DCr (n + 1)).mono (by omega), b1⟩
    · exact ⟨_, _, _, m2, (fn_dvw F2 Z DCr (n + 1)).mono (by omega), b2⟩
    · exact ⟨_, _, _, m3, fn_low F3 Z W, b3⟩
    · exact ⟨_, _, _, m4, fn_hiw F4 Z W, b4⟩⟩
theorem scFxc : FnScope ["self", "rest"] ["self", "rest"] (C8.fnScope sFxc) := C8.fnScope_by (by decide +kernel)
theorem fn_fxc {f : Addr} {fd : FuncData} (F : C8.Fun K "__call__" "Fixed.__call__" sFxc f fd) (Z : RlZ K mg FC VC LC GC) (W : MetP P w K mg base 9 (Rk FC VC LC GC) "wish" (spWi K FC VC LC GC DR 6)) (DCh : C8.Cal P w K mg base 1 "chunk_for" spCh []) : FnOk P w K mg base (L2.CX P w) 10 f fd ["self", "rest"] (spCa K FC VC LC GC DR FC) := by
  obtain ⟨oc, od, dV, kV, doc, pm, an, cdv, ct, osl, rfl, lk, hcd⟩ := F.ex
  refine fn_of lk hcd scFxc (fun vs H Q E h => ?_) fun A outer s H vs Q E hr h => ?_
  · obtain ⟨a, t, v, rfl, _⟩ := h
    rfl
  · obtain ⟨a, t, v, rfl, hc, ht, ok, av, k1, k2⟩ := h
    refine ⟨_, (pss_one (ps_ret (C8.pe_c DCh hr (by decide) (by rfl) (pa_cons (pv 1) (pa_cons (pe_mxP (pv 0) Z.cls W hr (Nat.le_refl _) (passes_call (takes_of rfl rfl rfl rfl) (fun _ _ _ _ z => z)) (pa_cons (pv 1) pa_nil)) pa_nil))))), ?_⟩
    obtain ⟨da, fa, _, _, ha, _, _, _, _, na⟩ := ht.has ok
    refine ⟨_, rfl, _, rfl, a, _, da, fa, rfl, Rk.of t, ha, na _ nof_wish, _, rfl, a, t, v, rfl, rfl, ht, ok, ok.cnt6, av, k1, fun r er r1 => ?_⟩
    subst er
    obtain ⟨r2, k3⟩ := k2 r rfl r1
    exact ⟨r2, r, _, rfl, k3⟩
theorem scDvc : FnScope ["self", "rest"] ["self", "rest"] (C8.fnScope sDvc) := C8.fnScope_by (by decide +kernel)
theorem fn_dvc {f : Addr} {fd : FuncData} (F : C8.Fun K "__call__" "Divided.__call__" sDvc f fd) (Z : RlZ K mg FC VC LC GC) (W : MetP P w K mg base 9 (Rk FC VC LC GC) "wish" (spWi K FC VC LC GC DR 6)) (DCh : C8.Cal P w K mg base 1 "chunk_for" spCh []) : FnOk P w K mg base (L2.CX P w) 10 f fd ["self", "rest"] (spCa K FC VC LC GC DR VC) := by
  obtain ⟨oc, od, dV, kV, doc, pm, an, cdv, ct, osl, rfl, lk, hcd⟩ := F.ex
  refine fn_of lk hcd scDvc (fun vs H Q E h => ?_) fun A outer s H vs Q E hr h => ?_
  · obtain ⟨a, t, v, rfl, _⟩ := h
    rfl
  · obtain ⟨a, t, v, rfl, hc, ht, ok, av, k1, k2⟩ := h
    refine ⟨_, (pss_one (ps_ret (C8.pe_c DCh hr (by decide) (by rfl) (pa_cons (pv 1) (pa_cons (pe_mxP (pv 0) Z.cls W hr (Nat.le_refl _) (passes_call (takes_of rfl rfl rfl rfl) (fun _ _ _ _ z => z)) (pa_cons (pv 1) pa_nil)) pa_nil))))), ?_⟩
    obtain ⟨da, fa, _, _, ha, _, _, _, _, na⟩ := ht.has ok
    refine ⟨_, rfl, _, rfl, a, _, da, fa, rfl, Rk.of t, ha, na _ nof_wish, _, rfl, a, t, v, rfl, rfl, ht, ok, ok.cnt6, av, k1, fun r er r1 => ?_⟩
    subst er
    obtain ⟨r2, k3⟩ := k2 r rfl r1
    exact ⟨r2, r, _, rfl, k3⟩
theorem scLoc : FnScope ["self", "rest"] ["self", "rest"] (C8.fnScope sLoc) := C8.fnScope_by (by decide +kernel)
theorem fn_loc {f : Addr} {fd : FuncData} (F : C8.Fun K "__call__" "Lesser.__call__" sLoc f fd) (Z : RlZ K mg FC VC LC GC) (W : MetP P w K mg base 9 (Rk FC VC LC GC) "wish" (spWi K FC VC LC GC DR 6)) (DCh : C8.Cal P w K mg base 1 "chunk_for" spCh []) : FnOk P w K mg base (L2.CX P w) 10 f fd ["self", "rest"] (spCa K FC VC LC GC DR LC) := by
  obtain ⟨oc, od, dV, kV, doc, pm, an, cdv, ct, osl, rfl, lk, hcd⟩ := F.ex
  refine fn_of lk hcd scLoc (fun vs H Q E h => ?_) fun A outer s H vs Q E hr h => ?_
  · obtain ⟨a, t, v, rfl, _⟩ := h
    rfl
  · obtain ⟨a, t, v, rfl, hc, ht, ok, av, k1, k2⟩ := h
    refine ⟨_, (pss_one (ps_ret (C8.pe_c DCh hr (by decide) (by rfl) (pa_cons (pv 1) (pa_cons (pe_mxP (pv 0) Z.cls W hr (Nat.le_refl _) (passes_call (takes_of rfl rfl rfl rfl) (fun _ _ _ _ z => z)) (pa_cons (pv 1) pa_nil)) pa_nil))))), ?_⟩
    obtain ⟨da, fa, _, _, ha, _, _, _, _, na⟩ := ht.has ok
    refine ⟨_, rfl, _, rfl, a, _, da, fa, rfl, Rk.of t, ha, na _ nof_wish, _, rfl, a, t, v, rfl, rfl, ht, ok, ok.cnt6, av, k1, fun r er r1 => ?_⟩
    subst er
    obtain ⟨r2, k3⟩ := k2 r rfl r1
    exact ⟨r2, r, _, rfl, k3⟩
theorem scHic : FnScope ["self", "rest"] ["self", "rest"] (C8.fnScope sHic) := C8.fnScope_by (by decide +kernel)
theorem fn_hic {f : Addr} {fd : FuncData} (F : C8.Fun K "__call__" "Greater.__call__" sHic f fd) (Z : RlZ K mg FC VC LC GC) (W : MetP P w K mg base 9 (Rk FC VC LC GC) "wish" (spWi K FC VC LC GC DR 6)) (DCh : C8.Cal P w K mg base 1 "chunk_for" spCh []) : FnOk P w K mg base (L2.CX P w) 10 f fd ["self", "rest"] (spCa K FC VC LC GC DR GC) := by
  obtain ⟨oc, od, dV, kV, doc, pm, an, cdv, ct, osl, rfl, lk, hcd⟩ := F.ex
  refine fn_of lk hcd scHic (fun vs H Q E h => ?_) fun A outer s H vs Q E hr h => ?_
  · obtain ⟨a, t, v, rfl, _⟩ := h
    rfl
  · obtain ⟨a, t, v, rfl, hc, ht, ok, av, k1, k2⟩ := h
    refine ⟨_, (pss_one (ps_ret (C8.pe_c DCh hr (by decide) (by rfl) (pa_cons (pv 1) (pa_cons (pe_mxP (pv 0) Z.cls W hr (Nat.le_refl _) (passes_call (takes_of rfl rfl rfl rfl) (fun _ _ _ _ z => z)) (pa_cons (pv 1) pa_nil)) pa_nil))))), ?_⟩
    obtain ⟨da, fa, _, _, ha, _, _, _, _, na⟩ := ht.has ok
    refine ⟨_, rfl, _, rfl, a, _, da, fa, rfl, Rk.of t, ha, na _ nof_wish, _, rfl, a, t, v, rfl, rfl, ht, ok, ok.cnt6, av, k1, fun r er r1 => ?_⟩
    subst er
    obtain ⟨r2, k3⟩ := k2 r rfl r1
    exact ⟨r2, r, _, rfl, k3⟩

/-- a value for a rule: a rule of the four, or none of them -/
def RV (K : PySem.W.Frag) (FC VC LC GC : Addr) (H : Hp) (v : V) : Option Rl → Prop
  | some t => ∃ a, v = .ref a ∧ RlAt FC VC LC GC H t a ∧ t.Ok
  | none => ∃ ty, (∀ H', Same H H' → L2.TyX K H' v ty) ∧ PySem.W.kitAny K ty [.ref FC, .ref VC, .ref LC, .ref GC] = some false
def Mg2 (DM : Addr) (what : String) (most : Int) (H : Hp) (E : XK) : Prop := ∀ d fs H', Same H H' → H' d = none → fs.lookup ("what" : Str) = some (.str (Str.ofString what)) → fs.lookup ("most" : Str) = some (.int most) → E (.ref DM) (some d) (upd H' d (.xd fs))
/-- what is asked where two rules are joined -/
def JoD (K : PySem.W.Frag) (FC VC LC GC DU DM : Addr) (u v : V) (H : Hp) (E : XK) (R : Rl → Rl → Prop) : Prop :=
  ∃ o1 o2, RV K FC VC LC GC H u o1 ∧ RV K FC VC LC GC H v o2 ∧ (o1 = none → Bf DU "part" (.str (Str.ofString "one")) H E) ∧ (∀ s, o1 = some s → o2 = none → Bf DU "part" (.str (Str.ofString "other")) H E) ∧
    ∀ s t, o1 = some s → o2 = some t → (6 < s.cnt + t.cnt → Mg2 DM "parts" 6 H E) ∧ (s.cnt + t.cnt ≤ 6 → 5000 < Nat.lcm s.mdl t.mdl → Mg2 DM "residues" 5000 H E) ∧ (s.cnt + t.cnt ≤ 6 → Nat.lcm s.mdl t.mdl ≤ 5000 → R s t)
def spJo (K : PySem.W.Frag) (FC VC LC GC DU DM : Addr) : Sp := fun vs H Q E => ∃ u v, vs = [u, v] ∧ JoD K FC VC LC GC DU DM u v H E fun _ _ => ∀ H', Same H H' → Q .non H'
theorem RV.ty {Z : RlZ K mg FC VC LC GC} {H H' : Hp} {v : V} {o : Option Rl} (h : RV K FC VC LC GC H v o) (s : Same H H') : ∃ ty, L2.TyX K H' v ty ∧ PySem.W.kitAny K ty [.ref FC, .ref VC, .ref LC, .ref GC] = some o.isSome := by
  cases o with
  | none =>
    obtain ⟨ty, h1, h2⟩ := h
    exact ⟨ty, h1 H' s, h2⟩
  | some t =>
    obtain ⟨a, rfl, h1, h2⟩ := h
    obtain ⟨dx, fs, _, _, ha, _⟩ := (h1.on s).has h2
    have I := Z.ins _ (Rk.of t)
    exact ⟨_, .base (.ins ha I.cl I.ha I.hn I.htk I.hm), Z.any t⟩
theorem scJo : FnScope ["one", "other"] ["one", "other"] (C8.fnScope sJo) := C8.fnScope_by (by decide +kernel)
theorem fn_jo {f fU fM : Addr} {fd fdU fdM : FuncData} (F : C8.Def K mg "check_joined" sJo f fd) (T : Txt mg) (Z : RlZ K mg FC VC LC GC) (EU : Err1 "BadRule" "part" P w K mg base DU fU fdU) (EM : Err2 "TooMany" "what" "most" P w K mg base DM fM fdM) (hMP : ∃ t, mg "MOST_PARTS" = some (.int 6 t)) (hlcm : mg "lcm" = some (.builtin "math.lcm")) (DMo : CalX P w K mg base 3 "check_modulus" (spMo DM)) :
    FnOk P w K mg base (L2.CX P w) 4 f fd ["one", "other"] (spJo K FC VC LC GC DU DM) := by
  obtain ⟨tf, hMP⟩ := hMP
  obtain ⟨oc, od, dV, kV, doc, pm, an, cdv, ct, osl, rfl, lk, hcd⟩ := F.fn.ex
  refine fn_of lk hcd scJo (fun vs H Q E h => ?_) fun A outer s H vs Q E hr h => ?_
  · obtain ⟨u, v, rfl, _⟩ := h
    rfl
  · obtain ⟨u, v, rfl, o1, o2, r1, r2, k1, k2, k3⟩ := h
    have tk : Takes (cxOf (L2.CX P w) P w K mg base ["one", "other"] "check_joined" (C8.fnScope sJo) f cdv A outer s H E) (fun cls d _ H' => E cls d H') := takes_of rfl rfl rfl rfl
    refine ⟨_, (pss_cons (ps_if (pt_not (pt_val (pe_callB L2.call_isiT (by rfl) T.n_isinstance (by decide +kernel) (pa_cons (pv 0) (pa_cons (pe_tup (pa_cons (pe_glob (v := .ref FC) (by rfl) Z.hF rfl) (pa_cons (pe_glob (v := .ref VC) (by rfl) Z.hV rfl) (pa_cons (pe_glob (v := .ref LC) (by rfl) Z.hL rfl) (pa_cons (pe_glob (v := .ref GC) (by rfl) Z.hG rfl) pa_nil))))) pa_nil))))) (pss_one (ps_bad1 (x := "BadRule") rfl tk EU.T EU.iC EU.tI EU.F hr EU.b (by rfl) EU.hm pe_str)) pss_nil)
  (pss_cons (ps_if (pt_not (pt_val (pe_callB L2.call_isiT (by rfl) T.n_isinstance (by decide +kernel) (pa_cons (pv 1) (pa_cons (pe_tup (pa_cons (pe_glob (v := .ref FC) (by rfl) Z.hF rfl) (pa_cons (pe_glob (v := .ref VC) (by rfl) Z.hV rfl) (pa_cons (pe_glob (v := .ref LC) (by rfl) Z.hL rfl) (pa_cons (pe_glob (v := .ref GC) (by rfl) Z.hG rfl) pa_nil))))) pa_nil))))) (pss_one (ps_bad1 (x := "BadRule") rfl tk EU.T EU.iC EU.tI EU.F hr EU.b (by rfl) EU.hm pe_str)) pss_nil)
  (pss_cons (ps_if (pt_cmpR op_gt (pe_op op_add (pe_callB call_len_seq (by rfl) T.n_len (by decide +kernel) (pa_cons (pe_fldK K rfl (pv 0) rfl) pa_nil)) (pe_callB call_len_seq (by rfl) T.n_len (by decide +kernel) (pa_cons (pe_fldK K rfl (pv 1) rfl) pa_nil))) (pe_glob (v := .int 6) rfl hMP ⟨_, rfl⟩) (nomark _)) (pss_one (ps_bad2 (x := "TooMany") rfl tk EM.T EM.iC EM.tI EM.F hr EM.b (by rfl) EM.hm pe_str (pe_glob (v := .int 6) rfl hMP ⟨_, rfl⟩))) pss_nil)
  (pss_one (ps_expr (pe_cX DMo hr (by decide) (by rfl) (passes_call (takes_of rfl rfl rfl rfl) (fun _ _ _ _ z => z)) (pa_cons (pe_callBfun cr_lcm (by rfl) hlcm (pa_cons (pe_fldK K rfl (pv 0) rfl) (pa_cons (pe_fldK K rfl (pv 1) rfl) pa_nil))) pa_nil))))))), ?_⟩
    dsimp only [tSeq]
    refine ⟨_, rfl, (by show 4 ≤ sizeLine; decide), fun p hp => ?_⟩
    have s1 := same_new (o := HO.tup [V.ref FC, V.ref VC, V.ref LC, V.ref GC]) hp
    obtain ⟨ty1, t1, e1⟩ := RV.ty (Z := Z) r1 s1
    refine ⟨u, p, _, ty1, _, _, rfl, upd_same, .cons (.own FC) (.cons (.own VC) (.cons (.own LC) (.cons (.own GC) .nil))), t1, e1, _, rfl, ?_⟩
    cases o1 with
    | none => exact iteT (bad_leaf1 (Bf.leaf fun d fs H2 s3 hd e => k1 rfl d fs H2 (s1.trans s3) hd e))
    | some t =>
      refine iteF ?_
      dsimp only [tNext]
      refine ⟨_, rfl, (by show 4 ≤ sizeLine; decide), fun p' hp' => ?_⟩
      have s2 := s1.trans (same_new (o := HO.tup [V.ref FC, V.ref VC, V.ref LC, V.ref GC]) hp')
      obtain ⟨ty2, t2, e2⟩ := RV.ty (Z := Z) r2 s2
      refine ⟨v, p', _, ty2, _, _, rfl, upd_same, .cons (.own FC) (.cons (.own VC) (.cons (.own LC) (.cons (.own GC) .nil))), t2, e2, _, rfl, ?_⟩
      cases o2 with
      | none => exact iteT (bad_leaf1 (Bf.leaf fun d fs H2 s3 hd e => k2 t rfl rfl d fs H2 (s2.trans s3) hd e))
      | some q =>
        refine iteF ?_
        obtain ⟨k4, k5, k6⟩ := k3 t q rfl rfl
        obtain ⟨a, rfl, ha, oka⟩ := r1
        obtain ⟨b, rfl, hb, okb⟩ := r2
        generalize upd (upd H p _) p' _ = H2 at s2 ⊢
        obtain ⟨da, fa, pa, xa, ha2, la, hpa, psa, ma, _⟩ := (ha.on s2).has oka
        obtain ⟨db, fb, pb, xb, hb2, lb, hpb, psb, mb, _⟩ := (hb.on s2).has okb
        obtain ⟨na1, na2⟩ := Z.parts t
        obtain ⟨nb1, nb2⟩ := Z.parts q
        have la1 := psa.len.trans (Rl.lvs_len t)
        have lb1 := psb.len.trans (Rl.lvs_len q)
        have ma1 := oka.mdl1
        have mb1 := okb.mdl1
        dsimp only [tNext, tSeq]
        refine ⟨_, rfl, a, _, da, fa, _, rfl, ha2, Z.cls _ (Rk.of t), na1, la, pa, xa, rfl, .inr (SqT.of hpa), _, rfl, b, _, db, fb, _, rfl, hb2, Z.cls _ (Rk.of q), nb1, lb, pb, xb, rfl, .inr (SqT.of hpb), _, _, rfl, rfl, _, _, rfl, rfl, _, rfl, ?_⟩
        by_cases c1 : 6 < t.cnt + q.cnt
        · exact iteT' (decide_eq_true (by omega)) (bad_leaf2 fun d fs hd e3 e4 => k4 c1 d fs H2 s2 hd e3 e4)
        refine iteF' (decide_eq_false (by omega)) ?_
        dsimp only [tNext]
        refine ⟨_, rfl, a, _, da, fa, _, rfl, ha2, Z.cls _ (Rk.of t), na2, ma, _, rfl, b, _, db, fb, _, rfl, hb2, Z.cls _ (Rk.of q), nb2, mb, _, _, rfl, by omega, by omega, _, rfl, fun c d fs hd e3 e4 => k5 (by omega) ?_ d fs H2 s2 hd e3 e4, fun c => k6 (by omega) ?_ H2 s2⟩
        · rw [Int.natAbs_natCast, Int.natAbs_natCast] at c
          omega
        · rw [Int.natAbs_natCast, Int.natAbs_natCast] at c
          omega
end
end Lw
namespace Lw
open PySem PySem.Spec PyProof.Rows L2
open SX PySem.NumText TL LamX ClX StX
set_option pp.maxSteps 900
abbrev sFxa : Stmt := inClass (top 34) 5
abbrev sDva : Stmt := inClass (top 35) 6
abbrev sLoa : Stmt := inClass (top 36) 5
abbrev sHia : Stmt := inClass (top 37) 5
abbrev sFxo : Stmt := inClass (top 34) 6
abbrev sDvo : Stmt := inClass (top 35) 7
abbrev sLoo : Stmt := inClass (top 36) 6
abbrev sHio : Stmt := inClass (top 37) 6
section
variable {FC VC LC GC : Addr} {H H' : Hp}
/-- what a heap keeps of all objects but the empty instances -/
def Tr (H H' : Hp) : Prop := ∀ a o, (∀ C dx, o ≠ HO.ins C dx []) → (∀ xs, o ≠ HO.lst xs) → H a = some o → H' a = some o
theorem Tr.fx {a : Addr} {n : Int} (tr : Tr H H') (h : FxAt FC H a n) : FxAt FC H' a n := by
  obtain ⟨dx, p, h1, h2⟩ := h
  refine ⟨dx, p, tr _ _ (fun C d e => ?_) (fun _ e => by cases e) h1, tr _ _ (fun C d e => by cases e) (fun _ e => by cases e) h2⟩
  injection e with _ _ e
  have z := fxP_mod n p
  rw [e] at z
  cases z
theorem Tr.dv {a : Addr} {x y w : Int} (tr : Tr H H') (h : DvAt VC H a x y w) : DvAt VC H' a x y w := by
  obtain ⟨dx, p, h1, h2⟩ := h
  refine ⟨dx, p, tr _ _ (fun C d e => ?_) (fun _ e => by cases e) h1, tr _ _ (fun C d e => by cases e) (fun _ e => by cases e) h2⟩
  injection e with _ _ e
  have z := dvP_mod x y w p
  rw [e] at z
  cases z
theorem Tr.lf (tr : Tr H H') {a : Addr} : ∀ {l : Rl}, LfAt FC VC H a l → LfAt FC VC H' a l
  | .fx _, h => tr.fx h
  | .dv _ _ _, h => tr.dv h
  | .lo _ _, h => h
  | .hi _ _, h => h
theorem Tr.ps (tr : Tr H H') : ∀ {vs : List V} {ls : List Rl}, PsAt FC VC H vs ls → PsAt FC VC H' vs ls
  | [], [], _ => trivial
  | _ :: _, _ :: _, ⟨⟨a, e, h⟩, r⟩ => ⟨⟨a, e, tr.lf h⟩, Tr.ps tr r⟩
  | [], _ :: _, h => h
  | _ :: _, [], h => h
theorem Tr.jn {a C dx p : Addr} {u v : V} {m : Int} (tr : Tr H H') (h : H a = some (.ins C dx (jnP u v m p))) : H' a = some (.ins C dx (jnP u v m p)) := tr _ _ (fun C d e => by
  injection e with _ _ e
  have z := jnP_mod u v m p
  rw [e] at z
  cases z) (fun _ e => by cases e) h
theorem RlAt.tr (tr : Tr H H') : ∀ {t : Rl} {a : Addr}, RlAt FC VC LC GC H t a → RlAt FC VC LC GC H' t a
  | .fx _, _, h => tr.fx h
  | .dv _ _ _, _, h => tr.dv h
  | .lo _ _, _, ⟨dx, p, b, c, ps, h1, h2, h3, h4, h5⟩ => ⟨dx, p, b, c, ps, tr.jn h1, tr _ _ (fun C d e => by cases e) (fun _ e => by cases e) h2, tr.ps h3, RlAt.tr tr h4, RlAt.tr tr h5⟩
  | .hi _ _, _, ⟨dx, p, b, c, ps, h1, h2, h3, h4, h5⟩ => ⟨dx, p, b, c, ps, tr.jn h1, tr _ _ (fun C d e => by cases e) (fun _ e => by cases e) h2, tr.ps h3, RlAt.tr tr h4, RlAt.tr tr h5⟩
theorem tr_pen {p l : Addr} {n : Nat} (hp : Pen H p l n) (k : Kp p H H') : Tr H H' := fun a o _ no h => k a o (fun e => by
  obtain ⟨_, _, _, ⟨e1, _⟩, _⟩ := hp
  rw [e, e1] at h
  cases h
  exact no _ rfl) h
theorem tr_kp {x C dx : Addr} (hx : H x = some (.ins C dx [])) (k : Kp x H H') : Tr H H' := fun a o no _ h => k a o (fun e => by rw [e, hx] at h; cases h; exact no _ _ rfl) h
end
def spJi (K : PySem.W.Frag) (FC VC LC GC DU DM : Addr) (C : Addr) (g : Rl → Rl → Rl) : Sp := fun vs H Q E => ∃ (x dx : Addr) (u v : V), vs = [.ref x, u, v] ∧ H x = some (.ins C dx []) ∧ JoD K FC VC LC GC DU DM u v H E fun s t => ∀ H', Kp x H H' → RlAt FC VC LC GC H' (g s t) x → Q .non H'
section
variable {P : Program} {w : World} {K : PySem.W.Frag} {mg : Str → Option Value} {base : Heap} {FC VC LC GC DR DM DU : Addr}
theorem JoD.imp {u v : V} {H : Hp} {E : XK} {R R' : Rl → Rl → Prop} (h : JoD K FC VC LC GC DU DM u v H E R) (m : ∀ s t, RV K FC VC LC GC H u (some s) → RV K FC VC LC GC H v (some t) → s.cnt + t.cnt ≤ 6 → Nat.lcm s.mdl t.mdl ≤ 5000 → R s t → R' s t) : JoD K FC VC LC GC DU DM u v H E R' := by
  obtain ⟨o1, o2, r1, r2, k1, k2, k3⟩ := h
  refine ⟨o1, o2, r1, r2, k1, k2, fun s t e1 e2 => ?_⟩
  obtain ⟨k4, k5, k6⟩ := k3 s t e1 e2
  subst e1 e2
  exact ⟨k4, k5, fun c1 c2 => m s t r1 r2 c1 c2 (k6 c1 c2)⟩
theorem scLoi : FnScope ["self", "one", "other"] ["self", "one", "other"] (C8.fnScope sLoi) := C8.fnScope_by (by decide +kernel)
theorem fn_loi {f : Addr} {fd : FuncData} (F : C8.Fun K "__init__" "Lesser.__init__" sLoi f fd) (Z : RlZ K mg FC VC LC GC) (hlcm : mg "lcm" = some (.builtin "math.lcm")) (DJo : CalX P w K mg base 4 "check_joined" (spJo K FC VC LC GC DU DM)) : FnOk P w K mg base (L2.CX P w) 5 f fd ["self", "one", "other"] (spJi K FC VC LC GC DU DM LC .lo) := by
  obtain ⟨oc, od, dV, kV, doc, pm, an, cdv, ct, osl, rfl, lk, hcd⟩ := F.ex
  refine fn_of lk hcd scLoi (fun vs H Q E h => ?_) fun A outer s H vs Q E hr h => ?_
  · obtain ⟨x, dx, u, v, rfl, _⟩ := h
    rfl
  · obtain ⟨x, dx, u, v, rfl, hx, j⟩ := h
    refine ⟨_, (pss_cons (ps_expr (pe_cX DJo hr (by decide) (by rfl) (passes_call (takes_of rfl rfl rfl rfl) (fun _ _ _ _ z => z)) (pa_cons (pv 1) (pa_cons (pv 2) pa_nil))))
  (pss_cons (ps_fld (pv 0) (pv 1) rfl)
  (pss_cons (ps_fld (pv 0) (pv 2) rfl)
  (pss_cons (ps_fld (pv 0) (pe_op op_catT (pe_fldK K rfl (pv 1) rfl) (pe_fldK K rfl (pv 2) rfl)) rfl)
  (pss_one (ps_fld (pv 0) (pe_callBfun cr_lcm (by rfl) hlcm (pa_cons (pe_fldK K rfl (pv 1) rfl) (pa_cons (pe_fldK K rfl (pv 2) rfl) pa_nil))) rfl)))))), ?_⟩
    refine ⟨_, rfl, _, rfl, u, v, rfl, j.imp fun s1 s2 r1 r2 c1 c2 k H2 s2' => ?_⟩
    obtain ⟨a, rfl, ha, oa⟩ := r1
    obtain ⟨b, rfl, hb, ob⟩ := r2
    have hx2 := s2' _ _ hx
    have kpu : ∀ o, Kp x H2 (upd H2 x o) := fun o b o' nb e => by rw [upd_ne nb]; exact e
    have tr3 := fun o => tr_kp hx2 (kpu o)
    obtain ⟨na1, na2⟩ := Z.parts s1
    obtain ⟨nb1, nb2⟩ := Z.parts s2
    have ma1 := oa.mdl1
    have mb1 := ob.mdl1
    have p1 := Rl.cnt_pos s1
    obtain ⟨da, fa, pa, xa, ha2, la, hpa2, psa, ma, _⟩ := (ha.on s2').has oa
    obtain ⟨db, fb, pb, xb, hb2, lb, hpb2, psb, mb, _⟩ := (hb.on s2').has ob
    have ea : ∀ C d, HO.ins (s1.cls FC VC LC GC) da fa ≠ .ins C d [] := fun C d e => by injection e with _ _ e; rw [e] at la; cases la
    have eb : ∀ C d, HO.ins (s2.cls FC VC LC GC) db fb ≠ .ins C d [] := fun C d e => by injection e with _ _ e; rw [e] at lb; cases lb
    dsimp only [tSeq]
    refine ⟨_, rfl, _, rfl, x, LC, dx, _, rfl, hx2, Z.L.cl, Z.L.n1, (by show 0 < 1000; decide), ?_⟩
    refine ⟨_, rfl, _, rfl, x, LC, dx, _, rfl, upd_same, Z.L.cl, Z.L.n2, (by show 1 < 1000; decide), ?_⟩
    rw [upd_upd]
    have t3 := tr3 (.ins LC dx (putF "other" (.ref b) (putF "one" (.ref a) [])))
    have ha3 := t3 _ _ ea (fun _ e => by cases e) ha2
    have hb3 := t3 _ _ eb (fun _ e => by cases e) hb2
    have hpa := t3 _ _ (fun C d e => by cases e) (fun _ e => by cases e) hpa2
    have hpb := t3 _ _ (fun C d e => by cases e) (fun _ e => by cases e) hpb2
    have la1 := psa.len.trans (Rl.lvs_len s1)
    have lb1 := psb.len.trans (Rl.lvs_len s2)
    have p2 := Rl.cnt_pos s2
    refine ⟨_, rfl, a, _, da, fa, _, rfl, ha3, Z.cls _ (Rk.of s1), na1, la, _, rfl, b, _, db, fb, _, rfl, hb3, Z.cls _ (Rk.of s2), nb1, lb, pa, pb, xa, xb, rfl, rfl, SqT.of hpa, SqT.of hpb, (fun e => by rw [e] at la1; simp only [List.length_nil] at la1; omega), Nat.le_trans (by omega) (by decide : 6 ≤ sizeLine), (fun e => by rw [e] at lb1; simp only [List.length_nil] at lb1; omega), fun _ p hp => ?_⟩
    have px : x ≠ p := fun z => by rw [← z, upd_same] at hp; cases hp
    refine ⟨_, rfl, x, LC, dx, _, rfl, by rw [upd_ne px]; exact upd_same, Z.L.cl, Z.L.n3, (by show 2 < 1000; decide), ?_⟩
    have K4 := fun o3 => (kp_three (o3 := o3) (tp := .tup (xa ++ xb)) hx2 hp).1
    have Kpp := fun o3 => (kp_three (o3 := o3) (tp := .tup (xa ++ xb)) hx2 hp).2
    have T4 := fun o3 => tr_kp hx2 (K4 o3)
    have t4 := T4 (.ins LC dx (putF "parts" (.ref p) (putF "other" (.ref b) (putF "one" (.ref a) []))))
    have ha4 := t4 _ _ ea (fun _ e => by cases e) ha2
    have hb4 := t4 _ _ eb (fun _ e => by cases e) hb2
    refine ⟨_, rfl, a, _, da, fa, _, rfl, ha4, Z.cls _ (Rk.of s1), na2, ma, _, rfl, b, _, db, fb, _, rfl, hb4, Z.cls _ (Rk.of s2), nb2, mb, _, _, rfl, by omega, by omega, ?_⟩
    rw [Int.natAbs_natCast, Int.natAbs_natCast]
    refine ⟨_, rfl, x, LC, dx, _, rfl, upd_same, Z.L.cl, Z.L.n4, (by show 3 < 1000; decide), ?_⟩
    rw [upd_upd]
    have hk := K4 (.ins LC dx (jnP (.ref a) (.ref b) (Nat.lcm s1.mdl s2.mdl) p))
    have ht := T4 (.ins LC dx (jnP (.ref a) (.ref b) (Nat.lcm s1.mdl s2.mdl) p))
    have hpp := Kpp (.ins LC dx (jnP (.ref a) (.ref b) (Nat.lcm s1.mdl s2.mdl) p))
    exact k _ (fun c o nc e => hk c o nc (s2' _ _ e)) ⟨dx, p, a, b, xa ++ xb, upd_same, hpp, (ht.ps psa).app (ht.ps psb), (ha.on s2').tr ht, (hb.on s2').tr ht⟩
theorem scHii : FnScope ["self", "one", "other"] ["self", "one", "other"] (C8.fnScope sHii) := C8.fnScope_by (by decide +kernel)
theorem fn_hii {f : Addr} {fd : FuncData} (F : C8.Fun K "__init__" "Greater.__init__" sHii f fd) (Z : RlZ K mg FC VC LC GC) (hlcm : mg "lcm" = some (.builtin "math.lcm")) (DJo : CalX P w K mg base 4 "check_joined" (spJo K FC VC LC GC DU DM)) : FnOk P w K mg base (L2.CX P w) 5 f fd ["self", "one", "other"] (spJi K FC VC LC GC DU DM GC .hi) := by
  obtain ⟨oc, od, dV, kV, doc, pm, an, cdv, ct, osl, rfl, lk, hcd⟩ := F.ex
  refine fn_of lk hcd scHii (fun vs H Q E h => ?_) fun A outer s H vs Q E hr h => ?_
  · obtain ⟨x, dx, u, v, rfl, _⟩ := h
    rfl
  · obtain ⟨x, dx, u, v, rfl, hx, j⟩ := h
    refine ⟨_, (pss_cons (ps_expr (pe_cX DJo hr (by decide) (by rfl) (passes_call (takes_of rfl rfl rfl rfl) (fun _ _ _ _ z => z)) (pa_cons (pv 1) (pa_cons (pv 2) pa_nil))))
  (pss_cons (ps_fld (pv 0) (pv 1) rfl)
  (pss_cons (ps_fld (pv 0) (pv 2) rfl)
  (pss_cons (ps_fld (pv 0) (pe_op op_catT (pe_fldK K rfl (pv 1) rfl) (pe_fldK K rfl (pv 2) rfl)) rfl)
  (pss_one (ps_fld (pv 0) (pe_callBfun cr_lcm (by rfl) hlcm (pa_cons (pe_fldK K rfl (pv 1) rfl) (pa_cons (pe_fldK K rfl (pv 2) rfl) pa_nil))) rfl)))))), ?_⟩
    refine ⟨_, rfl, _, rfl, u, v, rfl, j.imp fun s1 s2 r1 r2 c1 c2 k H2 s2' => ?_⟩
    obtain ⟨a, rfl, ha, oa⟩ := r1
    obtain ⟨b, rfl, hb, ob⟩ := r2
    have hx2 := s2' _ _ hx
    have kpu : ∀ o, Kp x H2 (upd H2 x o) := fun o b o' nb e => by rw [upd_ne nb]; exact e
    have tr3 := fun o => tr_kp hx2 (kpu o)
    obtain ⟨na1, na2⟩ := Z.parts s1
    obtain ⟨nb1, nb2⟩ := Z.parts s2
    have ma1 := oa.mdl1
    have mb1 := ob.mdl1
    have p1 := Rl.cnt_pos s1
    obtain ⟨da, fa, pa, xa, ha2, la, hpa2, psa, ma, _⟩ := (ha.on s2').has oa
    obtain ⟨db, fb, pb, xb, hb2, lb, hpb2, psb, mb, _⟩ := (hb.on s2').has ob
    have ea : ∀ C d, HO.ins (s1.cls FC VC LC GC) da fa ≠ .ins C d [] := fun C d e => by injection e with _ _ e; rw [e] at la; cases la
    have eb : ∀ C d, HO.ins (s2.cls FC VC LC GC) db fb ≠ .ins C d [] := fun C d e => by injection e with _ _ e; rw [e] at lb; cases lb
    dsimp only [tSeq]
    refine ⟨_, rfl, _, rfl, x, GC, dx, _, rfl, hx2, Z.G.cl, Z.G.n1, (by show 0 < 1000; decide), ?_⟩
    refine ⟨_, rfl, _, rfl, x, GC, dx, _, rfl, upd_same, Z.G.cl, Z.G.n2, (by show 1 < 1000; decide), ?_⟩
    rw [upd_upd]
    have t3 := tr3 (.ins GC dx (putF "other" (.ref b) (putF "one" (.ref a) [])))
    have ha3 := t3 _ _ ea (fun _ e => by cases e) ha2
    have hb3 := t3 _ _ eb (fun _ e => by cases e) hb2
    have hpa := t3 _ _ (fun C d e => by cases e) (fun _ e => by cases e) hpa2
    have hpb := t3 _ _ (fun C d e => by cases e) (fun _ e => by cases e) hpb2
    have la1 := psa.len.trans (Rl.lvs_len s1)
    have lb1 := psb.len.trans (Rl.lvs_len s2)
    have p2 := Rl.cnt_pos s2
    refine ⟨_, rfl, a, _, da, fa, _, rfl, ha3, Z.cls _ (Rk.of s1), na1, la, _, rfl, b, _, db, fb, _, rfl, hb3, Z.cls _ (Rk.of s2), nb1, lb, pa, pb, xa, xb, rfl, rfl, SqT.of hpa, SqT.of hpb, (fun e => by rw [e] at la1; simp only [List.length_nil] at la1; omega), Nat.le_trans (by omega) (by decide : 6 ≤ sizeLine), (fun e => by rw [e] at lb1; simp only [List.length_nil] at lb1; omega), fun _ p hp => ?_⟩
    have px : x ≠ p := fun z => by rw [← z, upd_same] at hp; cases hp
    refine ⟨_, rfl, x, GC, dx, _, rfl, by rw [upd_ne px]; exact upd_same, Z.G.cl, Z.G.n3, (by show 2 < 1000; decide), ?_⟩
    have K4 := fun o3 => (kp_three (o3 := o3) (tp := .tup (xa ++ xb)) hx2 hp).1
    have Kpp := fun o3 => (kp_three (o3 := o3) (tp := .tup (xa ++ xb)) hx2 hp).2
    have T4 := fun o3 => tr_kp hx2 (K4 o3)
    have t4 := T4 (.ins GC dx (putF "parts" (.ref p) (putF "other" (.ref b) (putF "one" (.ref a) []))))
    have ha4 := t4 _ _ ea (fun _ e => by cases e) ha2
    have hb4 := t4 _ _ eb (fun _ e => by cases e) hb2
    refine ⟨_, rfl, a, _, da, fa, _, rfl, ha4, Z.cls _ (Rk.of s1), na2, ma, _, rfl, b, _, db, fb, _, rfl, hb4, Z.cls _ (Rk.of s2), nb2, mb, _, _, rfl, by omega, by omega, ?_⟩
    rw [Int.natAbs_natCast, Int.natAbs_natCast]
    refine ⟨_, rfl, x, GC, dx, _, rfl, upd_same, Z.G.cl, Z.G.n4, (by show 3 < 1000; decide), ?_⟩
    rw [upd_upd]
    have hk := K4 (.ins GC dx (jnP (.ref a) (.ref b) (Nat.lcm s1.mdl s2.mdl) p))
    have ht := T4 (.ins GC dx (jnP (.ref a) (.ref b) (Nat.lcm s1.mdl s2.mdl) p))
    have hpp := Kpp (.ins GC dx (jnP (.ref a) (.ref b) (Nat.lcm s1.mdl s2.mdl) p))
    exact k _ (fun c o nc e => hk c o nc (s2' _ _ e)) ⟨dx, p, a, b, xa ++ xb, upd_same, hpp, (ht.ps psa).app (ht.ps psb), (ha.on s2').tr ht, (hb.on s2').tr ht⟩
end
end Lw
namespace Lw
open PySem PySem.Spec PyProof.Rows L2
open SX PySem.NumText TL LamX ClX StX
set_option pp.maxSteps 900
/-- Lesser (Greater), ready to be made -/
structure JnM (nm : Str) (g : Rl → Rl → Rl) (P : Program) (w : World) (K : PySem.W.Frag) (mg : Str → Option Value) (base : Heap) (FC VC LC GC DU DM C f : Addr) (fd : FuncData) : Prop where
  M : Mk K C f
  F : FnOk P w K mg base (L2.CX P w) 5 f fd ["self", "one", "other"] (spJi K FC VC LC GC DU DM C g)
  hm : mg nm = some (.ref C)
  b : Binds K fd ["self", "one", "other"] []
/-- u & v, u | v -/
def spAn (K : PySem.W.Frag) (FC VC LC GC DU DM : Addr) (g : Rl → Rl → Rl) : Sp := fun vs H Q E => ∃ u v, vs = [u, v] ∧ JoD K FC VC LC GC DU DM u v H E fun s t => ∀ a H', Same H H' → H a = none → RlAt FC VC LC GC H' (g s t) a → Q (.ref a) H'
section
variable {P : Program} {w : World} {K : PySem.W.Frag} {mg : Str → Option Value} {base : Heap} {FC VC LC GC DR DM DU : Addr}
theorem RV.on {H H' : Hp} {v : V} {o : Option Rl} (h : RV K FC VC LC GC H v o) (s : Same H H') : RV K FC VC LC GC H' v o := by
  cases o with
  | none =>
    obtain ⟨ty, h1, h2⟩ := h
    exact ⟨ty, fun H2 s2 => h1 H2 (s.trans s2), h2⟩
  | some t =>
    obtain ⟨a, e, h1, h2⟩ := h
    exact ⟨a, e, h1.on s, h2⟩
theorem JoD.on {u v : V} {H H' : Hp} {E : XK} {R R' : Rl → Rl → Prop} (h : JoD K FC VC LC GC DU DM u v H E R) (s : Same H H') (m : ∀ x y, R x y → R' x y) : JoD K FC VC LC GC DU DM u v H' E R' := by
  obtain ⟨o1, o2, r1, r2, k1, k2, k3⟩ := h
  refine ⟨o1, o2, r1.on s, r2.on s, fun e d fs H2 s2 => k1 e d fs H2 (s.trans s2), fun x e1 e2 d fs H2 s2 => k2 x e1 e2 d fs H2 (s.trans s2), fun x y e1 e2 => ?_⟩
  obtain ⟨k4, k5, k6⟩ := k3 x y e1 e2
  exact ⟨fun c d fs H2 s2 => k4 c d fs H2 (s.trans s2), fun c1 c2 d fs H2 s2 => k5 c1 c2 d fs H2 (s.trans s2), fun c1 c2 => m x y (k6 c1 c2)⟩
theorem JoD.make {u v : V} {H : Hp} {E : XK} {Q : VK} {C : Addr} {g : Rl → Rl → Rl} (h : JoD K FC VC LC GC DU DM u v H E fun s t => ∀ a H', Same H H' → H a = none → RlAt FC VC LC GC H' (g s t) a → Q (.ref a) H') (x dx : Addr) (hx : H x = none) (hdx : H dx = none) (ne : dx ≠ x) :
    spJi K FC VC LC GC DU DM C g [.ref x, u, v] (upd (upd H dx (.own x)) x (.ins C dx [])) (fun v H2 => v = .non ∧ Q (.ref x) H2) E := by
  have s1 : Same H (upd H dx (.own x)) := same_new hdx
  have hx1 : upd H dx (.own x) x = none := by rw [upd_ne ne.symm]; exact hx
  have s2 := s1.trans (same_new (o := HO.ins C dx []) hx1)
  exact ⟨x, dx, u, v, rfl, upd_same, h.on s2 fun s t k H' kp r => ⟨rfl, k x H' (fun b o e => kp _ _ (ne_of_none e hx) (s2 _ _ e)) hx r⟩⟩
theorem scFxa : FnScope ["self", "other"] ["self", "other"] (C8.fnScope sFxa) := C8.fnScope_by (by decide +kernel)
theorem fn_fxa {X f fM : Addr} {fd fdM : FuncData} (F : C8.Fun K "__and__" "Fixed.__and__" sFxa f fd) (LM : JnM "Lesser" .lo P w K mg base FC VC LC GC DU DM X fM fdM) : FnOk P w K mg base (L2.CX P w) 7 f fd ["self", "other"] (spAn K FC VC LC GC DU DM .lo) := by
  obtain ⟨oc, od, dV, kV, doc, pm, an, cdv, ct, osl, rfl, lk, hcd⟩ := F.ex
  refine fn_of lk hcd scFxa (fun vs H Q E h => ?_) fun A outer s H vs Q E hr h => ?_
  · obtain ⟨u, v, rfl, _⟩ := h
    rfl
  · obtain ⟨u, v, rfl, j⟩ := h
    refine ⟨_, (pss_one (ps_ret (pe_make LM.M LM.F (hr.mono (by decide)) (by rfl) LM.hm LM.b .nil (passes_call (takes_of rfl rfl rfl rfl) (fun _ _ _ _ z => z)) (pa_cons (pv 0) (pa_cons (pv 1) pa_nil))))), ?_⟩
    exact ⟨_, rfl, _, rfl, fun x dx hx hdx ne => JoD.make (Q := Q) j x dx hx hdx ne⟩
theorem scDva : FnScope ["self", "other"] ["self", "other"] (C8.fnScope sDva) := C8.fnScope_by (by decide +kernel)
theorem fn_dva {X f fM : Addr} {fd fdM : FuncData} (F : C8.Fun K "__and__" "Divided.__and__" sDva f fd) (LM : JnM "Lesser" .lo P w K mg base FC VC LC GC DU DM X fM fdM) : FnOk P w K mg base (L2.CX P w) 7 f fd ["self", "other"] (spAn K FC VC LC GC DU DM .lo) := by
  obtain ⟨oc, od, dV, kV, doc, pm, an, cdv, ct, osl, rfl, lk, hcd⟩ := F.ex
  refine fn_of lk hcd scDva (fun vs H Q E h => ?_) fun A outer s H vs Q E hr h => ?_
  · obtain ⟨u, v, rfl, _⟩ := h
    rfl
  · obtain ⟨u, v, rfl, j⟩ := h
    refine ⟨_, (pss_one (ps_ret (pe_make LM.M LM.F (hr.mono (by decide)) (by rfl) LM.hm LM.b .nil (passes_call (takes_of rfl rfl rfl rfl) (fun _ _ _ _ z => z)) (pa_cons (pv 0) (pa_cons (pv 1) pa_nil))))), ?_⟩
    exact ⟨_, rfl, _, rfl, fun x dx hx hdx ne => JoD.make (Q := Q) j x dx hx hdx ne⟩
theorem scLoa : FnScope ["self", "other"] ["self", "other"] (C8.fnScope sLoa) := C8.fnScope_by (by decide +kernel)
theorem fn_loa {X f fM : Addr} {fd fdM : FuncData} (F : C8.Fun K "__and__" "Lesser.__and__" sLoa f fd) (LM : JnM "Lesser" .lo P w K mg base FC VC LC GC DU DM X fM fdM) : FnOk P w K mg base (L2.CX P w) 7 f fd ["self", "other"] (spAn K FC VC LC GC DU DM .lo) := by
  obtain ⟨oc, od, dV, kV, doc, pm, an, cdv, ct, osl, rfl, lk, hcd⟩ := F.ex
  refine fn_of lk hcd scLoa (fun vs H Q E h => ?_) fun A outer s H vs Q E hr h => ?_
  · obtain ⟨u, v, rfl, _⟩ := h
    rfl
  · obtain ⟨u, v, rfl, j⟩ := h
    refine ⟨_, (pss_one (ps_ret (pe_make LM.M LM.F (hr.mono (by decide)) (by rfl) LM.hm LM.b .nil (passes_call (takes_of rfl rfl rfl rfl) (fun _ _ _ _ z => z)) (pa_cons (pv 0) (pa_cons (pv 1) pa_nil))))), ?_⟩
    exact ⟨_, rfl, _, rfl, fun x dx hx hdx ne => JoD.make (Q := Q) j x dx hx hdx ne⟩
theorem scHia : FnScope ["self", "other"] ["self", "other"] (C8.fnScope sHia) := C8.fnScope_by (by decide +kernel)
theorem fn_hia {X f fM : Addr} {fd fdM : FuncData} (F : C8.Fun K "__and__" "Greater.__and__" sHia f fd) (LM : JnM "Lesser" .lo P w K mg base FC VC LC GC DU DM X fM fdM) : FnOk P w K mg base (L2.CX P w) 7 f fd ["self", "other"] (spAn K FC VC LC GC DU DM .lo) := by
  obtain ⟨oc, od, dV, kV, doc, pm, an, cdv, ct, osl, rfl, lk, hcd⟩ := F.ex
  refine fn_of lk hcd scHia (fun vs H Q E h => ?_) fun A outer s H vs Q E hr h => ?_
  · obtain ⟨u, v, rfl, _⟩ := h
    rfl
  · obtain ⟨u, v, rfl, j⟩ := h
    refine ⟨_, (pss_one (ps_ret (pe_make LM.M LM.F (hr.mono (by decide)) (by rfl) LM.hm LM.b .nil (passes_call (takes_of rfl rfl rfl rfl) (fun _ _ _ _ z => z)) (pa_cons (pv 0) (pa_cons (pv 1) pa_nil))))), ?_⟩
    exact ⟨_, rfl, _, rfl, fun x dx hx hdx ne => JoD.make (Q := Q) j x dx hx hdx ne⟩
/-- __and__ of every rule -/
theorem andP {X fM : Addr} {fdM : FuncData} (LM : JnM "Lesser" .lo P w K mg base FC VC LC GC DU DM X fM fdM) {f1 f2 f3 f4 : Addr} {d1 d2 d3 d4 : FuncData}
    (F1 : C8.Fun K "__and__" "Fixed.__and__" sFxa f1 d1) (m1 : Meth K FC "__and__" f1) (b1 : Binds K d1 ["self", "other"] []) (F2 : C8.Fun K "__and__" "Divided.__and__" sDva f2 d2) (m2 : Meth K VC "__and__" f2) (b2 : Binds K d2 ["self", "other"] []) (F3 : C8.Fun K "__and__" "Lesser.__and__" sLoa f3 d3) (m3 : Meth K LC "__and__" f3) (b3 : Binds K d3 ["self", "other"] []) (F4 : C8.Fun K "__and__" "Greater.__and__" sHia f4 d4) (m4 : Meth K GC "__and__" f4) (b4 : Binds K d4 ["self", "other"] []) :
    MetP P w K mg base 7 (Rk FC VC LC GC) "__and__" (fun _ => spAn K FC VC LC GC DU DM .lo) := ⟨fun C hC => by
    rcases hC with rfl | rfl | rfl | rfl
    · exact ⟨_, _, _, m1, fn_fxa F1 LM, b1⟩
    · exact ⟨_, _, _, m2, fn_dva F2 LM, b2⟩
    · exact ⟨_, _, _, m3, fn_loa F3 LM, b3⟩
    · exact ⟨_, _, _, m4, fn_hia F4 LM, b4⟩⟩
theorem scFxo : FnScope ["self", "other"] ["self", "other"] (C8.fnScope sFxo) := C8.fnScope_by (by decide +kernel)
theorem fn_fxo {X f fM : Addr} {fd fdM : FuncData} (F : C8.Fun K "__or__" "Fixed.__or__" sFxo f fd) (GM : JnM "Greater" .hi P w K mg base FC VC LC GC DU DM X fM fdM) : FnOk P w K mg base (L2.CX P w) 7 f fd ["self", "other"] (spAn K FC VC LC GC DU DM .hi) := by
  obtain ⟨oc, od, dV, kV, doc, pm, an, cdv, ct, osl, rfl, lk, hcd⟩ := F.ex
  refine fn_of lk hcd scFxo (fun vs H Q E h => ?_) fun A outer s H vs Q E hr h => ?_
  · obtain ⟨u, v, rfl, _⟩ := h
    rfl
  · obtain ⟨u, v, rfl, j⟩ := h
    refine ⟨_, (pss_one (ps_ret (pe_make GM.M GM.F (hr.mono (by decide)) (by rfl) GM.hm GM.b .nil (passes_call (takes_of rfl rfl rfl rfl) (fun _ _ _ _ z => z)) (pa_cons (pv 0) (pa_cons (pv 1) pa_nil))))), ?_⟩
    exact ⟨_, rfl, _, rfl, fun x dx hx hdx ne => JoD.make (Q := Q) j x dx hx hdx ne⟩
theorem scDvo : FnScope ["self", "other"] ["self", "other"] (C8.fnScope sDvo) := C8.fnScope_by (by decide +kernel)
theorem fn_dvo {X f fM : Addr} {fd fdM : FuncData} (F : C8.Fun K "__or__" "Divided.__or__" sDvo f fd) (GM : JnM "Greater" .hi P w K mg base FC VC LC GC DU DM X fM fdM) : FnOk P w K mg base (L2.CX P w) 7 f fd ["self", "other"] (spAn K FC VC LC GC DU DM .hi) := by
  obtain ⟨oc, od, dV, kV, doc, pm, an, cdv, ct, osl, rfl, lk, hcd⟩ := F.ex
  refine fn_of lk hcd scDvo (fun vs H Q E h => ?_) fun A outer s H vs Q E hr h => ?_
  · obtain ⟨u, v, rfl, _⟩ := h
    rfl
  · obtain ⟨u, v, rfl, j⟩ := h
    refine ⟨_, (pss_one (ps_ret (pe_make GM.M GM.F (hr.mono (by decide)) (by rfl) GM.hm GM.b .nil (passes_call (takes_of rfl rfl rfl rfl) (fun _ _ _ _ z => z)) (pa_cons (pv 0) (pa_cons (pv 1) pa_nil))))), ?_⟩
    exact ⟨_, rfl, _, rfl, fun x dx hx hdx ne => JoD.make (Q := Q) j x dx hx hdx ne⟩
theorem scLoo : FnScope ["self", "other"] ["self", "other"] (C8.fnScope sLoo) := C8.fnScope_by (by decide +kernel)
theorem fn_loo {X f fM : Addr} {fd fdM : FuncData} (F : C8.Fun K "__or__" "Lesser.__or__" sLoo f fd) (GM : JnM "Greater" .hi P w K mg base FC VC LC GC DU DM X fM fdM) : FnOk P w K mg base (L2.CX P w) 7 f fd ["self", "other"] (spAn K FC VC LC GC DU DM .hi) := by
  obtain ⟨oc, od, dV, kV, doc, pm, an, cdv, ct, osl, rfl, lk, hcd⟩ := F.ex
  refine fn_of lk hcd scLoo (fun vs H Q E h => ?_) fun A outer s H vs Q E hr h => ?_
  · obtain ⟨u, v, rfl, _⟩ := h
    rfl
  · obtain ⟨u, v, rfl, j⟩ := h
    refine ⟨_, (pss_one (ps_ret (pe_make GM.M GM.F (hr.mono (by decide)) (by rfl) GM.hm GM.b .nil (passes_call (takes_of rfl rfl rfl rfl) (fun _ _ _ _ z => z)) (pa_cons (pv 0) (pa_cons (pv 1) pa_nil))))), ?_⟩
    exact ⟨_, rfl, _, rfl, fun x dx hx hdx ne => JoD.make (Q := Q) j x dx hx hdx ne⟩
theorem scHio : FnScope ["self", "other"] ["self", "other"] (C8.fnScope sHio) := C8.fnScope_by (by decide +kernel)
theorem fn_hio {X f fM : Addr} {fd fdM : FuncData} (F : C8.Fun K "__or__" "Greater.__or__" sHio f fd) (GM : JnM "Greater" .hi P w K mg base FC VC LC GC DU DM X fM fdM) : FnOk P w K mg base (L2.CX P w) 7 f fd ["self", "other"] (spAn K FC VC LC GC DU DM .hi) := by
  obtain ⟨oc, od, dV, kV, doc, pm, an, cdv, ct, osl, rfl, lk, hcd⟩ := F.ex
  refine fn_of lk hcd scHio (fun vs H Q E h => ?_) fun A outer s H vs Q E hr h => ?_
  · obtain ⟨u, v, rfl, _⟩ := h
    rfl
  · obtain ⟨u, v, rfl, j⟩ := h
    refine ⟨_, (pss_one (ps_ret (pe_make GM.M GM.F (hr.mono (by decide)) (by rfl) GM.hm GM.b .nil (passes_call (takes_of rfl rfl rfl rfl) (fun _ _ _ _ z => z)) (pa_cons (pv 0) (pa_cons (pv 1) pa_nil))))), ?_⟩
    exact ⟨_, rfl, _, rfl, fun x dx hx hdx ne => JoD.make (Q := Q) j x dx hx hdx ne⟩
/-- __or__ of every rule -/
theorem orP {X fM : Addr} {fdM : FuncData} (GM : JnM "Greater" .hi P w K mg base FC VC LC GC DU DM X fM fdM) {f1 f2 f3 f4 : Addr} {d1 d2 d3 d4 : FuncData}
    (F1 : C8.Fun K "__or__" "Fixed.__or__" sFxo f1 d1) (m1 : Meth K FC "__or__" f1) (b1 : Binds K d1 ["self", "other"] []) (F2 : C8.Fun K "__or__" "Divided.__or__" sDvo f2 d2) (m2 : Meth K VC "__or__" f2) (b2 : Binds K d2 ["self", "other"] []) (F3 : C8.Fun K "__or__" "Lesser.__or__" sLoo f3 d3) (m3 : Meth K LC "__or__" f3) (b3 : Binds K d3 ["self", "other"] []) (F4 : C8.Fun K "__or__" "Greater.__or__" sHio f4 d4) (m4 : Meth K GC "__or__" f4) (b4 : Binds K d4 ["self", "other"] []) :
    MetP P w K mg base 7 (Rk FC VC LC GC) "__or__" (fun _ => spAn K FC VC LC GC DU DM .hi) := ⟨fun C hC => by
    rcases hC with rfl | rfl | rfl | rfl
    · exact ⟨_, _, _, m1, fn_fxo F1 GM, b1⟩
    · exact ⟨_, _, _, m2, fn_dvo F2 GM, b2⟩
    · exact ⟨_, _, _, m3, fn_loo F3 GM, b3⟩
    · exact ⟨_, _, _, m4, fn_hio F4 GM, b4⟩⟩

end
end Lw
namespace Lw
open PySem PySem.Spec PyProof.Rows L2
open SX PySem.NumText TL LamX ClX StX
set_option pp.maxSteps 900
abbrev sLef : Stmt := top 47
abbrev sPla : Stmt := top 48
namespace Rl
/-- the leaves keep their bounds -/
def Lf : Rl → Prop
  | .fx n => 1 ≤ n ∧ n ≤ 10 ^ 30 | .dv x y w => 0 ≤ x ∧ x ≤ 24 ∧ -1000 ≤ y ∧ y ≤ 1000 ∧ 1 ≤ w ∧ w ≤ 24
  | .lo a b => a.Lf ∧ b.Lf | .hi a b => a.Lf ∧ b.Lf
theorem Lf.mdl1 : ∀ {t : Rl}, t.Lf → 1 ≤ t.mdl
  | .fx _, _ => Nat.le_refl _
  | .dv _ _ w, h => by
    obtain ⟨_, _, _, _, h1, _⟩ := h
    show 1 ≤ w.toNat
    omega
  | .lo _ _, h => Nat.lcm_pos (Lf.mdl1 h.1) (Lf.mdl1 h.2)
  | .hi _ _, h => Nat.lcm_pos (Lf.mdl1 h.1) (Lf.mdl1 h.2)
theorem Lf.ok : ∀ {t : Rl}, t.Lf → t.cnt ≤ 6 → t.mdl ≤ 5000 → t.Ok
  | .fx _, h, _, _ => h
  | .dv _ _ _, h, _, _ => h
  | .lo a b, h, c, m => by
    have c : a.cnt + b.cnt ≤ 6 := c
    have m : Nat.lcm a.mdl b.mdl ≤ 5000 := m
    have p := Nat.lcm_pos h.1.mdl1 h.2.mdl1
    exact ⟨Lf.ok h.1 (by omega) (Nat.le_trans (Nat.le_of_dvd p (Nat.dvd_lcm_left _ _)) m), Lf.ok h.2 (by omega) (Nat.le_trans (Nat.le_of_dvd p (Nat.dvd_lcm_right _ _)) m), c, m⟩
  | .hi a b, h, c, m => by
    have c : a.cnt + b.cnt ≤ 6 := c
    have m : Nat.lcm a.mdl b.mdl ≤ 5000 := m
    have p := Nat.lcm_pos h.1.mdl1 h.2.mdl1
    exact ⟨Lf.ok h.1 (by omega) (Nat.le_trans (Nat.le_of_dvd p (Nat.dvd_lcm_left _ _)) m), Lf.ok h.2 (by omega) (Nat.le_trans (Nat.le_of_dvd p (Nat.dvd_lcm_right _ _)) m), c, m⟩
end Rl
/-- a rule as the law's nested tuples -/
def PlAt (H : Hp) : Rl → Addr → Prop
  | .fx n, a => H a = some (.tup [.str (Str.ofString "fixed"), .int n])
  | .dv x y w, a => H a = some (.tup [.str (Str.ofString "divided"), .int x, .int y, .int w])
  | .lo s t, a => ∃ b c, H a = some (.tup [.str (Str.ofString "&"), .ref b, .ref c]) ∧ PlAt H s b ∧ PlAt H t c
  | .hi s t, a => ∃ b c, H a = some (.tup [.str (Str.ofString "|"), .ref b, .ref c]) ∧ PlAt H s b ∧ PlAt H t c
/-- all tuples of texts, ints and references stay -/
def Tt (H H' : Hp) : Prop := ∀ a xs, H a = some (.tup xs) → H' a = some (.tup xs)
theorem PlAt.on {H H' : Hp} (s : Tt H H') : ∀ {t : Rl} {a : Addr}, PlAt H t a → PlAt H' t a
  | .fx _, _, h => s _ _ h
  | .dv _ _ _, _, h => s _ _ h
  | .lo _ _, _, ⟨b, c, h1, h2, h3⟩ => ⟨b, c, s _ _ h1, PlAt.on s h2, PlAt.on s h3⟩
  | .hi _ _, _, ⟨b, c, h1, h2, h3⟩ => ⟨b, c, s _ _ h1, PlAt.on s h2, PlAt.on s h3⟩
theorem tt_same {H H' : Hp} (s : Same H H') : Tt H H' := fun a xs h => s a _ h
theorem tt_kp {H H' : Hp} {p l : Addr} {n : Nat} (hp : Pen H p l n) (k : Kp p H H') : Tt H H' := fun a xs h => k a _ (fun e => by
  obtain ⟨_, _, _, ⟨e1, _⟩, _⟩ := hp
  rw [e, e1] at h
  cases h) h
theorem kp_trans {p : Addr} {H1 H2 H3 : Hp} (a : Kp p H1 H2) (b : Kp p H2 H3) : Kp p H1 H3 := fun x o n e => b x o n (a x o n e)
theorem kp_same {p : Addr} {H1 H2 : Hp} (s : Same H1 H2) : Kp p H1 H2 := fun x o _ e => s x o e
def spLef : Sp := fun vs H Q _ => ∃ (p pl : Addr) (n : Nat), vs = [.ref p] ∧ Pen H p pl n ∧ n ≤ 900000 ∧ ∀ t a H', t.Lf → t.cnt = 1 → PlAt H' t a → Pen H' p pl (n + 7) → Kp p H H' → Q (.ref a) H'
def spPla (n : Nat) : Sp := fun vs H Q _ => ∃ (p pl : Addr) (k m : Nat), vs = [.ref p, .int m] ∧ 1 ≤ m ∧ m ≤ n ∧ m ≤ 10 ∧ Pen H p pl k ∧ k + 20 * m ≤ 800000 ∧ ∀ t a H', t.Lf → t.cnt = m → PlAt H' t a → Pen H' p pl (k + (9 * m - 2)) → Kp p H H' → Q (.ref a) H'
theorem oneof {l : List Int} {j : Nat} {v : V} {lo hi : Int} (h : (l.map V.int)[j]? = some v) (b : ∀ i ∈ l, lo ≤ i ∧ i ≤ hi) : ∃ i, v = .int i ∧ lo ≤ i ∧ i ≤ hi := by
  rw [List.getElem?_map] at h
  cases e : l[j]? with
  | none => rw [e] at h; cases h
  | some i =>
    rw [e] at h
    cases h
    exact ⟨i, rfl, b i (List.mem_of_getElem? e)⟩
section
variable {P : Program} {w : World} {K : PySem.W.Frag} {mg : Str → Option Value} {base : Heap} {FC VC LC GC DR DM DU : Addr}
theorem scLef : FnScope ["_law_pen_here", "_law_x_so", "_law_y_so"] ["_law_pen_here"] (C8.fnScope sLef) := C8.fnScope_by (by decide +kernel)
theorem cal_lef {f : Addr} {fd : FuncData} (F : C8.Def K mg "_law_leaf" sLef f fd) (b : Binds K fd ["_law_pen_here"] []) (D0 : C8.Cal P w K mg base 1 "_law_draw" spDraw []) (DP : C8.Cal P w K mg base 2 "_law_pick" (spPick K) []) : C8.Cal P w K mg base 3 "_law_leaf" spLef [] := by
  refine C8.cal0 F b .nil scLef (fun vs H Q E h => ?_) (fun cdv A outer st H vs Q E hr h => ?_)
  · obtain ⟨p, pl, n, rfl, _⟩ := h
    rfl
  · obtain ⟨p, pl, n, rfl, hp, hn, k⟩ := h
    refine ⟨_, (pss_cons (ps_if (pt_cmpR op_eq (C8.pe_c D0 hr (by omega) (by rfl) (pa_cons (pv 0) (pa_cons pe_int pa_nil))) pe_int (nomark _)) (pss_one (ps_ret (pe_tup (pa_cons pe_str (pa_cons (C8.pe_c DP hr (by omega) (by rfl) (pa_cons (pv 0) (pa_cons (pe_lst (pa_cons pe_int (pa_cons pe_int (pa_cons pe_int (pa_cons pe_int (pa_cons (pe_op op_pow pe_int pe_int) (pa_cons (pe_op op_add pe_int (C8.pe_c D0 hr (by omega) (by rfl) (pa_cons (pv 0) (pa_cons pe_int pa_nil)))) pa_nil))))))) pa_nil))) pa_nil))))) pss_nil)
  (pss_cons (ps_set (i := 1) scLef.nd rfl (Or.inl rfl) (C8.pe_c DP hr (by omega) (by rfl) (pa_cons (pv 0) (pa_cons (pe_lst (pa_cons pe_int (pa_cons pe_int (pa_cons pe_int (pa_cons pe_int (pa_cons pe_int (pa_cons pe_int (pa_cons pe_int (pa_cons (C8.pe_c D0 hr (by omega) (by rfl) (pa_cons (pv 0) (pa_cons pe_int pa_nil))) pa_nil))))))))) pa_nil))))
  (pss_cons (ps_set (i := 2) scLef.nd rfl (Or.inl rfl) (C8.pe_c DP hr (by omega) (by rfl) (pa_cons (pv 0) (pa_cons (pe_lst (pa_cons pe_int (pa_cons pe_int (pa_cons pe_int (pa_cons (pe_un un_neg pe_int) (pa_cons pe_int (pa_cons (pe_un un_neg pe_int) (pa_cons pe_int (pa_cons (pe_un un_neg pe_int) (pa_cons (pe_op op_sub (C8.pe_c D0 hr (by omega) (by rfl) (pa_cons (pv 0) (pa_cons pe_int pa_nil))) pe_int) pa_nil)))))))))) pa_nil))))
  (pss_one (ps_ret (pe_tup (pa_cons pe_str (pa_cons (pv 1) (pa_cons (pv 2) (pa_cons (C8.pe_c DP hr (by omega) (by rfl) (pa_cons (pv 0) (pa_cons (pe_lst (pa_cons pe_int (pa_cons pe_int (pa_cons pe_int (pa_cons pe_int (pa_cons pe_int (pa_cons pe_int (pa_cons pe_int (pa_cons (pe_op op_add pe_int (C8.pe_c D0 hr (by omega) (by rfl) (pa_cons (pv 0) (pa_cons pe_int pa_nil)))) pa_nil))))))))) pa_nil))) pa_nil)))))))))), ?_⟩
    dsimp only [tSeq]
    refine ⟨_, rfl, p, pl, _, 4, rfl, by decide, by decide, hp, by omega, fun r1 H1 r10 r11 hp1 kp1 => ?_⟩
    refine ⟨rfl, _, rfl, ?_⟩
    by_cases c : V.int r1 = V.int 0
    · refine iteT' (decide_eq_true c) ?_
      refine ⟨_, rfl, _, _, rfl, rfl, (by unfold CPow; decide), _, rfl, p, pl, _, 30, rfl, by decide, by decide, hp1, by omega, fun r2 H2 r20 r21 hp2 kp2 => ⟨_, _, rfl, rfl, (by show 6 ≤ sizeLine; decide), fun qa fqa => ?_⟩⟩
      have s3 := same_new (o := HO.lst [V.int 1, V.int 2, V.int 3, V.int 8, V.int (10 ^ (30 : Int).toNat), V.int (1 + r2)]) fqa
      refine ⟨p, pl, qa, _, _, rfl, hp2.keep s3, by omega, SqL.of upd_same, hp2.ne_new fqa, by show 0 < 6; decide, by show 6 < 1000000; decide, fun j v H4 hj hp4 kp4 => ⟨(by show 2 ≤ sizeLine; decide), fun u fu => ?_⟩⟩
      obtain ⟨i, rfl, i1, i2⟩ := oneof (l := [1, 2, 3, 8, 10 ^ (30 : Int).toNat, 1 + r2]) (lo := 1) (hi := 10 ^ 30) hj (fun i hi => by
        simp only [List.mem_cons, List.not_mem_nil, or_false] at hi
        rcases hi with rfl | rfl | rfl | rfl | rfl | rfl <;> first | decide | (constructor <;> omega))
      exact k (.fx i) u _ ⟨i1, i2⟩ rfl upd_same ((hp4.keep (same_new fu)).more (by omega)) (kp_trans kp1 (kp_trans kp2 (kp_trans (kp_same s3) (kp_trans kp4 (kp_same (same_new fu))))))
    · refine iteF' (decide_eq_false c) ?_
      dsimp only [tNext, tSeq]
      refine ⟨_, rfl, _, rfl, p, pl, _, 25, rfl, by decide, by decide, hp1, by omega, fun r2 H2 r20 r21 hp2 kp2 => ⟨(by show 8 ≤ sizeLine; decide), fun qa fqa => ?_⟩⟩
      have s3 := same_new (o := HO.lst [V.int 0, V.int 1, V.int 1, V.int 1, V.int 2, V.int 5, V.int 24, V.int r2]) fqa
      refine ⟨p, pl, qa, _, _, rfl, hp2.keep s3, by omega, SqL.of upd_same, hp2.ne_new fqa, by show 0 < 8; decide, by show 8 < 1000000; decide, fun j v H4 hj hp4 kp4 => ?_⟩
      obtain ⟨x, rfl, x1, x2⟩ := oneof (l := [0, 1, 1, 1, 2, 5, 24, r2]) (lo := 0) (hi := 24) hj (fun i hi => by
        simp only [List.mem_cons, List.not_mem_nil, or_false] at hi
        rcases hi with rfl | rfl | rfl | rfl | rfl | rfl | rfl | rfl <;> first | decide | (constructor <;> omega))
      have ka := kp_trans kp1 (kp_trans kp2 (kp_trans (kp_same s3) kp4))
      clear kp1 kp2 s3 kp4 hp1 hp2 fqa hj
      dsimp only [gName]
      refine ⟨_, rfl, _, rfl, _, rfl, _, rfl, _, rfl, p, pl, _, 41, rfl, by decide, by decide, hp4, by omega, fun r3 H5 r30 r31 hp5 kp5 => ⟨_, _, rfl, rfl, (by show 9 ≤ sizeLine; decide), fun qb fqb => ?_⟩⟩
      have s6 := same_new (o := HO.lst [V.int 0, V.int 0, V.int 1, V.int (-1), V.int 5, V.int (-20), V.int 1000, V.int (-1000), V.int (r3 - 20)]) fqb
      refine ⟨p, pl, qb, _, _, rfl, hp5.keep s6, by omega, SqL.of upd_same, hp5.ne_new fqb, by show 0 < 9; decide, by show 9 < 1000000; decide, fun j2 v2 H7 hj2 hp7 kp7 => ?_⟩
      obtain ⟨y, rfl, y1, y2⟩ := oneof (l := [0, 0, 1, -1, 5, -20, 1000, -1000, r3 - 20]) (lo := -1000) (hi := 1000) hj2 (fun i hi => by
        simp only [List.mem_cons, List.not_mem_nil, or_false] at hi
        rcases hi with rfl | rfl | rfl | rfl | rfl | rfl | rfl | rfl | rfl <;> first | decide | (constructor <;> omega))
      have kb := kp_trans ka (kp_trans kp5 (kp_trans (kp_same s6) kp7))
      clear ka kp5 s6 kp7 hp4 hp5 fqb hj2
      dsimp only [gName]
      refine ⟨_, rfl, _, rfl, _, rfl, _, rfl, p, pl, _, 24, rfl, by decide, by decide, hp7, by omega, fun r4 H8 r40 r41 hp8 kp8 => ⟨_, _, rfl, rfl, (by show 8 ≤ sizeLine; decide), fun qc fqc => ?_⟩⟩
      have s9 := same_new (o := HO.lst [V.int 1, V.int 2, V.int 2, V.int 3, V.int 4, V.int 5, V.int 24, V.int (1 + r4)]) fqc
      refine ⟨p, pl, qc, _, _, rfl, hp8.keep s9, by omega, SqL.of upd_same, hp8.ne_new fqc, by show 0 < 8; decide, by show 8 < 1000000; decide, fun j3 v3 H10 hj3 hp10 kp10 => ⟨(by show 4 ≤ sizeLine; decide), fun u fu => ?_⟩⟩
      obtain ⟨q, rfl, q1, q2⟩ := oneof (l := [1, 2, 2, 3, 4, 5, 24, 1 + r4]) (lo := 1) (hi := 24) hj3 (fun i hi => by
        simp only [List.mem_cons, List.not_mem_nil, or_false] at hi
        rcases hi with rfl | rfl | rfl | rfl | rfl | rfl | rfl | rfl <;> first | decide | (constructor <;> omega))
      exact k (.dv x y q) u _ ⟨x1, x2, y1, y2, q1, q2⟩ rfl upd_same ((hp10.keep (same_new fu)).more (by omega)) (kp_trans kb (kp_trans kp8 (kp_trans (kp_same s9) (kp_trans kp10 (kp_same (same_new fu))))))
theorem scPla : FnScope ["_law_pen_here", "_law_many", "_law_few"] ["_law_pen_here", "_law_many"] (C8.fnScope sPla) := C8.fnScope_by (by decide +kernel)
theorem cal_pla1 {n : Nat} {f : Addr} {fd : FuncData} (F : C8.Def K mg "_law_plain" sPla f fd) (b : Binds K fd ["_law_pen_here", "_law_many"] []) (D0 : C8.Cal P w K mg base 1 "_law_draw" spDraw []) (DP : C8.Cal P w K mg base 2 "_law_pick" (spPick K) []) (DLf : C8.Cal P w K mg base 3 "_law_leaf" spLef []) (W : C8.Cal P w K mg base (3 + n) "_law_plain" (spPla n) []) : C8.Cal P w K mg base (4 + n) "_law_plain" (spPla (n + 1)) [] := by
  rw [show 4 + n = (3 + n) + 1 by omega]
  refine C8.cal0 F b .nil scPla (fun vs H Q E h => ?_) (fun cdv A outer st H vs Q E hr h => ?_)
  · obtain ⟨p, pl, k0, m, rfl, _⟩ := h
    rfl
  · obtain ⟨p, pl, k0, m, rfl, m1, mn, m10, hp, hk, k⟩ := h
    refine ⟨_, (pss_cons (ps_if (pt_cmpR op_lt (pv 1) pe_int (nomark _)) (pss_one (ps_ret (C8.pe_c DLf hr (by omega) (by rfl) (pa_cons (pv 0) pa_nil)))) pss_nil)
  (pss_cons (ps_set (i := 2) scPla.nd rfl (Or.inl rfl) (pe_op op_add pe_int (C8.pe_c D0 hr (by omega) (by rfl) (pa_cons (pv 0) (pa_cons (pe_op op_sub (pv 1) pe_int) pa_nil)))))
  (pss_one (ps_ret (pe_tup (pa_cons (C8.pe_c DP hr (by omega) (by rfl) (pa_cons (pv 0) (pa_cons (pe_lst (pa_cons pe_str (pa_cons pe_str pa_nil))) pa_nil))) (pa_cons (C8.pe_c W hr (Nat.le_refl _) (by rfl) (pa_cons (pv 0) (pa_cons (pv 2) pa_nil))) (pa_cons (C8.pe_c W hr (Nat.le_refl _) (by rfl) (pa_cons (pv 0) (pa_cons (pe_op op_sub (pv 1) (pv 2)) pa_nil))) pa_nil)))))))), ?_⟩
    dsimp only [tSeq]
    refine ⟨_, rfl, _, _, rfl, rfl, _, rfl, ?_⟩
    by_cases c : (m : Int) < 2
    · exact iteT' (decide_eq_true c) ⟨_, rfl, p, pl, k0, rfl, hp, by omega, fun t a H' lf ct pa hp' kp => k t a H' lf (by omega) pa (hp'.more (by omega)) kp⟩
    refine iteF' (decide_eq_false c) ?_
    dsimp only [tNext]
    refine ⟨_, rfl, _, rfl, _, _, rfl, rfl, p, pl, _, _, rfl, by omega, Int.lt_of_le_of_lt (by omega : (m : Int) - 1 ≤ 9) (by decide), hp, by omega, fun r H1 r0 r1 hp1 kp1 => ⟨_, _, rfl, rfl, ?_⟩⟩
    obtain ⟨rn, rfl⟩ := Int.eq_ofNat_of_zero_le r0
    dsimp only [gName]
    refine ⟨_, rfl, (by show 2 ≤ sizeLine; decide), fun qa fqa => ?_⟩
    have s2 := same_new (o := HO.lst [V.str (Str.ofString "&"), V.str (Str.ofString "|")]) fqa
    refine ⟨p, pl, qa, _, _, rfl, hp1.keep s2, by omega, SqL.of upd_same, hp1.ne_new fqa, by show 0 < 2; decide, by show 2 < 1000000; decide, fun j v H3 hj hp3 kp3 => ?_⟩
    have k3 := kp_trans kp1 (kp_trans (kp_same s2) kp3)
    refine ⟨_, rfl, _, rfl, p, pl, _, 1 + rn, congrArg (fun i => [V.ref p, V.int i]) (by omega), by omega, by omega, by omega, hp3, by omega, fun t1 a1 H4 lf1 ct1 pa1 hp4 kp4 => ?_⟩
    refine ⟨_, rfl, _, rfl, _, rfl, _, _, rfl, rfl, p, pl, _, m - (1 + rn), congrArg (fun i => [V.ref p, V.int i]) (by omega), by omega, by omega, by omega, hp4, by omega, fun t2 a2 H5 lf2 ct2 pa2 hp5 kp5 => ⟨(by show 3 ≤ sizeLine; decide), fun u fu => ?_⟩⟩
    have k5 := kp_trans k3 (kp_trans kp4 (kp_trans kp5 (kp_same (same_new (o := HO.tup [v, V.ref a1, V.ref a2]) fu))))
    have t6 := tt_same (same_new (o := HO.tup [v, V.ref a1, V.ref a2]) fu)
    have q1 := (pa1.on (tt_kp hp4 kp5)).on t6
    have q2 := pa2.on t6
    have pen := (hp5.keep (same_new (o := HO.tup [v, V.ref a1, V.ref a2]) fu)).more (m := k0 + (9 * m - 2)) (by omega)
    have hv := List.mem_of_getElem? hj
    simp only [List.mem_cons, List.not_mem_nil, or_false] at hv
    rcases hv with rfl | rfl
    · exact k (.lo t1 t2) u _ ⟨lf1, lf2⟩ (by show t1.cnt + t2.cnt = m; omega) ⟨a1, a2, upd_same, q1, q2⟩ pen k5
    · exact k (.hi t1 t2) u _ ⟨lf1, lf2⟩ (by show t1.cnt + t2.cnt = m; omega) ⟨a1, a2, upd_same, q1, q2⟩ pen k5
theorem cal_pla {f : Addr} {fd : FuncData} (F : C8.Def K mg "_law_plain" sPla f fd) (b : Binds K fd ["_law_pen_here", "_law_many"] []) (D0 : C8.Cal P w K mg base 1 "_law_draw" spDraw []) (DP : C8.Cal P w K mg base 2 "_law_pick" (spPick K) []) (DLf : C8.Cal P w K mg base 3 "_law_leaf" spLef []) : ∀ n, C8.Cal P w K mg base (3 + n) "_law_plain" (spPla n) []
  | 0 => ⟨f, fd, _, [], ⟨fun vs H Q E ⟨_, _, _, m, _, h1, h2, _⟩ => absurd h1 (by omega), fun _ _ _ _ _ _ _ _ _ _ _ _ _ ⟨_, _, _, m, _, h1, h2, _⟩ => absurd h1 (by omega)⟩, F.mgf, F.kp, b, .nil⟩
  | n + 1 => by
    have := cal_pla1 F b D0 DP DLf (cal_pla F b D0 DP DLf n)
    rw [show 3 + (n + 1) = 4 + n by omega]
    exact this
end
end Lw
namespace Lw
open PySem PySem.Spec PyProof.Rows L2
open SX PySem.NumText TL LamX ClX StX
set_option pp.maxSteps 900
abbrev sLoq : Stmt := inClass (top 36) 7
abbrev sHiq : Stmt := inClass (top 37) 7
/-- whether two rules are alike -/
def Rl.eqb : Rl → Rl → Bool
  | .fx m, .fx n => decide (m = n)
  | .dv x y w, .dv x' y' w' => decide (x = x') && (decide (y = y') && decide (w = w'))
  | .lo a b, .lo c d => a.eqb c && b.eqb d
  | .hi a b, .hi c d => a.eqb c && b.eqb d
  | _, _ => false
section
variable {X : Cx} {C : Addr} {k j : Nat} {sp : Sp} {E : XK}
open L2 in
def rXR (K : PySem.W.Frag) (C : Addr) (sp : Sp) (E : XK) : R2 := fun x y H Q => ∃ a dx fs t, x = .ref a ∧ H a = some (.ins C dx fs) ∧ TyX K H y t ∧ PySem.W.notFirst K C t = true ∧ sp [x, y] H Q E
theorem op_eqXK (K' : PySem.W.Frag) (hK : X.K = K') (M : MetX X.prog X.w X.K X.mg X.base k C "__eq__" sp) (hx : Passes (L2.CX X.prog X.w) X E) (hr : Room j X.A) (hk : k ≤ j) : OpR X (compareOp .Eq) (rXR K' C sp E) := by
  subst hK
  intro pins s σ H x y v u Q I rx ry h
  obtain ⟨a, dx, fs, t, rfl, ha, hy, hn, q⟩ := h
  cases (show v = Value.ref a from rx)
  obtain ⟨_, _, J⟩ := ins_at I ha
  obtain ⟨W, Z, p, _⟩ := kit_of I ry hy
  obtain ⟨g, hm, w, _⟩ := run_met (us := [.ref a, u]) (vs := [.ref a, y]) M hx hr hk I (.cons rfl (.cons ry .nil)) q
  obtain ⟨m, hF⟩ := I.fr
  show wpAny (model X.prog X.w) X.A (richCompare .Eq _ u) (EP X pins σ Q) X.xe s
  exact PySem.W.cmp_K (op := .Eq) hr.units0 hF I.ok.mod.kin J (Z.ty _ _ I.kIn p) hn hm.at_ hm.fn w
end
section
variable {X : Cx} {Pc : Addr → Prop} {k j : Nat} {sp : Addr → Sp} {E : XK}
def rPE (K : PySem.W.Frag) (Pc : Addr → Prop) (sp : Addr → Sp) (E : XK) : R2 := fun x y H Q => ∃ a C dx fs t, x = .ref a ∧ Pc C ∧ H a = some (.ins C dx fs) ∧ L2.TyX K H y t ∧ PySem.W.notFirst K C t = true ∧ sp C [x, y] H Q E
theorem op_eqPE (K' : PySem.W.Frag) (hK : X.K = K') (M : MetP X.prog X.w X.K X.mg X.base k Pc "__eq__" sp) (hx : Passes (L2.CX X.prog X.w) X E) (hr : Room j X.A) (hk : k ≤ j) : OpR X (compareOp .Eq) (rPE K' Pc sp E) := by
  intro pins s σ H x y v u Q I rx ry ⟨a, C, dx, fs, t, ex, pc, ha, hy, hn, q⟩
  exact op_eqXK K' hK (M.all C pc) hx hr hk pins s σ H x y v u Q I rx ry ⟨a, dx, fs, t, ex, ha, hy, hn, q⟩
end
/-- == of two rules -/
def spTe (FC VC LC GC : Addr) (n : Nat) (C : Addr) : Sp := fun vs H Q _ => ∃ a b s t, vs = [.ref a, .ref b] ∧ s.cls FC VC LC GC = C ∧ RlAt FC VC LC GC H s a ∧ RlAt FC VC LC GC H t b ∧ s.Ok ∧ t.Ok ∧ s.cnt ≤ n ∧ Q (.bl (s.eqb t)) H
section
variable {P : Program} {w : World} {K : PySem.W.Frag} {mg : Str → Option Value} {base : Heap} {FC VC LC GC DR DM DU : Addr}
theorem RlZ.tz (Z : RlZ K mg FC VC LC GC) {H : Hp} {t : Rl} {b : Addr} (h : RlAt FC VC LC GC H t b) (ok : t.Ok) : L2.TyX K H (.ref b) (.ref (t.cls FC VC LC GC)) := by
  obtain ⟨dx, fs, _, _, hb, _⟩ := h.has ok
  have I := Z.ins _ (Rk.of t)
  exact .base (.ins hb I.cl I.ha I.hn I.htk I.hm)
theorem RlZ.no (Z : RlZ K mg FC VC LC GC) {H : Hp} {t : Rl} {b C : Addr} (h : RlAt FC VC LC GC H t b) (ok : t.Ok) (hC : Rk FC VC LC GC C) (ne : t.cls FC VC LC GC ≠ C) : NoI K C H (.ref b) :=
  ⟨_, .x (Z.tz h ok), by rw [Z.kit _ _ (Rk.of t) hC, decide_eq_false ne]⟩
theorem fx_te (Z : RlZ K mg FC VC LC GC) {k n : Nat} {f : Addr} {fd : FuncData} {ps : List Str} (F : FnOk P w K mg base (L2.CX P w) k f fd ps (spFxe K FC)) : FnOk P w K mg base (L2.CX P w) k f fd ps (spTe FC VC LC GC n FC) := F.imp fun vs H Q E h => by
  obtain ⟨a, b, s, t, rfl, hc, ha, hb, os, ot, _, q⟩ := h
  cases s with
  | fx m =>
    refine ⟨a, .ref b, m, rfl, ha, ?_⟩
    cases t with
    | fx i =>
      exact .inr ⟨b, i, rfl, hb, q⟩
    | dv x y w => exact .inl ⟨Z.no hb ot (.inl rfl) Z.d1.symm, q⟩
    | lo x y => exact .inl ⟨Z.no hb ot (.inl rfl) Z.d2.symm, q⟩
    | hi x y => exact .inl ⟨Z.no hb ot (.inl rfl) Z.d3.symm, q⟩
  | dv x y w => exact absurd hc.symm Z.d1
  | lo x y => exact absurd hc.symm Z.d2
  | hi x y => exact absurd hc.symm Z.d3
theorem dv_te (Z : RlZ K mg FC VC LC GC) {k n : Nat} {f : Addr} {fd : FuncData} {ps : List Str} (F : FnOk P w K mg base (L2.CX P w) k f fd ps (spDve K VC)) : FnOk P w K mg base (L2.CX P w) k f fd ps (spTe FC VC LC GC n VC) := F.imp fun vs H Q E h => by
  obtain ⟨a, b, s, t, rfl, hc, ha, hb, os, ot, _, q⟩ := h
  cases s with
  | fx m => exact absurd hc Z.d1
  | dv x y q0 =>
    refine ⟨a, .ref b, x, y, q0, rfl, ha, ?_⟩
    cases t with
    | fx i => exact .inl ⟨Z.no hb ot (.inr (.inl rfl)) Z.d1, q⟩
    | dv x' y' q' =>
      exact .inr ⟨b, x', y', q', rfl, hb, q⟩
    | lo x y => exact .inl ⟨Z.no hb ot (.inr (.inl rfl)) Z.d4.symm, q⟩
    | hi x y => exact .inl ⟨Z.no hb ot (.inr (.inl rfl)) Z.d5.symm, q⟩
  | lo x y => exact absurd hc.symm Z.d4
  | hi x y => exact absurd hc.symm Z.d5
theorem scLoq : FnScope ["self", "other"] ["self", "other"] (C8.fnScope sLoq) := C8.fnScope_by (by decide +kernel)
theorem fn_loq {f : Addr} {fd : FuncData} (F : C8.Fun K "__eq__" "Lesser.__eq__" sLoq f fd) (T : Txt mg) (Z : RlZ K mg FC VC LC GC) (nf : ∀ C D, Rk FC VC LC GC C → Rk FC VC LC GC D → PySem.W.notFirst K C (.ref D) = true) {n : Nat} (W : MetP P w K mg base (1 + n) (Rk FC VC LC GC) "__eq__" (spTe FC VC LC GC n)) : FnOk P w K mg base (L2.CX P w) (2 + n) f fd ["self", "other"] (spTe FC VC LC GC (n + 1) LC) := by
  obtain ⟨oc, od, dV, kV, doc, pm, an, cdv, ct, osl, rfl, lk, hcd⟩ := F.ex
  rw [show 2 + n = (1 + n) + 1 by omega]
  refine fn_of lk hcd scLoq (fun vs H Q E h => ?_) fun A outer s H vs Q E hr h => ?_
  · obtain ⟨a, b, s, t, rfl, _⟩ := h
    rfl
  · obtain ⟨a, b, s, t, rfl, hc, ha, hb, os, ot, hn, q⟩ := h
    refine ⟨_, (pss_one (ps_ret (pe_and (pe_callB L2.call_isi (by rfl) T.n_isinstance (by decide +kernel) (pa_cons (pv 1) (pa_cons (pe_glob (v := .ref LC) (by rfl) Z.hL rfl) pa_nil))) (pe_and (pe_cmpR (op_eqPE K rfl W (passes_call takes0 (fun _ _ _ _ z => z)) hr (Nat.le_refl _)) (pe_fldK K rfl (pv 0) rfl) (pe_fldK K rfl (pv 1) rfl) (nomark _)) (pe_one (pe_cmpR (op_eqPE K rfl W (passes_call takes0 (fun _ _ _ _ z => z)) hr (Nat.le_refl _)) (pe_fldK K rfl (pv 0) rfl) (pe_fldK K rfl (pv 1) rfl) (nomark _))))))), ?_⟩
    obtain ⟨s1, s2, rfl⟩ : ∃ s1 s2, s = .lo s1 s2 := by
      cases s with
      | fx m => exact absurd hc Z.d2
      | dv x y w => exact absurd hc Z.d4
      | lo x y => exact ⟨x, y, rfl⟩
      | hi x y => exact absurd hc.symm Z.d6
    obtain ⟨dx, p, c1, c2, ps, h1, h2, h3, h4, h5⟩ := id ha
    obtain ⟨o1, o2, _, _⟩ := id os
    have n1 : s1.cnt + s2.cnt ≤ n + 1 := hn
    have p1 := Rl.cnt_pos s1
    have p2 := Rl.cnt_pos s2
    have tz := Z.tz hb ot
    have kt := fun D hD => Z.kit (t.cls FC VC LC GC) D (Rk.of t) hD
    cases t with
    | fx m => exact ⟨_, rfl, _, .ref LC, _, .ref LC, false, rfl, .own LC, tz, ((kt LC (.inr (.inr (.inl rfl)))).trans (congrArg some (decide_eq_false Z.d2))), _, rfl, iteF q⟩
    | dv x y w => exact ⟨_, rfl, _, .ref LC, _, .ref LC, false, rfl, .own LC, tz, ((kt LC (.inr (.inr (.inl rfl)))).trans (congrArg some (decide_eq_false Z.d4))), _, rfl, iteF q⟩
    | hi x y => exact ⟨_, rfl, _, .ref LC, _, .ref LC, false, rfl, .own LC, tz, ((kt LC (.inr (.inr (.inl rfl)))).trans (congrArg some (decide_eq_false Z.d6.symm))), _, rfl, iteF q⟩
    | lo t1 t2 =>
      obtain ⟨dy, p', e1, e2, ps', g1, g2, g3, g4, g5⟩ := id hb
      obtain ⟨r1, r2, _, _⟩ := id ot
      obtain ⟨dc1, fc1, _, _, hc1, _⟩ := h4.has o1
      obtain ⟨dc2, fc2, _, _, hc2, _⟩ := h5.has o2
      refine ⟨_, rfl, _, .ref LC, _, .ref LC, true, rfl, .own LC, tz, ((kt LC (.inr (.inr (.inl rfl)))).trans (congrArg some (decide_eq_true rfl))), _, rfl, iteT ?_⟩
      have q' : Q (.bl (s1.eqb t1 && s2.eqb t2)) H := q
      refine ⟨_, rfl, a, LC, dx, _, _, rfl, h1, Z.L.cl, Z.L.n1, jnP_one _ _ _ _, _, rfl, b, LC, dy, _, _, rfl, g1, Z.L.cl, Z.L.n1, jnP_one _ _ _ _, c1, _, dc1, fc1, _, rfl, Rk.of s1, hc1, Z.tz g4 r1, nf _ _ (Rk.of s1) (Rk.of t1), c1, e1, s1, t1, rfl, rfl, h4, g4, o1, r1, by omega, ?_⟩
      cases x1 : s1.eqb t1 with
      | false =>
        rw [x1, Bool.false_and] at q'
        exact ⟨_, rfl, iteF q'⟩
      | true =>
        rw [x1, Bool.true_and] at q'
        exact ⟨_, rfl, iteT ⟨_, rfl, a, LC, dx, _, _, rfl, h1, Z.L.cl, Z.L.n2, jnP_other _ _ _ _, _, rfl, b, LC, dy, _, _, rfl, g1, Z.L.cl, Z.L.n2, jnP_other _ _ _ _, c2, _, dc2, fc2, _, rfl, Rk.of s2, hc2, Z.tz g5 r2, nf _ _ (Rk.of s2) (Rk.of t2), c2, e2, s2, t2, rfl, rfl, h5, g5, o2, r2, by omega, q'⟩⟩
theorem scHiq : FnScope ["self", "other"] ["self", "other"] (C8.fnScope sHiq) := C8.fnScope_by (by decide +kernel)
theorem fn_hiq {f : Addr} {fd : FuncData} (F : C8.Fun K "__eq__" "Greater.__eq__" sHiq f fd) (T : Txt mg) (Z : RlZ K mg FC VC LC GC) (nf : ∀ C D, Rk FC VC LC GC C → Rk FC VC LC GC D → PySem.W.notFirst K C (.ref D) = true) {n : Nat} (W : MetP P w K mg base (1 + n) (Rk FC VC LC GC) "__eq__" (spTe FC VC LC GC n)) : FnOk P w K mg base (L2.CX P w) (2 + n) f fd ["self", "other"] (spTe FC VC LC GC (n + 1) GC) := by
  obtain ⟨oc, od, dV, kV, doc, pm, an, cdv, ct, osl, rfl, lk, hcd⟩ := F.ex
  rw [show 2 + n = (1 + n) + 1 by omega]
  refine fn_of lk hcd scHiq (fun vs H Q E h => ?_) fun A outer s H vs Q E hr h => ?_
  · obtain ⟨a, b, s, t, rfl, _⟩ := h
    rfl
  · obtain ⟨a, b, s, t, rfl, hc, ha, hb, os, ot, hn, q⟩ := h
    refine ⟨_, (pss_one (ps_ret (pe_and (pe_callB L2.call_isi (by rfl) T.n_isinstance (by decide +kernel) (pa_cons (pv 1) (pa_cons (pe_glob (v := .ref GC) (by rfl) Z.hG rfl) pa_nil))) (pe_and (pe_cmpR (op_eqPE K rfl W (passes_call takes0 (fun _ _ _ _ z => z)) hr (Nat.le_refl _)) (pe_fldK K rfl (pv 0) rfl) (pe_fldK K rfl (pv 1) rfl) (nomark _)) (pe_one (pe_cmpR (op_eqPE K rfl W (passes_call takes0 (fun _ _ _ _ z => z)) hr (Nat.le_refl _)) (pe_fldK K rfl (pv 0) rfl) (pe_fldK K rfl (pv 1) rfl) (nomark _))))))), ?_⟩
    obtain ⟨s1, s2, rfl⟩ : ∃ s1 s2, s = .hi s1 s2 := by
      cases s with
      | fx m => exact absurd hc Z.d3
      | dv x y w => exact absurd hc Z.d5
      | lo x y => exact absurd hc Z.d6
      | hi x y => exact ⟨x, y, rfl⟩
    obtain ⟨dx, p, c1, c2, ps, h1, h2, h3, h4, h5⟩ := id ha
    obtain ⟨o1, o2, _, _⟩ := id os
    have n1 : s1.cnt + s2.cnt ≤ n + 1 := hn
    have p1 := Rl.cnt_pos s1
    have p2 := Rl.cnt_pos s2
    have tz := Z.tz hb ot
    have kt := fun D hD => Z.kit (t.cls FC VC LC GC) D (Rk.of t) hD
    cases t with
    | fx m => exact ⟨_, rfl, _, .ref GC, _, .ref GC, false, rfl, .own GC, tz, ((kt GC (.inr (.inr (.inr rfl)))).trans (congrArg some (decide_eq_false Z.d3))), _, rfl, iteF q⟩
    | dv x y w => exact ⟨_, rfl, _, .ref GC, _, .ref GC, false, rfl, .own GC, tz, ((kt GC (.inr (.inr (.inr rfl)))).trans (congrArg some (decide_eq_false Z.d5))), _, rfl, iteF q⟩
    | lo x y => exact ⟨_, rfl, _, .ref GC, _, .ref GC, false, rfl, .own GC, tz, ((kt GC (.inr (.inr (.inr rfl)))).trans (congrArg some (decide_eq_false Z.d6))), _, rfl, iteF q⟩
    | hi t1 t2 =>
      obtain ⟨dy, p', e1, e2, ps', g1, g2, g3, g4, g5⟩ := id hb
      obtain ⟨r1, r2, _, _⟩ := id ot
      obtain ⟨dc1, fc1, _, _, hc1, _⟩ := h4.has o1
      obtain ⟨dc2, fc2, _, _, hc2, _⟩ := h5.has o2
      refine ⟨_, rfl, _, .ref GC, _, .ref GC, true, rfl, .own GC, tz, ((kt GC (.inr (.inr (.inr rfl)))).trans (congrArg some (decide_eq_true rfl))), _, rfl, iteT ?_⟩
      have q' : Q (.bl (s1.eqb t1 && s2.eqb t2)) H := q
      refine ⟨_, rfl, a, GC, dx, _, _, rfl, h1, Z.G.cl, Z.G.n1, jnP_one _ _ _ _, _, rfl, b, GC, dy, _, _, rfl, g1, Z.G.cl, Z.G.n1, jnP_one _ _ _ _, c1, _, dc1, fc1, _, rfl, Rk.of s1, hc1, Z.tz g4 r1, nf _ _ (Rk.of s1) (Rk.of t1), c1, e1, s1, t1, rfl, rfl, h4, g4, o1, r1, by omega, ?_⟩
      cases x1 : s1.eqb t1 with
      | false =>
        rw [x1, Bool.false_and] at q'
        exact ⟨_, rfl, iteF q'⟩
      | true =>
        rw [x1, Bool.true_and] at q'
        exact ⟨_, rfl, iteT ⟨_, rfl, a, GC, dx, _, _, rfl, h1, Z.G.cl, Z.G.n2, jnP_other _ _ _ _, _, rfl, b, GC, dy, _, _, rfl, g1, Z.G.cl, Z.G.n2, jnP_other _ _ _ _, c2, _, dc2, fc2, _, rfl, Rk.of s2, hc2, Z.tz g5 r2, nf _ _ (Rk.of s2) (Rk.of t2), c2, e2, s2, t2, rfl, rfl, h5, g5, o2, r2, by omega, q'⟩⟩
theorem spTe_none {C : Addr} {vs : List V} {H : Hp} {Q : VK} {E : XK} (h : spTe FC VC LC GC 0 C vs H Q E) : False := by
  obtain ⟨_, _, s, _, _, _, _, _, _, _, hn, _⟩ := h
  have := Rl.cnt_pos s
  omega
/-- == of every two rules, by the number of parts of the left one -/
theorem eqP (T : Txt mg) (Z : RlZ K mg FC VC LC GC) (nf : ∀ C D, Rk FC VC LC GC C → Rk FC VC LC GC D → PySem.W.notFirst K C (.ref D) = true) {f1 f2 f3 f4 : Addr} {d1 d2 d3 d4 : FuncData}
    (F1 : C8.Fun K "__eq__" "Fixed.__eq__" sFxe f1 d1) (m1 : Meth K FC "__eq__" f1) (b1 : Binds K d1 ["self", "other"] []) (F2 : C8.Fun K "__eq__" "Divided.__eq__" sDve f2 d2) (m2 : Meth K VC "__eq__" f2) (b2 : Binds K d2 ["self", "other"] [])
    (F3 : C8.Fun K "__eq__" "Lesser.__eq__" sLoq f3 d3) (m3 : Meth K LC "__eq__" f3) (b3 : Binds K d3 ["self", "other"] []) (F4 : C8.Fun K "__eq__" "Greater.__eq__" sHiq f4 d4) (m4 : Meth K GC "__eq__" f4) (b4 : Binds K d4 ["self", "other"] []) :
    ∀ n, MetP P w K mg base (1 + n) (Rk FC VC LC GC) "__eq__" (spTe FC VC LC GC n)
  | 0 => ⟨fun C hC => by
    have no : ∀ {f : Addr} {fd : FuncData}, FnOk P w K mg base (L2.CX P w) 1 f fd ["self", "other"] (spTe FC VC LC GC 0 C) := fun {f fd} => ⟨fun _ _ _ _ h => (spTe_none h).elim, fun _ _ _ _ _ _ _ _ _ _ _ _ _ h => (spTe_none h).elim⟩
    rcases hC with rfl | rfl | rfl | rfl
    · exact ⟨_, _, _, m1, no, b1⟩
    · exact ⟨_, _, _, m2, no, b2⟩
    · exact ⟨_, _, _, m3, no, b3⟩
    · exact ⟨_, _, _, m4, no, b4⟩⟩
  | n + 1 => ⟨fun C hC => by
    have W := eqP T Z nf F1 m1 b1 F2 m2 b2 F3 m3 b3 F4 m4 b4 n
    rw [show 1 + (n + 1) = 2 + n by omega]
    rcases hC with rfl | rfl | rfl | rfl
    · exact ⟨_, _, _, m1, (fx_te Z (fn_fxe F1 T Z.F Z.hF (Z.ins _ (.inl rfl)))).mono (by omega), b1⟩
    · exact ⟨_, _, _, m2, (dv_te Z (fn_dve F2 T Z.V Z.hV (Z.ins _ (.inr (.inl rfl))))).mono (by omega), b2⟩
    · exact ⟨_, _, _, m3, fn_loq F3 T Z nf W, b3⟩
    · exact ⟨_, _, _, m4, fn_hiq F4 T Z nf W, b4⟩⟩
end
end Lw
namespace Lw
open PySem PySem.Spec PyProof.Rows L2
open SX PySem.NumText TL LamX ClX StX
set_option pp.maxSteps 900
abbrev sFxs : Stmt := inClass (top 34) 8
abbrev sDvs : Stmt := inClass (top 35) 9
abbrev sLos : Stmt := inClass (top 36) 8
abbrev sHis : Stmt := inClass (top 37) 8
/-! ### the text of a rule -/
def Rl.ws : Rl → List (List Nat)
  | .fx n => [[102, 105, 120, 101, 100], intL n]
  | .dv x y w => [[100, 105, 118, 105, 100, 101, 100], intL x, intL y, intL w]
  | .lo a b => [40] :: (a.ws ++ ([38] :: (b.ws ++ [[41]])))
  | .hi a b => [40] :: (a.ws ++ ([124] :: (b.ws ++ [[41]])))
def Rl.tx (t : Rl) : List Nat := joinL [32] t.ws
theorem joinL_app : ∀ {xs ys : List (List Nat)}, xs ≠ [] → ys ≠ [] → joinL [32] (xs ++ ys) = joinL [32] xs ++ 32 :: joinL [32] ys
  | [], _, h, _ => absurd rfl h
  | [x], [], _, h => absurd rfl h
  | [x], y :: ys, _, _ => rfl
  | x :: x2 :: xs, ys, _, h => by
    show x ++ ([32] ++ joinL [32] ((x2 :: xs) ++ ys)) = (x ++ ([32] ++ joinL [32] (x2 :: xs))) ++ 32 :: joinL [32] ys
    rw [joinL_app (xs := x2 :: xs) (List.cons_ne_nil _ _) h]
    simp
theorem Rl.ws_ne : ∀ t : Rl, t.ws ≠ []
  | .fx _ => List.cons_ne_nil _ _ | .dv _ _ _ => List.cons_ne_nil _ _ | .lo _ _ => List.cons_ne_nil _ _ | .hi _ _ => List.cons_ne_nil _ _
theorem join_two (c : Nat) (a b : Rl) : joinL [32] ([40] :: (a.ws ++ ([c] :: (b.ws ++ [[41]])))) = [40, 32] ++ (a.tx ++ ([32, c, 32] ++ (b.tx ++ [32, 41]))) := by
  have e1 := joinL_app (xs := [[40]]) (ys := a.ws ++ ([c] :: (b.ws ++ [[41]]))) (List.cons_ne_nil _ _) (fun z => by simp at z)
  have e2 := joinL_app (xs := a.ws) (ys := [c] :: (b.ws ++ [[41]])) a.ws_ne (List.cons_ne_nil _ _)
  have e3 := joinL_app (xs := [[c]]) (ys := b.ws ++ [[41]]) (List.cons_ne_nil _ _) (fun z => by simp at z)
  have e4 := joinL_app (xs := b.ws) (ys := [[41]]) b.ws_ne (List.cons_ne_nil _ _)
  have e5 : joinL [32] ([[c]] ++ (b.ws ++ [[41]])) = joinL [32] ([c] :: (b.ws ++ [[41]])) := rfl
  rw [show ([40] :: (a.ws ++ ([c] :: (b.ws ++ [[41]])))) = [[40]] ++ (a.ws ++ ([c] :: (b.ws ++ [[41]]))) from rfl, e1, e2, ← e5, e3, e4]
  show _ = [40, 32] ++ (joinL [32] a.ws ++ ([32, c, 32] ++ (joinL [32] b.ws ++ [32, 41])))
  simp [joinL]
theorem intL_short {i : Int} (h : i.natAbs ≤ 10 ^ 30) : (intL i).length ≤ 32 := by
  have e := int_text_length_le10 (k := 31) (by decide) (Nat.lt_of_le_of_lt h (by decide +kernel) : i.natAbs < 10 ^ 31)
  have s := str_int i
  have l : (Str.ofString (toString i)).length = (intL i).length := by rw [s, S_len]
  rw [← l, PySem.ofString_length]
  exact e
theorem Rl.tx_len : ∀ {t : Rl}, t.Ok → t.tx.length + 10 ≤ 130 * t.cnt
  | .fx n, h => by
    obtain ⟨h1, h2⟩ := h
    have l := intL_short (i := n) (by omega)
    show (joinL [32] [[102, 105, 120, 101, 100], intL n]).length + 10 ≤ 130 * 1
    simp only [joinL, List.length_append, List.length_cons, List.length_nil]
    omega
  | .dv x y w, h => by
    obtain ⟨h1, h2, h3, h4, h5, h6⟩ := h
    have l1 := intL_short (i := x) (Nat.le_trans (by omega : x.natAbs ≤ 1000) (by decide))
    have l2 := intL_short (i := y) (Nat.le_trans (by omega : y.natAbs ≤ 1000) (by decide))
    have l3 := intL_short (i := w) (Nat.le_trans (by omega : w.natAbs ≤ 1000) (by decide))
    show (joinL [32] [[100, 105, 118, 105, 100, 101, 100], intL x, intL y, intL w]).length + 10 ≤ 130 * 1
    simp only [joinL, List.length_append, List.length_cons, List.length_nil]
    omega
  | .lo a b, h => by
    have l1 := Rl.tx_len h.1
    have l2 := Rl.tx_len h.2.1
    have p1 := Rl.cnt_pos a
    show (joinL [32] ([40] :: (a.ws ++ ([38] :: (b.ws ++ [[41]]))))).length + 10 ≤ 130 * (a.cnt + b.cnt)
    rw [join_two]
    simp only [List.length_append, List.length_cons, List.length_nil]
    omega
  | .hi a b, h => by
    have l1 := Rl.tx_len h.1
    have l2 := Rl.tx_len h.2.1
    have p1 := Rl.cnt_pos a
    show (joinL [32] ([40] :: (a.ws ++ ([124] :: (b.ws ++ [[41]]))))).length + 10 ≤ 130 * (a.cnt + b.cnt)
    rw [join_two]
    simp only [List.length_append, List.length_cons, List.length_nil]
    omega
/-! ### {x} of an own instance -/
structure FmP (K : PySem.W.Frag) (Pc : Addr → Prop) : Prop where
  fmt : ∀ C, Pc C → PySem.W.findIn K (.ref C) "__format__" = some (some (.builtin "object.__format__"))
  mro : ∀ C, Pc C → PySem.W.mroIn K C (.type "object") = some true
section
variable {X : Cx} {Pc : Addr → Prop} {k j : Nat} {sp : Addr → Sp} {E : XK} {e : Expr} {te : TE} {pos : Pos}
def tFmtP (Pc : Addr → Prop) (sp : Addr → Sp) (E : XK) (te : TE) : TE := fun σ H Q => te σ H fun x H1 => ∃ a C dx fs, x = .ref a ∧ Pc C ∧ H1 a = some (.ins C dx fs) ∧ sp C [.ref a] H1 (fun z H' => ∃ y, z = .str y ∧ Q z H') E
theorem pe_fmtP (he : PE X e te) (O : FmP X.K Pc) (M : MetP X.prog X.w X.K X.mg X.base k Pc "__str__" sp) (hx : Passes (L2.CX X.prog X.w) X E) (hr : Room j X.A) (hk : k + 1 ≤ j) : PE X (.FormattedValue e (-1) none pos) (tFmtP Pc sp E te) := by
  refine ⟨fun pins s σ H Q I h => ?_⟩
  refine wpAny_FormattedValue_plain (thn (he.run pins s σ H _ I h) fun v s1 hv => ?_)
  obtain ⟨x, H1, I1, r1, a, C, dx, fs, rfl, pc, ha, q⟩ := hv
  cases (show v = Value.ref a from r1)
  obtain ⟨_, _, J⟩ := ins_at I1 ha
  have hr1 : Room k X.A.in1 := Room.in1 (hr.mono hk)
  have I2 := I1.tok (s1.toks + 1)
  obtain ⟨g, hm, w⟩ := run_metA (us := [.ref a]) (vs := [.ref a]) (M.all C pc) hx hr1 I2.env0.in1 I2 (.cons rfl .nil) q
  refine PySem.W.kfo_fieldS hr1.units0 I1.kIn J (O.fmt C pc) (O.mro C pc) hm.at_ hm.fn (wpAny_mono w (fun v s' z => ?_) fun _ _ x => x)
  obtain ⟨z', H', I', rz, y, rfl, qz⟩ := z
  obtain ⟨t, rfl⟩ := rz
  exact ⟨.str y, H', I', ⟨t, rfl⟩, qz⟩
end
/-- str of a rule -/
def spSt (FC VC LC GC : Addr) (n : Nat) (C : Addr) : Sp := fun vs H Q _ => ∃ a t, vs = [.ref a] ∧ t.cls FC VC LC GC = C ∧ RlAt FC VC LC GC H t a ∧ t.Ok ∧ t.cnt ≤ n ∧ Q (.str (S t.tx)) H
theorem log33 {i : Int} (h : i.natAbs ≤ 10 ^ 33) : i.natAbs.log2 < 1920 := by
  by_cases z : i.natAbs = 0
  · rw [z]; decide +kernel
  · exact (Nat.log2_lt z).mpr (Nat.lt_of_le_of_lt h (by decide +kernel))
section
variable {P : Program} {w : World} {K : PySem.W.Frag} {mg : Str → Option Value} {base : Heap} {FC VC LC GC BC : Addr}
theorem ofS (l : List Nat) (s : String) (h : (Str.ofString s).cps.toList = l) : Str.ofString s = S l := by rw [← h, S_tl]
theorem scFxs : FnScope ["self"] ["self"] (C8.fnScope sFxs) := C8.fnScope_by (by decide +kernel)
theorem fn_fxs {f : Addr} {fd : FuncData} (F : C8.Fun K "__str__" "Fixed.__str__" sFxs f fd) (Z : RlZ K mg FC VC LC GC) (n : Nat) : FnOk P w K mg base (L2.CX P w) 1 f fd ["self"] (spSt FC VC LC GC n FC) := by
  obtain ⟨oc, od, dV, kV, doc, pm, an, cdv, ct, osl, rfl, lk, hcd⟩ := F.ex
  refine fn_of lk hcd scFxs (fun vs H Q E h => ?_) fun A outer s H vs Q E hr h => ?_
  · obtain ⟨a, t, rfl, _⟩ := h
    rfl
  · obtain ⟨a, t, rfl, hc, ra, ok, hn, q⟩ := h
    refine ⟨_, (pss_one (ps_ret (pe_joined (PJ.cons pe_str (PJ.cons (pe_fmt (pe_fldK K rfl (pv 0) rfl)) PJ.nil))))), ?_⟩
    obtain ⟨m, rfl⟩ : ∃ m, t = .fx m := by
      cases t with
      | fx m => exact ⟨m, rfl⟩
      | dv x y w => exact absurd hc.symm Z.d1
      | lo x y => exact absurd hc.symm Z.d2
      | hi x y => exact absurd hc.symm Z.d3
    obtain ⟨dx, p, h1, h2⟩ := id ra
    obtain ⟨m1, m2⟩ := ok
    have lm := intL_short (i := m) (by omega)
    have z1 : Str.empty ++ Str.ofString "fixed " = S [102, 105, 120, 101, 100, 32] := by
      rw [ofS [102, 105, 120, 101, 100, 32] "fixed " rfl, show Str.empty = S [] from rfl, S_cat]; rfl
    have z2 : (Str.empty ++ Str.ofString "fixed ") ++ Str.ofString (toString m) = S (Rl.fx m).tx := by
      rw [z1, str_int, S_cat]; rfl
    have l2 := Rl.tx_len (t := .fx m) ⟨m1, m2⟩
    refine ⟨_, rfl, (by rw [z1, S_len]; exact Nat.le_trans (by decide : 6 ≤ 1000) (by decide)), ?_⟩
    refine ⟨_, rfl, a, FC, dx, _, _, rfl, h1, Z.F.cl, Z.F.n1, fxP_size _ _, .inr ⟨m, rfl, log33 (by omega), _, rfl, (by rw [z2, S_len]; exact Nat.le_trans (show (Rl.fx m).tx.length ≤ 130 by have : (Rl.fx m).cnt = 1 := rfl; omega) (by decide)), ?_⟩⟩
    rw [z2]
    exact q
theorem scDvs : FnScope ["self"] ["self"] (C8.fnScope sDvs) := C8.fnScope_by (by decide +kernel)
theorem fn_dvs {f : Addr} {fd : FuncData} (F : C8.Fun K "__str__" "Divided.__str__" sDvs f fd) (Z : RlZ K mg FC VC LC GC) (n : Nat) : FnOk P w K mg base (L2.CX P w) 1 f fd ["self"] (spSt FC VC LC GC n VC) := by
  obtain ⟨oc, od, dV, kV, doc, pm, an, cdv, ct, osl, rfl, lk, hcd⟩ := F.ex
  refine fn_of lk hcd scDvs (fun vs H Q E h => ?_) fun A outer s H vs Q E hr h => ?_
  · obtain ⟨a, t, rfl, _⟩ := h
    rfl
  · obtain ⟨a, t, rfl, hc, ra, ok, hn, q⟩ := h
    refine ⟨_, (pss_one (ps_ret (pe_joined (PJ.cons pe_str (PJ.cons (pe_fmt (pe_fldK K rfl (pv 0) rfl)) (PJ.cons pe_str (PJ.cons (pe_fmt (pe_fldK K rfl (pv 0) rfl)) (PJ.cons pe_str (PJ.cons (pe_fmt (pe_fldK K rfl (pv 0) rfl)) PJ.nil))))))))), ?_⟩
    obtain ⟨x, y, w0, rfl⟩ : ∃ x y w, t = .dv x y w := by
      cases t with
      | fx m => exact absurd hc Z.d1
      | dv x y w => exact ⟨x, y, w, rfl⟩
      | lo x y => exact absurd hc.symm Z.d4
      | hi x y => exact absurd hc.symm Z.d5
    obtain ⟨dx, p, h1, h2⟩ := id ra
    have l2 := Rl.tx_len ok
    obtain ⟨x0, x1, y0, y1, w1, w2⟩ := id ok
    have lx := intL_short (i := x) (Nat.le_trans (by omega : x.natAbs ≤ 1000) (by decide))
    have ly := intL_short (i := y) (Nat.le_trans (by omega : y.natAbs ≤ 1000) (by decide))
    have lw := intL_short (i := w0) (Nat.le_trans (by omega : w0.natAbs ≤ 1000) (by decide))
    have b1 : (Rl.dv x y w0).tx.length ≤ 130 := by have : (Rl.dv x y w0).cnt = 1 := rfl; omega
    have g : ∀ {i : Int}, i.natAbs ≤ 1000 → i.natAbs.log2 < 1920 := fun h => log33 (Nat.le_trans h (by decide))
    have z0 : Str.empty ++ Str.ofString "divided " = S [100, 105, 118, 105, 100, 101, 100, 32] := by
      rw [ofS [100, 105, 118, 105, 100, 101, 100, 32] "divided " rfl, show Str.empty = S [] from rfl, S_cat]; rfl
    have zs : Str.ofString " " = S [32] := ofS [32] " " rfl
    have big : ∀ l : List Nat, l.length ≤ 200 → (S l).length ≤ sizeLine := fun l h => by rw [S_len]; exact Nat.le_trans h (by decide)
    refine ⟨_, rfl, (by rw [z0]; exact big _ (by decide)), ?_⟩
    rw [z0]
    refine ⟨_, rfl, a, VC, dx, _, _, rfl, h1, Z.V.cl, Z.V.n1, dvP_x _ _ _ _, .inr ⟨x, rfl, g (by omega), _, rfl, ?_⟩⟩
    rw [str_int, S_cat]
    refine ⟨big _ (by simp only [List.length_append, List.length_cons, List.length_nil]; omega), _, rfl, ?_⟩
    rw [zs, S_cat]
    refine ⟨big _ (by simp only [List.length_append, List.length_cons, List.length_nil]; omega), _, rfl, a, VC, dx, _, _, rfl, h1, Z.V.cl, Z.V.n2, dvP_y _ _ _ _, .inr ⟨y, rfl, g (by omega), _, rfl, ?_⟩⟩
    rw [str_int, S_cat]
    refine ⟨big _ (by simp only [List.length_append, List.length_cons, List.length_nil]; omega), _, rfl, ?_⟩
    rw [S_cat]
    refine ⟨big _ (by simp only [List.length_append, List.length_cons, List.length_nil]; omega), _, rfl, a, VC, dx, _, _, rfl, h1, Z.V.cl, Z.V.n3, dvP_w _ _ _ _, .inr ⟨w0, rfl, g (by omega), _, rfl, ?_⟩⟩
    rw [str_int, S_cat]
    refine ⟨big _ (by simp only [List.length_append, List.length_cons, List.length_nil]; omega), ?_⟩
    have e : ((((([100, 105, 118, 105, 100, 101, 100, 32] ++ intL x) ++ [32]) ++ intL y) ++ [32]) ++ intL w0) = (Rl.dv x y w0).tx := by
      show _ = joinL [32] [[100, 105, 118, 105, 100, 101, 100], intL x, intL y, intL w0]
      simp [joinL]
    rw [e]
    exact q
theorem scLos : FnScope ["self"] ["self"] (C8.fnScope sLos) := C8.fnScope_by (by decide +kernel)
theorem fn_los {f : Addr} {fd : FuncData} (F : C8.Fun K "__str__" "Lesser.__str__" sLos f fd) (Z : RlZ K mg FC VC LC GC) (O : FmP K (Rk FC VC LC GC)) {n : Nat} (W : MetP P w K mg base (1 + 2 * n) (Rk FC VC LC GC) "__str__" (spSt FC VC LC GC n)) : FnOk P w K mg base (L2.CX P w) (3 + 2 * n) f fd ["self"] (spSt FC VC LC GC (n + 1) LC) := by
  obtain ⟨oc, od, dV, kV, doc, pm, an, cdv, ct, osl, rfl, lk, hcd⟩ := F.ex
  rw [show 3 + 2 * n = (2 + 2 * n) + 1 by omega]
  refine fn_of lk hcd scLos (fun vs H Q E h => ?_) fun A outer s H vs Q E hr h => ?_
  · obtain ⟨a, t, rfl, _⟩ := h
    rfl
  · obtain ⟨a, t, rfl, hc, ra, ok, hn, q⟩ := h
    refine ⟨_, (pss_one (ps_ret (pe_joined (PJ.cons pe_str (PJ.cons (pe_fmtP (pe_fldK K rfl (pv 0) rfl) O W (passes_call (takes_of rfl rfl rfl rfl) (fun _ _ _ _ z => z)) hr (by omega)) (PJ.cons pe_str (PJ.cons (pe_fmtP (pe_fldK K rfl (pv 0) rfl) O W (passes_call (takes_of rfl rfl rfl rfl) (fun _ _ _ _ z => z)) hr (by omega)) (PJ.cons pe_str PJ.nil)))))))), ?_⟩
    obtain ⟨s1, s2, rfl⟩ : ∃ s1 s2, t = .lo s1 s2 := by
      cases t with
      | fx m => exact absurd hc Z.d2
      | dv x y w => exact absurd hc Z.d4
      | lo x y => exact ⟨x, y, rfl⟩
      | hi x y => exact absurd hc.symm Z.d6
    obtain ⟨dx, p, b, c, ps, h1, h2, h3, h4, h5⟩ := id ra
    obtain ⟨o1, o2, n6, _⟩ := id ok
    have n1 : s1.cnt + s2.cnt ≤ n + 1 := hn
    have p1 := Rl.cnt_pos s1
    have p2 := Rl.cnt_pos s2
    have t1 := Rl.tx_len o1
    have t2 := Rl.tx_len o2
    obtain ⟨db, fb, _, _, hb, _⟩ := h4.has o1
    obtain ⟨dc, fc, _, _, hc2, _⟩ := h5.has o2
    have z0 : Str.empty ++ Str.ofString "( " = S [40, 32] := by
      rw [ofS [40, 32] "( " rfl, show Str.empty = S [] from rfl, S_cat]; rfl
    have zm : Str.ofString " & " = S [32, 38, 32] := ofS _ _ rfl
    have ze : Str.ofString " )" = S [32, 41] := ofS _ _ rfl
    have big : ∀ l : List Nat, l.length ≤ 1000 → (S l).length ≤ sizeLine := fun l h => by rw [S_len]; exact Nat.le_trans h (by decide)
    refine ⟨_, rfl, (by rw [z0]; exact big _ (by decide)), ?_⟩
    rw [z0]
    refine ⟨_, rfl, a, LC, dx, _, _, rfl, h1, Z.L.cl, Z.L.n1, jnP_one _ _ _ _, b, _, db, fb, rfl, Rk.of s1, hb, b, s1, rfl, rfl, h4, o1, by omega, _, rfl, _, rfl, ?_⟩
    rw [S_cat]
    refine ⟨big _ (by simp only [List.length_append, List.length_cons, List.length_nil]; omega), _, rfl, ?_⟩
    rw [zm, S_cat]
    refine ⟨big _ (by simp only [List.length_append, List.length_cons, List.length_nil]; omega), _, rfl, a, LC, dx, _, _, rfl, h1, Z.L.cl, Z.L.n2, jnP_other _ _ _ _, c, _, dc, fc, rfl, Rk.of s2, hc2, c, s2, rfl, rfl, h5, o2, by omega, _, rfl, _, rfl, ?_⟩
    rw [S_cat]
    refine ⟨big _ (by simp only [List.length_append, List.length_cons, List.length_nil]; omega), _, rfl, ?_⟩
    rw [ze, S_cat]
    refine ⟨big _ (by simp only [List.length_append, List.length_cons, List.length_nil]; omega), ?_⟩
    have e : (((([40, 32] ++ s1.tx) ++ [32, 38, 32]) ++ s2.tx) ++ [32, 41]) = (Rl.lo s1 s2).tx := by
      show _ = joinL [32] ([40] :: (s1.ws ++ ([38] :: (s2.ws ++ [[41]]))))
      rw [join_two]
      simp
    rw [e]
    exact q
theorem scHis : FnScope ["self"] ["self"] (C8.fnScope sHis) := C8.fnScope_by (by decide +kernel)
theorem fn_his {f : Addr} {fd : FuncData} (F : C8.Fun K "__str__" "Greater.__str__" sHis f fd) (Z : RlZ K mg FC VC LC GC) (O : FmP K (Rk FC VC LC GC)) {n : Nat} (W : MetP P w K mg base (1 + 2 * n) (Rk FC VC LC GC) "__str__" (spSt FC VC LC GC n)) : FnOk P w K mg base (L2.CX P w) (3 + 2 * n) f fd ["self"] (spSt FC VC LC GC (n + 1) GC) := by
  obtain ⟨oc, od, dV, kV, doc, pm, an, cdv, ct, osl, rfl, lk, hcd⟩ := F.ex
  rw [show 3 + 2 * n = (2 + 2 * n) + 1 by omega]
  refine fn_of lk hcd scHis (fun vs H Q E h => ?_) fun A outer s H vs Q E hr h => ?_
  · obtain ⟨a, t, rfl, _⟩ := h
    rfl
  · obtain ⟨a, t, rfl, hc, ra, ok, hn, q⟩ := h
    refine ⟨_, (pss_one (ps_ret (pe_joined (PJ.cons pe_str (PJ.cons (pe_fmtP (pe_fldK K rfl (pv 0) rfl) O W (passes_call (takes_of rfl rfl rfl rfl) (fun _ _ _ _ z => z)) hr (by omega)) (PJ.cons pe_str (PJ.cons (pe_fmtP (pe_fldK K rfl (pv 0) rfl) O W (passes_call (takes_of rfl rfl rfl rfl) (fun _ _ _ _ z => z)) hr (by omega)) (PJ.cons pe_str PJ.nil)))))))), ?_⟩
    obtain ⟨s1, s2, rfl⟩ : ∃ s1 s2, t = .hi s1 s2 := by
      cases t with
      | fx m => exact absurd hc Z.d3
      | dv x y w => exact absurd hc Z.d5
      | lo x y => exact absurd hc Z.d6
      | hi x y => exact ⟨x, y, rfl⟩
    obtain ⟨dx, p, b, c, ps, h1, h2, h3, h4, h5⟩ := id ra
    obtain ⟨o1, o2, n6, _⟩ := id ok
    have n1 : s1.cnt + s2.cnt ≤ n + 1 := hn
    have p1 := Rl.cnt_pos s1
    have p2 := Rl.cnt_pos s2
    have t1 := Rl.tx_len o1
    have t2 := Rl.tx_len o2
    obtain ⟨db, fb, _, _, hb, _⟩ := h4.has o1
    obtain ⟨dc, fc, _, _, hc2, _⟩ := h5.has o2
    have z0 : Str.empty ++ Str.ofString "( " = S [40, 32] := by
      rw [ofS [40, 32] "( " rfl, show Str.empty = S [] from rfl, S_cat]; rfl
    have zm : Str.ofString " | " = S [32, 124, 32] := ofS _ _ rfl
    have ze : Str.ofString " )" = S [32, 41] := ofS _ _ rfl
    have big : ∀ l : List Nat, l.length ≤ 1000 → (S l).length ≤ sizeLine := fun l h => by rw [S_len]; exact Nat.le_trans h (by decide)
    refine ⟨_, rfl, (by rw [z0]; exact big _ (by decide)), ?_⟩
    rw [z0]
    refine ⟨_, rfl, a, GC, dx, _, _, rfl, h1, Z.G.cl, Z.G.n1, jnP_one _ _ _ _, b, _, db, fb, rfl, Rk.of s1, hb, b, s1, rfl, rfl, h4, o1, by omega, _, rfl, _, rfl, ?_⟩
    rw [S_cat]
    refine ⟨big _ (by simp only [List.length_append, List.length_cons, List.length_nil]; omega), _, rfl, ?_⟩
    rw [zm, S_cat]
    refine ⟨big _ (by simp only [List.length_append, List.length_cons, List.length_nil]; omega), _, rfl, a, GC, dx, _, _, rfl, h1, Z.G.cl, Z.G.n2, jnP_other _ _ _ _, c, _, dc, fc, rfl, Rk.of s2, hc2, c, s2, rfl, rfl, h5, o2, by omega, _, rfl, _, rfl, ?_⟩
    rw [S_cat]
    refine ⟨big _ (by simp only [List.length_append, List.length_cons, List.length_nil]; omega), _, rfl, ?_⟩
    rw [ze, S_cat]
    refine ⟨big _ (by simp only [List.length_append, List.length_cons, List.length_nil]; omega), ?_⟩
    have e : (((([40, 32] ++ s1.tx) ++ [32, 124, 32]) ++ s2.tx) ++ [32, 41]) = (Rl.hi s1 s2).tx := by
      show _ = joinL [32] ([40] :: (s1.ws ++ ([124] :: (s2.ws ++ [[41]]))))
      rw [join_two]
      simp
    rw [e]
    exact q
/-- str of every rule, by the number of its parts -/
theorem strP (Z : RlZ K mg FC VC LC GC) (O : FmP K (Rk FC VC LC GC)) {f1 f2 f3 f4 : Addr} {d1 d2 d3 d4 : FuncData}
    (F1 : C8.Fun K "__str__" "Fixed.__str__" sFxs f1 d1) (m1 : Meth K FC "__str__" f1) (b1 : Binds K d1 ["self"] []) (F2 : C8.Fun K "__str__" "Divided.__str__" sDvs f2 d2) (m2 : Meth K VC "__str__" f2) (b2 : Binds K d2 ["self"] [])
    (F3 : C8.Fun K "__str__" "Lesser.__str__" sLos f3 d3) (m3 : Meth K LC "__str__" f3) (b3 : Binds K d3 ["self"] []) (F4 : C8.Fun K "__str__" "Greater.__str__" sHis f4 d4) (m4 : Meth K GC "__str__" f4) (b4 : Binds K d4 ["self"] []) :
    ∀ n, MetP P w K mg base (1 + 2 * n) (Rk FC VC LC GC) "__str__" (spSt FC VC LC GC n)
  | 0 => ⟨fun C hC => by
    have no : ∀ {f : Addr} {fd : FuncData} {C : Addr}, FnOk P w K mg base (L2.CX P w) (1 + 2 * 0) f fd ["self"] (spSt FC VC LC GC 0 C) := fun {f fd C} => ⟨fun _ _ _ _ ⟨_, t, _, _, _, _, h, _⟩ => absurd h (by have := Rl.cnt_pos t; omega), fun _ _ _ _ _ _ _ _ _ _ _ _ _ ⟨_, t, _, _, _, _, h, _⟩ => absurd h (by have := Rl.cnt_pos t; omega)⟩
    rcases hC with rfl | rfl | rfl | rfl
    · exact ⟨_, _, _, m1, no, b1⟩
    · exact ⟨_, _, _, m2, no, b2⟩
    · exact ⟨_, _, _, m3, no, b3⟩
    · exact ⟨_, _, _, m4, no, b4⟩⟩
  | n + 1 => ⟨fun C hC => by
    have W := strP Z O F1 m1 b1 F2 m2 b2 F3 m3 b3 F4 m4 b4 n
    rw [show 1 + 2 * (n + 1) = 3 + 2 * n by omega]
    rcases hC with rfl | rfl | rfl | rfl
    · exact ⟨_, _, _, m1, (fn_fxs F1 Z (n + 1)).mono (by omega), b1⟩
    · exact ⟨_, _, _, m2, (fn_dvs F2 Z (n + 1)).mono (by omega), b2⟩
    · exact ⟨_, _, _, m3, fn_los F3 Z O W, b3⟩
    · exact ⟨_, _, _, m4, fn_his F4 Z O W, b4⟩⟩
/-- str of a rule of a function -/
def spBs : Sp := fun vs H Q _ => vs.length = 1 ∧ Q (.str (Str.ofString "by")) H
end
end Lw
namespace Lw
open PySem PySem.Spec PyProof.Rows L2
open SX PySem.NumText TL LamX
/-! ### the Reader -/
abbrev sRI : Stmt := inClass (top 20) 0
abbrev sRah : Stmt := inClass (top 20) 1
abbrev sRrf : Stmt := inClass (top 20) 2
abbrev sRtk : Stmt := inClass (top 20) 3
abbrev sRex : Stmt := inClass (top 20) 5
abbrev sRmo : Stmt := inClass (top 20) 6
abbrev sRfi : Stmt := inClass (top 20) 7
section
variable {X : Cx} {k j : Nat} {C : Addr} {m : Str} {sp : Sp} {E : XK} {o e : Expr} {es : List Expr} {ta : TE} {t : TA} {pos apos : Pos} {pl : Sem Bool}
/-- a method of an own class, called -/
theorem pe_mx0 (he : PE X o ta) (c : Cls X.K C) (M : MetX X.prog X.w X.K X.mg X.base k C m sp) (hr : Room j X.A) (hk : k ≤ j) (hx : Passes (L2.CX X.prog X.w) X E)
    (ht : eval (.Call (.Attribute o m apos) [] [] pos) X.env = (do
      let ov ← eval o X.env
      standAt apos.atName
      let (f, first) ← holding [ov] (getMethod ov m pl)
      callWith pos f first (backTo pos (starEach [] X.env)) (backToKw pos (keywordEach [] X.env))) := by rfl) :
    PE X (.Call (.Attribute o m apos) [] [] pos) (tMeth C m sp [] E ta tNil) := by
  obtain ⟨g, fd, ps, hm, F, b⟩ := M.ex
  exact pe_meth0 he c hm F (hr.mono hk) b .nil hx ht
theorem pe_mx (he : PE X o ta) (c : Cls X.K C) (M : MetX X.prog X.w X.K X.mg X.base k C m sp) (hr : Room j X.A) (hk : k ≤ j) (hx : Passes (L2.CX X.prog X.w) X E) (ha : PA X (e :: es) t)
    (hst : starEach (e :: es) X.env = (false, eval e X.env) :: starEach es X.env := by rfl) (hpl : (backTo pos (starEach es X.env)).any (·.1) = false := by rfl)
    (ht : eval (.Call (.Attribute o m apos) (e :: es) [] pos) X.env = (do
      let ov ← eval o X.env
      standAt apos.atName
      let (f, first) ← holding [ov] (getMethod ov m pl)
      callWith pos f first (backTo pos (starEach (e :: es) X.env)) (backToKw pos (keywordEach [] X.env))) := by rfl) :
    PE X (.Call (.Attribute o m apos) (e :: es) [] pos) (tMeth C m sp [] E ta t) := by
  obtain ⟨g, fd, ps, hm, F, b⟩ := M.ex
  exact pe_meth he c hm F (hr.mono hk) b .nil hx ha hst hpl ht
end
theorem putF_len (f : Str) (v : V) : ∀ fs : List (Str × V), (putF f v fs).length ≤ fs.length + 1
  | [] => Nat.le_refl _
  | (g, x) :: r => by
    unfold putF
    split
    · simp
    · have := putF_len f v r
      rw [List.length_cons, List.length_cons]
      omega
/-- its attributes -/
def rdF (l : Addr) (n : Int) : List (Str × V) := [("_words", .ref l), ("_row", .int 0), ("_at", .int n)]
theorem rdF_words (l : Addr) (n : Int) : (rdF l n).lookup ("_words" : Str) = some (.ref l) := by unfold rdF; rw [lookup_put, if_pos rfl]
theorem rdF_row (l : Addr) (n : Int) : (rdF l n).lookup ("_row" : Str) = some (.int 0) := by unfold rdF; rw [lookup_put, if_neg (by decide +kernel), lookup_put, if_pos rfl]
theorem rdF_at (l : Addr) (n : Int) : (rdF l n).lookup ("_at" : Str) = some (.int n) := by unfold rdF; rw [lookup_put, if_neg (by decide +kernel), lookup_put, if_neg (by decide +kernel), lookup_put, if_pos rfl]
theorem rdF_no {m : Str} (l : Addr) (n : Int) (h1 : m ≠ "_words") (h2 : m ≠ "_row") (h3 : m ≠ "_at") : (rdF l n).lookup m = none := by unfold rdF; rw [lookup_put, if_neg h1, lookup_put, if_neg h2, lookup_put, if_neg h3]; rfl
theorem rdF_put (l : Addr) (n i : Int) : putF "_at" (.int i) (rdF l n) = rdF l i := by
  unfold rdF putF
  rw [if_neg (by decide +kernel)]
  unfold putF
  rw [if_neg (by decide +kernel)]
  unfold putF
  rw [if_pos rfl]
theorem rdF_new (l : Addr) (n : Int) : putF "_at" (.int n) (putF "_row" (.int 0) (putF "_words" (.ref l) [])) = rdF l n := by
  have e1 : putF "_words" (.ref l) [] = [(("_words" : Str), V.ref l)] := rfl
  have e2 : putF "_row" (.int 0) [(("_words" : Str), V.ref l)] = [(("_words" : Str), V.ref l), (("_row" : Str), V.int 0)] := by
    unfold putF
    rw [if_neg (by decide +kernel)]
    rfl
  rw [e1, e2]
  unfold putF
  rw [if_neg (by decide +kernel)]
  unfold putF
  rw [if_neg (by decide +kernel)]
  rfl
/-- the words of a text -/
def wds (cs : List Nat) : List (List Nat) := TL.spl [32] 0 [] cs
theorem split_wds (cs : List Nat) : Txt.split (S cs) (Str.ofString " ") = (wds cs).map S := split_S (b := [32]) (List.cons_ne_nil _ _) rfl
def wV (ws : List (List Nat)) : List V := (ws.map S).map V.str
def RdAt (R : Addr) (H : Hp) (r l : Addr) (ws : List (List Nat)) (n : Nat) : Prop := (∃ dx, H r = some (.ins R dx (rdF l n))) ∧ H l = some (.lst (wV ws))
theorem RdAt.same {R : Addr} {H H' : Hp} {r l : Addr} {ws : List (List Nat)} {n : Nat} (h : RdAt R H r l ws n) (s : Same H H') : RdAt R H' r l ws n := by
  obtain ⟨⟨dx, h1⟩, h2⟩ := h
  exact ⟨⟨dx, s _ _ h1⟩, s _ _ h2⟩
/-- the word at hand -/
def handV (ws : List (List Nat)) (n : Nat) : V := match ws[n]? with
  | some w => .str (S w)
  | none => .non
/-- all but what stands at r is as it was: Kp. A refusal at word n -/
def Rf (D : Addr) (H : Hp) (E : XK) (n : Nat) : Prop := ∀ d fs H', Same H H' → H' d = none → fs.lookup ("line" : Str) = some (.int 0) → fs.lookup ("word" : Str) = some (.int n) → E (.ref D) (some d) (upd H' d (.xd fs))
def spRI (K : PySem.W.Frag) (R D : Addr) : Sp := fun vs H Q E => ∃ (r dx : Addr) (x : V), vs = [.ref r, x, .int 0] ∧ Anyv K H x ∧ H r = some (.ins R dx []) ∧ (isS x = false → Rf D H E 0) ∧
  ∀ z, x = .str z → ∃ cs, z = S cs ∧ cs.length ≤ 100000 ∧ ∀ l, H l = none → Q .non (upd (upd H l (.lst (wV (wds cs)))) r (.ins R dx (rdF l 0)))
def spRah (R : Addr) : Sp := fun vs H Q _ => ∃ r l ws n, vs = [.ref r] ∧ RdAt R H r l ws n ∧ Q (handV ws n) H
def spRrf (R D : Addr) : Sp := fun vs H _ E => ∃ r l ws n, vs = [.ref r] ∧ RdAt R H r l ws n ∧ Rf D H E n
def spRtk (R D : Addr) : Sp := fun vs H Q E => ∃ r l ws n x, vs = [.ref r, x] ∧ RdAt R H r l ws n ∧ (x = .non → Rf D H E n) ∧ (x ≠ .non → ∀ H', Kp r H H' → RdAt R H' r l ws (n + 1) → Q x H')
def spRex (R : Addr) : Sp := fun vs H Q _ => ∃ r l ws n z, vs = [.ref r, .str z] ∧ RdAt R H r l ws n ∧ handV ws n = .str z ∧ ∀ H', Kp r H H' → RdAt R H' r l ws (n + 1) → Q .non H'
def moreB (ws : List (List Nat)) (n : Nat) : Bool := match ws[n]? with
  | some w => !(decide (w = [47]) || decide (w = [59]))
  | none => false
def spRmo (R : Addr) : Sp := fun vs H Q _ => ∃ r l ws n, vs = [.ref r] ∧ RdAt R H r l ws n ∧ ∀ H', Same H H' → Q (.bl (moreB ws n)) H'
def spRfi (R D : Addr) : Sp := fun vs H Q E => ∃ r l ws n, vs = [.ref r] ∧ RdAt R H r l ws n ∧ (n < ws.length → Rf D H E n) ∧ (ws.length ≤ n → Q .non H)
/-- the Reader's class -/
structure RdC (K : PySem.W.Frag) (R : Addr) : Prop where
  cl : Cls K R
  n1 : NoAttr K R "_words"
  n2 : NoAttr K R "_row"
  n3 : NoAttr K R "_at"
theorem eqV_S (a b : List Nat) : eqV (.str (S a)) (.str (S b)) = decide (b = a) := by
  show (S a == S b) = _
  by_cases h : b = a
  · subst h; simp
  · rw [decide_eq_false h]
    exact beq_eq_false_iff_ne.mpr fun e => h (S_inj e).symm
section
variable {P : Program} {w : World} {K : PySem.W.Frag} {mg : Str → Option Value} {base : Heap}
theorem scRI : FnScope ["self", "text", "row"] ["self", "text", "row"] (C8.fnScope sRI) := C8.fnScope_by (by decide +kernel)
theorem fn_ri {R D f fE : Addr} {fd fdE : FuncData} (F : C8.Fun K "__init__" "Reader.__init__" sRI f fd) (T : Txt mg) (rc : RdC K R) (ER : Err2 "BadText" "line" "word" P w K mg base D fE fdE) : FnOk P w K mg base (L2.CX P w) 3 f fd ["self", "text", "row"] (spRI K R D) := by
  obtain ⟨oc, od, dV, kV, doc, pm, an, cdv, ct, osl, rfl, lk, hcd⟩ := F.ex
  refine fn_of lk hcd scRI (fun vs H Q E h => ?_) fun A outer s H vs Q E hr h => ?_
  · obtain ⟨r, dx, x, rfl, _⟩ := h
    rfl
  · obtain ⟨r, dx, x, rfl, av, hx, k1, k2⟩ := h
    have tk : Takes (cxOf (L2.CX P w) P w K mg base ["self", "text", "row"] "Reader.__init__" (C8.fnScope sRI) f cdv A outer s H E) (fun cls d _ H' => E cls d H') := takes_of rfl rfl rfl rfl
    refine ⟨_, (pss_cons (ps_if (pt_not (pt_val (pe_callB call_isz (by rfl) T.n_isinstance (by decide +kernel) (pa_cons (pv 1) (pa_cons (pe_bltn (v := .ty "str") (by rfl) T.n_str (by decide +kernel) rfl) pa_nil))))) (pss_one (ps_bad2 (x := "BadText") rfl tk ER.T ER.iC ER.tI ER.F hr ER.b (by rfl) ER.hm pe_int pe_int)) pss_nil)
      (pss_cons (ps_fld (pv 0) (pe_split (pv 1) pe_str) rfl)
      (pss_cons (ps_fld (pv 0) (pv 2) rfl)
      (pss_one (ps_fld (pv 0) pe_int rfl))))), ?_⟩
    refine ⟨_, rfl, ?_⟩
    dsimp only [tCons, tC, tNil]
    refine isz_str av ⟨_, rfl, ?_⟩
    have no : isS x = false → tBad2 "line" "word" D (fun cls d _ H' => E cls d H') (tC (.int 0)) (tC (.int 0)) { nx := fun _ H' => Q .non H', rt := Q } [] H := fun e => by
      exact bad_leaf2 fun d fs hd e1 e2 => k1 e d fs H (Same.refl _) hd e1 e2
    cases av with
    | str z =>
      obtain ⟨cs, rfl, hl, go⟩ := k2 z rfl
      have hs : (S cs).length + 2 ≤ sizeLine := by rw [S_len]; exact Nat.le_trans (Nat.add_le_add_right hl 2) (by decide)
      refine iteF ?_
      refine ⟨_, rfl, ⟨_, rfl⟩, _, _, rfl, rfl, by rfl, hs, fun l fl => ?_⟩
      rw [split_wds]
      have ne : l ≠ r := fun e => by rw [e, hx] at fl; cases fl
      refine ⟨_, rfl, r, R, dx, [], rfl, by rw [upd_ne ne.symm]; exact hx, rc.cl, rc.n1, (by show 0 < 1000; decide), ?_⟩
      refine ⟨_, rfl, _, rfl, r, R, dx, _, rfl, upd_same, rc.cl, rc.n2, (by show 1 < 1000; decide), ?_⟩
      refine ⟨_, rfl, r, R, dx, _, rfl, upd_same, rc.cl, rc.n3, ?_, ?_⟩
      · exact Nat.lt_of_le_of_lt (Nat.le_trans (putF_len _ _ _) (Nat.add_le_add_right (putF_len _ _ _) 1)) (by decide)
      rw [upd_upd, upd_upd, rdF_new]
      exact go l fl
    | int i => exact iteT (no rfl)
    | bl b => exact iteT (no rfl)
    | non => exact iteT (no rfl)
    | obj h h1 h2 h3 => exact iteT (no rfl)
theorem hand_any (K : PySem.W.Frag) (H : Hp) (ws : List (List Nat)) (n : Nat) : Anyv K H (handV ws n) := by
  unfold handV
  cases ws[n]? with
  | none => exact .non
  | some w => exact .str _
theorem scRah : FnScope ["self"] ["self"] (C8.fnScope sRah) := C8.fnScope_by (by decide +kernel)
theorem fn_rah {R f : Addr} {fd : FuncData} (F : C8.Fun K "at_hand" "Reader.at_hand" sRah f fd) (T : Txt mg) (rc : RdC K R) : FnOk P w K mg base (L2.CX P w) 1 f fd ["self"] (spRah R) := by
  obtain ⟨oc, od, dV, kV, doc, pm, an, cdv, ct, osl, rfl, lk, hcd⟩ := F.ex
  refine fn_of lk hcd scRah (fun vs H Q E h => ?_) fun A outer s H vs Q E hr h => ?_
  · obtain ⟨r, l, ws, n, rfl, _⟩ := h
    rfl
  · obtain ⟨r, l, ws, n, rfl, ⟨⟨dx, hr1⟩, hl⟩, k⟩ := h
    refine ⟨_, (pss_one (ps_ret (pe_ifExp (pt_cmpR op_lt (pe_fld (pv 0) rfl) (pe_callB call_len_seq (by rfl) T.n_len (by decide +kernel) (pa_cons (pe_fld (pv 0) rfl) pa_nil)) (nomark _)) (pe_ix ix_list (pe_fld (pv 0) rfl) (pe_fld (pv 0) rfl) (fun _ _ => rfl)) pe_non))), ?_⟩
    refine ⟨_, rfl, r, R, dx, _, _, rfl, hr1, rc.cl, rc.n3, rdF_at l n, _, rfl, r, R, dx, _, _, rfl, hr1, rc.cl, rc.n1, rdF_words l n, l, _, rfl, .inl (SqL.of hl), _, _, rfl, rfl, _, rfl, ite2 (fun c => ?_) (fun c => ?_)⟩
    · have c' := of_decide_eq_true c
      have hlen : (wV ws).length = ws.length := by unfold wV; rw [List.length_map, List.length_map]
      rw [hlen] at c'
      have hn : n < ws.length := by omega
      refine ⟨_, rfl, r, R, dx, _, _, rfl, hr1, rc.cl, rc.n1, rdF_words l n, _, rfl, r, R, dx, _, _, rfl, hr1, rc.cl, rc.n3, rdF_at l n, l, _, _, .str (S ws[n]), rfl, rfl, SqL.of hl, atI_nat (by unfold wV; simp [hn]), ?_⟩
      unfold handV at k
      rw [List.getElem?_eq_getElem hn] at k
      exact k
    · have c' := of_decide_eq_false (Bool.eq_false_iff.mpr c)
      have hlen : (wV ws).length = ws.length := by unfold wV; rw [List.length_map, List.length_map]
      rw [hlen] at c'
      unfold handV at k
      rw [List.getElem?_eq_none (by omega)] at k
      exact k
theorem scRrf : FnScope ["self"] ["self"] (C8.fnScope sRrf) := C8.fnScope_by (by decide +kernel)
theorem fn_rrf {R D f fE : Addr} {fd fdE : FuncData} (F : C8.Fun K "refuse" "Reader.refuse" sRrf f fd) (rc : RdC K R) (ER : Err2 "BadText" "line" "word" P w K mg base D fE fdE) : FnOk P w K mg base (L2.CX P w) 3 f fd ["self"] (spRrf R D) := by
  obtain ⟨oc, od, dV, kV, doc, pm, an, cdv, ct, osl, rfl, lk, hcd⟩ := F.ex
  refine fn_of lk hcd scRrf (fun vs H Q E h => ?_) fun A outer s H vs Q E hr h => ?_
  · obtain ⟨r, l, ws, n, rfl, _⟩ := h
    rfl
  · obtain ⟨r, l, ws, n, rfl, ⟨⟨dx, hr1⟩, hl⟩, k⟩ := h
    have tk : Takes (cxOf (L2.CX P w) P w K mg base ["self"] "Reader.refuse" (C8.fnScope sRrf) f cdv A outer s H E) (fun cls d _ H' => E cls d H') := takes_of rfl rfl rfl rfl
    refine ⟨_, (pss_one (ps_bad2 (x := "BadText") rfl tk ER.T ER.iC ER.tI ER.F hr ER.b (by rfl) ER.hm (pe_fld (pv 0) rfl) (pe_fld (pv 0) rfl))), ?_⟩
    refine ⟨_, rfl, r, R, dx, _, _, rfl, hr1, rc.cl, rc.n2, rdF_row l n, _, rfl, r, R, dx, _, _, rfl, hr1, rc.cl, rc.n3, rdF_at l n, ?_⟩
    exact bad_leaf2 fun d fs hd e1 e2 => k d fs H (Same.refl _) hd e1 e2
theorem scRtk : FnScope ["self", "worth"] ["self", "worth"] (C8.fnScope sRtk) := C8.fnScope_by (by decide +kernel)
theorem fn_rtk {R D f : Addr} {fd : FuncData} (F : C8.Fun K "take" "Reader.take" sRtk f fd) (rc : RdC K R) (MR : MetX P w K mg base 3 R "refuse" (spRrf R D)) : FnOk P w K mg base (L2.CX P w) 5 f fd ["self", "worth"] (spRtk R D) := by
  obtain ⟨oc, od, dV, kV, doc, pm, an, cdv, ct, osl, rfl, lk, hcd⟩ := F.ex
  refine fn_of lk hcd scRtk (fun vs H Q E h => ?_) fun A outer s H vs Q E hr h => ?_
  · obtain ⟨r, l, ws, n, x, rfl, _⟩ := h
    rfl
  · obtain ⟨r, l, ws, n, x, rfl, at_, k1, k2⟩ := h
    obtain ⟨⟨dx, hr1⟩, hl⟩ := id at_
    refine ⟨_, (pss_cons (ps_if (pt_cmpR op_isN (pv 1) pe_non (nomark _)) (pss_one (ps_expr (pe_mx0 (pv 0) rc.cl MR hr (by decide) (passes_call (takes_of rfl rfl rfl rfl) (fun _ _ _ _ z => z))))) pss_nil)
      (pss_cons (ps_fldaug (pv 0) pe_int in_add)
      (pss_one (ps_ret (pv 1))))), ?_⟩
    refine ⟨_, rfl, rfl, _, rfl, ite2 (fun c => ?_) (fun c => ?_)⟩
    · exact ⟨_, rfl, r, dx, _, rfl, hr1, rdF_no l n (by decide +kernel) (by decide +kernel) (by decide +kernel), r, l, ws, n, rfl, at_, k1 (of_decide_eq_true c)⟩
    · have nx : x ≠ .non := of_decide_eq_false (Bool.eq_false_iff.mpr c)
      refine ⟨_, rfl, r, R, dx, _, _, rfl, hr1, rc.cl, rc.n3, rdF_at l n, ?_⟩
      refine ⟨_, _, rfl, rfl, dx, _, hr1, (by show 3 < 1000; decide), ?_⟩
      rw [rdF_put]
      have nl : l ≠ r := fun e => by rw [e, hr1] at hl; cases hl
      refine ⟨_, rfl, k2 nx _ (fun b o hb e => by rw [upd_ne hb]; exact e) ⟨⟨dx, ?_⟩, by rw [upd_ne nl]; exact hl⟩⟩
      rw [upd_same]
      rfl
theorem scRex : FnScope ["self", "sign"] ["self", "sign"] (C8.fnScope sRex) := C8.fnScope_by (by decide +kernel)
theorem fn_rex {R D f : Addr} {fd : FuncData} (F : C8.Fun K "expect" "Reader.expect" sRex f fd) (rc : RdC K R) (MA : MetX P w K mg base 1 R "at_hand" (spRah R)) (MT : MetX P w K mg base 5 R "take" (spRtk R D)) : FnOk P w K mg base (L2.CX P w) 7 f fd ["self", "sign"] (spRex R) := by
  obtain ⟨oc, od, dV, kV, doc, pm, an, cdv, ct, osl, rfl, lk, hcd⟩ := F.ex
  refine fn_of lk hcd scRex (fun vs H Q E h => ?_) fun A outer s H vs Q E hr h => ?_
  · obtain ⟨r, l, ws, n, z, rfl, _⟩ := h
    rfl
  · obtain ⟨r, l, ws, n, z, rfl, at_, hz, k⟩ := h
    obtain ⟨⟨dx, hr1⟩, hl⟩ := id at_
    refine ⟨_, (pss_one (ps_expr (pe_mx (E := C8.E0) (pv 0) rc.cl MT hr (by decide) (passes_call takes0 (fun _ _ _ _ z => z)) (pa_cons (pe_ifExp (pt_cmpR op_eq (pe_mx0 (E := C8.E0) (pv 0) rc.cl MA hr (by decide) (passes_call takes0 (fun _ _ _ _ z => z))) (pv 1) (nomark _)) (pv 1) pe_non) pa_nil)))), ?_⟩
    refine ⟨_, rfl, r, dx, _, rfl, hr1, rdF_no l n (by decide +kernel) (by decide +kernel) (by decide +kernel), ?_⟩
    refine ⟨_, rfl, r, dx, _, rfl, hr1, rdF_no l n (by decide +kernel) (by decide +kernel) (by decide +kernel), r, l, ws, n, rfl, at_, ?_⟩
    rw [hz]
    refine ⟨_, rfl, rfl, _, rfl, iteT' (by simp) ?_⟩
    exact ⟨_, rfl, r, l, ws, n, _, rfl, at_, (fun e => by cases e), fun _ H' k1 a1 => k H' k1 a1⟩
theorem scRmo : FnScope ["self"] ["self"] (C8.fnScope sRmo) := C8.fnScope_by (by decide +kernel)
theorem fn_rmo {R f : Addr} {fd : FuncData} (F : C8.Fun K "more" "Reader.more" sRmo f fd) (rc : RdC K R) (MA : MetX P w K mg base 1 R "at_hand" (spRah R)) : FnOk P w K mg base (L2.CX P w) 3 f fd ["self"] (spRmo R) := by
  obtain ⟨oc, od, dV, kV, doc, pm, an, cdv, ct, osl, rfl, lk, hcd⟩ := F.ex
  refine fn_of lk hcd scRmo (fun vs H Q E h => ?_) fun A outer s H vs Q E hr h => ?_
  · obtain ⟨r, l, ws, n, rfl, _⟩ := h
    rfl
  · obtain ⟨r, l, ws, n, rfl, at_, k⟩ := h
    obtain ⟨⟨dx, hr1⟩, hl⟩ := id at_
    refine ⟨_, (pss_one (ps_ret (pe_cmpR op_notIn_seq (pe_mx0 (E := C8.E0) (pv 0) rc.cl MA hr (by decide) (passes_call takes0 (fun _ _ _ _ z => z))) (pe_tup (pa_cons pe_non (pa_cons pe_str (pa_cons pe_str pa_nil)))) (by rfl)))), ?_⟩
    refine ⟨_, rfl, r, dx, _, rfl, hr1, rdF_no l n (by decide +kernel) (by decide +kernel) (by decide +kernel), r, l, ws, n, rfl, at_, ?_⟩
    refine ⟨(by show 3 ≤ sizeLine; decide), fun q hq => ?_⟩
    refine ⟨q, _, rfl, .inr (SqT.of upd_same), by unfold handV; cases ws[n]? <;> rfl, rfl, ?_⟩
    have e : (!inV (handV ws n) [V.non, .str (Str.ofString "/"), .str (Str.ofString ";")]) = moreB ws n := by
      unfold handV moreB
      cases ws[n]? with
      | none => rfl
      | some w =>
        show (!(eqV .non (.str (S w)) || (eqV (.str (Str.ofString "/")) (.str (S w)) || (eqV (.str (Str.ofString ";")) (.str (S w)) || false)))) = _
        have e1 : eqV (.str (Str.ofString "/")) (.str (S w)) = decide (w = [47]) := eqV_S [47] w
        have e2 : eqV (.str (Str.ofString ";")) (.str (S w)) = decide (w = [59]) := eqV_S [59] w
        rw [e1, e2, Bool.or_false]
        rfl
    have := k _ (same_new (o := HO.tup [V.non, .str (Str.ofString "/"), .str (Str.ofString ";")]) hq)
    rw [← e] at this
    exact this
theorem scRfi : FnScope ["self"] ["self"] (C8.fnScope sRfi) := C8.fnScope_by (by decide +kernel)
theorem fn_rfi {R D f : Addr} {fd : FuncData} (F : C8.Fun K "finish" "Reader.finish" sRfi f fd) (T : Txt mg) (rc : RdC K R) (MR : MetX P w K mg base 3 R "refuse" (spRrf R D)) : FnOk P w K mg base (L2.CX P w) 5 f fd ["self"] (spRfi R D) := by
  obtain ⟨oc, od, dV, kV, doc, pm, an, cdv, ct, osl, rfl, lk, hcd⟩ := F.ex
  refine fn_of lk hcd scRfi (fun vs H Q E h => ?_) fun A outer s H vs Q E hr h => ?_
  · obtain ⟨r, l, ws, n, rfl, _⟩ := h
    rfl
  · obtain ⟨r, l, ws, n, rfl, at_, k1, k2⟩ := h
    obtain ⟨⟨dx, hr1⟩, hl⟩ := id at_
    refine ⟨_, (pss_one (ps_if (pt_cmpR op_lt (pe_fld (pv 0) rfl) (pe_callB call_len_seq (by rfl) T.n_len (by decide +kernel) (pa_cons (pe_fld (pv 0) rfl) pa_nil)) (nomark _)) (pss_one (ps_expr (pe_mx0 (pv 0) rc.cl MR hr (by decide) (passes_call (takes_of rfl rfl rfl rfl) (fun _ _ _ _ z => z))))) pss_nil)), ?_⟩
    have hlen : (wV ws).length = ws.length := by unfold wV; rw [List.length_map, List.length_map]
    refine ⟨_, rfl, r, R, dx, _, _, rfl, hr1, rc.cl, rc.n3, rdF_at l n, _, rfl, r, R, dx, _, _, rfl, hr1, rc.cl, rc.n1, rdF_words l n, l, _, rfl, .inl (SqL.of hl), _, _, rfl, rfl, _, rfl, ite2 (fun c => ?_) (fun c => ?_)⟩
    · have c' := of_decide_eq_true c
      rw [hlen] at c'
      exact ⟨_, rfl, r, dx, _, rfl, hr1, rdF_no l n (by decide +kernel) (by decide +kernel) (by decide +kernel), r, l, ws, n, rfl, at_, k1 (by omega)⟩
    · have c' := of_decide_eq_false (Bool.eq_false_iff.mpr c)
      rw [hlen] at c'
      exact k2 (by omega)
end
end Lw
namespace Lw
open PySem PySem.Spec PyProof.Rows L2
open SX PySem.NumText TL LamX ClX StX
set_option pp.maxSteps 900
abbrev sRin : Stmt := inClass (top 20) 4
abbrev sRp : Stmt := top 29
abbrev sRs : Stmt := top 30
abbrev sRr : Stmt := top 28
abbrev sRo : Stmt := top 42
theorem num_dig (n : Nat) : digB (numL n) = true := by
  unfold digB
  rw [Bool.and_eq_true]
  refine ⟨?_, List.all_eq_true.mpr fun c hc => ?_⟩
  · cases e : numL n with
    | nil => exact absurd e (numL_ne n)
    | cons c r => rfl
  · have := numL_digits n c hc
    rw [Bool.and_eq_true, decide_eq_true_eq, decide_eq_true_eq]
    exact this
theorem figs_num (n : Nat) : figs (numL n) = numL n := by
  cases e : numL n with
  | nil => rfl
  | cons c r =>
    have := numL_digits n c (by rw [e]; exact List.mem_cons_self)
    exact figs_other r (by omega)
theorem num_48 {n : Nat} (h : (numL n).head? = some 48) : n = 0 := by
  refine Classical.byContradiction fun z => ?_
  obtain ⟨c, r, e, hc⟩ := num_head n (by omega)
  rw [e] at h
  have := Option.some.inj h
  omega
theorem intOf_intL (i : Int) : intOf (intL i) = some i := by
  unfold intL
  by_cases h : i < 0
  · rw [if_pos h]
    unfold intOf
    rw [figs_minus, if_pos (num_dig _), if_neg (fun z => ?_), if_pos (show (45 :: numL i.natAbs).head? = some 45 from rfl), numL_val]
    · exact congrArg some (by omega)
    · have := num_48 z.1
      omega
  · rw [if_neg h]
    unfold intOf
    rw [figs_num, if_pos (num_dig _), if_neg (fun z => ?_), if_neg (fun z => ?_), numL_val]
    · exact congrArg some (by omega)
    · cases e : numL i.natAbs with
      | nil => exact absurd e (numL_ne _)
      | cons c r =>
        have := numL_digits i.natAbs c (by rw [e]; exact List.mem_cons_self)
        rw [e] at z
        have := Option.some.inj z
        omega
    · have e := num_48 z.1
      rw [e] at z
      exact z.2 rfl
theorem wds_join {ws : List (List Nat)} (ne : ws ≠ []) (h : ∀ w ∈ ws, 32 ∉ w) : wds (joinL [32] ws) = ws := TL.spl_join ne h
theorem intL_chars {n : Int} {c : Nat} (h : c ∈ intL n) : c = 45 ∨ (48 ≤ c ∧ c ≤ 57) := by
  unfold intL at h
  split at h
  · rcases List.mem_cons.mp h with h | h
    · exact .inl h
    · exact .inr (numL_digits _ _ h)
  · exact .inr (numL_digits _ _ h)
theorem text_hand (ws : List (List Nat)) (n : Nat) (h : ∀ w ∈ ws, (∀ c ∈ w, c < 128) ∧ w.length ≤ 5000) : TextOk (handV ws n) := fun z e => by
  unfold handV at e
  cases hw : ws[n]? with
  | none => rw [hw] at e; cases e
  | some w =>
    rw [hw] at e
    cases e
    obtain ⟨h1, h2⟩ := h w (List.mem_of_getElem? hw)
    exact ⟨w, rfl, h1, h2⟩

def numAt (ws : List (List Nat)) (n : Nat) (lo hi : Int) : Option Int := numV (handV ws n) lo hi
def spRin (R D : Addr) : Sp := fun vs H Q E => ∃ r l ws n lo hi, vs = [.ref r, .int lo, .int hi] ∧ RdAt R H r l ws n ∧ (∀ w ∈ ws, (∀ c ∈ w, c < 128) ∧ w.length ≤ 5000) ∧ (numAt ws n lo hi = none → Rf D H E n) ∧ (∀ k, numAt ws n lo hi = some k → ∀ H', Kp r H H' → RdAt R H' r l ws (n + 1) → Q (.int k) H')
/-- C(*y): an instance made of what stands in y -/
def tMakeS (K : PySem.W.Frag) (C : Addr) (sp : Sp) (E : XK) (te : TE) : TE := fun σ H Q => te σ H fun y H1 => ∃ a xs, y = V.ref a ∧ (SqT K H1 a xs ∨ SqL K H1 a xs) ∧ ∀ x dx, H1 x = none → H1 dx = none → dx ≠ x → sp (V.ref x :: xs) (upd (upd H1 dx (.own x)) x (.ins C dx [])) (fun v H2 => v = .non ∧ Q (.ref x) H2) E
section
variable {X : Cx} {CX : CXT} {k : Nat} {f C : Addr} {fd : FuncData} {ps : List Str} {sp : Sp} {E : XK} {x : Str} {e : Expr} {te : TE} {p q pos : Pos}
theorem pe_makeS (M : Mk X.K C f) (F : FnOk X.prog X.w X.K X.mg X.base CX k f fd ps sp) (hr : Room (k + 1) X.A) (hg : Gl X x) (hm : X.mg x = some (.ref C)) (hb : Binds X.K fd ps []) (hx : Passes CX X E) (he : PE X e te) (hdb : (x == ("__debug__" : Str)) = false := by decide)
    (hst : starEach [.Starred e q] X.env = [(true, eval e X.env)] := by rfl) : PE X (.Call (.Name x p) [.Starred e q] [] pos) (tMakeS X.K C sp E te) := by
  refine ⟨fun pins s σ H Q I h => ?_⟩
  refine wpAny_Call_Name_kw (ld_glob I hg hm ?_ hdb)
  refine PySem.W.callWith_S (h₀ := X.base) I.ok.mod.kin M.kp (thn (he.run pins s σ H _ I h) fun v s1 ⟨y, H1, I1, ry, a, xs, ey, hxs, z⟩ => ?_) hst
  subst ey
  obtain rfl : v = Value.ref a := ry
  exact star_any I1 hxs fun us s2 I2 rv => ⟨I2.kIn, run_make M F hr hb .nil hx I2 rv (by simpa using z)⟩
end
/-! ### the words of a rule -/
def Rl.leaf : Rl → Bool
  | .fx _ => true | .dv _ _ _ => true | _ => false
def Rl.nums : Rl → List V
  | .fx n => [.int n] | .dv x y w => [.int x, .int y, .int w] | _ => []
def Rl.w0 : Rl → List Nat
  | .fx _ => [102, 105, 120, 101, 100] | _ => [100, 105, 118, 105, 100, 101, 100]
/-- words that a reader can read -/
def Wd (ws : List (List Nat)) : Prop := ∀ w ∈ ws, (∀ c ∈ w, c < 128) ∧ w.length ≤ 5000
theorem num_at {ws : List (List Nat)} {n : Nat} {i lo hi : Int} (h : ws[n]? = some (intL i)) (h1 : lo ≤ i) (h2 : i ≤ hi) : numAt ws n lo hi = some i := by
  unfold numAt handV
  rw [h]
  show numV (.str (S (intL i))) lo hi = some i
  unfold numV
  rw [show intV (.str (S (intL i))) = some i from intOf_intL i]
  exact if_pos ⟨h1, h2⟩
theorem hand_at {ws : List (List Nat)} {n : Nat} {w : List Nat} (h : ws[n]? = some w) : handV ws n = .str (S w) := by unfold handV; rw [h]
theorem Rl.ws_ok : ∀ {t : Rl}, t.Ok → Wd t.ws ∧ ∀ w ∈ t.ws, 32 ∉ w
  | .fx n, h => by
    obtain ⟨h1, h2⟩ := h
    have l := intL_short (i := n) (by omega)
    constructor
    · intro w hw
      rcases List.mem_cons.mp hw with rfl | hw
      · exact ⟨by decide, by decide⟩
      · obtain rfl := List.mem_singleton.mp hw
        exact ⟨fun c hc => by have := intL_chars hc; omega, by omega⟩
    · intro w hw
      rcases List.mem_cons.mp hw with rfl | hw
      · decide
      · obtain rfl := List.mem_singleton.mp hw
        exact fun hc => by have := intL_chars hc; omega
  | .dv x y w, h => by
    obtain ⟨h1, h2, h3, h4, h5, h6⟩ := h
    have g : ∀ {i : Int}, i.natAbs ≤ 1000 → (∀ c ∈ intL i, c < 128) ∧ (intL i).length ≤ 5000 := fun {i} z => ⟨fun c hc => by have := intL_chars hc; omega, by have := intL_short (i := i) (Nat.le_trans z (by decide)); omega⟩
    have g2 : ∀ {i : Int}, 32 ∉ intL i := fun {i} hc => by have := intL_chars hc; omega
    constructor
    · intro v hv
      rcases List.mem_cons.mp hv with rfl | hv
      · exact ⟨by decide, by decide⟩
      · rcases List.mem_cons.mp hv with rfl | hv
        · exact g (by omega)
        · rcases List.mem_cons.mp hv with rfl | hv
          · exact g (by omega)
          · obtain rfl := List.mem_singleton.mp hv
            exact g (by omega)
    · intro v hv
      rcases List.mem_cons.mp hv with rfl | hv
      · decide
      · rcases List.mem_cons.mp hv with rfl | hv
        · exact g2
        · rcases List.mem_cons.mp hv with rfl | hv
          · exact g2
          · obtain rfl := List.mem_singleton.mp hv
            exact g2
  | .lo a b, h => by
    obtain ⟨a1, a2⟩ := Rl.ws_ok h.1
    obtain ⟨b1, b2⟩ := Rl.ws_ok h.2.1
    constructor
    · intro w hw
      rcases List.mem_cons.mp hw with rfl | hw
      · exact ⟨by decide, by decide⟩
      rcases List.mem_append.mp hw with hw | hw
      · exact a1 w hw
      rcases List.mem_cons.mp hw with rfl | hw
      · exact ⟨by decide, by decide⟩
      rcases List.mem_append.mp hw with hw | hw
      · exact b1 w hw
      · obtain rfl := List.mem_singleton.mp hw
        exact ⟨by decide, by decide⟩
    · intro w hw
      rcases List.mem_cons.mp hw with rfl | hw
      · decide
      rcases List.mem_append.mp hw with hw | hw
      · exact a2 w hw
      rcases List.mem_cons.mp hw with rfl | hw
      · decide
      rcases List.mem_append.mp hw with hw | hw
      · exact b2 w hw
      · obtain rfl := List.mem_singleton.mp hw
        decide
  | .hi a b, h => by
    obtain ⟨a1, a2⟩ := Rl.ws_ok h.1
    obtain ⟨b1, b2⟩ := Rl.ws_ok h.2.1
    constructor
    · intro w hw
      rcases List.mem_cons.mp hw with rfl | hw
      · exact ⟨by decide, by decide⟩
      rcases List.mem_append.mp hw with hw | hw
      · exact a1 w hw
      rcases List.mem_cons.mp hw with rfl | hw
      · exact ⟨by decide, by decide⟩
      rcases List.mem_append.mp hw with hw | hw
      · exact b1 w hw
      · obtain rfl := List.mem_singleton.mp hw
        exact ⟨by decide, by decide⟩
    · intro w hw
      rcases List.mem_cons.mp hw with rfl | hw
      · decide
      rcases List.mem_append.mp hw with hw | hw
      · exact a2 w hw
      rcases List.mem_cons.mp hw with rfl | hw
      · decide
      rcases List.mem_append.mp hw with hw | hw
      · exact b2 w hw
      · obtain rfl := List.mem_singleton.mp hw
        decide
theorem wds_tx {t : Rl} (h : t.Ok) : wds t.tx = t.ws := wds_join t.ws_ne (Rl.ws_ok h).2
theorem drop_at {α : Type} {ws xs rest : List α} {n i : Nat} {x : α} (h : ws.drop n = xs ++ rest) (hx : xs[i]? = some x) : ws[n + i]? = some x := by
  have e : (ws.drop n)[i]? = ws[n + i]? := List.getElem?_drop
  have hl : i < xs.length := (List.getElem?_eq_some_iff.mp hx).1
  rw [← e, h, List.getElem?_append_left hl, hx]
theorem kp_free {R r l p : Addr} {H H' : Hp} {ws : List (List Nat)} {n : Nat} (k : Kp r H H') (a : RdAt R H' r l ws n) (hp : H' p = none) : H p = none := by
  cases e : H p with
  | none => rfl
  | some o =>
    by_cases z : p = r
    · obtain ⟨⟨dx, h⟩, _⟩ := a
      rw [z, h] at hp
      cases hp
    · rw [k _ _ z e] at hp
      cases hp
/-- the reader's methods that rules need -/
structure RdR (P : Program) (w : World) (K : PySem.W.Frag) (mg : Str → Option Value) (base : Heap) (R D : Addr) : Prop where
  rc : RdC K R
  A : MetX P w K mg base 1 R "at_hand" (spRah R)
  T : MetX P w K mg base 5 R "take" (spRtk R D)
  X : MetX P w K mg base 7 R "expect" (spRex R)
  I : MetX P w K mg base 7 R "integer" (spRin R D)
  F : MetX P w K mg base 5 R "finish" (spRfi R D)
def spRp (R : Addr) : Sp := fun vs H Q _ => ∃ (r l : Addr) (ws : List (List Nat)) (n : Nat) (t : Rl) (rest : List (List Nat)), vs = [.ref r] ∧ RdAt R H r l ws n ∧ Wd ws ∧ t.leaf = true ∧ t.Ok ∧ ws.drop n = t.ws ++ rest ∧ ∀ p H', Kp r H H' → RdAt R H' r l ws (n + t.ws.length) → H p = none → H' p = some (.tup t.nums) → Q (.ref p) H'
def spRs (R : Addr) : Sp := fun vs H Q _ => ∃ r l ws n c, vs = [.ref r] ∧ RdAt R H r l ws n ∧ ws[n]? = some [c] ∧ (c = 38 ∨ c = 124) ∧ ∀ H', Kp r H H' → RdAt R H' r l ws (n + 1) → Q (.str (S [c])) H'
section
variable {P : Program} {w : World} {K : PySem.W.Frag} {mg : Str → Option Value} {base : Heap} {R D SG : Addr}
theorem scRin : FnScope ["self", "least", "most"] ["self", "least", "most"] (C8.fnScope sRin) := C8.fnScope_by (by decide +kernel)
theorem fn_rin {R D f : Addr} {fd : FuncData} (F : C8.Fun K "integer" "Reader.integer" sRin f fd) (rc : RdC K R) (MA : MetX P w K mg base 1 R "at_hand" (spRah R)) (MT : MetX P w K mg base 5 R "take" (spRtk R D)) (DN : C8.Cal P w K mg base 3 "number_of" (spNumOf K) []) : FnOk P w K mg base (L2.CX P w) 7 f fd ["self", "least", "most"] (spRin R D) := by
  obtain ⟨oc, od, dV, kV, doc, pm, an, cdv, ct, osl, rfl, lk, hcd⟩ := F.ex
  refine fn_of lk hcd scRin (fun vs H Q E h => ?_) fun A outer s H vs Q E hr h => ?_
  · obtain ⟨r, l, ws, n, lo, hi, rfl, _⟩ := h
    rfl
  · obtain ⟨r, l, ws, n, lo, hi, rfl, at_, tx, k1, k2⟩ := h
    obtain ⟨⟨dx, hr1⟩, hl⟩ := id at_
    refine ⟨_, (pss_one (ps_ret (pe_mx (pv 0) rc.cl MT hr (by decide) (passes_call (takes_of rfl rfl rfl rfl) (fun _ _ _ _ z => z)) (pa_cons (C8.pe_c DN hr (by decide) (by rfl) (pa_cons (pe_mx0 (E := C8.E0) (pv 0) rc.cl MA hr (by decide) (passes_call takes0 (fun _ _ _ _ z => z))) (pa_cons (pv 1) (pa_cons (pv 2) pa_nil)))) pa_nil)))), ?_⟩
    have no : ∀ {m : Str}, m ≠ "_words" → m ≠ "_row" → m ≠ "_at" → (rdF l n).lookup m = none := fun h1 h2 h3 => rdF_no l _ h1 h2 h3
    refine ⟨_, rfl, r, dx, _, rfl, hr1, no (by decide +kernel) (by decide +kernel) (by decide +kernel), ?_⟩
    refine ⟨_, rfl, r, dx, _, rfl, hr1, no (by decide +kernel) (by decide +kernel) (by decide +kernel), r, l, ws, n, rfl, at_, ?_⟩
    refine ⟨_, rfl, _, rfl, _, lo, hi, rfl, hand_any _ _ _ _, text_hand _ _ tx, ?_⟩
    refine ⟨r, l, ws, n, _, rfl, at_, fun e => k1 ?_, fun e H' kp a1 => ?_⟩
    · show numV _ _ _ = none
      generalize numV (handV ws n) lo hi = o at e
      cases o with
      | none => rfl
      | some k => cases e
    · have k2' := k2
      unfold numAt at k2'
      generalize numV (handV ws n) lo hi = o at e k2' ⊢
      cases o with
      | none => exact absurd rfl e
      | some k => exact k2' k rfl H' kp a1
theorem scRs : FnScope ["reader", "word"] ["reader"] (C8.fnScope sRs) := C8.fnScope_by (by decide +kernel)
theorem cal_rs {f : Addr} {fd : FuncData} (F : C8.Def K mg "read_sign" sRs f fd) (b : Binds K fd ["reader"] []) (RM : RdR P w K mg base R D) (hSG : mg "SIGNS" = some (.ref SG)) (tSG : ∀ H, SqT K H SG [.str (S [38]), .str (S [124])]) : C8.Cal P w K mg base 6 "read_sign" (spRs R) [] := by
  refine C8.cal0 F b .nil scRs (fun vs H Q E h => ?_) (fun cdv A outer st H vs Q E hr h => ?_)
  · obtain ⟨r, l, ws, n, c, rfl, _⟩ := h
    rfl
  · obtain ⟨r, l, ws, n, c, rfl, at_, hc, c2, k⟩ := h
    obtain ⟨⟨dx, hr1⟩, hl⟩ := id at_
    have no : ∀ {m : Str}, m ≠ "_words" → m ≠ "_row" → m ≠ "_at" → (rdF l n).lookup m = none := fun h1 h2 h3 => rdF_no l _ h1 h2 h3
    refine ⟨_, (pss_cons (ps_set (i := 1) scRs.nd rfl (Or.inl rfl) (pe_mx0 (E := C8.E0) (pv 0) RM.rc.cl RM.A hr (by decide) (passes_call takes0 (fun _ _ _ _ z => z))))
  (pss_one (ps_ret (pe_mx (E := C8.E0) (pv 0) RM.rc.cl RM.T hr (by decide) (passes_call takes0 (fun _ _ _ _ z => z)) (pa_cons (pe_ifExp (pt_cmpR op_in_seq (pv 1) (pe_glob (v := .ref SG) (by rfl) hSG rfl) (by rfl)) (pv 1) pe_non) pa_nil))))), ?_⟩
    refine ⟨_, rfl, r, dx, _, rfl, hr1, no (by decide +kernel) (by decide +kernel) (by decide +kernel), r, l, ws, n, rfl, at_, ?_⟩
    rw [hand_at hc]
    dsimp only [gName, tSeq]
    refine ⟨_, rfl, r, dx, _, rfl, hr1, no (by decide +kernel) (by decide +kernel) (by decide +kernel), ?_⟩
    have e : inV (.str (S [c])) [.str (S [38]), .str (S [124])] = true := by
      show (eqV (.str (S [38])) (.str (S [c])) || (eqV (.str (S [124])) (.str (S [c])) || false)) = true
      rw [eqV_S, eqV_S]
      rcases c2 with rfl | rfl <;> rfl
    refine ⟨_, rfl, SG, _, rfl, .inr (tSG H), rfl, rfl, _, rfl, iteT' e ?_⟩
    exact ⟨_, rfl, r, l, ws, n, _, rfl, at_, (fun e => by cases e), fun _ H' k1 a1 => k H' k1 a1⟩
theorem scRp : FnScope ["reader", "word", "x", "y"] ["reader"] (C8.fnScope sRp) := C8.fnScope_by (by decide +kernel)
theorem cal_rp {f : Addr} {fd : FuncData} (F : C8.Def K mg "read_part" sRp f fd) (b : Binds K fd ["reader"] []) (RM : RdR P w K mg base R D) (hGS : ∃ t, mg "GREATEST_SIZE" = some (.int (10 ^ 30) t)) (hMF : ∃ t, mg "MOST_FACTOR" = some (.int 24 t)) (hMS : ∃ t, mg "MOST_START" = some (.int 1000 t)) : C8.Cal P w K mg base 8 "read_part" (spRp R) [] := by
  refine C8.cal0 F b .nil scRp (fun vs H Q E h => ?_) (fun cdv A outer st H vs Q E hr h => ?_)
  · obtain ⟨r, l, ws, n, t, rest, rfl, _⟩ := h
    rfl
  · obtain ⟨r, l, ws, n, t, rest, rfl, at_, wd, lf, ok, hd, k⟩ := h
    obtain ⟨⟨dx, hr1⟩, hl⟩ := id at_
    have no : ∀ {m : Str}, m ≠ "_words" → m ≠ "_row" → m ≠ "_at" → ∀ n, (rdF l n).lookup m = none := fun h1 h2 h3 n => rdF_no l n h1 h2 h3
    obtain ⟨tg, hGS⟩ := hGS
    obtain ⟨tf, hMF⟩ := hMF
    obtain ⟨ts, hMS⟩ := hMS
    refine ⟨_, (pss_cons (ps_set (i := 1) scRp.nd rfl (Or.inl rfl) (pe_mx0 (E := C8.E0) (pv 0) RM.rc.cl RM.A hr (by decide) (passes_call takes0 (fun _ _ _ _ z => z))))
  (pss_cons (ps_expr (pe_mx (E := C8.E0) (pv 0) RM.rc.cl RM.T hr (by decide) (passes_call takes0 (fun _ _ _ _ z => z)) (pa_cons (pe_ifExp (pt_cmpR op_in_seq (pv 1) (pe_tup (pa_cons pe_str (pa_cons pe_str pa_nil))) (by rfl)) (pv 1) pe_non) pa_nil)))
  (pss_cons (ps_if (pt_cmpR op_eq (pv 1) pe_str (nomark _)) (pss_one (ps_ret (pe_tup (pa_cons (pe_mx (E := C8.E0) (pv 0) RM.rc.cl RM.I hr (by decide) (passes_call takes0 (fun _ _ _ _ z => z)) (pa_cons pe_int (pa_cons (pe_glob (v := .int (10 ^ 30)) (by rfl) hGS ⟨_, rfl⟩) pa_nil))) pa_nil)))) pss_nil)
  (pss_cons (ps_set (i := 2) scRp.nd rfl (Or.inl rfl) (pe_mx (E := C8.E0) (pv 0) RM.rc.cl RM.I hr (by decide) (passes_call takes0 (fun _ _ _ _ z => z)) (pa_cons pe_int (pa_cons (pe_glob (v := .int 24) (by rfl) hMF ⟨_, rfl⟩) pa_nil))))
  (pss_cons (ps_set (i := 3) scRp.nd rfl (Or.inl rfl) (pe_mx (E := C8.E0) (pv 0) RM.rc.cl RM.I hr (by decide) (passes_call takes0 (fun _ _ _ _ z => z)) (pa_cons (pe_un un_neg (pe_glob (v := .int 1000) (by rfl) hMS ⟨_, rfl⟩)) (pa_cons (pe_glob (v := .int 1000) (by rfl) hMS ⟨_, rfl⟩) pa_nil))))
  (pss_one (ps_ret (pe_tup (pa_cons (pv 2) (pa_cons (pv 3) (pa_cons (pe_mx (E := C8.E0) (pv 0) RM.rc.cl RM.I hr (by decide) (passes_call takes0 (fun _ _ _ _ z => z)) (pa_cons pe_int (pa_cons (pe_glob (v := .int 24) (by rfl) hMF ⟨_, rfl⟩) pa_nil))) pa_nil))))))))))), ?_⟩
    refine ⟨_, rfl, r, dx, _, rfl, hr1, no (by decide +kernel) (by decide +kernel) (by decide +kernel) _, r, l, ws, n, rfl, at_, ?_⟩
    have h0 : ws[n]? = some t.w0 := by
      have := drop_at (i := 0) (x := t.w0) hd (by cases t <;> first | rfl | cases lf)
      exact this
    rw [hand_at h0]
    dsimp only [gName, tSeq]
    have e : inV (.str (S t.w0)) [.str (Str.ofString "fixed"), .str (Str.ofString "divided")] = true := by
      cases t with
      | fx m => exact (by decide +kernel : inV (.str (S [102, 105, 120, 101, 100])) [.str (Str.ofString "fixed"), .str (Str.ofString "divided")] = true)
      | _ => exact (by decide +kernel : inV (.str (S [100, 105, 118, 105, 100, 101, 100])) [.str (Str.ofString "fixed"), .str (Str.ofString "divided")] = true)
    refine ⟨_, rfl, r, dx, _, rfl, hr1, no (by decide +kernel) (by decide +kernel) (by decide +kernel) _, ?_⟩
    refine ⟨_, rfl, (by show 2 ≤ sizeLine; decide), fun q hq => ⟨q, _, rfl, .inr (SqT.of upd_same), rfl, rfl, _, rfl, iteT' e ?_⟩⟩
    have sm := same_new (o := HO.tup [V.str (Str.ofString "fixed"), .str (Str.ofString "divided")]) hq
    refine ⟨_, rfl, r, l, ws, n, _, rfl, at_.same sm, (fun e => by cases e), fun _ H1 kp1 a1 => ?_⟩
    dsimp only [tNext]
    obtain ⟨⟨dx1, hr2⟩, hl2⟩ := id a1
    cases t with
    | fx m =>
      obtain ⟨m1, m2⟩ := ok
      have hn : ws[n + 1]? = some (intL m) := drop_at (i := 1) hd rfl
      dsimp only [tSeq]
      refine ⟨_, rfl, rfl, _, rfl, iteT' (by decide +kernel : decide (V.str (S [102, 105, 120, 101, 100]) = V.str (Str.ofString "fixed")) = true) ?_⟩
      refine ⟨_, rfl, r, dx1, _, rfl, hr2, no (by decide +kernel) (by decide +kernel) (by decide +kernel) _, r, l, ws, n + 1, 1, 10 ^ 30, rfl, a1, wd, (fun e => by rw [num_at hn m1 m2] at e; cases e), fun i e H2 kp2 a2 => ?_⟩
      obtain rfl : m = i := Option.some.inj ((num_at hn m1 m2).symm.trans e)
      refine ⟨(by show 1 ≤ sizeLine; decide), fun p hp => ?_⟩
      have kp3 : Kp r H H2 := fun b o nb e => kp2 _ _ nb (kp1 _ _ nb (sm _ _ e))
      exact k p _ (fun b o nb e => same_new hp _ _ (kp3 b o nb e)) (a2.same (same_new hp)) (kp_free kp3 a2 hp) upd_same
    | dv x y w0 =>
      obtain ⟨x0, x1, y0, y1, w1, w2⟩ := ok
      have hx : ws[n + 1]? = some (intL x) := drop_at (i := 1) hd rfl
      have hy : ws[n + 2]? = some (intL y) := drop_at (i := 2) hd rfl
      have hw : ws[n + 3]? = some (intL w0) := drop_at (i := 3) hd rfl
      dsimp only [tSeq]
      refine ⟨_, rfl, rfl, _, rfl, iteF' (by decide +kernel : decide (V.str (S [100, 105, 118, 105, 100, 101, 100]) = V.str (Str.ofString "fixed")) = false) ?_⟩
      dsimp only [tNext]
      refine ⟨_, rfl, r, dx1, _, rfl, hr2, no (by decide +kernel) (by decide +kernel) (by decide +kernel) _, r, l, ws, n + 1, 0, 24, rfl, a1, wd, (fun e => by rw [num_at hx x0 x1] at e; cases e), fun i e H2 kp2 a2 => ?_⟩
      obtain rfl : x = i := Option.some.inj ((num_at hx x0 x1).symm.trans e)
      obtain ⟨⟨dx2, hr3⟩, hl3⟩ := id a2
      dsimp only [gName]
      refine ⟨_, rfl, r, dx2, _, rfl, hr3, no (by decide +kernel) (by decide +kernel) (by decide +kernel) _, _, rfl, r, l, ws, n + 2, -1000, 1000, rfl, a2, wd, (fun e => by rw [num_at hy y0 y1] at e; cases e), fun i e H3 kp3 a3 => ?_⟩
      obtain rfl : y = i := Option.some.inj ((num_at hy y0 y1).symm.trans e)
      obtain ⟨⟨dx3, hr4⟩, hl4⟩ := id a3
      dsimp only [gName]
      refine ⟨_, rfl, _, rfl, _, rfl, r, dx3, _, rfl, hr4, no (by decide +kernel) (by decide +kernel) (by decide +kernel) _, r, l, ws, n + 3, 1, 24, rfl, a3, wd, (fun e => by rw [num_at hw w1 w2] at e; cases e), fun i e H4 kp4 a4 => ?_⟩
      obtain rfl : w0 = i := Option.some.inj ((num_at hw w1 w2).symm.trans e)
      refine ⟨(by show 3 ≤ sizeLine; decide), fun p hp => ?_⟩
      have kp5 : Kp r H H4 := fun b o nb e => kp4 _ _ nb (kp3 _ _ nb (kp2 _ _ nb (kp1 _ _ nb (sm _ _ e))))
      exact k p _ (fun b o nb e => same_new hp _ _ (kp5 b o nb e)) (a4.same (same_new hp)) (kp_free kp5 a4 hp) upd_same
    | lo a b => cases lf
    | hi a b => cases lf
end
end Lw
namespace Lw
open PySem PySem.Spec PyProof.Rows L2
open SX PySem.NumText TL LamX ClX StX
set_option pp.maxSteps 900
/-! ### any words read as a rule: the first word that cannot stand, or where the rule ends, how many parts, the rule -/
def Rl.jn (c : Nat) (a b : Rl) : Rl := if c = 38 then .lo a b else .hi a b
inductive Rs where
  | er (n : Nat)
  | ok (n m : Nat) (t : Rl)
def bnd (r : Rs) (g : Nat → Nat → Rl → Rs) : Rs := match r with
  | .er e => .er e
  | .ok n m t => g n m t
theorem bnd_assoc (r : Rs) (g h : Nat → Nat → Rl → Rs) : bnd (bnd r g) h = bnd r fun n m t => bnd (g n m t) h := by cases r <;> rfl
def fixW : List Nat := [102, 105, 120, 101, 100]
def divW : List Nat := [100, 105, 118, 105, 100, 101, 100]
def sgn : Option (List Nat) → Option Nat := fun w => if w = some [38] then some 38 else if w = some [124] then some 124 else none
def leafR (ws : List (List Nat)) (at_ m : Nat) : Rs :=
  if ws[at_]? = some fixW then
    match numAt ws (at_ + 1) 1 (10 ^ 30) with
    | some k => .ok (at_ + 2) (m + 1) (.fx k)
    | none => .er (at_ + 1)
  else if ws[at_]? = some divW then
    match numAt ws (at_ + 1) 0 24 with
    | none => .er (at_ + 1)
    | some x => match numAt ws (at_ + 2) (-1000) 1000 with
      | none => .er (at_ + 2)
      | some y => match numAt ws (at_ + 3) 1 24 with
        | none => .er (at_ + 3)
        | some w => .ok (at_ + 4) (m + 1) (.dv x y w)
  else .er at_
def closeR (ws : List (List Nat)) (c : Nat) (a : Rl) (n m : Nat) (b : Rl) : Rs := if ws[n]? = some [41] then .ok (n + 1) m (Rl.jn c a b) else .er n
def pR (ws : List (List Nat)) : Nat → Nat → Nat → Rs
  | 0, at_, _ => .er at_
  | f + 1, at_, m =>
    if ws[at_]? = some [40] then
      bnd (pR ws f (at_ + 1) m) fun n m1 a => match sgn ws[n]? with
        | none => .er n
        | some c => bnd (pR ws f (n + 1) m1) fun n2 m2 b => closeR ws c a n2 m2 b
    else if m = 6 then .er at_ else leafR ws at_ m
theorem some_lt {α : Type} {ws : List α} {n : Nat} {x : α} (h : ws[n]? = some x) : n < ws.length := (List.getElem?_eq_some_iff.mp h).1
theorem num_lt {ws : List (List Nat)} {n : Nat} {lo hi k : Int} (h : numAt ws n lo hi = some k) : n < ws.length ∧ lo ≤ k ∧ k ≤ hi := by
  unfold numAt at h
  constructor
  · refine Classical.byContradiction fun z => ?_
    have : ws[n]? = none := List.getElem?_eq_none (by omega)
    unfold handV at h
    rw [this] at h
    cases h
  · unfold numV at h
    split at h
    · split at h
      · rename_i i _ hb
        cases h
        exact hb
      · cases h
    · cases h
inductive It where
  | pt (t : Rl)
  | sg (c : Nat)
def Rl.post : Rl → List It
  | .lo a b => a.post ++ (b.post ++ [.sg 38])
  | .hi a b => a.post ++ (b.post ++ [.sg 124])
  | t => [.pt t]
def ItV (H : Hp) (v : V) : It → Prop
  | .pt t => ∃ p, v = .ref p ∧ H p = some (.tup t.nums)
  | .sg c => v = .str (S [c])
def ToAt (H : Hp) : List V → List It → Prop
  | [], [] => True
  | v :: vs, i :: is => ItV H v i ∧ ToAt H vs is
  | _, _ => False
theorem ItV.on {H H' : Hp} {v : V} (s : Tt H H') : ∀ {i : It}, ItV H v i → ItV H' v i
  | .pt _, ⟨p, e, h⟩ => ⟨p, e, s _ _ h⟩
  | .sg _, h => h
theorem ToAt.on {H H' : Hp} (s : Tt H H') : ∀ {vs : List V} {is : List It}, ToAt H vs is → ToAt H' vs is
  | [], [], _ => trivial
  | _ :: _, _ :: _, h => ⟨h.1.on s, h.2.on s⟩
  | [], _ :: _, h => h.elim
  | _ :: _, [], h => h.elim
theorem ToAt.add {H : Hp} {v : V} {i : It} (hi : ItV H v i) : ∀ {vs : List V} {is : List It}, ToAt H vs is → ToAt H (vs ++ [v]) (is ++ [i])
  | [], [], _ => ⟨hi, trivial⟩
  | _ :: _, _ :: _, h => ⟨h.1, h.2.add hi⟩
  | [], _ :: _, h => h.elim
  | _ :: _, [], h => h.elim
theorem ToAt.len {H : Hp} : ∀ {vs : List V} {is : List It}, ToAt H vs is → vs.length = is.length
  | [], [], _ => rfl
  | _ :: vs, _ :: is, h => by rw [List.length_cons, List.length_cons, ToAt.len h.2]
  | [], _ :: _, h => h.elim
  | _ :: _, [], h => h.elim
theorem Rl.leafy : ∀ {t : Rl}, t.leaf = true → t.post = [.pt t] ∧ t.ws[0]? = some t.w0 ∧ 2 ≤ t.ws.length ∧ t.cnt = 1
  | .fx _, _ => ⟨rfl, rfl, by show 2 ≤ 2; decide, rfl⟩
  | .dv _ _ _, _ => ⟨rfl, rfl, by show 2 ≤ 4; decide, rfl⟩
  | .lo _ _, h => by cases h
  | .hi _ _, h => by cases h
theorem leafR_ok {ws : List (List Nat)} {at_ m n m1 : Nat} {t : Rl} (h : leafR ws at_ m = .ok n m1 t) : at_ < n ∧ n ≤ ws.length ∧ m1 = m + t.cnt ∧ t.Lf ∧ t.leaf = true := by
  unfold leafR at h
  split at h
  · split at h
    · rename_i k hk
      obtain ⟨l1, l2, l3⟩ := num_lt hk
      cases h
      exact ⟨by omega, by omega, rfl, ⟨l2, l3⟩, rfl⟩
    · cases h
  · split at h
    · split at h
      · cases h
      · rename_i x hx
        split at h
        · cases h
        · rename_i y hy
          split at h
          · cases h
          · rename_i w hw
            obtain ⟨_, x1, x2⟩ := num_lt hx
            obtain ⟨_, y1, y2⟩ := num_lt hy
            obtain ⟨l1, w1, w2⟩ := num_lt hw
            cases h
            exact ⟨by omega, by omega, rfl, ⟨x1, x2, y1, y2, w1, w2⟩, rfl⟩
    · cases h
theorem sgn_some {w : Option (List Nat)} {c : Nat} (h : sgn w = some c) : (c = 38 ∨ c = 124) ∧ w = some [c] := by
  unfold sgn at h
  split at h
  · cases h; exact ⟨.inl rfl, by assumption⟩
  · split at h
    · cases h; exact ⟨.inr rfl, by assumption⟩
    · cases h
theorem jn_cnt (c : Nat) (a b : Rl) : (Rl.jn c a b).cnt = a.cnt + b.cnt := by unfold Rl.jn; split <;> rfl
theorem jn_lf {c : Nat} {a b : Rl} (h1 : a.Lf) (h2 : b.Lf) : (Rl.jn c a b).Lf := by unfold Rl.jn; split <;> exact ⟨h1, h2⟩
theorem pR_ok {ws : List (List Nat)} : ∀ {f at_ m n m1 : Nat} {t : Rl}, m ≤ 6 → pR ws f at_ m = .ok n m1 t → at_ < n ∧ n ≤ ws.length ∧ m1 = m + t.cnt ∧ m1 ≤ 6 ∧ t.Lf
  | 0, _, _, _, _, _, _, h => by cases h
  | f + 1, at_, m, n, m1, t, hm, h => by
    unfold pR at h
    split at h
    · cases e1 : pR ws f (at_ + 1) m with
      | er e => rw [e1] at h; cases h
      | ok n1 m2 a =>
        rw [e1] at h
        obtain ⟨a1, a2, a3, a4, a5⟩ := pR_ok hm e1
        change (match sgn ws[n1]? with | none => Rs.er n1 | some c => bnd (pR ws f (n1 + 1) m2) fun n2 m3 b => closeR ws c a n2 m3 b) = _ at h
        split at h
        · cases h
        · rename_i c hc
          cases e2 : pR ws f (n1 + 1) m2 with
          | er e => rw [e2] at h; cases h
          | ok n2 m3 b =>
            rw [e2] at h
            obtain ⟨b1, b2, b3, b4, b5⟩ := pR_ok a4 e2
            change closeR ws c a n2 m3 b = _ at h
            unfold closeR at h
            split at h
            · rename_i hc2
              have := some_lt hc2
              cases h
              rw [jn_cnt]
              exact ⟨by omega, by omega, by omega, b4, jn_lf a5 b5⟩
            · cases h
    · split at h
      · cases h
      · rename_i h6
        obtain ⟨a1, a2, a3, a4, a5⟩ := leafR_ok h
        have : t.cnt = 1 := (Rl.leafy a5).2.2.2
        exact ⟨a1, a2, a3, by omega, a4⟩
/-- more fuel than words left changes nothing -/
theorem pR_fuel {ws : List (List Nat)} : ∀ {f g at_ m : Nat}, m ≤ 6 → ws.length + 1 ≤ f + at_ → ws.length + 1 ≤ g + at_ → pR ws f at_ m = pR ws g at_ m
  | 0, g, at_, m, hm, h1, h2 => by
    have : ∀ g, pR ws g at_ m = .er at_ := fun g => by
      cases g with
      | zero => rfl
      | succ g =>
        have no : ws[at_]? = none := List.getElem?_eq_none (by omega)
        unfold pR leafR
        rw [no, if_neg (show ¬ (none : Option (List Nat)) = some [40] from fun z => by cases z)]
        split
        · rfl
        · rw [if_neg (show ¬ (none : Option (List Nat)) = some fixW from fun z => by cases z), if_neg (show ¬ (none : Option (List Nat)) = some divW from fun z => by cases z)]
    rw [this, this]
  | f + 1, 0, at_, m, hm, h1, h2 => by
    have : ∀ g, pR ws g at_ m = .er at_ := fun g => by
      cases g with
      | zero => rfl
      | succ g =>
        have no : ws[at_]? = none := List.getElem?_eq_none (by omega)
        unfold pR leafR
        rw [no, if_neg (show ¬ (none : Option (List Nat)) = some [40] from fun z => by cases z)]
        split
        · rfl
        · rw [if_neg (show ¬ (none : Option (List Nat)) = some fixW from fun z => by cases z), if_neg (show ¬ (none : Option (List Nat)) = some divW from fun z => by cases z)]
    rw [this, this]
  | f + 1, g + 1, at_, m, hm, h1, h2 => by
    unfold pR
    split
    · rw [pR_fuel (f := f) (g := g) hm (by omega) (by omega)]
      cases e1 : pR ws g (at_ + 1) m with
      | er e => rfl
      | ok n1 m2 a =>
        obtain ⟨a1, a2, a3, a4, a5⟩ := pR_ok hm e1
        show (match sgn ws[n1]? with | none => Rs.er n1 | some c => bnd (pR ws f (n1 + 1) m2) fun n2 m3 b => closeR ws c a n2 m3 b) = (match sgn ws[n1]? with | none => Rs.er n1 | some c => bnd (pR ws g (n1 + 1) m2) fun n2 m3 b => closeR ws c a n2 m3 b)
        rw [pR_fuel (f := f) (g := g) a4 (by omega) (by omega)]
    · rfl
/-- a bracket that is open -/
inductive Fq where
  | l
  | r (c : Nat) (a : Rl)
def finR (ws : List (List Nat)) (F : Nat) : List Fq → Nat → Nat → Rl → Rs
  | [], n, m, t => .ok n m t
  | .r c a :: k, n, m, t => if ws[n]? = some [41] then finR ws F k (n + 1) m (Rl.jn c a t) else .er n
  | .l :: k, n, m, t => match sgn ws[n]? with
    | none => .er n
    | some c => bnd (pR ws F (n + 1) m) fun n2 m2 t2 => if ws[n2]? = some [41] then finR ws F k (n2 + 1) m2 (Rl.jn c t t2) else .er n2
/-- a bracket opens -/
theorem step_open {ws : List (List Nat)} {F pos m : Nat} {k : List Fq} (hm : m ≤ 6) (hF : ws.length + 1 ≤ F) (h : ws[pos]? = some [40]) : bnd (pR ws F pos m) (finR ws F k) = bnd (pR ws F (pos + 1) m) (finR ws F (.l :: k)) := by
  obtain ⟨f, rfl⟩ : ∃ f, F = f + 1 := ⟨F - 1, by omega⟩
  have e : pR ws (f + 1) pos m = bnd (pR ws f (pos + 1) m) fun n m1 a => match sgn ws[n]? with
        | none => .er n
        | some c => bnd (pR ws f (n + 1) m1) fun n2 m2 b => closeR ws c a n2 m2 b := by
    conv => lhs; unfold pR
    rw [if_pos h]
  rw [e, bnd_assoc, pR_fuel (f := f) (g := f + 1) hm (by omega) (by omega)]
  cases e1 : pR ws (f + 1) (pos + 1) m with
  | er e => rfl
  | ok n1 m2 a =>
    obtain ⟨a1, a2, a3, a4, a5⟩ := pR_ok hm e1
    show bnd (match sgn ws[n1]? with | none => Rs.er n1 | some c => bnd (pR ws f (n1 + 1) m2) fun n2 m3 b => closeR ws c a n2 m3 b) (finR ws (f + 1) k) = (match sgn ws[n1]? with | none => Rs.er n1 | some c => bnd (pR ws (f + 1) (n1 + 1) m2) fun n2 m3 t2 => if ws[n2]? = some [41] then finR ws (f + 1) k (n2 + 1) m3 (Rl.jn c a t2) else .er n2)
    cases sgn ws[n1]? with
    | none => rfl
    | some c =>
      show bnd (bnd (pR ws f (n1 + 1) m2) fun n2 m3 b => closeR ws c a n2 m3 b) (finR ws (f + 1) k) = _
      rw [bnd_assoc, pR_fuel (f := f) (g := f + 1) a4 (by omega) (by omega)]
      cases pR ws (f + 1) (n1 + 1) m2 with
      | er e => rfl
      | ok n2 m3 b =>
        show bnd (closeR ws c a n2 m3 b) (finR ws (f + 1) k) = if ws[n2]? = some [41] then finR ws (f + 1) k (n2 + 1) m3 (Rl.jn c a b) else .er n2
        unfold closeR
        split <;> rfl
theorem step_leaf {ws : List (List Nat)} {F pos m : Nat} {k : List Fq} (hF : 1 ≤ F) (h : ws[pos]? ≠ some [40]) (h6 : m ≠ 6) : bnd (pR ws F pos m) (finR ws F k) = bnd (leafR ws pos m) (finR ws F k) := by
  obtain ⟨f, rfl⟩ : ∃ f, F = f + 1 := ⟨F - 1, by omega⟩
  have e : pR ws (f + 1) pos m = leafR ws pos m := by
    conv => lhs; unfold pR
    rw [if_neg h, if_neg h6]
  rw [e]
theorem step_six {ws : List (List Nat)} {F pos : Nat} {k : List Fq} (hF : 1 ≤ F) (h : ws[pos]? ≠ some [40]) : bnd (pR ws F pos 6) (finR ws F k) = .er pos := by
  obtain ⟨f, rfl⟩ : ∃ f, F = f + 1 := ⟨F - 1, by omega⟩
  have e : pR ws (f + 1) pos 6 = .er pos := by
    conv => lhs; unfold pR
    rw [if_neg h, if_pos rfl]
  rw [e]; rfl
theorem step_sign {ws : List (List Nat)} {F n m c : Nat} {t : Rl} {k : List Fq} (h : sgn ws[n]? = some c) : finR ws F (.l :: k) n m t = bnd (pR ws F (n + 1) m) (finR ws F (.r c t :: k)) := by
  show (match sgn ws[n]? with | none => Rs.er n | some c => bnd (pR ws F (n + 1) m) fun n2 m2 t2 => if ws[n2]? = some [41] then finR ws F k (n2 + 1) m2 (Rl.jn c t t2) else .er n2) = _
  rw [h]; rfl
end Lw
namespace Lw
open PySem PySem.Spec PyProof.Rows L2
open SX PySem.NumText TL LamX ClX StX
set_option pp.maxSteps 900
abbrev sRexZ : Stmt := inClass (top 20) 5
/-- a refusal, the reader's record moved -/
def RfK (r : Addr) (D : Addr) (H : Hp) (E : XK) (n : Nat) : Prop := ∀ d fs H', Kp r H H' → H' d = none → fs.lookup ("line" : Str) = some (.int 0) → fs.lookup ("word" : Str) = some (.int n) → E (.ref D) (some d) (upd H' d (.xd fs))
def spRexZ (R D : Addr) : Sp := fun vs H Q E => ∃ r l ws n z, vs = [.ref r, .str (S z)] ∧ RdAt R H r l ws n ∧ (ws[n]? ≠ some z → Rf D H E n) ∧ (ws[n]? = some z → ∀ H', Kp r H H' → RdAt R H' r l ws (n + 1) → Q .non H')
theorem Rf.of {r D : Addr} {H H1 : Hp} {E : XK} {n : Nat} (h : RfK r D H E n) (k : Kp r H H1) : Rf D H1 E n := fun d fs H' s hd f1 f2 => h d fs H' (k.trans (Kp.of s)) hd f1 f2
theorem RfK.up {r D : Addr} {H H1 : Hp} {E : XK} {n : Nat} (h : RfK r D H E n) (k : Kp r H H1) : RfK r D H1 E n := fun d fs H' s hd f1 f2 => h d fs H' (k.trans s) hd f1 f2
/-- the reader's methods that rules need, refusals told -/
structure RdE (P : Program) (w : World) (K : PySem.W.Frag) (mg : Str → Option Value) (base : Heap) (R D : Addr) : Prop where
  rc : RdC K R
  A : MetX P w K mg base 1 R "at_hand" (spRah R)
  T : MetX P w K mg base 5 R "take" (spRtk R D)
  X : MetX P w K mg base 7 R "expect" (spRexZ R D)
  I : MetX P w K mg base 7 R "integer" (spRin R D)
  F : MetX P w K mg base 5 R "finish" (spRfi R D)
  R : MetX P w K mg base 3 R "refuse" (spRrf R D)
theorem leafR_m (ws : List (List Nat)) (n m : Nat) : leafR ws n m = bnd (leafR ws n 0) fun n' _ t => .ok n' (m + 1) t := by
  unfold leafR
  split
  · split <;> rfl
  · split
    · split
      · rfl
      · split
        · rfl
        · split <;> rfl
    · rfl
def spRpE (R D : Addr) : Sp := fun vs H Q E => ∃ (r l : Addr) (ws : List (List Nat)) (n : Nat), vs = [.ref r] ∧ RdAt R H r l ws n ∧ Wd ws ∧ (∀ e, leafR ws n 0 = .er e → RfK r D H E e) ∧
  ∀ n' m t, leafR ws n 0 = .ok n' m t → ∀ p H', Kp r H H' → RdAt R H' r l ws n' → H p = none → H' p = some (.tup t.nums) → Q (.ref p) H'
def spRsE (R D : Addr) : Sp := fun vs H Q E => ∃ (r l : Addr) (ws : List (List Nat)) (n : Nat), vs = [.ref r] ∧ RdAt R H r l ws n ∧ (sgn ws[n]? = none → RfK r D H E n) ∧ ∀ c, sgn ws[n]? = some c → ∀ H', Kp r H H' → RdAt R H' r l ws (n + 1) → Q (.str (S [c])) H'
section
variable {P : Program} {w : World} {K : PySem.W.Frag} {mg : Str → Option Value} {base : Heap} {R D SG : Addr}
theorem scRexZ : FnScope ["self", "sign"] ["self", "sign"] (C8.fnScope sRexZ) := C8.fnScope_by (by decide +kernel)
theorem fn_rexZ {R D f : Addr} {fd : FuncData} (F : C8.Fun K "expect" "Reader.expect" sRexZ f fd) (rc : RdC K R) (MA : MetX P w K mg base 1 R "at_hand" (spRah R)) (MT : MetX P w K mg base 5 R "take" (spRtk R D)) : FnOk P w K mg base (L2.CX P w) 7 f fd ["self", "sign"] (spRexZ R D) := by
  obtain ⟨oc, od, dV, kV, doc, pm, an, cdv, ct, osl, rfl, lk, hcd⟩ := F.ex
  refine fn_of lk hcd scRexZ (fun vs H Q E h => ?_) fun A outer s H vs Q E hr h => ?_
  · obtain ⟨r, l, ws, n, z, rfl, _⟩ := h
    rfl
  · obtain ⟨r, l, ws, n, z, rfl, at_, k1, k2⟩ := h
    obtain ⟨⟨dx, hr1⟩, hl⟩ := id at_
    refine ⟨_, (pss_one (ps_expr (pe_mx (pv 0) rc.cl MT hr (by decide) (passes_call (takes_of rfl rfl rfl rfl) (fun _ _ _ _ z => z)) (pa_cons (pe_ifExp (pt_cmpR op_eq (pe_mx0 (E := C8.E0) (pv 0) rc.cl MA hr (by decide) (passes_call takes0 (fun _ _ _ _ z => z))) (pv 1) (nomark _)) (pv 1) pe_non) pa_nil)))), ?_⟩
    refine ⟨_, rfl, r, dx, _, rfl, hr1, rdF_no l n (by decide +kernel) (by decide +kernel) (by decide +kernel), ?_⟩
    refine ⟨_, rfl, r, dx, _, rfl, hr1, rdF_no l n (by decide +kernel) (by decide +kernel) (by decide +kernel), r, l, ws, n, rfl, at_, ?_⟩
    by_cases hz : ws[n]? = some z
    · have hh : handV ws n = .str (S z) := by unfold handV; rw [hz]
      rw [hh]
      refine ⟨_, rfl, rfl, _, rfl, iteT' (by simp) ?_⟩
      exact ⟨_, rfl, r, l, ws, n, _, rfl, at_, (fun e => by cases e), fun _ H' kp a1 => k2 hz H' kp a1⟩
    · cases hw : ws[n]? with
      | none =>
        have hh : handV ws n = .non := by unfold handV; rw [hw]
        rw [hh]
        refine ⟨_, rfl, rfl, _, rfl, iteF' rfl ?_⟩
        exact ⟨r, l, ws, n, _, rfl, at_, fun _ => k1 hz, fun e => absurd rfl e⟩
      | some a =>
        have hh : handV ws n = .str (S a) := by unfold handV; rw [hw]
        rw [hh]
        refine ⟨_, rfl, rfl, _, rfl, iteF' ?_ ?_⟩
        · exact decide_eq_false fun e => hz (by rw [hw, S_inj (V.str.inj e)])
        · exact ⟨r, l, ws, n, _, rfl, at_, fun _ => k1 hz, fun e => absurd rfl e⟩
theorem scRsE : FnScope ["reader", "word"] ["reader"] (C8.fnScope sRs) := C8.fnScope_by (by decide +kernel)
theorem fn_rsE {f : Addr} {fd : FuncData} (F : C8.Def K mg "read_sign" sRs f fd) (RM : RdE P w K mg base R D) (hSG : mg "SIGNS" = some (.ref SG)) (tSG : ∀ H, SqT K H SG [.str (S [38]), .str (S [124])]) : FnOk P w K mg base (L2.CX P w) 6 f fd ["reader"] (spRsE R D) := by
  obtain ⟨oc, od, dV, kV, doc, pm, an, cdv, ct, osl, rfl, lk, hcd⟩ := F.fn.ex
  refine fn_of lk hcd scRsE (fun vs H Q E h => ?_) fun A outer s H vs Q E hr h => ?_
  · obtain ⟨r, l, ws, n, rfl, _⟩ := h
    rfl
  · obtain ⟨r, l, ws, n, rfl, at_, k1, k2⟩ := h
    obtain ⟨⟨dx, hr1⟩, hl⟩ := id at_
    have no : ∀ {m : Str}, m ≠ "_words" → m ≠ "_row" → m ≠ "_at" → (rdF l n).lookup m = none := fun h1 h2 h3 => rdF_no l _ h1 h2 h3
    refine ⟨_, (pss_cons (ps_set (i := 1) scRsE.nd rfl (Or.inl rfl) (pe_mx0 (E := C8.E0) (pv 0) RM.rc.cl RM.A hr (by decide) (passes_call takes0 (fun _ _ _ _ z => z))))
  (pss_one (ps_ret (pe_mx (pv 0) RM.rc.cl RM.T hr (by decide) (passes_call (takes_of rfl rfl rfl rfl) (fun _ _ _ _ z => z)) (pa_cons (pe_ifExp (pt_cmpR op_in_seq (pv 1) (pe_glob (v := .ref SG) (by rfl) hSG rfl) (by rfl)) (pv 1) pe_non) pa_nil))))), ?_⟩
    refine ⟨_, rfl, r, dx, _, rfl, hr1, no (by decide +kernel) (by decide +kernel) (by decide +kernel), r, l, ws, n, rfl, at_, ?_⟩
    dsimp only [gName, tSeq]
    refine ⟨_, rfl, r, dx, _, rfl, hr1, no (by decide +kernel) (by decide +kernel) (by decide +kernel), ?_⟩
    refine ⟨_, rfl, SG, _, rfl, .inr (tSG H), ?_, rfl, _, rfl, ?_⟩
    · unfold handV; cases ws[n]? <;> rfl
    have e : inV (handV ws n) [.str (S [38]), .str (S [124])] = (sgn ws[n]?).isSome := by
      unfold handV sgn
      cases ws[n]? with
      | none => rfl
      | some a =>
        show (eqV (.str (S [38])) (.str (S a)) || (eqV (.str (S [124])) (.str (S a)) || false)) = _
        rw [eqV_S, eqV_S, Bool.or_false]
        by_cases h1 : a = [38]
        · subst h1; rfl
        · by_cases h2 : a = [124]
          · subst h2; rfl
          · rw [decide_eq_false h1, decide_eq_false h2, if_neg (fun z => h1 (Option.some.inj z)), if_neg (fun z => h2 (Option.some.inj z))]; rfl
    cases hs : sgn ws[n]? with
    | none =>
      rw [hs] at e
      exact iteF' e ⟨r, l, ws, n, _, rfl, at_, fun _ => Rf.of (k1 hs) (Kp.of (Same.refl _)), fun z => absurd rfl z⟩
    | some c =>
      rw [hs] at e
      obtain ⟨_, hw⟩ := sgn_some hs
      refine iteT' e ⟨_, rfl, r, l, ws, n, _, rfl, at_, (fun z => ?_), fun _ H' kp a1 => ?_⟩
      · rw [hand_at hw] at z; cases z
      · rw [hand_at hw]
        exact k2 c hs H' kp a1
theorem scRpE : FnScope ["reader", "word", "x", "y"] ["reader"] (C8.fnScope sRp) := C8.fnScope_by (by decide +kernel)
theorem fn_rpE {f : Addr} {fd : FuncData} (F : C8.Def K mg "read_part" sRp f fd) (RM : RdE P w K mg base R D) (hGS : ∃ t, mg "GREATEST_SIZE" = some (.int (10 ^ 30) t)) (hMF : ∃ t, mg "MOST_FACTOR" = some (.int 24 t)) (hMS : ∃ t, mg "MOST_START" = some (.int 1000 t)) : FnOk P w K mg base (L2.CX P w) 8 f fd ["reader"] (spRpE R D) := by
  obtain ⟨oc, od, dV, kV, doc, pm, an, cdv, ct, osl, rfl, lk, hcd⟩ := F.fn.ex
  refine fn_of lk hcd scRpE (fun vs H Q E h => ?_) fun A outer s H vs Q E hr h => ?_
  · obtain ⟨r, l, ws, n, rfl, _⟩ := h
    rfl
  · obtain ⟨r, l, ws, n, rfl, at_, wd, k1, k2⟩ := h
    obtain ⟨⟨dx, hr1⟩, hl⟩ := id at_
    have no : ∀ {m : Str}, m ≠ "_words" → m ≠ "_row" → m ≠ "_at" → ∀ n, (rdF l n).lookup m = none := fun h1 h2 h3 n => rdF_no l n h1 h2 h3
    obtain ⟨tg, hGS⟩ := hGS
    obtain ⟨tf, hMF⟩ := hMF
    obtain ⟨ts, hMS⟩ := hMS
    refine ⟨_, (pss_cons (ps_set (i := 1) scRpE.nd rfl (Or.inl rfl) (pe_mx0 (E := C8.E0) (pv 0) RM.rc.cl RM.A hr (by decide) (passes_call takes0 (fun _ _ _ _ z => z))))
  (pss_cons (ps_expr (pe_mx (pv 0) RM.rc.cl RM.T hr (by decide) (passes_call (takes_of rfl rfl rfl rfl) (fun _ _ _ _ z => z)) (pa_cons (pe_ifExp (pt_cmpR op_in_seq (pv 1) (pe_tup (pa_cons pe_str (pa_cons pe_str pa_nil))) (by rfl)) (pv 1) pe_non) pa_nil)))
  (pss_cons (ps_if (pt_cmpR op_eq (pv 1) pe_str (nomark _)) (pss_one (ps_ret (pe_tup (pa_cons (pe_mx (pv 0) RM.rc.cl RM.I hr (by decide) (passes_call (takes_of rfl rfl rfl rfl) (fun _ _ _ _ z => z)) (pa_cons pe_int (pa_cons (pe_glob (v := .int (10 ^ 30)) (by rfl) hGS ⟨_, rfl⟩) pa_nil))) pa_nil)))) pss_nil)
  (pss_cons (ps_set (i := 2) scRpE.nd rfl (Or.inl rfl) (pe_mx (pv 0) RM.rc.cl RM.I hr (by decide) (passes_call (takes_of rfl rfl rfl rfl) (fun _ _ _ _ z => z)) (pa_cons pe_int (pa_cons (pe_glob (v := .int 24) (by rfl) hMF ⟨_, rfl⟩) pa_nil))))
  (pss_cons (ps_set (i := 3) scRpE.nd rfl (Or.inl rfl) (pe_mx (pv 0) RM.rc.cl RM.I hr (by decide) (passes_call (takes_of rfl rfl rfl rfl) (fun _ _ _ _ z => z)) (pa_cons (pe_un un_neg (pe_glob (v := .int 1000) (by rfl) hMS ⟨_, rfl⟩)) (pa_cons (pe_glob (v := .int 1000) (by rfl) hMS ⟨_, rfl⟩) pa_nil))))
  (pss_one (ps_ret (pe_tup (pa_cons (pv 2) (pa_cons (pv 3) (pa_cons (pe_mx (pv 0) RM.rc.cl RM.I hr (by decide) (passes_call (takes_of rfl rfl rfl rfl) (fun _ _ _ _ z => z)) (pa_cons pe_int (pa_cons (pe_glob (v := .int 24) (by rfl) hMF ⟨_, rfl⟩) pa_nil))) pa_nil))))))))))), ?_⟩
    refine ⟨_, rfl, r, dx, _, rfl, hr1, no (by decide +kernel) (by decide +kernel) (by decide +kernel) _, r, l, ws, n, rfl, at_, ?_⟩
    dsimp only [gName, tSeq]
    refine ⟨_, rfl, r, dx, _, rfl, hr1, no (by decide +kernel) (by decide +kernel) (by decide +kernel) _, ?_⟩
    refine ⟨_, rfl, (by show 2 ≤ sizeLine; decide), fun q hq => ⟨q, _, rfl, .inr (SqT.of upd_same), ?_, rfl, _, rfl, ?_⟩⟩
    · unfold handV; cases ws[n]? <;> rfl
    have sm := same_new (o := HO.tup [V.str (Str.ofString "fixed"), .str (Str.ofString "divided")]) hq
    have e : inV (handV ws n) [.str (Str.ofString "fixed"), .str (Str.ofString "divided")] = decide (ws[n]? = some fixW ∨ ws[n]? = some divW) := by
      unfold handV
      cases ws[n]? with
      | none => rfl
      | some a =>
        show (eqV (.str (S fixW)) (.str (S a)) || (eqV (.str (S divW)) (.str (S a)) || false)) = _
        rw [eqV_S, eqV_S, Bool.or_false]
        by_cases h1 : a = fixW
        · subst h1; rw [decide_eq_true rfl, decide_eq_true (Or.inl rfl)]; rfl
        · by_cases h2 : a = divW
          · subst h2; rw [decide_eq_true (Or.inr rfl), decide_eq_true rfl, Bool.or_true]
          · rw [decide_eq_false h1, decide_eq_false h2, decide_eq_false (fun z => z.elim (fun z => h1 (Option.some.inj z)) fun z => h2 (Option.some.inj z))]; rfl
    by_cases hw : ws[n]? = some fixW ∨ ws[n]? = some divW
    · rw [decide_eq_true hw] at e
      obtain ⟨w0, hw0⟩ : ∃ w0, ws[n]? = some w0 := hw.elim (fun h => ⟨_, h⟩) fun h => ⟨_, h⟩
      refine iteT' e ⟨_, rfl, r, l, ws, n, _, rfl, at_.same sm, (fun z => by rw [hand_at hw0] at z; cases z), fun _ H1 kp1 a1 => ?_⟩
      have kpA : Kp r H H1 := (Kp.of sm).trans kp1
      obtain ⟨⟨dx1, hr2⟩, hl2⟩ := id a1
      dsimp only [tNext, tSeq]
      by_cases hf : ws[n]? = some fixW
      · rw [hand_at hf]
        refine ⟨_, rfl, rfl, _, rfl, iteT' (by decide +kernel : decide (V.str (S fixW) = V.str (Str.ofString "fixed")) = true) ?_⟩
        have el : leafR ws n 0 = (match numAt ws (n + 1) 1 (10 ^ 30) with | some k => .ok (n + 2) (0 + 1) (.fx k) | none => .er (n + 1)) := by unfold leafR; exact if_pos hf
        refine ⟨_, rfl, r, dx1, _, rfl, hr2, no (by decide +kernel) (by decide +kernel) (by decide +kernel) _, r, l, ws, n + 1, 1, 10 ^ 30, rfl, a1, wd, (fun z => ?_), fun i z H2 kp2 a2 => ?_⟩
        · rw [z] at el
          exact Rf.of (k1 _ el) kpA
        · rw [z] at el
          refine ⟨(by show 1 ≤ sizeLine; decide), fun p hp => ?_⟩
          have kpB := kpA.trans kp2
          exact k2 _ _ _ el p _ (kpB.trans (Kp.of (same_new hp))) (a2.same (same_new hp)) (kp_free kpB a2 hp) upd_same
      · have hd : ws[n]? = some divW := hw.resolve_left hf
        rw [hand_at hd]
        refine ⟨_, rfl, rfl, _, rfl, iteF' (by decide +kernel : decide (V.str (S divW) = V.str (Str.ofString "fixed")) = false) ?_⟩
        dsimp only [tNext]
        have el : leafR ws n 0 = (match numAt ws (n + 1) 0 24 with
          | none => .er (n + 1)
          | some x => match numAt ws (n + 2) (-1000) 1000 with
            | none => .er (n + 2)
            | some y => match numAt ws (n + 3) 1 24 with
              | none => .er (n + 3)
              | some w => .ok (n + 4) (0 + 1) (.dv x y w)) := by unfold leafR; exact (if_neg hf).trans (if_pos hd)
        refine ⟨_, rfl, r, dx1, _, rfl, hr2, no (by decide +kernel) (by decide +kernel) (by decide +kernel) _, r, l, ws, n + 1, 0, 24, rfl, a1, wd, (fun z => ?_), fun x zx H2 kp2 a2 => ?_⟩
        · rw [z] at el
          exact Rf.of (k1 _ el) kpA
        rw [zx] at el
        have kpB := kpA.trans kp2
        obtain ⟨⟨dx2, hr3⟩, hl3⟩ := id a2
        dsimp only [gName]
        refine ⟨_, rfl, r, dx2, _, rfl, hr3, no (by decide +kernel) (by decide +kernel) (by decide +kernel) _, _, rfl, r, l, ws, n + 2, -1000, 1000, rfl, a2, wd, (fun z => ?_), fun y zy H3 kp3 a3 => ?_⟩
        · dsimp only at el
          rw [z] at el
          exact Rf.of (k1 _ el) kpB
        dsimp only at el
        rw [zy] at el
        have kpC := kpB.trans kp3
        obtain ⟨⟨dx3, hr4⟩, hl4⟩ := id a3
        dsimp only [gName]
        refine ⟨_, rfl, _, rfl, _, rfl, r, dx3, _, rfl, hr4, no (by decide +kernel) (by decide +kernel) (by decide +kernel) _, r, l, ws, n + 3, 1, 24, rfl, a3, wd, (fun z => ?_), fun w0 zw H4 kp4 a4 => ?_⟩
        · dsimp only at el
          rw [z] at el
          exact Rf.of (k1 _ el) kpC
        dsimp only at el
        rw [zw] at el
        refine ⟨(by show 3 ≤ sizeLine; decide), fun p hp => ?_⟩
        have kpD := kpC.trans kp4
        exact k2 _ _ _ el p _ (kpD.trans (Kp.of (same_new hp))) (a4.same (same_new hp)) (kp_free kpD a4 hp) upd_same
    · rw [decide_eq_false hw] at e
      have el : leafR ws n 0 = .er n := by
        unfold leafR
        rw [if_neg (fun z => hw (.inl z)), if_neg (fun z => hw (.inr z))]
      exact iteF' e ⟨r, l, ws, n, _, rfl, at_.same sm, fun _ => Rf.of (k1 _ el) (Kp.of sm), fun z => absurd rfl z⟩
end
end Lw
namespace Lw
open PySem PySem.Spec PyProof.Rows L2
open SX PySem.NumText TL LamX ClX StX
set_option pp.maxSteps 900
def Fq.v : Fq → V
  | .l => .non
  | .r c _ => .str (S [c])
def dn : List Fq → List It
  | [] => []
  | .l :: k => dn k
  | .r _ a :: k => dn k ++ a.post
def okQ : List Fq → Prop
  | [] => True
  | .l :: k => okQ k
  | .r c _ :: k => (c = 38 ∨ c = 124) ∧ okQ k
def svQ (k : List Fq) : List V := (k.map Fq.v).reverse
theorem svQ_cons (f : Fq) (k : List Fq) : svQ (f :: k) = svQ k ++ [f.v] := by unfold svQ; rw [List.map_cons, List.reverse_cons]
theorem svQ_len (k : List Fq) : (svQ k).length = k.length := by unfold svQ; rw [List.length_reverse, List.length_map]
theorem jn_post {c : Nat} (h : c = 38 ∨ c = 124) (a b : Rl) : (Rl.jn c a b).post = a.post ++ (b.post ++ [.sg c]) := by rcases h with rfl | rfl <;> rfl
/-- where read_rule stands: its reader, what was told, its open brackets -/
structure RS (R r l tl sl : Addr) (ws : List (List Nat)) (H0 H : Hp) (pos : Nat) (done : List It) (sv : List V) : Prop where
  at_ : RdAt R H r l ws pos
  kp : Kp r H0 H
  t : ∃ vs, H tl = some (.lst vs) ∧ ToAt H vs done
  s : H sl = some (.lst sv)
  b1 : done.length ≤ pos
  b2 : sv.length ≤ pos
/-- what does not change -/
structure RZ (r l tl sl : Addr) (ws : List (List Nat)) (H0 : Hp) : Prop where
  t0 : H0 tl = none
  s0 : H0 sl = none
  r0 : H0 r ≠ none
  l0 : H0 l ≠ none
  ne : tl ≠ sl
  rl : l ≠ r
  wd : Wd ws
  wl : ws.length ≤ 1000
theorem RZ.tr {r l tl sl : Addr} {ws : List (List Nat)} {H0 : Hp} (z : RZ r l tl sl ws H0) : tl ≠ r := fun e => z.r0 (by rw [← e]; exact z.t0)
theorem RZ.sr {r l tl sl : Addr} {ws : List (List Nat)} {H0 : Hp} (z : RZ r l tl sl ws H0) : sl ≠ r := fun e => z.r0 (by rw [← e]; exact z.s0)
theorem RZ.tl_ {r l tl sl : Addr} {ws : List (List Nat)} {H0 : Hp} (z : RZ r l tl sl ws H0) : tl ≠ l := fun e => z.l0 (by rw [← e]; exact z.t0)
theorem RZ.sl_ {r l tl sl : Addr} {ws : List (List Nat)} {H0 : Hp} (z : RZ r l tl sl ws H0) : sl ≠ l := fun e => z.l0 (by rw [← e]; exact z.s0)
theorem tt_kpr {R r l : Addr} {ws : List (List Nat)} {n : Nat} {H H' : Hp} (a : RdAt R H r l ws n) (k : Kp r H H') : Tt H H' := fun b xs h => k b _ (fun e => by
  obtain ⟨⟨dx, h1⟩, _⟩ := a
  rw [e, h1] at h
  cases h) h
section
variable {R r l tl sl : Addr} {ws : List (List Nat)} {H0 H H' : Hp} {pos pos' : Nat} {done : List It} {ctx ctx' : List V}
theorem RS.adv (h : RS R r l tl sl ws H0 H pos done ctx) (z : RZ r l tl sl ws H0) (k : Kp r H H') (a : RdAt R H' r l ws pos') (hp : pos ≤ pos') : RS R r l tl sl ws H0 H' pos' done ctx := by
  obtain ⟨vs, e, m⟩ := h.t
  exact ⟨a, fun b o nb e => k _ _ nb (h.kp _ _ nb e), ⟨vs, k _ _ z.tr e, m.on (tt_kpr h.at_ k)⟩, k _ _ z.sr h.s, Nat.le_trans h.b1 hp, Nat.le_trans h.b2 hp⟩
theorem RS.setS (h : RS R r l tl sl ws H0 H pos done ctx) (z : RZ r l tl sl ws H0) (hb : ctx'.length ≤ pos) : RS R r l tl sl ws H0 (upd H sl (.lst ctx')) pos done ctx' := by
  obtain ⟨vs, e, m⟩ := h.t
  obtain ⟨⟨dx, a1⟩, a2⟩ := h.at_
  have tt : Tt H (upd H sl (.lst ctx')) := fun b xs e => by
    rw [upd_ne (fun e2 => by rw [e2, h.s] at e; cases e)]
    exact e
  refine ⟨⟨⟨dx, ?_⟩, ?_⟩, fun b o nb e => ?_, ⟨vs, ?_, m.on tt⟩, upd_same, h.b1, hb⟩
  · rw [upd_ne z.sr.symm]; exact a1
  · rw [upd_ne z.sl_.symm]; exact a2
  · rw [upd_ne (fun e2 => by rw [e2, z.s0] at e; cases e)]; exact h.kp _ _ nb e
  · rw [upd_ne z.ne]; exact e
theorem RS.addT (h : RS R r l tl sl ws H0 H pos done ctx) (z : RZ r l tl sl ws H0) {vs : List V} {v : V} {i : It} (hv : H tl = some (.lst vs)) (hi : ItV H v i) (hb : done.length + 1 ≤ pos) : RS R r l tl sl ws H0 (upd H tl (.lst (vs ++ [v]))) pos (done ++ [i]) ctx := by
  obtain ⟨vs', e, m⟩ := h.t
  rw [hv] at e
  cases e
  obtain ⟨⟨dx, a1⟩, a2⟩ := h.at_
  have tt : Tt H (upd H tl (.lst (vs ++ [v]))) := fun b xs e => by
    rw [upd_ne (fun e2 => by rw [e2, hv] at e; cases e)]
    exact e
  refine ⟨⟨⟨dx, ?_⟩, ?_⟩, fun b o nb e => ?_, ⟨vs ++ [v], upd_same, (m.add hi).on tt⟩, ?_, ?_, h.b2⟩
  · rw [upd_ne z.tr.symm]; exact a1
  · rw [upd_ne z.tl_.symm]; exact a2
  · rw [upd_ne (fun e2 => by rw [e2, z.t0] at e; cases e)]; exact h.kp _ _ nb e
  · rw [upd_ne z.ne.symm]; exact h.s
  · rw [List.length_append]; exact hb
end
theorem tt_via {tt : TT} {σ : L2.St} {H : Hp} {QQ : Bool → Hp → Prop} {b : Bool} (h1 : ∀ G : Bool → Hp → Prop, G b H → tt σ H G) (h2 : QQ b H) : tt σ H QQ := h1 QQ h2
theorem set_last {α : Type} (ys : List α) (a b : α) : (ys ++ [a]).set ys.length b = ys ++ [b] := by simp
theorem ixN_last {α : Type} (ys : List α) (a : α) : ixN (ys ++ [a]).length (-1) = some ys.length := by
  have hl : (ys ++ [a]).length = ys.length + 1 := by simp
  unfold ixN
  rw [hl, if_neg (by decide), if_pos (by omega)]
  congr 1
  omega
def spRrE (R D : Addr) : Sp := fun vs H Q E => ∃ (r l : Addr) (ws : List (List Nat)), vs = [.ref r] ∧ RdAt R H r l ws 0 ∧ Wd ws ∧ ws.length ≤ 1000 ∧ (∀ e, pR ws (ws.length + 1) 0 0 = .er e → RfK r D H E e) ∧
  ∀ n m t, pR ws (ws.length + 1) 0 0 = .ok n m t → ∀ p us H', Kp r H H' → RdAt R H' r l ws n → H p = none → H' p = some (.lst us) → ToAt H' us t.post → Q (.ref p) H'
section
variable {P : Program} {w : World} {K : PySem.W.Frag} {mg : Str → Option Value} {base : Heap} {R D SG : Addr}
theorem scRrE : FnScope ["reader", "told", "parts", "signs"] ["reader"] (C8.fnScope sRr) := C8.fnScope_by (by decide +kernel)
theorem fn_rrE {f : Addr} {fd : FuncData} (F : C8.Def K mg "read_rule" sRr f fd) (RM : RdE P w K mg base R D) (hMP : ∃ t, mg "MOST_PARTS" = some (.int 6 t)) (DRp : CalX P w K mg base 8 "read_part" (spRpE R D)) (DRs : CalX P w K mg base 6 "read_sign" (spRsE R D)) : FnOk P w K mg base (L2.CX P w) 9 f fd ["reader"] (spRrE R D) := by
  obtain ⟨oc, od, dV, kV, doc, pm, an, cdv, ct, osl, rfl, lk, hcd⟩ := F.fn.ex
  refine fn_of lk hcd scRrE (fun vs H Q E h => ?_) fun A outer s H0 vs Q E hr h => ?_
  · obtain ⟨r, l, ws, rfl, _⟩ := h
    rfl
  · obtain ⟨r, l, ws, rfl, at_, wd, wl, kE, kQ⟩ := h
    obtain ⟨⟨dx, hr1⟩, hl⟩ := id at_
    obtain ⟨tp, hMP⟩ := hMP
    have no : ∀ {m : Str}, m ≠ "_words" → m ≠ "_row" → m ≠ "_at" → ∀ n, (rdF l n).lookup m = none := fun h1 h2 h3 n => rdF_no l n h1 h2 h3
    refine ⟨_, (pss_cons (ps_set (i := 1) scRrE.nd rfl (Or.inl rfl) (pe_lst pa_nil))
  (pss_cons (ps_set (i := 2) scRrE.nd rfl (Or.inl rfl) pe_int)
  (pss_cons (ps_set (i := 3) scRrE.nd rfl (Or.inl rfl) (pe_lst pa_nil))
  (pss_cons (ps_while (passes_of rfl) (PW.pt (pw_or (pt_cmpR op_eq (pv 2) pe_int (nomark _)) (pw_or1 (pt_truth (pv 3) (by intro _; rfl))))) (pss_cons (ps_while (passes_of rfl) (pt_cmpR op_eq (pe_mx0 (E := C8.E0) (pv 0) RM.rc.cl RM.A hr (by decide) (passes_call takes0 (fun _ _ _ _ z => z))) pe_str (nomark _)) (pss_cons (ps_expr (pe_mx (pv 0) RM.rc.cl RM.X hr (by decide) (passes_call (takes_of rfl rfl rfl rfl) (fun _ _ _ _ z => z)) (pa_cons pe_str pa_nil)))
  (pss_one (ps_expr (pe_bm PySem.F.plainAttrs_list PySem.F.slot_list_append PySem.F.type_list_append mt_append (pv 3) (pa_cons pe_non pa_nil))))))
  (pss_cons (ps_if (pt_cmpR op_eq (pv 2) (pe_glob (v := .int 6) (by rfl) hMP ⟨_, rfl⟩) (nomark _)) (pss_one (ps_expr (pe_mx0 (pv 0) RM.rc.cl RM.R hr (by decide) (passes_call (takes_of rfl rfl rfl rfl) (fun _ _ _ _ z => z))))) pss_nil)
  (pss_cons (ps_expr (pe_bm PySem.F.plainAttrs_list PySem.F.slot_list_append PySem.F.type_list_append mt_append (pv 1) (pa_cons (pe_cX DRp hr (by decide) (by rfl) (passes_call (takes_of rfl rfl rfl rfl) (fun _ _ _ _ z => z)) (pa_cons (pv 0) pa_nil)) pa_nil)))
  (pss_cons (ps_aug (i := 2) scRrE.nd rfl (Or.inl rfl) pe_int in_add)
  (pss_cons (ps_while (passes_of rfl) (PW.pt (pw_and (pt_truth (pv 3) (by intro _; rfl)) (pw_and1 (pt_cmpR op_notN (pe_ix ix_list (pv 3) (pe_un un_neg pe_int) (fun _ _ => rfl)) pe_non (nomark _))))) (pss_cons (ps_expr (pe_mx (pv 0) RM.rc.cl RM.X hr (by decide) (passes_call (takes_of rfl rfl rfl rfl) (fun _ _ _ _ z => z)) (pa_cons pe_str pa_nil)))
  (pss_one (ps_expr (pe_bm PySem.F.plainAttrs_list PySem.F.slot_list_append PySem.F.type_list_append mt_append (pv 1) (pa_cons (pe_bm0 PySem.F.plainAttrs_list PySem.F.slot_list_pop PySem.F.type_list_pop mt_pop (pv 3)) pa_nil))))))
  (pss_one (ps_if (pt_truth (pv 3) (by intro _; rfl)) (pss_one (ps_asg (pe_cX DRs hr (by decide) (by rfl) (passes_call (takes_of rfl rfl rfl rfl) (fun _ _ _ _ z => z)) (pa_cons (pv 0) pa_nil)) (pg_sub (pv 3) (pe_un un_neg pe_int) set_list))) pss_nil))))))))
  (pss_one (ps_ret (pv 1))))))), ?_⟩
    refine ⟨(by show 0 ≤ sizeLine; decide), fun tl htl => ?_⟩
    dsimp only [gName, tSeq]
    refine ⟨(by show 0 ≤ sizeLine; decide), fun sl hsl => ?_⟩
    dsimp only [gName, tSeq]
    have nt : H0 tl = none := htl
    have nst : sl ≠ tl := fun e => by rw [e, upd_same] at hsl; cases hsl
    have ns : H0 sl = none := by rw [upd_ne nst] at hsl; exact hsl
    have Z : RZ r l tl sl ws H0 := ⟨nt, ns, (by rw [hr1]; exact fun e => by cases e), (by rw [hl]; exact fun e => by cases e), nst.symm, (fun e => by rw [e, hr1] at hl; cases hl), wd, wl⟩
    have s1 := same_new (o := HO.lst []) htl
    have s2 := same_new (o := HO.lst []) hsl
    have S0 : RS R r l tl sl ws H0 (upd (upd H0 tl (.lst [])) sl (.lst [])) 0 [] (svQ []) := ⟨at_.same (s1.trans s2), Kp.of (s1.trans s2), ⟨[], s2 _ _ upd_same, trivial⟩, upd_same, Nat.le_refl _, Nat.le_refl _⟩
    generalize hO : pR ws (ws.length + 1) 0 0 = O at kE kQ
    refine ⟨fun m σ H => ∃ (np pos : Nat) (ctx : List Fq), σ = [some (.ref r), some (.ref tl), some (.int (np : Int)), some (.ref sl)] ∧ okQ ctx ∧
      ((RS R r l tl sl ws H0 H pos (dn ctx) (svQ ctx) ∧ O = bnd (pR ws (ws.length + 1) pos np) (finR ws (ws.length + 1) ctx) ∧ np ≤ 6 ∧ (np = 0 ∨ ctx ≠ []) ∧ m = ws.length - pos + 1) ∨
        (∃ t, RS R r l tl sl ws H0 H pos t.post (svQ []) ∧ ctx = [] ∧ O = .ok pos np t ∧ np ≠ 0 ∧ m = 0)), ⟨_, 0, 0, [], rfl, trivial, .inl ⟨S0, ?_, by decide, .inl rfl, rfl⟩⟩, ?_⟩
    · rw [← hO]
      show _ = bnd _ fun n m t => Rs.ok n m t
      cases pR ws (ws.length + 1) 0 0 <;> rfl
    clear S0 s1 s2 hO
    rintro m σ H ⟨np, pos, ctx, rfl, okc, go⟩
    rcases go with ⟨rs, eO, n6, nz, rfl⟩ | ⟨t, rs, rfl, eO, nz, rfl⟩
    · refine tt_via (b := true) (fun G g => ?_) ?_
      · refine ⟨_, rfl, rfl, _, rfl, ?_⟩
        by_cases c : np = 0
        · exact iteT' (by rw [c]; exact decide_eq_true rfl) g
        · have c2 : ctx ≠ [] := nz.resolve_left c
          refine iteF' (decide_eq_false (fun e => by injection e with e; omega)) ⟨_, rfl, true, .inl ⟨_, SqL.of rs.s, ?_⟩, g⟩
          cases ctx with
          | nil => exact absurd rfl c2
          | cons f k => rw [svQ_cons]; cases svQ k <;> rfl
      refine iteT' rfl ⟨_, fun σ' H' h => h, ?_⟩
      dsimp only [tSeq]
      refine ⟨fun m σ H => ∃ (pos1 : Nat) (ctx1 : List Fq), σ = [some (.ref r), some (.ref tl), some (.int (np : Int)), some (.ref sl)] ∧ RS R r l tl sl ws H0 H pos1 (dn ctx1) (svQ ctx1) ∧ okQ ctx1 ∧ O = bnd (pR ws (ws.length + 1) pos1 np) (finR ws (ws.length + 1) ctx1) ∧ pos ≤ pos1 ∧ m = ws.length - pos1, ⟨_, pos, ctx, rfl, rs, okc, eO, Nat.le_refl _, rfl⟩, ?_⟩
      clear rs eO okc nz
      rintro m1 σ1 H1 ⟨pos1, ctx1, rfl, rs1, okc1, eO, le1, rfl⟩
      obtain ⟨⟨dx1, hr2⟩, hl2⟩ := id rs1.at_
      by_cases h40 : ws[pos1]? = some [40]
      · have lt1 := some_lt h40
        refine ⟨_, rfl, r, dx1, _, rfl, hr2, no (by decide +kernel) (by decide +kernel) (by decide +kernel) _, r, l, _, pos1, rfl, rs1.at_, ?_⟩
        rw [hand_at h40]
        refine ⟨rfl, _, rfl, iteT' (by decide +kernel) ⟨_, fun σ' H' h => h, ?_⟩⟩
        refine ⟨_, rfl, r, dx1, _, rfl, hr2, no (by decide +kernel) (by decide +kernel) (by decide +kernel) _, r, l, _, pos1, [40], rfl, rs1.at_, fun z => absurd h40 z, fun _ H2 kp2 a2 => ?_⟩
        have rs2 := rs1.adv Z kp2 a2 (Nat.le_succ _)
        refine ⟨_, rfl, .inl ⟨rfl, _, SqL.of rs2.s⟩, sl, _, _, rfl, rfl, rs2.s, ?_, ?_⟩
        · exact Nat.lt_of_le_of_lt (Nat.le_trans rs1.b2 (Nat.le_trans (Nat.le_of_lt lt1) Z.wl)) (by decide)
        have rs3 := rs2.setS (ctx' := svQ (.l :: ctx1)) Z (by rw [svQ_len, List.length_cons]; have := rs1.b2; rw [svQ_len] at this; omega)
        rw [svQ_cons] at rs3
        exact ⟨ws.length - (pos1 + 1), by omega, pos1 + 1, .l :: ctx1, rfl, by rw [svQ_cons]; exact rs3, okc1, by rw [eO, step_open n6 (Nat.le_refl _) h40], by omega, rfl⟩
      · refine ⟨_, rfl, r, dx1, _, rfl, hr2, no (by decide +kernel) (by decide +kernel) (by decide +kernel) _, r, l, _, pos1, rfl, rs1.at_, ?_⟩
        have en : decide (handV ws pos1 = .str (Str.ofString "(")) = false := by
          unfold handV
          cases hw : ws[pos1]? with
          | none => rfl
          | some a => exact decide_eq_false fun e => h40 (by rw [hw]; exact congrArg some (S_inj (V.str.inj e)))
        have sc : scal (handV ws pos1) (.str (Str.ofString "(")) = true := by unfold handV; cases ws[pos1]? <;> rfl
        refine ⟨sc, _, rfl, iteF' en ?_⟩
        dsimp only [tSeq]
        refine ⟨_, rfl, rfl, _, rfl, ite2 (fun c6 => ?_) (fun c6 => ?_)⟩
        · have e6 : np = 6 := by have := of_decide_eq_true c6; injection this with this; omega
          subst e6
          rw [step_six (by omega) h40] at eO
          exact ⟨_, rfl, r, dx1, _, rfl, hr2, no (by decide +kernel) (by decide +kernel) (by decide +kernel) _, r, l, _, pos1, rfl, rs1.at_, Rf.of (kE _ eO) rs1.kp⟩
        have ne6 : np ≠ 6 := fun e => c6 (decide_eq_true (by rw [e]; rfl))
        rw [step_leaf (by omega) h40 ne6, leafR_m] at eO
        dsimp only [tNext]
        obtain ⟨us, hu, tu⟩ := rs1.t
        refine ⟨_, rfl, .inl ⟨rfl, _, SqL.of hu⟩, _, rfl, r, l, _, pos1, rfl, rs1.at_, Z.wd, fun e he => ?_, fun n' m' t he p H2 kp2 a2 hp1 hp2 => ?_⟩
        · rw [he] at eO
          exact (kE _ eO).up rs1.kp
        rw [he] at eO
        obtain ⟨lt1, le2, _, _, lf⟩ := leafR_ok he
        have rs2 := rs1.adv Z kp2 a2 (Nat.le_of_lt lt1)
        have hu2 : H2 tl = some (.lst us) := kp2 _ _ Z.tr hu
        refine ⟨tl, _, _, rfl, rfl, hu2, ?_, ?_⟩
        · rw [tu.len]
          exact Nat.lt_of_le_of_lt (Nat.le_trans rs1.b1 (Nat.le_trans (by omega : pos1 ≤ ws.length) Z.wl)) (by decide)
        have rs3 := rs2.addT Z hu2 (i := .pt t) ⟨p, rfl, hp2⟩ (by have := rs1.b1; omega)
        generalize upd H2 tl _ = H3 at rs3 ⊢
        rw [show [It.pt t] = t.post from (Rl.leafy lf).1.symm] at rs3
        refine ⟨_, rfl, _, _, rfl, rfl, ?_⟩
        dsimp only [tSeq]
        refine ⟨fun m σ H => ∃ (pos2 : Nat) (ctx2 : List Fq) (t2 : Rl), σ = [some (.ref r), some (.ref tl), some (.int ((np + 1 : Nat) : Int)), some (.ref sl)] ∧ RS R r l tl sl ws H0 H pos2 (dn ctx2 ++ t2.post) (svQ ctx2) ∧ okQ ctx2 ∧ O = finR ws (ws.length + 1) ctx2 pos2 (np + 1) t2 ∧ pos < pos2 ∧ pos2 ≤ ws.length ∧ m = ctx2.length, ⟨_, n', ctx1, t, by rw [Int.natCast_add]; rfl, rs3, okc1, eO, by omega, le2, rfl⟩, ?_⟩
        clear rs3 rs2 rs1 eO hu hu2 tu he lf hp1 hp2 okc1
        rintro m2 σ2 H4 ⟨pos2, ctx2, t2, rfl, rs4, okc2, eO, lt2, le3, rfl⟩
        obtain ⟨⟨dx2, hr4⟩, hl4⟩ := id rs4.at_
        cases ctx2 with
        | nil =>
          refine ⟨_, rfl, false, .inl ⟨_, SqL.of rs4.s, rfl⟩, iteF' rfl (iteF' rfl ?_)⟩
          refine ⟨_, rfl, false, .inl ⟨_, SqL.of rs4.s, rfl⟩, iteF' rfl ?_⟩
          exact ⟨0, by omega, np + 1, pos2, [], rfl, trivial, .inr ⟨t2, rs4, rfl, eO, by omega, rfl⟩⟩
        | cons f k2 =>
          have tr : true = !(svQ (f :: k2)).isEmpty := by rw [svQ_cons]; cases svQ k2 <;> rfl
          refine ⟨_, rfl, true, .inl ⟨_, SqL.of rs4.s, tr⟩, iteT' rfl ?_⟩
          have hs := rs4.s
          rw [svQ_cons] at hs
          refine ⟨_, rfl, _, rfl, sl, _, _, _, rfl, rfl, SqL.of hs, atI_last _ _, rfl, _, rfl, ?_⟩
          cases f with
          | l =>
            refine iteF' rfl ?_
            refine ⟨_, rfl, true, .inl ⟨_, SqL.of rs4.s, tr⟩, iteT' rfl ?_⟩
            refine ⟨_, rfl, r, l, _, pos2, rfl, rs4.at_, fun hn => ?_, fun c hc H5 kp5 a5 => ?_⟩
            · have e : finR ws (ws.length + 1) (.l :: k2) pos2 (np + 1) t2 = .er pos2 := by
                show (match sgn ws[pos2]? with | none => Rs.er pos2 | some c => _) = _
                rw [hn]
              rw [e] at eO
              exact (kE _ eO).up rs4.kp
            rw [step_sign hc] at eO
            obtain ⟨c2, hw⟩ := sgn_some hc
            have lt3 := some_lt hw
            have rs5 := rs4.adv Z kp5 a5 (Nat.le_succ _)
            have hs5 := rs5.s
            rw [svQ_cons] at hs5
            have e6 : (svQ k2 ++ [Fq.l.v]).set (svQ k2).length (.str (S [c])) = svQ (.r c t2 :: k2) := by rw [svQ_cons]; exact set_last _ _ _
            have rs6 := rs5.setS (ctx' := svQ (.r c t2 :: k2)) Z (by have := rs5.b2; rw [svQ_len, List.length_cons] at this ⊢; exact this)
            refine ⟨_, rfl, _, rfl, sl, _, _, _, rfl, rfl, hs5, ixN_last _ _, ?_⟩
            rw [e6]
            exact ⟨ws.length - (pos2 + 1) + 1, by omega, np + 1, pos2 + 1, .r c t2 :: k2, rfl, ⟨c2, okc2⟩, .inl ⟨rs6, eO, by omega, .inr (List.cons_ne_nil _ _), rfl⟩⟩
          | r c a =>
            obtain ⟨c2, okk⟩ := okc2
            refine iteT' rfl ⟨_, fun σ' H' h => h, ?_⟩
            refine ⟨_, rfl, r, dx2, _, rfl, hr4, no (by decide +kernel) (by decide +kernel) (by decide +kernel) _, r, l, _, pos2, [41], rfl, rs4.at_, fun hn => ?_, fun hc H5 kp5 a5 => ?_⟩
            · have e : finR ws (ws.length + 1) (.r c a :: k2) pos2 (np + 1) t2 = .er pos2 := by
                show (if ws[pos2]? = some [41] then _ else Rs.er pos2) = _
                rw [if_neg hn]
              rw [e] at eO
              exact Rf.of (kE _ eO) rs4.kp
            have e : finR ws (ws.length + 1) (.r c a :: k2) pos2 (np + 1) t2 = finR ws (ws.length + 1) k2 (pos2 + 1) (np + 1) (Rl.jn c a t2) := by
              show (if ws[pos2]? = some [41] then _ else Rs.er pos2) = _
              rw [if_pos hc]
            rw [e] at eO
            have lt3 := some_lt hc
            have rs5 := rs4.adv Z kp5 a5 (Nat.le_succ _)
            obtain ⟨us5, hu5, tu5⟩ := rs5.t
            have hs5 := rs5.s
            rw [svQ_cons] at hs5
            have rs6 := rs5.setS (ctx' := svQ k2) Z (by have := rs5.b2; rw [svQ_len, List.length_cons] at this; rw [svQ_len]; omega)
            have hu6 : upd H5 sl (.lst (svQ k2)) tl = some (.lst us5) := by rw [upd_ne Z.ne]; exact hu5
            have rs7 := rs6.addT Z hu6 (v := (Fq.r c a).v) (i := .sg c) rfl (Nat.succ_le_succ rs4.b1)
            rw [show (dn (.r c a :: k2) ++ t2.post) ++ [It.sg c] = dn k2 ++ (Rl.jn c a t2).post by rw [jn_post c2]; show ((dn k2 ++ a.post) ++ t2.post) ++ [It.sg c] = _; simp] at rs7
            refine ⟨_, rfl, .inl ⟨rfl, _, SqL.of hu5⟩, _, rfl, .inl ⟨rfl, _, SqL.of hs5⟩, sl, _, (Fq.r c a).v, rfl, rfl, hs5, (by simp), ?_⟩
            rw [List.dropLast_concat]
            refine ⟨tl, _, _, rfl, rfl, hu6, ?_, ?_⟩
            · rw [tu5.len]
              exact Nat.lt_of_le_of_lt (Nat.le_trans rs4.b1 (Nat.le_trans le3 Z.wl)) (by decide)
            exact ⟨k2.length, Nat.lt_succ_self _, pos2 + 1, k2, Rl.jn c a t2, rfl, rs7, okk, eO, by omega, by omega, rfl⟩
    · refine tt_via (b := false) (fun G g => ?_) ?_
      · refine ⟨_, rfl, rfl, _, rfl, iteF' (decide_eq_false (fun e => by injection e with e; omega)) ⟨_, rfl, false, .inl ⟨_, SqL.of rs.s, rfl⟩, g⟩⟩
      refine iteF' rfl ?_
      obtain ⟨us, hu, tu⟩ := rs.t
      exact ⟨_, rfl, kQ _ _ _ eO tl us H rs.kp rs.at_ nt hu tu⟩
end
end Lw
namespace Lw
open PySem PySem.Spec PyProof.Rows L2
open SX PySem.NumText TL LamX ClX StX
set_option pp.maxSteps 900
abbrev sRd : Stmt := inClass (top 33) 0
/-! ### rule_of of any rule that was read: it is made, or it has too many residues -/
theorem no_out {i lo hi : Int} (h1 : lo ≤ i) (h2 : i ≤ hi) : inB (.int i) lo hi = true := by
  unfold inB
  simp only [Bool.and_eq_true, decide_eq_true_eq]
  exact ⟨h1, h2⟩
theorem fx_ok {K : PySem.W.Frag} {FC DS : Addr} {H : Hp} {E : XK} {R : Hp → Prop} {n : Int} {x dx : Addr} (n1 : 1 ≤ n) (n2 : n ≤ 10 ^ 30) (hx : H x = none) (hdx : H dx = none) (ne : dx ≠ x) (k : ∀ H', Same H H' → FxAt FC H' x n → R H') :
    spFxi K FC DS [.ref x, .int n] (upd (upd H dx (.own x)) x (.ins FC dx [])) (fun v H2 => v = .non ∧ R H2) E := by
  have h := FixV.make (K := K) (DS := DS) (FC := FC) (E := E) (H := H) (Q := fun v H' => v = .ref x → R H') (v := .int n) ⟨.int n, fun z => (by rw [no_out n1 n2] at z; cases z), fun m e _ _ a H' s f fa z => by cases e; cases z; exact k H' s fa⟩ x dx hx hdx ne
  have e : (fun (v : V) (H2 : Hp) => v = .non ∧ ((V.ref x) = .ref x → R H2)) = (fun v H2 => v = .non ∧ R H2) := by
    funext v H2
    simp
  rw [← e]
  exact h
theorem dv_ok {K : PySem.W.Frag} {VC DU : Addr} {H : Hp} {E : XK} {R : Hp → Prop} {i j w : Int} {x dx : Addr} (i1 : 0 ≤ i) (i2 : i ≤ 24) (j1 : -1000 ≤ j) (j2 : j ≤ 1000) (w1 : 1 ≤ w) (w2 : w ≤ 24) (hx : H x = none) (hdx : H dx = none) (ne : dx ≠ x) (k : ∀ H', Same H H' → DvAt VC H' x i j w → R H') :
    spDvi K VC DU [.ref x, .int i, .int j, .int w] (upd (upd H dx (.own x)) x (.ins VC dx [])) (fun v H2 => v = .non ∧ R H2) E := by
  have h := DivV.make (K := K) (DU := DU) (VC := VC) (E := E) (H := H) (Q := fun v H' => v = .ref x → R H') (vx := .int i) (vy := .int j) (vw := .int w) ⟨.int i, .int j, .int w, fun z => (by rw [no_out i1 i2] at z; cases z), fun a e _ _ => by
      cases e
      exact ⟨fun z => (by rw [no_out j1 j2] at z; cases z), fun b e _ _ => by
        cases e
        exact ⟨fun z => (by rw [no_out w1 w2] at z; cases z), fun c e _ _ a H' s f fa z => by cases e; cases z; exact k H' s fa⟩⟩⟩ x dx hx hdx ne
  have e : (fun (v : V) (H2 : Hp) => v = .non ∧ ((V.ref x) = .ref x → R H2)) = (fun v H2 => v = .non ∧ R H2) := by
    funext v H2
    simp
  rw [← e]
  exact h
inductive RunsX : List Rl → List It → Option Rl → Prop where
  | done (t : Rl) : RunsX [t] [] (some t)
  | pt {x : Rl} {o : Option Rl} {st : List Rl} {its : List It} (h1 : x.Ok) (h2 : x.leaf = true) (h : RunsX (x :: st) its o) : RunsX st (.pt x :: its) o
  | sg {a b : Rl} {o : Option Rl} {c : Nat} {st : List Rl} {its : List It} (hc : c = 38 ∨ c = 124) (h1 : (Rl.jn c a b).Ok) (h : RunsX (Rl.jn c a b :: st) its o) : RunsX (b :: a :: st) (.sg c :: its) o
  | bad {a b : Rl} {c : Nat} {st : List Rl} {its : List It} (hc : c = 38 ∨ c = 124) (h6 : a.cnt + b.cnt ≤ 6) (h5 : 5000 < Nat.lcm a.mdl b.mdl) : RunsX (b :: a :: st) (.sg c :: its) none
theorem RunsX.two {a b : Rl} {c : Nat} (hc : c = 38 ∨ c = 124) (la : a.Lf) (lb : b.Lf) (h6 : a.cnt + b.cnt ≤ 6)
    (ia : (a.Ok → ∀ {st : List Rl} {its : List It} {o : Option Rl}, RunsX (a :: st) its o → RunsX st (a.post ++ its) o) ∧ (5000 < a.mdl → ∀ (st : List Rl) (its : List It), RunsX st (a.post ++ its) none))
    (ib : (b.Ok → ∀ {st : List Rl} {its : List It} {o : Option Rl}, RunsX (b :: st) its o → RunsX st (b.post ++ its) o) ∧ (5000 < b.mdl → ∀ (st : List Rl) (its : List It), RunsX st (b.post ++ its) none)) (h5 : 5000 < Nat.lcm a.mdl b.mdl) (st : List Rl) (its : List It) : RunsX st (a.post ++ (b.post ++ (It.sg c :: its))) none := by
  rcases Nat.lt_or_ge 5000 a.mdl with h | h
  · exact ia.2 h _ _
  · refine ia.1 (la.ok (by omega) h) ?_
    rcases Nat.lt_or_ge 5000 b.mdl with h' | h'
    · exact ib.2 h' _ _
    · exact ib.1 (lb.ok (by omega) h') (.bad hc h6 h5)
theorem RunsX.post : ∀ {t : Rl}, t.Lf → t.cnt ≤ 6 → (t.Ok → ∀ {st : List Rl} {its : List It} {o : Option Rl}, RunsX (t :: st) its o → RunsX st (t.post ++ its) o) ∧ (5000 < t.mdl → ∀ (st : List Rl) (its : List It), RunsX st (t.post ++ its) none)
  | .fx n, lf, _ => ⟨fun ok _ _ _ h => .pt ok rfl h, fun h => absurd h (by show ¬ 5000 < 1; decide)⟩
  | .dv x y w, lf, _ => ⟨fun ok _ _ _ h => .pt ok rfl h, fun h => absurd h (by
      obtain ⟨_, _, _, _, w1, w2⟩ := lf
      show ¬ 5000 < w.toNat
      omega)⟩
  | .lo a b, lf, c6 => by
    have c6' : a.cnt + b.cnt ≤ 6 := c6
    have ia := RunsX.post lf.1 (by omega)
    have ib := RunsX.post lf.2 (by omega)
    refine ⟨fun ok st its o h => ?_, fun h5 st its => ?_⟩
    · show RunsX st ((a.post ++ (b.post ++ [.sg 38])) ++ its) o
      rw [List.append_assoc, List.append_assoc]
      exact ia.1 ok.1 (ib.1 ok.2.1 (.sg (.inl rfl) ok h))
    · show RunsX st ((a.post ++ (b.post ++ [.sg 38])) ++ its) none
      rw [List.append_assoc, List.append_assoc]
      exact RunsX.two (.inl rfl) lf.1 lf.2 c6' ia ib h5 st its
  | .hi a b, lf, c6 => by
    have c6' : a.cnt + b.cnt ≤ 6 := c6
    have ia := RunsX.post lf.1 (by omega)
    have ib := RunsX.post lf.2 (by omega)
    refine ⟨fun ok st its o h => ?_, fun h5 st its => ?_⟩
    · show RunsX st ((a.post ++ (b.post ++ [.sg 124])) ++ its) o
      rw [List.append_assoc, List.append_assoc]
      exact ia.1 ok.1 (ib.1 ok.2.1 (.sg (.inr rfl) ok h))
    · show RunsX st ((a.post ++ (b.post ++ [.sg 124])) ++ its) none
      rw [List.append_assoc, List.append_assoc]
      exact RunsX.two (.inr rfl) lf.1 lf.2 c6' ia ib h5 st its
def mdO (t : Rl) : Option Rl := if t.mdl ≤ 5000 then some t else none
theorem RunsX.all {t : Rl} (lf : t.Lf) (c6 : t.cnt ≤ 6) : RunsX [] t.post (mdO t) := by
  unfold mdO
  split
  · have h := (RunsX.post lf c6).1 (lf.ok c6 (by assumption)) (st := []) (its := []) (.done t)
    rwa [List.append_nil] at h
  · have h := (RunsX.post lf c6).2 (by omega) [] []
    rwa [List.append_nil] at h
theorem mdO_some {t u : Rl} (h : mdO t = some u) : u = t ∧ t.mdl ≤ 5000 := by
  unfold mdO at h
  split at h
  · cases h; exact ⟨rfl, by assumption⟩
  · cases h
theorem mdO_none {t : Rl} (h : mdO t = none) : 5000 < t.mdl := by
  unfold mdO at h
  split at h
  · cases h
  · omega
/-- the rules on the stack, the last one on top -/
def StAt (FC VC LC GC : Addr) (H : Hp) : List V → List Rl → Prop
  | [], [] => True
  | v :: vs, t :: ts => (∃ a, v = .ref a ∧ RlAt FC VC LC GC H t a ∧ t.Ok) ∧ StAt FC VC LC GC H vs ts
  | _, _ => False
theorem StAt.tr {FC VC LC GC : Addr} {H H' : Hp} (s : Tr H H') : ∀ {vs : List V} {ts : List Rl}, StAt FC VC LC GC H vs ts → StAt FC VC LC GC H' vs ts
  | [], [], _ => trivial
  | _ :: _, _ :: _, ⟨⟨a, e, h, o⟩, r⟩ => ⟨⟨a, e, h.tr s, o⟩, StAt.tr s r⟩
  | [], _ :: _, h => h.elim
  | _ :: _, [], h => h.elim
theorem tr_lst {H : Hp} {l : Addr} {xs ys : List V} (h : H l = some (.lst xs)) : Tr H (upd H l (.lst ys)) := fun a o _ no e => by
  rw [upd_ne (fun z => by rw [z, h] at e; cases e; exact no _ rfl)]
  exact e
theorem tr_same {H H' : Hp} (s : Same H H') : Tr H H' := fun a o _ _ e => s a o e
theorem ToAt.get {H : Hp} : ∀ {vs : List V} {is : List It} {i : Nat} {v : V}, ToAt H vs is → vs[i]? = some v → ∃ it, is[i]? = some it ∧ ItV H v it
  | _ :: _, i :: _, 0, v, h, e => by cases e; exact ⟨i, rfl, h.1⟩
  | _ :: _, _ :: _, n + 1, v, h, e => ToAt.get (i := n) h.2 e
  | [], _, _, _, _, e => by cases e
  | _ :: _, [], _, _, h, _ => h.elim
theorem Rl.post_len : ∀ t : Rl, t.post.length + 1 ≤ 2 * t.cnt
  | .fx _ => by show 1 + 1 ≤ 2 * 1; decide
  | .dv _ _ _ => by show 1 + 1 ≤ 2 * 1; decide
  | .lo a b => by
    have h1 := Rl.post_len a
    have h2 := Rl.post_len b
    show (a.post ++ (b.post ++ [It.sg 38])).length + 1 ≤ 2 * (a.cnt + b.cnt)
    simp only [List.length_append, List.length_cons, List.length_nil]
    omega
  | .hi a b => by
    have h1 := Rl.post_len a
    have h2 := Rl.post_len b
    show (a.post ++ (b.post ++ [It.sg 124])).length + 1 ≤ 2 * (a.cnt + b.cnt)
    simp only [List.length_append, List.length_cons, List.length_nil]
    omega
theorem Mg2.up {DM : Addr} {what : String} {most : Int} {H H1 : Hp} {E : XK} (h : Mg2 DM what most H E) (s : Same H H1) : Mg2 DM what most H1 E := fun d fs H' s' hd e1 e2 => h d fs H' (s.trans s') hd e1 e2
def spRoE (FC VC LC GC DM : Addr) : Sp := fun vs H Q E => ∃ (l : Addr) (us : List V) (t : Rl), vs = [.ref l] ∧ H l = some (.lst us) ∧ ToAt H us t.post ∧ t.Lf ∧ t.cnt ≤ 6 ∧ (5000 < t.mdl → Mg2 DM "residues" 5000 H E) ∧ (t.mdl ≤ 5000 → ∀ a H', Same H H' → RlAt FC VC LC GC H' t a → Q (.ref a) H')
section
variable {P : Program} {w : World} {K : PySem.W.Frag} {mg : Str → Option Value} {base : Heap} {FC VC LC GC DR DM_ DU DS fF fD R D : Addr} {fdF fdD : FuncData}
theorem scRoE : FnScope ["told", "rules", "item", "other", "one"] ["told"] (C8.fnScope sRo) := C8.fnScope_by (by decide +kernel)
theorem fn_roE {f : Addr} {fd : FuncData} (F : C8.Def K mg "rule_of" sRo f fd) (T : Txt mg) (Z : RlZ K mg FC VC LC GC) (FM : FixM P w K mg base FC DS fF fdF) (DM : DivM P w K mg base VC DU fD fdD)
    (LA : MetP P w K mg base 7 (Rk FC VC LC GC) (PySem.dunder "and") (fun _ => spAn K FC VC LC GC DU DM_ .lo)) (OA : OpP K (Rk FC VC LC GC) .BitAnd) (LO : MetP P w K mg base 7 (Rk FC VC LC GC) (PySem.dunder "or") (fun _ => spAn K FC VC LC GC DU DM_ .hi)) (OO : OpP K (Rk FC VC LC GC) .BitOr) : FnOk P w K mg base (L2.CX P w) 8 f fd ["told"] (spRoE FC VC LC GC DM_) := by
  obtain ⟨oc, od, dV, kV, doc, pm, an, cdv, ct, osl, rfl, lk, hcd⟩ := F.fn.ex
  refine fn_of lk hcd scRoE (fun vs H Q E h => ?_) fun A outer s H0 vs Q E hr h => ?_
  · obtain ⟨l, us, t, rfl, _⟩ := h
    rfl
  · obtain ⟨l, us, t, rfl, hl, tu, lf, n6, kB, k⟩ := h
    refine ⟨_, (pss_cons (ps_set (i := 1) scRoE.nd rfl (Or.inl rfl) (pe_lst pa_nil))
  (pss_cons (ps_for (passes_of rfl) rfl (pi_list (pv 0)) (pg_name (i := 2) scRoE.nd rfl (Or.inl rfl)) (pss_one (ps_if (PW.pt (pw_or (pt_cmpR (op_eqD hr.units) (pv 2) pe_str (nomark _)) (pw_or1 (pt_cmpR (op_eqD hr.units) (pv 2) pe_str (nomark _))))) (pss_cons (ps_set (i := 3) scRoE.nd rfl (Or.inl rfl) (pe_bm0 PySem.F.plainAttrs_list PySem.F.slot_list_pop PySem.F.type_list_pop mt_pop (pv 1)))
  (pss_cons (ps_set (i := 4) scRoE.nd rfl (Or.inl rfl) (pe_bm0 PySem.F.plainAttrs_list PySem.F.slot_list_pop PySem.F.type_list_pop mt_pop (pv 1)))
  (pss_one (ps_expr (pe_bm PySem.F.plainAttrs_list PySem.F.slot_list_append PySem.F.type_list_append mt_append (pv 1) (pa_cons (pe_ifExp (pt_cmpR (op_eqD hr.units) (pv 2) pe_str (nomark _)) (pe_op (op_P LA OA (passes_call (takes_of rfl rfl rfl rfl) (fun _ _ _ _ z => z)) hr (by decide)) (pv 4) (pv 3)) (pe_op (op_P LO OO (passes_call (takes_of rfl rfl rfl rfl) (fun _ _ _ _ z => z)) hr (by decide)) (pv 4) (pv 3))) pa_nil)))))) (pss_one (ps_expr (pe_bm PySem.F.plainAttrs_list PySem.F.slot_list_append PySem.F.type_list_append mt_append (pv 1) (pa_cons (pe_ifExp (pt_cmpR op_eq (pe_callB call_len_seq (by rfl) T.n_len (by decide +kernel) (pa_cons (pv 2) pa_nil)) pe_int (nomark _)) (pe_makeS (E := C8.E0) FM.M FM.F (hr.mono (by decide)) (by rfl) FM.hm FM.b (passes_call takes0 (fun _ _ _ _ z => z)) (pv 2)) (pe_makeS (E := C8.E0) DM.M DM.F (hr.mono (by decide)) (by rfl) DM.hm DM.b (passes_call takes0 (fun _ _ _ _ z => z)) (pv 2))) pa_nil)))))))
  (pss_one (ps_ret (pe_ix ix_list (pv 1) pe_int (fun _ _ => rfl)))))), ?_⟩
    refine ⟨(by show 0 ≤ sizeLine; decide), fun sl hsl => ?_⟩
    dsimp only [gName, tSeq]
    have nsl : H0 sl = none := hsl
    have s1 := same_new (o := HO.lst []) hsl
    have hl1 := s1 _ _ hl
    have tu1 := tu.on (tt_same s1)
    have ns : upd H0 sl (.lst []) sl = some (.lst []) := upd_same
    have np := Rl.post_len t
    have nlu := tu.len
    refine ⟨_, rfl, l, rfl, ⟨_, SqL.of hl1⟩, for_list (K := K) (xs := us) (fun i σ' H' => ∃ ss st x2 x3 x4, σ' = [some (.ref l), some (.ref sl), x2, x3, x4] ∧ Same H0 H' ∧ H' sl = some (.lst (List.reverse ss)) ∧ StAt FC VC LC GC H' ss st ∧ RunsX st (t.post.drop i) (mdO t) ∧ ss.length ≤ i) ⟨[], [], none, none, none, rfl, s1, ns, trivial, RunsX.all lf n6, Nat.le_refl _⟩ ?_ ?_ ?_⟩
    · rintro i σ1 H2 _ ⟨_, _, _, _, _, _, s2, _⟩
      exact SqL.of (s2 _ _ hl)
    · rintro i x σ1 H2 hx ⟨ss, st, x2, x3, x4, rfl, s2, hs2, sa, rn, le⟩
      have hi : i < us.length := (List.getElem?_eq_some_iff.mp hx).1
      have sz : (List.reverse ss).length < sizeLine := by rw [List.length_reverse]; exact Nat.lt_of_le_of_lt (by omega : ss.length ≤ 1000) (by decide)
      obtain ⟨it, hit, iv⟩ := (tu.on (tt_same s2)).get hx
      have ed : t.post.drop i = it :: t.post.drop (i + 1) := by
        obtain ⟨h1, h2⟩ := List.getElem?_eq_some_iff.mp hit
        rw [List.drop_eq_getElem_cons h1, h2]
      rw [ed] at rn
      dsimp only [gName, List.set, tSeq]
      cases it with
      | pt y =>
        obtain ⟨p, rfl, hp⟩ := iv
        cases rn with
        | pt h1 h2 h =>
          have fin : ∀ (z : Addr) (H3 : Hp), Same H2 H3 → RlAt FC VC LC GC H3 y z → ∃ ss' st' x2' x3' x4', [some (V.ref l), some (V.ref sl), some (V.ref p), x3, x4] = [some (V.ref l), some (V.ref sl), x2', x3', x4'] ∧ Same H0 (upd H3 sl (.lst (List.reverse ss ++ [V.ref z]))) ∧ upd H3 sl (.lst (List.reverse ss ++ [V.ref z])) sl = some (.lst (List.reverse ss')) ∧ StAt FC VC LC GC (upd H3 sl (.lst (List.reverse ss ++ [V.ref z]))) ss' st' ∧ RunsX st' (t.post.drop (i + 1)) (mdO t) ∧ ss'.length ≤ i + 1 := fun z H3 s3 r3 => by
            have tr := tr_lst (ys := List.reverse ss ++ [V.ref z]) (s3 _ _ hs2)
            refine ⟨.ref z :: ss, y :: st, _, _, _, rfl, fun b o e => ?_, by rw [upd_same, List.reverse_cons], ⟨⟨z, rfl, r3.tr tr, h1⟩, (sa.tr (tr_same s3)).tr tr⟩, h, Nat.succ_le_succ le⟩
            rw [upd_ne (fun z => by rw [z, nsl] at e; cases e)]
            exact (s2.trans s3) _ _ e
          cases y with
          | fx m =>
            have dt : Dp K H2 (.ref p) (.tuple [.int m]) := .tup (SqT.of hp) (.cons (.int _) .nil)
            refine ⟨_, rfl, _, _, dt, .str _, rfl, (by decide +kernel), _, rfl, iteF' rfl ⟨_, rfl, _, _, dt, .str _, rfl, (by decide +kernel), _, rfl, iteF' rfl ?_⟩⟩
            refine ⟨_, rfl, .inl ⟨rfl, _, SqL.of hs2⟩, _, rfl, p, _, rfl, .inr (SqT.of hp), rfl, _, rfl, iteT' (decide_eq_true rfl) ⟨_, rfl, p, _, rfl, .inl (SqT.of hp), fun z dz hz hdz ne => ?_⟩⟩
            exact fx_ok h1.1 h1.2 hz hdz ne fun H3 s3 fa => ⟨sl, _, _, rfl, rfl, s3 _ _ hs2, sz, fin z H3 s3 fa⟩
          | dv a b c =>
            obtain ⟨a1, a2, b1, b2, c1, c2⟩ := id h1
            have dt : Dp K H2 (.ref p) (.tuple [.int a, .int b, .int c]) := .tup (SqT.of hp) (.cons (.int _) (.cons (.int _) (.cons (.int _) .nil)))
            refine ⟨_, rfl, _, _, dt, .str _, rfl, (by decide +kernel), _, rfl, iteF' rfl ⟨_, rfl, _, _, dt, .str _, rfl, (by decide +kernel), _, rfl, iteF' rfl ?_⟩⟩
            refine ⟨_, rfl, .inl ⟨rfl, _, SqL.of hs2⟩, _, rfl, p, _, rfl, .inr (SqT.of hp), rfl, _, rfl, iteF' (by decide +kernel : decide (V.int 3 = V.int 1) = false) ⟨_, rfl, p, _, rfl, .inl (SqT.of hp), fun z dz hz hdz ne => ?_⟩⟩
            exact dv_ok a1 a2 b1 b2 c1 c2 hz hdz ne fun H3 s3 fa => ⟨sl, _, _, rfl, rfl, s3 _ _ hs2, sz, fin z H3 s3 fa⟩
          | lo a b => cases h2
          | hi a b => cases h2
      | sg c =>
        obtain rfl := iv
        obtain ⟨a, b, st', rfl, hc, h1⟩ : ∃ a b st', st = b :: a :: st' ∧ (c = 38 ∨ c = 124) ∧ (((Rl.jn c a b).Ok ∧ RunsX (Rl.jn c a b :: st') (t.post.drop (i + 1)) (mdO t)) ∨ (a.cnt + b.cnt ≤ 6 ∧ 5000 < Nat.lcm a.mdl b.mdl ∧ 5000 < t.mdl)) := by
          generalize hm : mdO t = o at rn
          cases rn with
          | sg hc h1 h => exact ⟨_, _, _, rfl, hc, .inl ⟨h1, h⟩⟩
          | bad hc h6 h5 => exact ⟨_, _, _, rfl, hc, .inr ⟨h6, h5, mdO_none hm⟩⟩
        clear rn
        · skip
          cases ss with
          | nil => exact sa.elim
          | cons vb ss =>
          cases ss with
          | nil => exact sa.2.elim
          | cons va ss =>
          obtain ⟨⟨mb, rfl, rb, ob⟩, ⟨ma, rfl, ra, oa⟩, sr⟩ := sa
          have hs3 := hs2
          rw [List.reverse_cons, List.reverse_cons] at hs3
          have e38 : PyData.eqv (.str (S [38])) (.str (Str.ofString "&")) = true := by decide +kernel
          have e39 : PyData.eqv (.str (S [124])) (.str (Str.ofString "&")) = false := by decide +kernel
          have e40 : PyData.eqv (.str (S [124])) (.str (Str.ofString "|")) = true := by decide +kernel
          have sz2 : (List.reverse ss).length < sizeLine := by
            rw [List.length_reverse] at sz ⊢
            rw [List.length_cons, List.length_cons] at sz
            omega
          unfold tIfS
          refine tt_via (b := true) (fun G g => ?_) ?_
          · rcases hc with rfl | rfl
            · exact ⟨_, rfl, _, _, .str _, .str _, (by decide +kernel), (by decide +kernel), _, rfl, iteT' e38 g⟩
            · exact ⟨_, rfl, _, _, .str _, .str _, (by decide +kernel), (by decide +kernel), _, rfl, iteF' e39 ⟨_, rfl, _, _, .str _, .str _, (by decide +kernel), (by decide +kernel), _, rfl, by rw [e40]; exact g⟩⟩
          refine iteT' rfl ?_
          refine ⟨_, rfl, .inl ⟨rfl, _, SqL.of hs3⟩, sl, _, .ref mb, rfl, rfl, hs3, (by simp), ?_⟩
          rw [List.dropLast_concat]
          dsimp only [gName, List.set]
          refine ⟨_, rfl, .inl ⟨rfl, _, SqL.of upd_same⟩, sl, _, .ref ma, rfl, rfl, upd_same, (by simp), ?_⟩
          rw [List.dropLast_concat, upd_upd]
          dsimp only [gName, List.set]
          have tr := tr_lst (ys := List.reverse ss) hs3
          have s4 : Same H0 (upd H2 sl (.lst (List.reverse ss))) := fun b o e => by
            rw [upd_ne (fun z => by rw [z, nsl] at e; cases e)]
            exact s2 _ _ e
          have ra4 := ra.tr tr
          have rb4 := rb.tr tr
          have sr4 := sr.tr tr
          have h4 : upd H2 sl (.lst (List.reverse ss)) sl = some (.lst (List.reverse ss)) := upd_same
          generalize upd H2 sl (.lst (List.reverse ss)) = H4 at s4 ra4 rb4 sr4 h4 ⊢
          obtain ⟨d1, f1, _, _, g1, _⟩ := ra4.has oa
          obtain ⟨d2, f2, _, _, g2, _⟩ := rb4.has ob
          have fin : ∀ (k1 : (Rl.jn c a b).Ok) (k2 : RunsX (Rl.jn c a b :: st') (t.post.drop (i + 1)) (mdO t)) (z : Addr) (H5 : Hp), Same H4 H5 → RlAt FC VC LC GC H5 (Rl.jn c a b) z → ∃ ss' st'' x2' x3' x4', [some (V.ref l), some (V.ref sl), some (V.str (S [c])), some (V.ref mb), some (V.ref ma)] = [some (V.ref l), some (V.ref sl), x2', x3', x4'] ∧ Same H0 (upd H5 sl (.lst (List.reverse ss ++ [V.ref z]))) ∧ upd H5 sl (.lst (List.reverse ss ++ [V.ref z])) sl = some (.lst (List.reverse ss')) ∧ StAt FC VC LC GC (upd H5 sl (.lst (List.reverse ss ++ [V.ref z]))) ss' st'' ∧ RunsX st'' (t.post.drop (i + 1)) (mdO t) ∧ ss'.length ≤ i + 1 := fun k1 k2 z H5 s5 r5 => by
            have tr := tr_lst (ys := List.reverse ss ++ [V.ref z]) (s5 _ _ h4)
            refine ⟨.ref z :: ss, Rl.jn c a b :: st', _, _, _, rfl, fun b o e => ?_, by rw [upd_same, List.reverse_cons], ⟨⟨z, rfl, r5.tr tr, k1⟩, (sr4.tr (tr_same s5)).tr tr⟩, k2, by rw [List.length_cons] at le ⊢; rw [List.length_cons] at le; omega⟩
            rw [upd_ne (fun z => by rw [z, nsl] at e; cases e)]
            exact (s4.trans s5) _ _ e
          refine ⟨_, rfl, .inl ⟨rfl, _, SqL.of h4⟩, ?_⟩
          rcases hc with rfl | rfl
          · have hk : ((Rl.lo a b).Ok ∧ RunsX (Rl.lo a b :: st') (t.post.drop (i + 1)) (mdO t)) ∨ (a.cnt + b.cnt ≤ 6 ∧ 5000 < Nat.lcm a.mdl b.mdl ∧ 5000 < t.mdl) := h1
            refine ⟨_, rfl, _, _, .str _, .str _, (by decide +kernel), (by decide +kernel), _, rfl, iteT' e38 ?_⟩
            exact ⟨_, rfl, _, rfl, ma, _, d1, f1, mb, _, d2, f2, rfl, rfl, Rk.of a, Rk.of b, g1, g2, _, _, rfl, some a, some b, ⟨ma, rfl, ra4, oa⟩, ⟨mb, rfl, rb4, ob⟩, (fun e => by cases e), (fun _ _ e => by cases e), fun x y e1 e2 => by
              cases e1
              cases e2
              rcases hk with ⟨hk, hk2⟩ | ⟨h6, h5, hm⟩
              · exact ⟨fun c => absurd hk.2.2.1 (by omega), fun _ c => absurd hk.2.2.2 (by omega), fun _ _ z H' s _ r => ⟨sl, _, _, rfl, rfl, s _ _ h4, sz2, fin hk hk2 z H' s r⟩⟩
              · exact ⟨fun c => absurd c (by omega), fun _ _ => (kB hm).up s4, fun _ c => absurd c (by omega)⟩⟩
          · have hk : ((Rl.hi a b).Ok ∧ RunsX (Rl.hi a b :: st') (t.post.drop (i + 1)) (mdO t)) ∨ (a.cnt + b.cnt ≤ 6 ∧ 5000 < Nat.lcm a.mdl b.mdl ∧ 5000 < t.mdl) := h1
            refine ⟨_, rfl, _, _, .str _, .str _, (by decide +kernel), (by decide +kernel), _, rfl, iteF' e39 ?_⟩
            exact ⟨_, rfl, _, rfl, ma, _, d1, f1, mb, _, d2, f2, rfl, rfl, Rk.of a, Rk.of b, g1, g2, _, _, rfl, some a, some b, ⟨ma, rfl, ra4, oa⟩, ⟨mb, rfl, rb4, ob⟩, (fun e => by cases e), (fun _ _ e => by cases e), fun x y e1 e2 => by
              cases e1
              cases e2
              rcases hk with ⟨hk, hk2⟩ | ⟨h6, h5, hm⟩
              · exact ⟨fun c => absurd hk.2.2.1 (by omega), fun _ c => absurd hk.2.2.2 (by omega), fun _ _ z H' s _ r => ⟨sl, _, _, rfl, rfl, s _ _ h4, sz2, fin hk hk2 z H' s r⟩⟩
              · exact ⟨fun c => absurd c (by omega), fun _ _ => (kB hm).up s4, fun _ c => absurd c (by omega)⟩⟩
    · rintro σ1 H2 ⟨ss, st, x2, x3, x4, rfl, s2, hs2, sa, rn, le⟩
      rw [nlu, List.drop_length] at rn
      generalize hm : mdO t = o at rn
      cases rn with
      | done t' =>
        obtain ⟨rfl, hm5⟩ := mdO_some hm
        cases ss with
        | nil => exact sa.elim
        | cons v ss =>
          cases ss with
          | cons _ _ => exact sa.2.elim
          | nil =>
            obtain ⟨⟨a, rfl, ra, _⟩, _⟩ := sa
            exact ⟨_, rfl, sl, _, _, _, rfl, rfl, SqL.of hs2, atI_nat (j := 0) rfl, k hm5 a H2 s2 ra⟩
end
end Lw
namespace Lw
open PySem PySem.Spec PyProof.Rows L2
open SX PySem.NumText TL LamX ClX StX
set_option pp.maxSteps 900
/-! ### Rule.read of any value -/
theorem wds_one {cs : List Nat} (h : 32 ∉ cs) : wds cs = [cs] := spl_last1 h
theorem wds_cut {a b : List Nat} (h : 32 ∉ a) : wds (a ++ 32 :: b) = a :: wds b := spl_part1 (S := []) (acc := []) (rest := b) h
theorem wds_or (cs : List Nat) : (32 ∉ cs ∧ wds cs = [cs]) ∨ ∃ a b, cs = a ++ 32 :: b ∧ 32 ∉ a ∧ wds cs = a :: wds b := by
  by_cases h : 32 ∈ cs
  · obtain ⟨a, b, e, ha⟩ := List.eq_append_cons_of_mem h
    exact .inr ⟨a, b, e, ha, by rw [e]; exact wds_cut ha⟩
  · exact .inl ⟨h, wds_one h⟩
theorem wds_pos (cs : List Nat) : 0 < (wds cs).length := by
  rcases wds_or cs with ⟨_, e⟩ | ⟨a, b, _, _, e⟩ <;> rw [e] <;> simp
theorem wds_ne (cs : List Nat) : wds cs ≠ [] := fun e => by have := wds_pos cs; rw [e] at this; exact absurd this (by decide)
theorem wds_mem : ∀ (n : Nat) (cs : List Nat), cs.length = n → ∀ p ∈ wds cs, p.length ≤ cs.length ∧ ∀ c ∈ p, c ∈ cs := by
  intro n
  induction n using Nat.strongRecOn with
  | _ n ih =>
    intro cs hn p hp
    rcases wds_or cs with ⟨_, e⟩ | ⟨a, b, e0, _, e⟩
    · rw [e, List.mem_singleton] at hp
      subst hp
      exact ⟨Nat.le_refl _, fun c hc => hc⟩
    · rw [e] at hp
      rcases List.mem_cons.mp hp with rfl | hp
      · rw [e0]
        exact ⟨by rw [List.length_append]; omega, fun c hc => List.mem_append_left _ hc⟩
      · have hb : b.length < n := by rw [← hn, e0, List.length_append, List.length_cons]; omega
        obtain ⟨h1, h2⟩ := ih b.length hb b rfl p hp
        exact ⟨by rw [e0, List.length_append, List.length_cons]; omega, fun c hc => by rw [e0]; exact List.mem_append_right _ (List.mem_cons_of_mem _ (h2 c hc))⟩
theorem wds_len (cs : List Nat) : (wds cs).length ≤ cs.length + 1 := by
  obtain ⟨n, hn⟩ : ∃ n, n = cs.length := ⟨_, rfl⟩
  induction n using Nat.strongRecOn generalizing cs with
  | _ n ih =>
    rcases wds_or cs with ⟨_, e⟩ | ⟨a, b, e0, _, e⟩
    · rw [e]; simp
    · have hb : b.length < n := by rw [hn, e0, List.length_append, List.length_cons]; omega
      have := ih b.length hb b rfl
      rw [e, List.length_cons, e0, List.length_append, List.length_cons]
      omega

/-- Reader, ready to be made -/
structure RdK (P : Program) (w : World) (K : PySem.W.Frag) (mg : Str → Option Value) (base : Heap) (R D f : Addr) (fd : FuncData) (ds : List Value) : Prop where
  M : Mk K R f
  F : FnOk P w K mg base (L2.CX P w) 3 f fd ["self", "text", "row"] (spRI K R D)
  hm : mg "Reader" = some (.ref R)
  b1 : Binds K fd ["self", "text", "row"] ds
  d1 : Vals [.int 0] ds
/-- what comes of a text's words -/
def RdO (FC VC LC GC D DM : Addr) (H : Hp) (Q : VK) (E : XK) (ws : List (List Nat)) : Prop :=
  (∀ e, pR ws (ws.length + 1) 0 0 = .er e → Rf D H E e) ∧ ∀ n m t, pR ws (ws.length + 1) 0 0 = .ok n m t → (n < ws.length → Rf D H E n) ∧ (ws.length ≤ n → (5000 < t.mdl → Mg2 DM "residues" 5000 H E) ∧ (t.mdl ≤ 5000 → ∀ a H', Same H H' → RlAt FC VC LC GC H' t a → Q (.ref a) H'))
def spRdE (K : PySem.W.Frag) (FC VC LC GC D DM : Addr) : Sp := fun vs H Q E => ∃ x, vs = [x] ∧ Anyv K H x ∧ (isS x = false → Rf D H E 0) ∧ ∀ z, x = .str z → ∃ cs, z = S cs ∧ (∀ c ∈ cs, c < 128) ∧ cs.length ≤ 900 ∧ RdO FC VC LC GC D DM H Q E (wds cs)
/-- Rule.read, ready to be called -/
structure RrE (P : Program) (w : World) (K : PySem.W.Frag) (mg : Str → Option Value) (base : Heap) (FC VC LC GC D DM UC p g : Addr) (fd : FuncData) : Prop where
  S : SMet K UC "read" p g
  F : FnOk P w K mg base (L2.CX P w) 10 g fd ["text"] (spRdE K FC VC LC GC D DM)
  b : Binds K fd ["text"] []
theorem Rf.sk {r D : Addr} {H H1 : Hp} {E : XK} {n : Nat} (h : Rf D H E n) (hr : H r = none) (s : ∀ b o, b ≠ r → H b = some o → H1 b = some o) : RfK r D H1 E n := fun d fs H' k hd f1 f2 => h d fs H' (fun b o e => k _ _ (ne_of_none e hr) (s _ _ (ne_of_none e hr) e)) hd f1 f2
section
variable {P : Program} {w : World} {K : PySem.W.Frag} {mg : Str → Option Value} {base : Heap} {R D FC VC LC GC DM_ : Addr}
theorem scRdE : FnScope ["text", "reader", "told"] ["text"] (C8.fnScope sRd) := C8.fnScope_by (by decide +kernel)
theorem fn_rdE {f fR : Addr} {fd fdR : FuncData} {ds : List Value} (F : C8.Fun K "read" "Rule.read" sRd f fd) (RK : RdK P w K mg base R D fR fdR ds) (RM : RdE P w K mg base R D) (DWr : CalX P w K mg base 9 "read_rule" (spRrE R D)) (DWo : CalX P w K mg base 8 "rule_of" (spRoE FC VC LC GC DM_)) : FnOk P w K mg base (L2.CX P w) 10 f fd ["text"] (spRdE K FC VC LC GC D DM_) := by
  obtain ⟨oc, od, dV, kV, doc, pm, an, cdv, ct, osl, rfl, lk, hcd⟩ := F.ex
  refine fn_of lk hcd scRdE (fun vs H Q E h => ?_) fun A outer s H vs Q E hr h => ?_
  · obtain ⟨x, rfl, _⟩ := h
    rfl
  · obtain ⟨x, rfl, av, k0, k1⟩ := h
    refine ⟨_, (pss_cons (ps_set (i := 1) scRdE.nd rfl (Or.inl rfl) (pe_make RK.M RK.F (hr.mono (by decide)) (by rfl) RK.hm RK.b1 RK.d1 (passes_call (takes_of rfl rfl rfl rfl) (fun _ _ _ _ z => z)) (pa_cons (pv 0) pa_nil)))
      (pss_cons (ps_set (i := 2) scRdE.nd rfl (Or.inl rfl) (pe_cX DWr hr (by decide) (by rfl) (passes_call (takes_of rfl rfl rfl rfl) (fun _ _ _ _ z => z)) (pa_cons (pv 1) pa_nil)))
      (pss_cons (ps_expr (pe_mx0 (pv 1) RM.rc.cl RM.F hr (by decide) (passes_call (takes_of rfl rfl rfl rfl) (fun _ _ _ _ z => z))))
      (pss_one (ps_ret (pe_cX DWo hr (by decide) (by rfl) (passes_call (takes_of rfl rfl rfl rfl) (fun _ _ _ _ z => z)) (pa_cons (pv 2) pa_nil))))))), ?_⟩
    refine ⟨_, rfl, fun r dx hr0 hdx ne => ?_⟩
    have s0 : Same H (upd (upd H dx (.own r)) r (.ins R dx [])) := (same_new hdx).trans (same_new (by rw [upd_ne ne.symm]; exact hr0))
    have hr1 : upd (upd H dx (.own r)) r (.ins R dx []) r = some (.ins R dx []) := upd_same
    generalize upd (upd H dx (.own r)) r (.ins R dx []) = H0 at s0 hr1 ⊢
    refine ⟨r, dx, _, rfl, Lw.Anyv.same s0 av, hr1, fun hx d fs H' s' hd f1 f2 => k0 hx d fs H' (s0.trans s') hd f1 f2, fun z hz => ?_⟩
    obtain ⟨cs, rfl, c1, c2, kE, kO⟩ := k1 z hz
    refine ⟨cs, rfl, by omega, fun l fl => ⟨rfl, ?_⟩⟩
    have nl : l ≠ r := fun e => by rw [e, hr1] at fl; cases fl
    have s1 : ∀ b o, b ≠ r → H b = some o → upd (upd H0 l (.lst (wV (wds cs)))) r (.ins R dx (rdF l 0)) b = some o := fun b o hb e => by
      rw [upd_ne hb, upd_ne (ne_of_none (s0 _ _ e) fl)]; exact s0 _ _ e
    have at1 : RdAt R (upd (upd H0 l (.lst (wV (wds cs)))) r (.ins R dx (rdF l 0))) r l (wds cs) 0 := ⟨⟨dx, upd_same⟩, by rw [upd_ne nl]; exact upd_same⟩
    generalize upd (upd H0 l (.lst (wV (wds cs)))) r (.ins R dx (rdF l 0)) = H1 at s1 at1 ⊢
    have wd : Wd (wds cs) := fun w hw => by
      obtain ⟨h1, h2⟩ := wds_mem _ cs rfl w hw
      exact ⟨fun c hc => c1 c (h2 c hc), by omega⟩
    have wl : (wds cs).length ≤ 1000 := Nat.le_trans (wds_len cs) (by omega)
    generalize wds cs = ws at *
    dsimp only [gName, tSeq]
    refine ⟨_, rfl, r, l, ws, rfl, at1, wd, wl, fun e he => (kE e he).sk hr0 s1, fun n m t he p us H2 kp2 a2 np hp tu => ?_⟩
    dsimp only [gName, tSeq]
    obtain ⟨g1, g2⟩ := kO n m t he
    obtain ⟨_, _, em, m6, lf⟩ := pR_ok (by decide) he
    have s2 : Same H H2 := fun b o e => kp2 _ _ (ne_of_none e hr0) (s1 _ _ (ne_of_none e hr0) e)
    obtain ⟨⟨dx2, hr2⟩, hl2⟩ := id a2
    refine ⟨_, rfl, r, dx2, _, rfl, hr2, rdF_no l _ (by decide +kernel) (by decide +kernel) (by decide +kernel), r, l, _, n, rfl, a2, (fun z d fs H' s' hd f1 f2 => g1 z d fs H' (s2.trans s') hd f1 f2), fun hn => ?_⟩
    obtain ⟨g3, g4⟩ := g2 hn
    exact ⟨_, rfl, p, us, t, rfl, hp, tu, lf, by omega, fun z => (g3 z).up s2, fun z a H3 s3 ra => g4 z a H3 (s2.trans s3) ra⟩
end
end Lw
namespace Lw
open PySem PySem.Spec PyProof.Rows L2
open SX PySem.NumText TL LamX ClX StX
set_option pp.maxSteps 900
abbrev sIn : Stmt := top 51
/-! ### numbers as the law reads them -/
theorem str_nat (n : Nat) : Str.ofString (toString ((n : Nat) : Int)) = S (numL n) := C8x n
  where C8x (n : Nat) : Str.ofString (toString ((n : Nat) : Int)) = S (numL n) := SX.num_S n
def figures : List Nat := [48, 49, 50, 51, 52, 53, 54, 55, 56, 57]
theorem fig_iff (c : Nat) : decide (c ∈ figures) = (decide (48 ≤ c) && decide (c ≤ 57)) := by
  rw [← Bool.decide_and]
  refine decide_eq_decide.mpr ?_
  simp only [figures, List.mem_cons, List.not_mem_nil, or_false]
  omega
theorem log_small {n k : Nat} (h : n < 10 ^ k) (hk : k ≤ 1000) : n < 10 ^ 4300 := Nat.lt_of_lt_of_le h (Nat.pow_le_pow_right (by decide) (by omega))
theorem wri_math {cs : List Nat} (hd : digB (figs cs) = true) (hl : cs.length ≤ 1000) : ∃ n : Int, intText? (S cs) = some n ∧ n.natAbs < 10 ^ 4300 ∧ ((Str.ofString (toString n) = S cs ∧ intOf cs = some n) ∨ (Str.ofString (toString n) ≠ S cs ∧ intOf cs = none)) := by
  obtain ⟨hall, hne⟩ := digB_all hd
  have hv := val_lt _ hall
  have hlog := log_small hv (Nat.le_trans (figs_len cs) hl)
  obtain ⟨c, r, hf⟩ : ∃ c r, figs cs = c :: r := by
    cases e : figs cs with
    | nil => exact absurd e hne
    | cons c r => exact ⟨c, r, rfl⟩
  have hc : 48 ≤ c ∧ c ≤ 57 := hall c (by rw [hf]; exact List.mem_cons_self)
  by_cases h45 : cs.head? = some 45
  · obtain ⟨ds, rfl⟩ : ∃ ds, cs = 45 :: ds := by
      cases e : cs with
      | nil => rw [e] at h45; cases h45
      | cons d ds => rw [e] at h45; exact ⟨ds, by rw [Option.some.inj h45]⟩
    rw [figs_minus] at hall hne hf hlog hv
    refine ⟨-((digitsVal ds : Nat) : Int), intText_neg (x := S (45 :: ds)) rfl hall hne (by rw [S_len]; omega), by rw [Int.natAbs_neg, Int.natAbs_natCast]; exact hlog, ?_⟩
    by_cases h48 : c = 48
    · refine .inr ⟨fun e => ?_, ?_⟩
      · by_cases z : digitsVal ds = 0
        · rw [z] at e
          have e2 : S [48] = S (45 :: ds) := e
          exact absurd (List.cons.inj (S_inj e2)).1 (by decide)
        · rw [str_neg (by omega)] at e
          have e2 := (List.cons.inj (S_inj e)).2
          obtain ⟨d, q, e3, hq⟩ := num_head (digitsVal ds) (by omega)
          rw [e3, hf] at e2
          have := (List.cons.inj e2).1
          omega
      · unfold intOf
        rw [if_pos hd, if_pos ⟨by rw [figs_minus, hf, h48]; rfl, fun e => by cases e⟩]
    · refine .inl ⟨?_, ?_⟩
      · have hp : 0 < digitsVal ds := by rw [hf]; exact digitsVal_pos (by omega)
        rw [str_neg hp]
        refine congrArg S (congrArg (45 :: ·) ?_)
        rw [hf]
        exact num_back (hf ▸ hall) (.inl (by omega))
      · unfold intOf
        rw [if_pos hd, if_neg (fun z => h48 (Option.some.inj (by rw [figs_minus, hf] at z; exact z.1))), if_pos h45, figs_minus]
  · have hfc : figs cs = cs := by
      cases e : cs with
      | nil => rfl
      | cons d ds => exact figs_other ds fun z => h45 (by rw [e, z]; rfl)
    rw [hfc] at hall hne hf hlog hv
    refine ⟨((digitsVal cs : Nat) : Int), intText_digits (x := S cs) hall hne (by rw [S_len]; omega), by rw [Int.natAbs_natCast]; exact hlog, ?_⟩
    by_cases h48 : c = 48 ∧ r ≠ []
    · refine .inr ⟨fun e => ?_, ?_⟩
      · rw [str_nat] at e
        have e2 := S_inj e
        by_cases z : digitsVal cs = 0
        · rw [z, numL_lt (by decide), hf] at e2
          exact h48.2 (List.cons.inj e2).2.symm
        · obtain ⟨d, q, e3, hq⟩ := num_head (digitsVal cs) (by omega)
          rw [e3, hf] at e2
          have := (List.cons.inj e2).1
          omega
      · unfold intOf
        rw [if_pos hd, if_pos ⟨by rw [hfc, hf, h48.1]; rfl, fun e => by rw [e] at hf; exact h48.2 (List.cons.inj hf).2.symm⟩]
    · refine .inl ⟨?_, ?_⟩
      · rw [str_nat]
        refine congrArg S ?_
        rw [hf]
        refine num_back (hf ▸ hall) ?_
        by_cases z : c = 48
        · exact .inr (Classical.byContradiction fun q => h48 ⟨z, q⟩)
        · exact .inl (by omega)
      · unfold intOf
        rw [if_pos hd, if_neg (fun z => ?_), if_neg h45, hfc]
        rw [hfc, hf] at z
        refine h48 ⟨Option.some.inj z.1, fun q => z.2 ?_⟩
        rw [q, Option.some.inj z.1]

theorem intL_short33 {i : Int} (h : i.natAbs ≤ 10 ^ 33) : (intL i).length ≤ 36 := by
  have e := int_text_length_le10 (k := 34) (by decide) (Nat.lt_of_le_of_lt h (by decide +kernel) : i.natAbs < 10 ^ 34)
  have s := str_int i
  have l : (Str.ofString (toString i)).length = (intL i).length := by rw [s, S_len]
  rw [← l, PySem.ofString_length]
  exact Nat.le_trans e (by decide)
/-- the law's words -/
structure LW (ws : List (List Nat)) : Prop where
  w : ∀ w ∈ ws, (∀ c ∈ w, c < 128) ∧ w.length ≤ 200
  n : ws.length ≤ 110
theorem LW.at {ws : List (List Nat)} (h : LW ws) {n : Nat} {w : List Nat} (e : ws[n]? = some w) : (∀ c ∈ w, c < 128) ∧ w.length ≤ 200 := h.w w (List.mem_of_getElem? e)
theorem wV_at {ws : List (List Nat)} {n : Nat} {w : List Nat} (e : ws[n]? = some w) : (wV ws)[n]? = some (.str (S w)) := by
  unfold wV
  rw [List.getElem?_map, List.getElem?_map, e]; rfl
theorem wV_length (ws : List (List Nat)) : (wV ws).length = ws.length := by unfold wV; rw [List.length_map, List.length_map]
theorem numAt_some {ws : List (List Nat)} {n : Nat} {w : List Nat} {lo hi : Int} (e : ws[n]? = some w) : numAt ws n lo hi = match intOf w with
  | some i => if lo ≤ i ∧ i ≤ hi then some i else none
  | none => none := by
  unfold numAt
  rw [hand_at e]
  rfl
theorem numAt_none {ws : List (List Nat)} {n : Nat} {lo hi : Int} (e : ws[n]? = none) : numAt ws n lo hi = none := by
  unfold numAt handV
  rw [e]; rfl
theorem int_abs {cs : List Nat} {m : Int} (hd : digB (figs cs) = true) (hl : cs.length ≤ 41) (h : intText? (S cs) = some m) : m.natAbs < 10 ^ 41 := by
  obtain ⟨hall, hne⟩ := digB_all hd
  have hv := val_lt _ hall
  have hp : 10 ^ (figs cs).length ≤ 10 ^ 41 := Nat.pow_le_pow_right (by decide) (Nat.le_trans (figs_len cs) hl)
  by_cases h45 : cs.head? = some 45
  · obtain ⟨ds, rfl⟩ : ∃ ds, cs = 45 :: ds := by
      cases e : cs with
      | nil => rw [e] at h45; cases h45
      | cons d ds => rw [e] at h45; exact ⟨ds, by rw [Option.some.inj h45]⟩
    rw [figs_minus] at hall hne hv hp
    have e := intText_neg (x := S (45 :: ds)) rfl hall hne (by rw [S_len]; omega)
    rw [h] at e
    cases e
    rw [Int.natAbs_neg, Int.natAbs_natCast]
    omega
  · have hfc : figs cs = cs := by
      cases e : cs with
      | nil => rfl
      | cons d ds => exact figs_other ds fun z => h45 (by rw [e, z]; rfl)
    rw [hfc] at hall hne hv hp
    have e := intText_digits (x := S cs) hall hne (by rw [S_len]; omega)
    rw [h] at e
    cases e
    rw [Int.natAbs_natCast]
    exact Nat.lt_of_lt_of_le hv hp
/-- an integer of more than 40 figures is out of all bounds -/
theorem intOf_long {w : List Nat} {i : Int} (h : intOf w = some i) (l : 40 < (figs w).length) (l2 : w.length ≤ 200) : 10 ^ 33 < i.natAbs := by
  refine Classical.byContradiction fun z => ?_
  have e := intOf_intL i
  have b := intL_short33 (i := i) (by omega)
  have hw : digB (figs w) = true := by
    unfold intOf at h
    by_cases d : digB (figs w) = true
    · exact d
    · rw [if_neg d] at h; cases h
  obtain ⟨n, h1, h2, h3⟩ := wri_math hw (Nat.le_trans l2 (by decide))
  rcases h3 with ⟨e1, e2⟩ | ⟨e1, e2⟩
  · rw [h] at e2
    cases e2
    have e3 : intL i = w := S_inj (by rw [← e1]; exact (str_int i).symm)
    have := figs_len w
    rw [← e3] at l this
    omega
  · rw [h] at e2; cases e2
def spIn : Sp := fun vs H Q _ => ∃ (l : Addr) (ws : List (List Nat)) (n : Nat) (lo hi : Int), vs = [.ref l, .int n, .int lo, .int hi] ∧ H l = some (.lst (wV ws)) ∧ LW ws ∧ -(10 ^ 30) ≤ lo ∧ hi ≤ 10 ^ 30 ∧ ∀ H', Same H H' → Q (.bl (numAt ws n lo hi).isSome) H'
section
variable {P : Program} {w : World} {K : PySem.W.Frag} {mg : Str → Option Value} {base : Heap}
theorem scIn : FnScope ["_law_words", "_law_at_so", "_law_low", "_law_high", "_law_plain_here", "_law_sign"] ["_law_words", "_law_at_so", "_law_low", "_law_high"] (C8.fnScope sIn) := C8.fnScope_by (by decide +kernel)
theorem cal_in {f : Addr} {fd : FuncData} (F : C8.Def K mg "_law_is_number" sIn f fd) (b : Binds K fd ["_law_words", "_law_at_so", "_law_low", "_law_high"] []) (T : Txt mg) : C8.Cal P w K mg base 1 "_law_is_number" spIn [] := by
  refine C8.cal0 F b .nil scIn (fun vs H Q E h => ?_) (fun cdv A outer st H vs Q E hr h => ?_)
  · obtain ⟨l, ws, n, lo, hi, rfl, _⟩ := h
    rfl
  · obtain ⟨l, ws, n, lo, hi, rfl, hl, lw, b1, b2, k⟩ := h
    refine ⟨_, (pss_cons (ps_if (pt_cmpR op_ge (pv 1) (pe_callB call_len_seq (by rfl) T.n_len (by decide +kernel) (pa_cons (pv 0) pa_nil)) (nomark _)) (pss_one (ps_ret pe_bl)) pss_nil)
  (pss_cons (ps_set (i := 4) scIn.nd rfl (Or.inl rfl) (pe_ifExp (pt_cmpR op_eq (pe_slice C8.sl_txt (pe_ix ix_list (pv 0) (pv 1) (fun _ _ => rfl)) po_none (po_some pe_int)) pe_str (nomark _)) (pe_slice C8.sl_txt (pe_ix ix_list (pv 0) (pv 1) (fun _ _ => rfl)) (po_some pe_int) po_none) (pe_ix ix_list (pv 0) (pv 1) (fun _ _ => rfl))))
  (pss_cons (ps_if (PW.pt (pw_or (pt_cmpR op_eq (pv 4) pe_str (nomark _)) (pw_or (pt_cmpR op_gt (pe_callB call_len_str (by rfl) T.n_len (by decide +kernel) (pa_cons (pv 4) pa_nil)) pe_int (nomark _)) (pw_or1 (pt_cmpR (op_neD hr.units) (pe_lc (own := [("_law_sign", 5)]) (g := gName 5) rfl scIn.nd (pi_str (pv 4)) (blkOk_by (own := [("_law_sign", 5)]) (N := ["_law_words", "_law_at_so", "_law_low", "_law_high", "_law_plain_here", "_law_sign"]) (sc := (C8.fnScope sIn)) (by decide +kernel)) (fun _ _ _ _ _ => pg_name (i := 5) scIn.nd rfl (Or.inl rfl)) (fun _ _ _ _ _ => pts_one (pt_cmpR op_notIn_sign (pv 5) pe_str (by rfl))) (fun _ _ _ _ _ => (pv 5))) (pe_lst pa_nil) (nomark _)))))) (pss_one (ps_ret pe_bl)) pss_nil)
  (pss_one (ps_ret (pe_and (pe_cmpR op_eq (pe_callTy call_str_int (by rfl) T.n_str (by decide +kernel) (pa_cons (pe_callTy call_int_str (by rfl) T.n_int (by decide +kernel) (pa_cons (pe_ix ix_list (pv 0) (pv 1) (fun _ _ => rfl)) pa_nil)) pa_nil)) (pe_ix ix_list (pv 0) (pv 1) (fun _ _ => rfl)) (nomark _)) (pe_one (pe_chain op_le op_le (pv 2) (pe_callTy call_int_str (by rfl) T.n_int (by decide +kernel) (pa_cons (pe_ix ix_list (pv 0) (pv 1) (fun _ _ => rfl)) pa_nil)) (pv 3))))))))), ?_⟩
    dsimp only [tSeq]
    refine ⟨_, rfl, _, rfl, l, _, rfl, .inl (SqL.of hl), _, _, rfl, rfl, _, rfl, ite2 (fun c => ?_) (fun c => ?_)⟩
    · have hn : ws[n]? = none := List.getElem?_eq_none (by have := of_decide_eq_true c; rw [wV_length] at this; omega)
      have := k H (Same.refl _)
      rw [numAt_none hn] at this
      exact this
    dsimp only [tNext, tSeq]
    have hn : n < ws.length := by have := of_decide_eq_false (Bool.eq_false_iff.mpr c); rw [wV_length] at this; omega
    obtain ⟨cs, hcs⟩ : ∃ cs, ws[n]? = some cs := ⟨_, List.getElem?_eq_getElem hn⟩
    obtain ⟨h128, hlen⟩ := lw.at hcs
    have hix : atI (wV ws) ((n : Nat) : Int) = some (.str (S cs)) := atI_nat (wV_at hcs)
    have kk : ∀ (x : Bool) (H2 : Hp), Same H H2 → x = (match intOf cs with | some i => decide (lo ≤ i ∧ i ≤ hi) | none => false) → Q (.bl x) H2 := fun x H2 s e => by
      have := k H2 s
      rw [numAt_some hcs] at this
      rw [e]
      cases h : intOf cs with
      | none => rw [h] at this; exact this
      | some i =>
        rw [h] at this
        by_cases z : lo ≤ i ∧ i ≤ hi
        · dsimp only at this ⊢
          rw [if_pos z] at this
          rw [decide_eq_true z]
          exact this
        · dsimp only at this ⊢
          rw [if_neg z] at this
          rw [decide_eq_false z]
          exact this
    clear k c
    have hl2 : (S cs).length ≤ sizeLine := by rw [S_len]; exact Nat.le_trans hlen (by decide)
    refine join_any (fun σ' H' => σ' = [some (.ref l), some (.int n), some (.int lo), some (.int hi), some (V.str (S (figs cs))), none] ∧ H' = H) ?rest (fun go => ?_)
    case rest =>
      rintro σ' H' ⟨rfl, rfl⟩
      have flen : (figs cs).length ≤ 200 := Nat.le_trans (figs_len cs) hlen
      have f128 : ∀ c ∈ figs cs, c < 128 := fun c hc => h128 c (figs_sub hc)
      dsimp only [tSeq]
      refine join_any (fun σ2 H2 => σ2 = [some (.ref l), some (.int n), some (.int lo), some (.int hi), some (V.str (S (figs cs))), none] ∧ Same H' H2 ∧ digB (figs cs) = true ∧ (figs cs).length ≤ 40) ?rest2 (fun go2 => ?_)
      case rest2 =>
        rintro σ2 H2 ⟨rfl, s2, hd, h40⟩
        obtain ⟨m, h1, h2, h3⟩ := wri_math hd (Nat.le_trans hlen (by decide))
        have hl2' := s2 _ _ hl
        have c40 : cs.length ≤ 41 := by
          cases hx : cs with
          | nil => decide
          | cons c r =>
            by_cases z : c = 45
            · rw [hx, z, figs_minus] at h40
              rw [List.length_cons]; omega
            · rw [hx, figs_other r z] at h40
              omega
        have mb : m.natAbs < 10 ^ 41 := int_abs hd c40 h1
        have ml : m.natAbs.log2 < 1920 := by
          by_cases z : m.natAbs = 0
          · rw [z]; decide +kernel
          · exact (Nat.log2_lt z).mpr (Nat.lt_trans mb (by decide +kernel))
        refine ⟨_, rfl, _, rfl, l, _, _, _, rfl, rfl, SqL.of hl2', hix, _, m, rfl, h1, by rw [S_len]; omega, m, rfl, ml, ?_⟩
        refine ⟨_, rfl, _, rfl, l, _, _, _, rfl, rfl, SqL.of hl2', hix, rfl, ?_⟩
        rcases h3 with ⟨e1, e2⟩ | ⟨e1, e2⟩
        · refine ⟨_, rfl, iteT' (decide_eq_true (by rw [← e1])) ?_⟩
          refine ⟨_, rfl, _, rfl, _, rfl, l, _, _, _, rfl, rfl, SqL.of hl2', hix, _, m, rfl, h1, by rw [S_len]; omega, _, _, rfl, rfl, _, rfl, ?_⟩
          by_cases z1 : lo ≤ m
          · refine iteT' (decide_eq_true z1) ⟨_, rfl, _, _, rfl, rfl, ?_⟩
            exact kk _ _ s2 (by rw [e2]; exact decide_eq_decide.mpr ⟨fun h => ⟨z1, h⟩, fun h => h.2⟩)
          · exact iteF' (decide_eq_false z1) (kk _ _ s2 (by rw [e2]; exact (decide_eq_false fun h => z1 h.1).symm))
        · refine ⟨_, rfl, iteF' (decide_eq_false fun z => e1 (V.str.inj z)) ?_⟩
          exact kk _ _ s2 (by rw [e2])
      have bad : ∀ (H2 : Hp), Same H' H2 → (digB (figs cs) = false ∨ 40 < (figs cs).length) → Q (.bl false) H2 := fun H2 s h => kk false H2 s (by
        cases hi2 : intOf cs with
        | none => rfl
        | some i =>
          rcases h with h | h
          · unfold intOf at hi2
            rw [h] at hi2
            cases hi2
          · have := intOf_long hi2 h hlen
            exact (decide_eq_false fun z => by
              have : (10 : Nat) ^ 33 ≤ 10 ^ 30 := by omega
              exact absurd this (by decide)).symm)
      refine ⟨_, rfl, rfl, _, rfl, ite2 (fun c0 => ?_) (fun c0 => ?_)⟩
      · refine iteT (bad _ (Same.refl _) (.inl ?_))
        have e : V.str (S (figs cs)) = V.str (S []) := of_decide_eq_true c0
        rw [S_inj (V.str.inj e)]; rfl
      have hne : figs cs ≠ [] := fun e => c0 (by rw [e]; rfl)
      refine ⟨_, rfl, S (figs cs), rfl, by rw [S_len]; exact Nat.le_trans flen (by decide), _, _, rfl, rfl, _, rfl, ite2 (fun c1 => ?_) (fun c1 => ?_)⟩
      · refine iteT (bad _ (Same.refl _) (.inr ?_))
        have := of_decide_eq_true c1
        rw [S_len] at this
        omega
      have h40 : (figs cs).length ≤ 40 := by
        have := of_decide_eq_false (Bool.eq_false_iff.mpr c1)
        rw [S_len] at this
        omega
      refine ⟨_, rfl, S (figs cs), rfl, fun D hD => lc_text (fun c => [some (.ref l), some (.int n), some (.int lo), some (.int hi), some (.str (S (figs cs))), some (.str ⟨#[c]⟩)]) (fun c => !decide (c ∈ figures)) (fun c => .str ⟨#[c]⟩) (fun _ _ _ h => h) (fun _ => rfl)
        (fun c _ _ h => ⟨_, rfl, c, _, rfl, rfl, _, rfl, h⟩) (fun c _ _ _ h => ⟨_, rfl, h⟩) (by show (figs cs).toArray.size ≤ _; simp; omega) ?_⟩
      refine ⟨(by show 0 ≤ sizeLine; decide), fun q hq => ?_⟩
      have sD := same_new (o := HO.lst (((figs cs).filter fun c => !decide (c ∈ figures)).map fun c => V.str ⟨#[c]⟩)) hD
      have nq : D ≠ q := fun e => by rw [← e, upd_same] at hq; cases hq
      have okc : ∀ c ∈ ((figs cs).filter fun c => !decide (c ∈ figures)), c < 1114112 := fun c hc => Nat.lt_trans (f128 c (List.mem_filter.mp hc).1) (by decide)
      refine ⟨_, _, .lst (SqL.of ?_) (dp_signs _), .lst (SqL.of upd_same) .nil, shaped_signs _ okc, rfl, _, rfl, ?_⟩
      · rw [upd_ne nq, upd_same]
      · rw [eqv_signs, filt_nil]
        have ed : digB (figs cs) = (figs cs).all fun c => decide (c ∈ figures) := by
          unfold digB
          have e1 : (!(figs cs).isEmpty) = true := by cases h : figs cs with | nil => exact absurd h hne | cons _ _ => rfl
          rw [e1, Bool.true_and]
          refine List.all_congr rfl fun c => ?_
          exact (fig_iff c).symm
        rw [← ed]
        have s3 := sD.trans (same_new (o := HO.lst []) hq)
        cases hd : digB (figs cs) with
        | true => exact iteF (go2 _ _ ⟨rfl, s3, hd, h40⟩)
        | false => exact iteT (bad _ s3 (.inl hd))
    refine ⟨_, rfl, _, rfl, l, _, _, _, rfl, rfl, SqL.of hl, hix, _, rfl, S cs, rfl, hl2, ?_⟩
    rw [slice_to (by decide)]
    refine ⟨rfl, _, rfl, ?_⟩
    rw [show (Str.ofString "-") = S [45] from rfl]
    refine ite2 (fun c0 => ?_) (fun c0 => ?_)
    · have e : V.str (S (cs.take (1 : Int).toNat)) = V.str (S [45]) := of_decide_eq_true c0
      have e2 : cs.take 1 = [45] := S_inj (V.str.inj e)
      obtain ⟨r, hr⟩ : ∃ r, cs = 45 :: r := by
        cases h : cs with
        | nil => rw [h] at e2; cases e2
        | cons c r =>
          rw [h] at e2
          have e3 : c = 45 := (List.cons.inj e2).1
          exact ⟨r, by rw [e3]⟩
      refine ⟨_, rfl, _, rfl, l, _, _, _, rfl, rfl, SqL.of hl, hix, _, rfl, S cs, rfl, hl2, ?_⟩
      rw [slice_from (by decide)]
      refine go _ _ ⟨?_, rfl⟩
      rw [hr]; rfl
    · have e2 : ¬ cs.take 1 = [45] := fun e => c0 (decide_eq_true (by rw [show (1 : Int).toNat = 1 from rfl, e]))
      have e3 : figs cs = cs := by
        cases h : cs with
        | nil => rfl
        | cons c r =>
          refine figs_other r fun e => e2 ?_
          rw [h, e]; rfl
      refine ⟨_, rfl, _, rfl, l, _, _, _, rfl, rfl, SqL.of hl, hix, ?_⟩
      refine go _ _ ⟨?_, rfl⟩
      rw [e3]; rfl
end
end Lw
namespace Lw
open PySem PySem.Spec PyProof.Rows L2
open SX PySem.NumText TL LamX ClX StX
set_option pp.maxSteps 900
abbrev sEn : Stmt := top 52
/-! ### x not in a tuple of data -/
section
variable {X : Cx}
theorem un65 {k : Nat} {A : Around} (r : Room k A) : A.units + 65 < cLine := by have := r.un; omega
def rNotInT (K : PySem.W.Frag) : R2 := fun x y H Q => ∃ d ds, Dp K H x d ∧ Dp K H y (.tuple ds) ∧ SeqAt.shaped d = true ∧ SeqAt.shaped (.tuple ds) = true ∧ Q (.bl (!ds.any fun z => PyData.eqv z d)) H
theorem op_notInT (hu : X.A.units + 65 < cLine) : OpR X (compareOp .NotIn) (rNotInT X.K) := by
  intro pins s σ H x y v u Q I rx ry h
  obtain ⟨d, ds, hd, he, sd, se, q⟩ := h
  obtain ⟨as, r1⟩ := Dp.reads I d x v hd rx
  obtain ⟨bs, r2⟩ := Dp.reads I (.tuple ds) y u he ry
  exact SeqAt.notIn_tuple_reads r2 r1 (SeqAt.canLay_of_shaped se) (SeqAt.canLay_of_shaped sd) (PyProof.Rows.room_in_shaped sd hu) ⟨.bl _, H, I, rfl, q⟩
end
/-! ### one word, cut out -/
theorem cut_one (ws : List (List Nat)) (n : Nat) : cutV (wV ws) (some (n : Int)) (some ((n : Int) + 1)) = wV (ws[n]?).toList := by
  unfold cutV
  rw [HT.sIx_nat, show ((n : Int) + 1) = ((n + 1 : Nat) : Int) from rfl, HT.sIx_nat]
  by_cases h : n < ws.length
  · have e : ws[n]? = some ws[n] := List.getElem?_eq_getElem h
    rw [e, Nat.min_eq_left (by rw [wV_length]; omega), Nat.min_eq_left (by rw [wV_length]; omega), show n + 1 - n = 1 by omega]
    have h2 : n < (wV ws).length := by rw [wV_length]; exact h
    rw [List.drop_eq_getElem_cons h2]
    show [(wV ws)[n]] = [V.str (S ws[n])]
    have := wV_at e
    rw [List.getElem?_eq_getElem h2] at this
    rw [Option.some.inj this]
  · rw [List.getElem?_eq_none (by omega), Nat.min_eq_right (by rw [wV_length]; omega), Nat.min_eq_right (by rw [wV_length]; omega), Nat.sub_self, List.take_zero]
    rfl
def wA (ws : List (List Nat)) : List PyData := ws.map fun w => PyData.str (S w)
theorem dp_wA {K : PySem.W.Frag} {H : Hp} : ∀ ws : List (List Nat), DpAll K H (wV ws) (wA ws)
  | [] => .nil
  | _ :: r => .cons (.str _) (dp_wA r)
theorem lay_w {w : List Nat} (h : ∀ c ∈ w, c < 128) : PyData.canLay0 (.str (S w)) = true := by
  show w.toArray.all (· < 1114112) = true
  rw [List.all_toArray]
  exact List.all_eq_true.mpr fun c hc => decide_eq_true (Nat.lt_trans (h c hc) (by decide))
theorem shp_one {o : Option (List Nat)} (h : ∀ w, o = some w → ∀ c ∈ w, c < 128) : SeqAt.shaped (.list (wA o.toList)) = true := by
  cases o with
  | none => decide +kernel
  | some w =>
    show ((PyData.canLay0 (.str (S w)) && true) && decide ((PyData.list [.str (S w)]).depth ≤ 64)) = true
    rw [lay_w (h w rfl)]
    rfl
theorem eqv_one (a : List Nat) (o : Option (List Nat)) : PyData.eqv (.list [.str (S a)]) (.list (wA o.toList)) = decide (o = some a) := by
  cases o with
  | none => rw [decide_eq_false (fun h => by cases h)]; show PyData.eqvAll [PyData.str (S a)] [] = false; rfl
  | some w =>
    show ((S a == S w) && true) = _
    rw [Bool.and_true]
    by_cases h : w = a
    · subst h; simp
    · rw [decide_eq_false (fun e => h (Option.some.inj e))]
      exact beq_eq_false_iff_ne.mpr fun e => h (S_inj e).symm
theorem eqv_onr (a : List Nat) (o : Option (List Nat)) : PyData.eqv (.list (wA o.toList)) (.list [.str (S a)]) = decide (o = some a) := by
  cases o with
  | none => rw [decide_eq_false (fun h => by cases h)]; show PyData.eqvAll [] [PyData.str (S a)] = false; rfl
  | some w =>
    show ((S w == S a) && true) = _
    rw [Bool.and_true]
    by_cases h : w = a
    · subst h; simp
    · rw [decide_eq_false (fun e => h (Option.some.inj e))]
      exact beq_eq_false_iff_ne.mpr fun e => h (S_inj e)
theorem sgn_none {o : Option (List Nat)} : (decide (o = some [38]) || (decide (o = some [124]) || false)) = (sgn o).isSome := by
  unfold sgn
  by_cases h1 : o = some [38]
  · rw [decide_eq_true h1, if_pos h1]; rfl
  · rw [decide_eq_false h1, if_neg h1]
    by_cases h2 : o = some [124]
    · rw [decide_eq_true h2, if_pos h2]; rfl
    · rw [decide_eq_false h2, if_neg h2]; rfl
theorem isl_l {K : PySem.W.Frag} {H : Hp} {a : Addr} {xs : List V} {Q : VK} (h : H a = some (.lst xs)) (q : Q (.bl true) H) : rIsz K [.ref a, .ty "list"] H Q :=
  ⟨_, _, .type "list", .type "list", true, rfl, .ty "list", .x (.base (.lst h)), kit_ty (r := true) (by decide +kernel), q⟩
theorem isl_t {K : PySem.W.Frag} {H : Hp} {a : Addr} {xs : List V} {Q : VK} (h : H a = some (.tup xs)) (q : Q (.bl false) H) : rIsz K [.ref a, .ty "list"] H Q :=
  ⟨_, _, .type "tuple", .type "list", false, rfl, .ty "list", .x (.base (.tup h)), kit_ty (r := false) (by decide +kernel), q⟩
/-- what comes behind the first rule in brackets -/
def sgR (ws : List (List Nat)) (g : Nat) (n m1 : Nat) (a : Rl) : Rs := match sgn ws[n]? with
  | none => .er n
  | some c => bnd (pR ws g (n + 1) m1) fun n2 m2 b => closeR ws c a n2 m2 b
theorem pR_open {ws : List (List Nat)} {g n m : Nat} (h : ws[n]? = some [40]) : pR ws (g + 1) n m = bnd (pR ws g (n + 1) m) (sgR ws g) := by
  conv => lhs; unfold pR
  rw [if_pos h]; rfl
theorem sgR_no {ws : List (List Nat)} {g n m1 : Nat} {a : Rl} (h : sgn ws[n]? = none) : sgR ws g n m1 a = .er n := by unfold sgR; rw [h]
theorem sgR_on {ws : List (List Nat)} {g n m1 c : Nat} {a : Rl} (h : sgn ws[n]? = some c) : sgR ws g n m1 a = bnd (pR ws g (n + 1) m1) fun n2 m2 b => closeR ws c a n2 m2 b := by unfold sgR; rw [h]
/-! ### bounds -/
def bsF : List (Int × Int) := [(1, 10 ^ 30)]
def bsD : List (Int × Int) := [(0, 24), (-1000, 1000), (1, 24)]
def bsR (ws : List (List Nat)) : Nat → List (Int × Int) → Option Nat
  | _, [] => none
  | n, b :: r => if (numAt ws n b.1 b.2).isSome then bsR ws (n + 1) r else some n
def outR (ws : List (List Nat)) (n m : Nat) (bs : List (Int × Int)) (r : Rs) : Prop := match bsR ws (n + 1) bs with
  | some e => r = .er e
  | none => ∃ t, r = .ok (n + 1 + bs.length) (m + 1) t
theorem out_fix {ws : List (List Nat)} {n m : Nat} (h : ws[n]? = some fixW) : outR ws n m bsF (leafR ws n m) := by
  unfold outR leafR
  rw [if_pos h]
  show match (if (numAt ws (n + 1) 1 (10 ^ 30)).isSome then none else some (n + 1)) with
    | some e => _
    | none => _
  cases numAt ws (n + 1) 1 (10 ^ 30) with
  | none => rfl
  | some k => exact ⟨_, rfl⟩
theorem out_div {ws : List (List Nat)} {n m : Nat} (h : ws[n]? = some divW) : outR ws n m bsD (leafR ws n m) := by
  unfold outR leafR
  rw [if_neg (by rw [h]; decide), if_pos h]
  show match (if (numAt ws (n + 1) 0 24).isSome then (if (numAt ws (n + 2) (-1000) 1000).isSome then (if (numAt ws (n + 3) 1 24).isSome then none else some (n + 3)) else some (n + 2)) else some (n + 1)) with
    | some e => _
    | none => _
  cases numAt ws (n + 1) 0 24 with
  | none => rfl
  | some x =>
    cases numAt ws (n + 2) (-1000) 1000 with
    | none => rfl
    | some y =>
      cases numAt ws (n + 3) 1 24 with
      | none => rfl
      | some z => exact ⟨_, rfl⟩
/-- a list of pairs in the heap -/
def LB (H : Hp) (l : Addr) (bs : List (Int × Int)) : Prop := ∃ as : List Addr, H l = some (.lst (as.map V.ref)) ∧ as.length = bs.length ∧ ∀ (k : Nat) (a : Addr) (p : Int × Int), as[k]? = some a → bs[k]? = some p → H a = some (.tup [.int p.1, .int p.2])
def spEn (f : Nat) : Sp := fun vs H Q _ => ∃ (l : Addr) (ws : List (List Nat)) (n m : Nat), vs = [.ref l, .int n, .int m] ∧ H l = some (.lst (wV ws)) ∧ LW ws ∧ n ≤ ws.length ∧ m ≤ 6 ∧ ws.length + 1 ≤ f + n ∧
  (∀ (e : Nat) (a : Addr) H', pR ws f n m = .er e → Same H H' → H' a = some (.lst [.int e]) → Q (.ref a) H') ∧
  (∀ (n1 m1 : Nat) t (a : Addr) H', pR ws f n m = .ok n1 m1 t → Same H H' → H' a = some (.tup [.int n1, .int m1]) → Q (.ref a) H')
section
variable {P : Program} {w : World} {K : PySem.W.Frag} {mg : Str → Option Value} {base : Heap}
theorem scEn : FnScope ["_law_words", "_law_at_so", "_law_many", "_law_wordy", "_law_bounds", "_law_k", "_law_first_so", "_law_second_so"] ["_law_words", "_law_at_so", "_law_many"] (C8.fnScope sEn) := C8.fnScope_by (by decide +kernel)
theorem cal_en1 {g : Nat} {f : Addr} {fd : FuncData} (F : C8.Def K mg "_law_rule_end" sEn f fd) (b : Binds K fd ["_law_words", "_law_at_so", "_law_many"] []) (T : Txt mg) (DIn : C8.Cal P w K mg base 1 "_law_is_number" spIn []) (W : C8.Cal P w K mg base (2 + g) "_law_rule_end" (spEn g) []) : C8.Cal P w K mg base (3 + g) "_law_rule_end" (spEn (g + 1)) [] := by
  rw [show 3 + g = (2 + g) + 1 by omega]
  refine C8.cal0 F b .nil scEn (fun vs H Q E h => ?_) (fun cdv A outer st H vs Q E hr h => ?_)
  · obtain ⟨l, ws, n, m, rfl, _⟩ := h
    rfl
  · obtain ⟨l, ws, n, m, rfl, hl, lw, n1, m6, fu, kE, kO⟩ := h
    refine ⟨_, (pss_cons (ps_set (i := 3) scEn.nd rfl (Or.inl rfl) (pe_ifExp (pt_cmpR op_lt (pv 1) (pe_callB call_len_seq (by rfl) T.n_len (by decide +kernel) (pa_cons (pv 0) pa_nil)) (nomark _)) (pe_ix ix_list (pv 0) (pv 1) (fun _ _ => rfl)) pe_str))
  (pss_cons (ps_if (pt_cmpR op_eq (pv 3) pe_str (nomark _)) (pss_cons (ps_set (i := 6) scEn.nd rfl (Or.inl rfl) (C8.pe_c W hr (Nat.le_refl _) (by rfl) (pa_cons (pv 0) (pa_cons (pe_op op_add (pv 1) pe_int) (pa_cons (pv 2) pa_nil)))))
  (pss_cons (ps_if (pt_val (pe_callB call_isz (by rfl) T.n_isinstance (by decide +kernel) (pa_cons (pv 6) (pa_cons (pe_bltn (v := .ty "list") (by rfl) T.n_list (by decide +kernel) rfl) pa_nil)))) (pss_one (ps_ret (pv 6))) pss_nil)
  (pss_cons (ps_if (pt_cmpR (op_notInT (un65 hr)) (pe_slice sl_list (pv 0) (po_some (pe_ix ix_tup (pv 6) pe_int (fun _ _ => rfl))) (po_some (pe_op op_add (pe_ix ix_tup (pv 6) pe_int (fun _ _ => rfl)) pe_int))) (pe_tup (pa_cons (pe_lst (pa_cons pe_str pa_nil)) (pa_cons (pe_lst (pa_cons pe_str pa_nil)) pa_nil))) (by rfl)) (pss_one (ps_ret (pe_lst (pa_cons (pe_ix ix_tup (pv 6) pe_int (fun _ _ => rfl)) pa_nil)))) pss_nil)
  (pss_cons (ps_set (i := 7) scEn.nd rfl (Or.inl rfl) (C8.pe_c W hr (Nat.le_refl _) (by rfl) (pa_cons (pv 0) (pa_cons (pe_op op_add (pe_ix ix_tup (pv 6) pe_int (fun _ _ => rfl)) pe_int) (pa_cons (pe_ix ix_tup (pv 6) pe_int (fun _ _ => rfl)) pa_nil)))))
  (pss_cons (ps_if (pt_val (pe_callB call_isz (by rfl) T.n_isinstance (by decide +kernel) (pa_cons (pv 7) (pa_cons (pe_bltn (v := .ty "list") (by rfl) T.n_list (by decide +kernel) rfl) pa_nil)))) (pss_one (ps_ret (pv 7))) pss_nil)
  (pss_one (ps_ret (pe_ifExp (pt_cmpR (op_eqD hr.units) (pe_slice sl_list (pv 0) (po_some (pe_ix ix_tup (pv 7) pe_int (fun _ _ => rfl))) (po_some (pe_op op_add (pe_ix ix_tup (pv 7) pe_int (fun _ _ => rfl)) pe_int))) (pe_lst (pa_cons pe_str pa_nil)) (nomark _)) (pe_tup (pa_cons (pe_op op_add (pe_ix ix_tup (pv 7) pe_int (fun _ _ => rfl)) pe_int) (pa_cons (pe_ix ix_tup (pv 7) pe_int (fun _ _ => rfl)) pa_nil))) (pe_lst (pa_cons (pe_ix ix_tup (pv 7) pe_int (fun _ _ => rfl)) pa_nil)))))))))) pss_nil)
  (pss_cons (ps_if (PW.pt (pw_or (pt_cmpR op_notIn_seq (pv 3) (pe_tup (pa_cons pe_str (pa_cons pe_str pa_nil))) (by rfl)) (pw_or1 (pt_cmpR op_eq (pv 2) pe_int (nomark _))))) (pss_one (ps_ret (pe_lst (pa_cons (pv 1) pa_nil)))) pss_nil)
  (pss_cons (ps_set (i := 4) scEn.nd rfl (Or.inl rfl) (pe_ifExp (pt_cmpR op_eq (pv 3) pe_str (nomark _)) (pe_lst (pa_cons (pe_tup (pa_cons pe_int (pa_cons (pe_op op_pow pe_int pe_int) pa_nil))) pa_nil)) (pe_lst (pa_cons (pe_tup (pa_cons pe_int (pa_cons pe_int pa_nil))) (pa_cons (pe_tup (pa_cons (pe_un un_neg pe_int) (pa_cons pe_int pa_nil))) (pa_cons (pe_tup (pa_cons pe_int (pa_cons pe_int pa_nil))) pa_nil))))))
  (pss_cons (ps_for PassesOwn.never rfl (pi_range1 (by rfl) T.n_range (pa_cons (pe_callB call_len_seq (by rfl) T.n_len (by decide +kernel) (pa_cons (pv 4) pa_nil)) pa_nil)) (pg_name (i := 5) scEn.nd rfl (Or.inl rfl)) (pss_one (ps_if (pt_not (pt_val (C8.pe_c DIn hr (by omega) (by rfl) (pa_cons (pv 0) (pa_cons (pe_op op_add (pe_op op_add (pv 1) pe_int) (pv 5)) (pa_cons (pe_ix ix_tup (pe_ix ix_list (pv 4) (pv 5) (fun _ _ => rfl)) pe_int (fun _ _ => rfl)) (pa_cons (pe_ix ix_tup (pe_ix ix_list (pv 4) (pv 5) (fun _ _ => rfl)) pe_int (fun _ _ => rfl)) pa_nil))))))) (pss_one (ps_ret (pe_lst (pa_cons (pe_op op_add (pe_op op_add (pv 1) pe_int) (pv 5)) pa_nil)))) pss_nil)))
  (pss_one (ps_ret (pe_tup (pa_cons (pe_op op_add (pe_op op_add (pv 1) pe_int) (pe_callB call_len_seq (by rfl) T.n_len (by decide +kernel) (pa_cons (pv 4) pa_nil))) (pa_cons (pe_op op_add (pv 2) pe_int) pa_nil)))))))))), ?_⟩
    dsimp only [tSeq]
    refine join_any (fun σ' H' => σ' = [some (.ref l), some (.int n), some (.int m), some (V.str (S (ws[n]?.getD []))), none, none, none, none] ∧ H' = H) ?rest (fun go => ?_)
    rotate_left
    · refine ⟨_, rfl, _, rfl, l, _, rfl, .inl (SqL.of hl), _, _, rfl, rfl, _, rfl, ite2 (fun c => ?_) (fun c => ?_)⟩
      · have hn : n < ws.length := by have := of_decide_eq_true c; rw [wV_length] at this; omega
        have e : ws[n]? = some ws[n] := List.getElem?_eq_getElem hn
        refine ⟨_, rfl, _, rfl, l, _, _, _, rfl, rfl, SqL.of hl, atI_nat (wV_at e), go _ _ ⟨?_, rfl⟩⟩
        rw [e]; rfl
      · have hn : ws.length ≤ n := by have := of_decide_eq_false (Bool.eq_false_iff.mpr c); rw [wV_length] at this; omega
        refine go _ _ ⟨?_, rfl⟩
        rw [List.getElem?_eq_none hn]; rfl
    case rest =>
      rintro σ' H' ⟨rfl, rfl⟩
      dsimp only [tSeq]
      refine ⟨_, rfl, rfl, _, rfl, ?_⟩
      rw [show (Str.ofString "(") = S [40] from rfl]
      have lt1 : ∀ {x : List Nat}, x ≠ [] → ws[n]?.getD [] = x → ws[n]? = some x := fun {x} nx h => by
        cases e : ws[n]? with
        | none => rw [e] at h; exact absurd h.symm nx
        | some y => rw [e] at h; rw [← h]; rfl
      refine ite2 (fun c0 => ?_) (fun c0 => ?_)
      · have e0 : ws[n]? = some [40] := lt1 (by decide) (S_inj (V.str.inj (of_decide_eq_true c0)))
        have hn := some_lt e0
        rw [pR_open e0] at kE kO
        dsimp only [gName, tSeq]
        refine ⟨_, rfl, _, rfl, _, _, rfl, rfl, _, rfl, l, ws, n + 1, m, rfl, hl, lw, by omega, m6, by omega, fun e a H1 he s1 ha => ?_, fun n2 m2 t a H1 he s1 ha => ?_⟩
        · dsimp only [gName, tSeq]
          refine ⟨_, rfl, ?_⟩
          dsimp only [tCons, tC, tNil]
          refine isl_l ha ⟨_, rfl, iteT ⟨_, rfl, ?_⟩⟩
          exact kE e a H1 (by rw [he]; rfl) s1 ha
        rw [he] at kE kO
        obtain ⟨p1, p2, p3, p4, p5⟩ := pR_ok m6 he
        change ∀ (e : Nat) (a : Addr) (H3 : Hp), sgR ws g n2 m2 t = Rs.er e → Same H' H3 → H3 a = some (HO.lst [V.int ↑e]) → Q (V.ref a) H3 at kE
        change ∀ (n1 m1 : Nat) (t1 : Rl) (a : Addr) (H3 : Hp), sgR ws g n2 m2 t = Rs.ok n1 m1 t1 → Same H' H3 → H3 a = some (HO.tup [V.int ↑n1, V.int ↑m1]) → Q (V.ref a) H3 at kO
        have hl1 := s1 _ _ hl
        dsimp only [gName, tSeq]
        refine ⟨_, rfl, ?_⟩
        dsimp only [tCons, tC, tNil]
        refine isl_t ha ⟨_, rfl, iteF ?_⟩
        dsimp only [tNext, tSeq]
        refine ⟨_, rfl, _, rfl, a, _, 0, _, rfl, rfl, SqT.of ha, rfl, _, rfl, _, rfl, a, _, 0, _, rfl, rfl, SqT.of ha, rfl, _, _, rfl, rfl, _, rfl, l, _, rfl, SqL.of hl1, fun q fq => ?_⟩
        rw [cut_one]
        refine ⟨(by show 1 ≤ sizeLine; decide), fun q1 f1 => ⟨(by show 1 ≤ sizeLine; decide), fun q2 f2 => ⟨(by show 2 ≤ sizeLine; decide), fun q3 f3 => ?_⟩⟩⟩
        have s2 := (((same_new (o := HO.lst (wV ws[n2]?.toList)) fq).trans (same_new (o := HO.lst [V.str (Str.ofString "&")]) f1)).trans (same_new (o := HO.lst [V.str (Str.ofString "|")]) f2)).trans (same_new (o := HO.tup [V.ref q1, V.ref q2]) f3)
        have hq := (((same_new (o := HO.lst [V.str (Str.ofString "&")]) f1).trans (same_new (o := HO.lst [V.str (Str.ofString "|")]) f2)).trans (same_new (o := HO.tup [V.ref q1, V.ref q2]) f3)) _ _ (upd_same (H := H1) (a := q) (o := HO.lst (wV ws[n2]?.toList)))
        have hq1 := ((same_new (o := HO.lst [V.str (Str.ofString "|")]) f2).trans (same_new (o := HO.tup [V.ref q1, V.ref q2]) f3)) _ _ (upd_same (a := q1) (o := HO.lst [V.str (Str.ofString "&")]))
        have hq2 := (same_new (o := HO.tup [V.ref q1, V.ref q2]) f3) _ _ (upd_same (a := q2) (o := HO.lst [V.str (Str.ofString "|")]))
        have hq3 := upd_same (H := upd (upd (upd H1 q (HO.lst (wV ws[n2]?.toList))) q1 (HO.lst [V.str (Str.ofString "&")])) q2 (HO.lst [V.str (Str.ofString "|")])) (a := q3) (o := HO.tup [V.ref q1, V.ref q2])
        generalize upd (upd (upd (upd H1 q _) q1 _) q2 _) q3 _ = H2 at s2 hq hq1 hq2 hq3 ⊢
        have w7 : ∀ w, ws[n2]? = some w → ∀ c ∈ w, c < 128 := fun w h => (lw.at h).1
        refine ⟨.list (wA ws[n2]?.toList), [.list [.str (S [38])], .list [.str (S [124])]], .lst (SqL.of hq) (dp_wA _), .tup (SqT.of hq3) (.cons (.lst (SqL.of hq1) (.cons (.str _) .nil)) (.cons (.lst (SqL.of hq2) (.cons (.str _) .nil)) .nil)), shp_one w7, by decide +kernel, _, rfl, ?_⟩
        show if (!(PyData.eqv (.list [.str (S [38])]) (.list (wA ws[n2]?.toList)) || (PyData.eqv (.list [.str (S [124])]) (.list (wA ws[n2]?.toList)) || false))) = true then _ else _
        rw [eqv_one, eqv_one, sgn_none]
        have ha2 := s2 _ _ ha
        have s02 := s1.trans s2
        cases hc : sgn ws[n2]? with
        | none => exact iteT ⟨_, rfl, a, _, 0, _, rfl, rfl, SqT.of ha2, rfl, (by show 1 ≤ sizeLine; decide), fun z fz => kE n2 z _ (sgR_no hc) (s02.trans (same_new fz)) upd_same⟩
        | some c =>
          refine iteF ?_
          rw [sgR_on hc] at kE kO
          have ln2 := some_lt (sgn_some hc).2
          dsimp only [tNext, tSeq]
          refine ⟨_, rfl, _, rfl, a, _, 0, _, rfl, rfl, SqT.of ha2, rfl, _, _, rfl, rfl, _, rfl, a, _, 1, _, rfl, rfl, SqT.of ha2, rfl, l, ws, n2 + 1, m2, rfl, s02 _ _ hl, lw, by omega, p4, by omega, fun e b H3 he3 s3 hb => ?_, fun n3 m3 t3 b H3 he3 s3 hb => ?_⟩
          · dsimp only [gName, tSeq]
            refine ⟨_, rfl, ?_⟩
            dsimp only [tCons, tC, tNil]
            refine isl_l hb ⟨_, rfl, iteT ⟨_, rfl, ?_⟩⟩
            exact kE e b H3 (by rw [he3]; rfl) (s02.trans s3) hb
          rw [he3] at kE kO
          change ∀ (e : Nat) (a : Addr) (H4 : Hp), closeR ws c t n3 m3 t3 = Rs.er e → Same H' H4 → H4 a = some (HO.lst [V.int ↑e]) → Q (V.ref a) H4 at kE
          change ∀ (n1 m1 : Nat) (t1 : Rl) (a : Addr) (H4 : Hp), closeR ws c t n3 m3 t3 = Rs.ok n1 m1 t1 → Same H' H4 → H4 a = some (HO.tup [V.int ↑n1, V.int ↑m1]) → Q (V.ref a) H4 at kO
          have s03 := s02.trans s3
          have hl3 := s03 _ _ hl
          dsimp only [gName, tSeq]
          refine ⟨_, rfl, ?_⟩
          dsimp only [tCons, tC, tNil]
          refine isl_t hb ⟨_, rfl, iteF ?_⟩
          dsimp only [tNext]
          refine ⟨_, rfl, _, rfl, b, _, 0, _, rfl, rfl, SqT.of hb, rfl, _, rfl, _, rfl, b, _, 0, _, rfl, rfl, SqT.of hb, rfl, _, _, rfl, rfl, _, rfl, l, _, rfl, SqL.of hl3, fun q fq => ?_⟩
          rw [cut_one]
          refine ⟨(by show 1 ≤ sizeLine; decide), fun q1 f1 => ?_⟩
          have s4 := (same_new (o := HO.lst (wV ws[n3]?.toList)) fq).trans (same_new (o := HO.lst [V.str (Str.ofString ")")]) f1)
          have hq := same_new (o := HO.lst [V.str (Str.ofString ")")]) f1 _ _ (upd_same (H := H3) (a := q) (o := HO.lst (wV ws[n3]?.toList)))
          have hq1 := upd_same (H := upd H3 q (HO.lst (wV ws[n3]?.toList))) (a := q1) (o := HO.lst [V.str (Str.ofString ")")])
          generalize upd (upd H3 q _) q1 _ = H4 at s4 hq hq1 ⊢
          have hb4 := s4 _ _ hb
          have s04 := s03.trans s4
          refine ⟨.list (wA ws[n3]?.toList), .list [.str (S [41])], .lst (SqL.of hq) (dp_wA _), .lst (SqL.of hq1) (.cons (.str _) .nil), shp_one fun w h => (lw.at h).1, by decide +kernel, _, rfl, ?_⟩
          rw [eqv_onr]
          by_cases hd : ws[n3]? = some [41]
          · rw [decide_eq_true hd]
            refine iteT ⟨_, rfl, b, _, 0, _, rfl, rfl, SqT.of hb4, rfl, _, _, rfl, rfl, _, rfl, b, _, 1, _, rfl, rfl, SqT.of hb4, rfl, (by show 2 ≤ sizeLine; decide), fun z fz => ?_⟩
            exact kO (n3 + 1) m3 (Rl.jn c t t3) z _ (by unfold closeR; rw [if_pos hd]) (s04.trans (same_new fz)) upd_same
          · rw [decide_eq_false hd]
            refine iteF ⟨_, rfl, b, _, 0, _, rfl, rfl, SqT.of hb4, rfl, (by show 1 ≤ sizeLine; decide), fun z fz => ?_⟩
            exact kE n3 z _ (by unfold closeR; rw [if_neg hd]) (s04.trans (same_new fz)) upd_same
      · have ne0 : ws[n]? ≠ some [40] := fun e => by
          rw [e] at c0
          exact absurd c0 (by decide +kernel)
        have pl : pR ws (g + 1) n m = if m = 6 then .er n else leafR ws n m := by
          conv => lhs; unfold pR
          rw [if_neg ne0]
        rw [pl] at kE kO
        clear pl c0
        dsimp only [tNext, tSeq]
        refine ⟨_, rfl, (by show 2 ≤ sizeLine; decide), fun q fq => ⟨q, _, rfl, .inr (SqT.of upd_same), rfl, rfl, _, rfl, ?_⟩⟩
        have e1 : eqV (.str (Str.ofString "fixed")) (.str (S (ws[n]?.getD []))) = decide (ws[n]?.getD [] = fixW) := eqV_S fixW _
        have e2 : eqV (.str (Str.ofString "divided")) (.str (S (ws[n]?.getD []))) = decide (ws[n]?.getD [] = divW) := eqV_S divW _
        have eb : (!inV (.str (S (ws[n]?.getD []))) [V.str (Str.ofString "fixed"), V.str (Str.ofString "divided")]) = !(decide (ws[n]?.getD [] = fixW) || decide (ws[n]?.getD [] = divW)) := by
          show (!(eqV (.str (Str.ofString "fixed")) (.str (S (ws[n]?.getD []))) || (eqV (.str (Str.ofString "divided")) (.str (S (ws[n]?.getD []))) || false))) = _
          rw [e1, e2, Bool.or_false]
        clear e1 e2
        have sq := same_new (o := HO.tup [V.str (Str.ofString "fixed"), .str (Str.ofString "divided")]) fq
        generalize upd H' q _ = H2 at sq ⊢
        have hl2 := sq _ _ hl
        have er : ∀ (H3 : Hp), Same H' H3 → (if m = 6 then Rs.er n else leafR ws n m) = .er n → ∀ z, H3 z = none → Q (.ref z) (upd H3 z (.lst [.int n])) := fun H3 s3 e z fz => kE n z _ e (s3.trans (same_new fz)) upd_same
        show if (!inV (.str (S (ws[n]?.getD []))) [V.str (Str.ofString "fixed"), V.str (Str.ofString "divided")]) = true then _ else _
        rw [eb]
        clear eb
        refine ite2 (fun cn => ?_) (fun cn => ?_)
        · show if true = true then _ else _
          rw [if_pos rfl]
          refine ⟨_, rfl, (by show 1 ≤ sizeLine; decide), er H2 sq ?_⟩
          have nF : ws[n]? ≠ some fixW := fun e => by rw [e] at cn; exact absurd cn (by decide +kernel)
          have nD : ws[n]? ≠ some divW := fun e => by rw [e] at cn; exact absurd cn (by decide +kernel)
          unfold leafR
          rw [if_neg nF, if_neg nD]
          split <;> rfl
        refine ⟨_, rfl, rfl, _, rfl, ite2 (fun c6 => ?_) (fun c6 => ?_)⟩
        · refine ⟨_, rfl, (by show 1 ≤ sizeLine; decide), er H2 sq ?_⟩
          have e : V.int (m : Int) = V.int 6 := of_decide_eq_true c6
          injection e with e
          rw [if_pos (by omega)]
        have n6 : m ≠ 6 := fun e => c6 (by rw [e]; rfl)
        rw [if_neg n6] at kE kO
        clear er
        dsimp only [tNext, tSeq]
        refine join_any (fun σ' H3 => ∃ (L : Addr) (bs : List (Int × Int)), σ' = [some (.ref l), some (.int n), some (.int m), some (V.str (S (ws[n]?.getD []))), some (.ref L), none, none, none] ∧ Same H' H3 ∧ LB H3 L bs ∧ bs.length ≤ 3 ∧ (∀ b ∈ bs, -(10 ^ 30) ≤ b.1 ∧ b.2 ≤ 10 ^ 30) ∧ outR ws n m bs (leafR ws n m)) ?rest (fun go => ?_)
        rotate_left
        · refine ⟨_, rfl, rfl, _, rfl, ite2 (fun cF => ?_) (fun cF => ?_)⟩
          · have e : ws[n]? = some fixW := lt1 (by decide) (S_inj (V.str.inj (of_decide_eq_true cF)))
            refine ⟨_, _, rfl, rfl, (by unfold CPow; decide), (by show 2 ≤ sizeLine; decide), fun t1 f1 => ⟨(by show 1 ≤ sizeLine; decide), fun L fL => go _ _ ⟨L, bsF, rfl, ?_, ?_, by decide, by decide, out_fix e⟩⟩⟩
            · exact (sq.trans (same_new f1)).trans (same_new fL)
            · refine ⟨[t1], upd_same, rfl, fun k a p h1 h2 => ?_⟩
              match k with
              | 0 => cases h1; cases h2; exact same_new fL _ _ upd_same
              | k + 1 => cases h1
          · have e : ws[n]? = some divW := lt1 (by decide) (by
              have c1 := of_decide_eq_false (Bool.eq_false_iff.mpr cF)
              refine Classical.byContradiction fun z => cn ?_
              rw [decide_eq_false z, decide_eq_false (fun h => c1 (by rw [h]; rfl))]; rfl)
            refine ⟨(by show 2 ≤ sizeLine; decide), fun t1 f1 => ⟨_, rfl, (by show 2 ≤ sizeLine; decide), fun t2 f2 => ⟨(by show 2 ≤ sizeLine; decide), fun t3 f3 => ⟨(by show 3 ≤ sizeLine; decide), fun L fL => go _ _ ⟨L, bsD, rfl, ?_, ?_, by decide, by decide, out_div e⟩⟩⟩⟩⟩
            · exact (((sq.trans (same_new f1)).trans (same_new f2)).trans (same_new f3)).trans (same_new fL)
            · refine ⟨[t1, t2, t3], upd_same, rfl, fun k a p h1 h2 => ?_⟩
              match k with
              | 0 => cases h1; cases h2; exact ((same_new f2).trans ((same_new f3).trans (same_new fL))) _ _ upd_same
              | 1 => cases h1; cases h2; exact ((same_new f3).trans (same_new fL)) _ _ upd_same
              | 2 => cases h1; cases h2; exact same_new fL _ _ upd_same
              | k + 3 => cases h1
        case rest =>
          rintro σ' H3 ⟨L, bs, rfl, s3, lb, b3, bb, out⟩
          dsimp only [tSeq]
          obtain ⟨as, hL, al, at_⟩ := lb
          have hl3 := s3 _ _ hl
          refine ⟨_, rfl, L, _, rfl, .inl (SqL.of hL), _, rfl, by rw [List.length_map]; omega, by rw [List.length_map]; omega, for_range (fun i σ' H4 => ∃ x5, σ' = [some (.ref l), some (.int n), some (.int m), some (V.str (S (ws[n]?.getD []))), some (.ref L), x5, none, none] ∧ Same H3 H4 ∧ bsR ws (n + 1) bs = bsR ws (n + 1 + i) (bs.drop i)) ⟨_, rfl, Same.refl _, rfl⟩ ?_ ?_⟩
          · rintro i σ' H4 hi ⟨x5, rfl, s4, eb⟩
            have hi : i < as.length := by
              have hi : i < (as.length : Int).toNat := by rw [List.length_map] at hi; exact hi
              omega
            dsimp only [gName]
            have hL4 := s4 _ _ hL
            have e1 : as[i]? = some as[i] := List.getElem?_eq_getElem hi
            have e2 : bs[i]? = some (bs[i]'(by omega)) := List.getElem?_eq_getElem (by omega)
            have ht := s4 _ _ (at_ i _ _ e1 e2)
            have hb := bb _ (List.mem_of_getElem? e2)
            have hat : atI (as.map V.ref) (0 + (i : Int)) = some (.ref as[i]) := by
              rw [Int.zero_add]
              exact atI_nat (by rw [List.getElem?_map, e1]; rfl)
            have ed : bs.drop i = bs[i]'(by omega) :: bs.drop (i + 1) := List.drop_eq_getElem_cons (by omega)
            generalize bs[i]'(by omega) = p0 at e2 ht hb ed
            have ez : n + 1 + (0 + i) = n + 1 + i := by omega
            have eq1 : bsR ws (n + 1) bs = if (numAt ws (n + 1 + i) p0.1 p0.2).isSome then bsR ws (n + 1 + i + 1) (bs.drop (i + 1)) else some (n + 1 + i) := by rw [eb, ed]; rfl
            refine ⟨_, rfl, _, rfl, _, _, rfl, rfl, _, rfl, _, _, rfl, rfl, _, rfl, _, rfl, L, _, _, _, rfl, rfl, SqL.of hL4, hat, _, _, 0, _, rfl, rfl, SqT.of ht, rfl, _, rfl, _, rfl, L, _, _, _, rfl, rfl, SqL.of hL4, hat, _, _, 1, _, rfl, rfl, SqT.of ht, rfl, l, ws, n + 1 + (0 + i), p0.1, p0.2, rfl, s4 _ _ hl3, lw, hb.1, hb.2, fun H5 s5 => ⟨_, rfl, ?_⟩⟩
            rw [ez]
            clear hat ed e1 e2
            cases hx : numAt ws (n + 1 + i) p0.1 p0.2 with
            | none =>
              rw [hx] at eq1
              unfold outR at out
              rw [eq1] at out
              show if true = true then _ else _
              rw [if_pos rfl]
              refine ⟨_, rfl, _, _, rfl, rfl, _, rfl, _, _, rfl, rfl, (by show 1 ≤ sizeLine; decide), fun z fz => kE (n + 1 + i) z _ out (((s3.trans s4).trans s5).trans (same_new fz)) ?_⟩
              rw [upd_same, Int.zero_add]; rfl
            | some v =>
              rw [hx] at eq1
              show if false = true then _ else _
              rw [if_neg Bool.false_ne_true]
              exact ⟨_, rfl, s4.trans s5, eq1⟩
          · rintro σ' H4 ⟨x5, rfl, s4, eb⟩
            have hn : (((as.map V.ref).length : Nat) : Int).toNat = bs.length := by rw [List.length_map, al]; exact Int.toNat_natCast _
            have en : bsR ws (n + 1) bs = none := by
              rw [eb, List.drop_eq_nil_of_le]
              · rfl
              · rw [hn]
                exact Nat.le_refl _
            unfold outR at out
            rw [en] at out
            obtain ⟨t, out⟩ := out
            refine ⟨_, rfl, _, _, rfl, rfl, _, rfl, L, _, rfl, .inl (SqL.of (s4 _ _ hL)), _, _, rfl, rfl, _, rfl, _, _, rfl, rfl, (by show 2 ≤ sizeLine; decide), fun z fz => ?_⟩
            refine kO (n + 1 + bs.length) (m + 1) t z _ out ((s3.trans s4).trans (same_new fz)) ?_
            rw [upd_same, List.length_map, al]; rfl
theorem cal_en {f : Addr} {fd : FuncData} (F : C8.Def K mg "_law_rule_end" sEn f fd) (b : Binds K fd ["_law_words", "_law_at_so", "_law_many"] []) (T : Txt mg) (DIn : C8.Cal P w K mg base 1 "_law_is_number" spIn []) : ∀ n, C8.Cal P w K mg base (2 + n) "_law_rule_end" (spEn n) []
  | 0 => ⟨f, fd, _, [], ⟨fun vs H Q E ⟨_, _, _, _, _, _, _, h1, _, h2, _⟩ => absurd h2 (by omega), fun _ _ _ _ _ _ _ _ _ _ _ _ _ ⟨_, _, _, _, _, _, _, h1, _, h2, _⟩ => absurd h2 (by omega)⟩, F.mgf, F.kp, b, .nil⟩
  | n + 1 => by
    rw [show 2 + (n + 1) = 3 + n by omega]
    exact cal_en1 F b T DIn (cal_en F b T DIn n)
end
end Lw
namespace Lw
open PySem PySem.Spec PyProof.Rows L2
open SX PySem.NumText TL LamX ClX StX
set_option pp.maxSteps 900
abbrev sTx : Stmt := top 49
abbrev sDue : Stmt := top 53
/-! ### str of a rule, of a text or a number -/
section
variable {X : Cx} {Pc : Addr → Prop} {k j : Nat} {sp : Addr → Sp} {E : XK}
def rStrP (Pc : Addr → Prop) (sp : Addr → Sp) (E : XK) : List V → Hp → VK → Prop := fun xs H Q => ∃ a C dx fs, xs = [V.ref a] ∧ Pc C ∧ H a = some (.ins C dx fs) ∧ sp C [.ref a] H (fun z H' => ∃ y, z = .str y ∧ Q z H') E
theorem call_strP (M : MetP X.prog X.w X.K X.mg X.base k Pc "__str__" sp) (hx : Passes (L2.CX X.prog X.w) X E) (hr : Room j X.A) (hk : k + 2 ≤ j) : CallR X (.type "str") (rStrP Pc sp E) := by
  intro pins s σ H xs us Q I r h
  obtain ⟨a, C, dx, fs, rfl, pc, ha, q⟩ := h
  obtain ⟨u, rfl, ru⟩ := r.one
  cases (show u = Value.ref a from ru)
  obtain ⟨_, _, J⟩ := ins_at I ha
  have hr2 : Room k X.A.in1.in1 := (show Room (k + 1) X.A.in1 from Room.in1 (hr.mono hk)).in1
  obtain ⟨g, hm, w⟩ := run_metA (us := [.ref a]) (vs := [.ref a]) (M.all C pc) hx hr2 I.env0.in1.in1 I (.cons rfl .nil) q
  refine PySem.W.kso_call hr2.units0 I.kIn J hm.at_ hm.fn (wpAny_mono w (fun v s' z => ?_) fun _ _ x => x)
  obtain ⟨z', H', I', rz, y, rfl, qz⟩ := z
  obtain ⟨t, rfl⟩ := rz
  exact ⟨.str y, H', I', ⟨t, rfl⟩, qz⟩
/-- what str tells of a text or a number -/
def strV : V → Str
  | .str z => z
  | .int i => toString i
  | _ => Str.empty
def strOk : V → Prop
  | .str _ => True
  | .int i => i.natAbs.log2 < 1920
  | _ => False
theorem call_str_mix : CallR X (.type "str") (fun xs H Q => ∃ v, xs = [v] ∧ strOk v ∧ Q (.str (strV v)) H) := by
  intro pins s σ H xs us Q I r h
  obtain ⟨v, rfl, ok, q⟩ := h
  cases v with
  | str z => exact SkE.call_str_str pins s σ H _ us Q I r ⟨z, rfl, q⟩
  | int i => exact call_str_int pins s σ H _ us Q I r ⟨i, rfl, ok, q⟩
  | _ => exact ok.elim
end
/-- [v for x in a tuple] -/
theorem lc_tupV {j : Nat} {K : PySem.W.Frag} {σ : L2.St} {H : Hp} {Q : VK} {te tv : TE} {p : Addr} {xs : List V} (fn : V → V) (ht : ∀ R : VK, R (.ref p) H → te σ H R) (hp : H p = some (.tup xs)) (lj : j < σ.length) (hz : xs.length ≤ 6000)
    (hs : ∀ (x : V) (H2 : Hp) (Y : VK), x ∈ xs → Y (fn x) H2 → tv ((wipe σ [j]).set j (some x)) H2 Y)
    (q : ∀ D H', Same H H' → H' D = some (.lst (xs.map fn)) → Q (.ref D) H') : tLc (iTup K te) (gName j) tYes tv [j] σ H Q := by
  refine ht _ ?_
  refine ⟨p, rfl, ⟨_, SqT.of hp⟩, fun D hD => lc_it walk_tup (fun n H' => Same H H' ∧ H' D = some (.lst ((xs.take n).map fn))) ⟨same_new hD, upd_same⟩ (fun n H' _ h => SqT.of (h.1 _ _ hp)) ?_ ?_⟩
  · rintro n x H' H'' hn ⟨s', hD'⟩ ⟨rfl, hx⟩
    have snoc : xs.take (n + 1) = xs.take n ++ [x] := by rw [List.take_add_one, hx]; rfl
    refine ⟨by simp [wipe, List.set_set], ?_⟩
    dsimp only [tYes]
    rw [if_pos rfl]
    refine hs x _ _ (List.mem_of_getElem? hx) ⟨_, hD', ?_, fun b o e => ?_, ?_⟩
    · rw [List.length_map]
      exact Nat.lt_of_le_of_lt (Nat.le_trans (List.length_take_le' _ _) hz) (by decide)
    · rw [upd_ne (ne_of_none e hD)]; exact s' _ _ e
    · rw [upd_same, snoc, List.map_append]; rfl
  · rintro H' ⟨s', hD'⟩
    exact q D _ s' (by rw [hD', List.take_of_length_le (Nat.le_refl _)])
theorem intL_b {k : Nat} {i : Int} (h0 : 0 < k) (h : i.natAbs < 10 ^ k) : (intL i).length ≤ k + 1 := by
  have e := int_text_length_le10 (k := k) h0 h
  have s := str_int i
  have l : (Str.ofString (toString i)).length = (intL i).length := by rw [s, S_len]
  rw [← l, PySem.ofString_length]
  exact e
theorem Rl.tx_lenL : ∀ {t : Rl}, t.Lf → t.tx.length + 10 ≤ 48 * t.cnt
  | .fx n, h => by
    obtain ⟨h1, h2⟩ := h
    have l := intL_b (k := 31) (i := n) (by decide) (by omega)
    show (joinL [32] [[102, 105, 120, 101, 100], intL n]).length + 10 ≤ 48 * 1
    simp only [joinL, List.length_append, List.length_cons, List.length_nil]
    omega
  | .dv x y w, h => by
    obtain ⟨h1, h2, h3, h4, h5, h6⟩ := h
    have l1 := intL_b (k := 4) (i := x) (by decide) (by omega)
    have l2 := intL_b (k := 4) (i := y) (by decide) (by omega)
    have l3 := intL_b (k := 4) (i := w) (by decide) (by omega)
    show (joinL [32] [[100, 105, 118, 105, 100, 101, 100], intL x, intL y, intL w]).length + 10 ≤ 48 * 1
    simp only [joinL, List.length_append, List.length_cons, List.length_nil]
    omega
  | .lo a b, h => by
    have l1 := Rl.tx_lenL h.1
    have l2 := Rl.tx_lenL h.2
    have p1 := Rl.cnt_pos a
    show (joinL [32] ([40] :: (a.ws ++ ([38] :: (b.ws ++ [[41]]))))).length + 10 ≤ 48 * (a.cnt + b.cnt)
    rw [join_two]
    simp only [List.length_append, List.length_cons, List.length_nil]
    omega
  | .hi a b, h => by
    have l1 := Rl.tx_lenL h.1
    have l2 := Rl.tx_lenL h.2
    have p1 := Rl.cnt_pos a
    show (joinL [32] ([40] :: (a.ws ++ ([124] :: (b.ws ++ [[41]]))))).length + 10 ≤ 48 * (a.cnt + b.cnt)
    rw [join_two]
    simp only [List.length_append, List.length_cons, List.length_nil]
    omega
def dueR (ws : List (List Nat)) : Option Nat := match pR ws (ws.length + 1) 0 0 with
  | .er e => some e
  | .ok n _ _ => if n < ws.length then some n else none
def natV : Option Nat → V
  | some n => .int (n : Int)
  | none => .non
def spDue : Sp := fun vs H Q _ => ∃ cs : List Nat, vs = [.str (S cs)] ∧ (∀ c ∈ cs, c < 128) ∧ cs.length ≤ 900 ∧ LW (wds cs) ∧ ∀ H', Same H H' → Q (natV (dueR (wds cs))) H'
def spTx (n : Nat) : Sp := fun vs H Q _ => ∃ a t, vs = [.ref a] ∧ PlAt H t a ∧ t.Lf ∧ t.cnt ≤ 7 ∧ t.cnt ≤ n ∧ ∀ H', Same H H' → Q (.str (S t.tx)) H'
section
variable {P : Program} {w : World} {K : PySem.W.Frag} {mg : Str → Option Value} {base : Heap} {FC VC LC GC : Addr}
theorem scTx : FnScope ["_law_plain_here", "_law_part"] ["_law_plain_here"] (C8.fnScope sTx) := C8.fnScope_by (by decide +kernel)
theorem cal_tx1 {n : Nat} {f : Addr} {fd : FuncData} (F : C8.Def K mg "_law_text" sTx f fd) (b : Binds K fd ["_law_plain_here"] []) (T : Txt mg) (W : C8.Cal P w K mg base n "_law_text" (spTx n) []) : C8.Cal P w K mg base (n + 1) "_law_text" (spTx (n + 1)) [] := by
  refine C8.cal0 F b .nil scTx (fun vs H Q E h => ?_) (fun cdv A outer st H vs Q E hr h => ?_)
  · obtain ⟨a, t, rfl, _⟩ := h
    rfl
  · obtain ⟨a, t, rfl, pa, ok, c7, hn, k⟩ := h
    refine ⟨_, (pss_cons (ps_if (pt_cmpR op_in_seq (pe_ix ix_tup (pv 0) pe_int (fun _ _ => rfl)) (pe_tup (pa_cons pe_str (pa_cons pe_str pa_nil))) (by rfl)) (pss_one (ps_ret (pe_join pe_str (pe_lc (own := [("_law_part", 1)]) (g := gName 1) (tt := tYes) rfl scTx.nd (pi_tup (pv 0)) (blkOk_by (own := [("_law_part", 1)]) (N := ["_law_plain_here", "_law_part"]) (sc := (C8.fnScope sTx)) (by decide +kernel)) (fun _ _ _ _ _ => pg_name (i := 1) scTx.nd rfl (Or.inl rfl)) (fun _ _ _ _ _ => pts_nil) (fun _ _ _ _ _ => (pe_callTy call_str_mix (by rfl) T.n_str (by decide +kernel) (pa_cons (pv 1) pa_nil))))))) pss_nil)
  (pss_one (ps_ret (pe_op op_add_str (pe_op op_add_str (pe_op op_add_str (pe_op op_add_str (pe_op op_add_str (pe_op op_add_str pe_str (C8.pe_c W hr (Nat.le_refl _) (by rfl) (pa_cons (pe_ix ix_tup (pv 0) pe_int (fun _ _ => rfl)) pa_nil))) pe_str) (pe_ix ix_tup (pv 0) pe_int (fun _ _ => rfl))) pe_str) (C8.pe_c W hr (Nat.le_refl _) (by rfl) (pa_cons (pe_ix ix_tup (pv 0) pe_int (fun _ _ => rfl)) pa_nil))) pe_str)))), ?_⟩
    dsimp only [tSeq]
    have g : ∀ {i : Int}, i.natAbs ≤ 1000 → i.natAbs.log2 < 1920 := fun h => log33 (Nat.le_trans h (by decide))
    cases t with
    | fx m =>
      have pa0 : H a = some (.tup [.str (Str.ofString "fixed"), .int m]) := pa
      obtain ⟨m1, m2⟩ := id ok
      have lm := intL_short (i := m) (by omega)
      refine ⟨_, rfl, a, _, 0, _, rfl, rfl, SqT.of pa, rfl, (by show 2 ≤ sizeLine; decide), fun q hq => ⟨q, _, rfl, .inr (SqT.of upd_same), rfl, rfl, _, rfl, iteT' (by decide +kernel) ?_⟩⟩
      have sq := same_new (o := HO.tup [V.str (Str.ofString "fixed"), .str (Str.ofString "divided")]) hq
      dsimp only [tRet, tM1, tC, List.map]
      refine ⟨⟨_, rfl⟩, ?_⟩
      refine lc_tupV (j := 1) (fun v => .str (strV v)) (fun R h => ⟨_, rfl, h⟩) (sq _ _ pa0) (by show 1 < 2; decide) (by show 2 ≤ 6000; decide) (fun x H2 Y hx y => ?_) (fun D H' s' hD => ?_)
      · rcases List.mem_cons.mp hx with rfl | hx
        · exact ⟨_, rfl, _, rfl, trivial, y⟩
        · obtain rfl := List.mem_singleton.mp hx
          exact ⟨_, rfl, _, rfl, log33 (by omega), y⟩
      · have hD2 : H' D = some (.lst (([[102, 105, 120, 101, 100], intL m].map S).map V.str)) := by
          rw [hD]
          show some (HO.lst [V.str (Str.ofString "fixed"), V.str (toString m)]) = _
          simp only [str_int]
          rfl
        refine ⟨_, D, [[102, 105, 120, 101, 100], intL m].map S, rfl, rfl, .inl (SqL.of hD2), ?_, ?_⟩
        · simp only [List.map_cons, List.map_nil, List.sum_cons, List.sum_nil, S_len, List.length_cons, List.length_nil]
          rw [show (Str.ofString " ").length = 1 from rfl]
          omega
        · rw [show (Str.ofString " ") = S [32] from rfl, join_S]
          exact k _ (sq.trans s')
    | dv x y w0 =>
      have pa0 : H a = some (.tup [.str (Str.ofString "divided"), .int x, .int y, .int w0]) := pa
      obtain ⟨x0, x1, y0, y1, w1, w2⟩ := id ok
      have lx := intL_short (i := x) (Nat.le_trans (by omega : x.natAbs ≤ 1000) (by decide))
      have ly := intL_short (i := y) (Nat.le_trans (by omega : y.natAbs ≤ 1000) (by decide))
      have lw := intL_short (i := w0) (Nat.le_trans (by omega : w0.natAbs ≤ 1000) (by decide))
      refine ⟨_, rfl, a, _, 0, _, rfl, rfl, SqT.of pa, rfl, (by show 2 ≤ sizeLine; decide), fun q hq => ⟨q, _, rfl, .inr (SqT.of upd_same), rfl, rfl, _, rfl, iteT' (by decide +kernel) ?_⟩⟩
      have sq := same_new (o := HO.tup [V.str (Str.ofString "fixed"), .str (Str.ofString "divided")]) hq
      dsimp only [tRet, tM1, tC, List.map]
      refine ⟨⟨_, rfl⟩, ?_⟩
      refine lc_tupV (j := 1) (fun v => .str (strV v)) (fun R h => ⟨_, rfl, h⟩) (sq _ _ pa0) (by show 1 < 2; decide) (by show 4 ≤ 6000; decide) (fun v H2 Y hx z => ?_) (fun D H' s' hD => ?_)
      · rcases List.mem_cons.mp hx with rfl | hx
        · exact ⟨_, rfl, _, rfl, trivial, z⟩
        rcases List.mem_cons.mp hx with rfl | hx
        · exact ⟨_, rfl, _, rfl, g (by omega), z⟩
        rcases List.mem_cons.mp hx with rfl | hx
        · exact ⟨_, rfl, _, rfl, g (by omega), z⟩
        · obtain rfl := List.mem_singleton.mp hx
          exact ⟨_, rfl, _, rfl, g (by omega), z⟩
      · have hD2 : H' D = some (.lst (([[100, 105, 118, 105, 100, 101, 100], intL x, intL y, intL w0].map S).map V.str)) := by
          rw [hD]
          show some (HO.lst [V.str (Str.ofString "divided"), V.str (toString x), V.str (toString y), V.str (toString w0)]) = _
          simp only [str_int]
          rfl
        refine ⟨_, D, [[100, 105, 118, 105, 100, 101, 100], intL x, intL y, intL w0].map S, rfl, rfl, .inl (SqL.of hD2), ?_, ?_⟩
        · simp only [List.map_cons, List.map_nil, List.sum_cons, List.sum_nil, S_len, List.length_cons, List.length_nil]
          rw [show (Str.ofString " ").length = 1 from rfl]
          omega
        · rw [show (Str.ofString " ") = S [32] from rfl, join_S]
          exact k _ (sq.trans s')
    | lo s1 s2 =>
      obtain ⟨b, c, h1, h2, h3⟩ := pa
      obtain ⟨o1, o2⟩ := id ok
      have n6 : s1.cnt + s2.cnt ≤ 7 := c7
      have n1 : s1.cnt + s2.cnt ≤ n + 1 := hn
      have p1 := Rl.cnt_pos s1
      have p2 := Rl.cnt_pos s2
      have t1 := Rl.tx_lenL o1
      have t2 := Rl.tx_lenL o2
      have big : ∀ a b : List Nat, a.length + b.length ≤ 2000 → (S a).length + (S b).length ≤ sizeLine := fun a b h => by rw [S_len, S_len]; exact Nat.le_trans h (by decide)
      refine ⟨_, rfl, a, _, 0, _, rfl, rfl, SqT.of h1, rfl, (by show 2 ≤ sizeLine; decide), fun q hq => ⟨q, _, rfl, .inr (SqT.of upd_same), rfl, rfl, _, rfl, iteF' (by decide +kernel) ?_⟩⟩
      dsimp only [tNext]
      have sq := same_new (o := HO.tup [V.str (Str.ofString "fixed"), .str (Str.ofString "divided")]) hq
      have g1 := sq _ _ h1
      refine ⟨_, rfl, a, _, 1, _, rfl, rfl, SqT.of g1, rfl, b, s1, rfl, h2.on (tt_same sq), o1, by omega, by omega, fun H2 sm2 => ?_⟩
      rw [ofS [40, 32] "( " rfl]
      refine ⟨_, _, rfl, rfl, big _ _ (by simp only [List.length_cons, List.length_nil]; omega), ?_⟩
      rw [S_cat, ofS [32] " " rfl]
      refine ⟨_, _, rfl, rfl, big _ _ (by simp only [List.length_append, List.length_cons, List.length_nil]; omega), ?_⟩
      rw [S_cat]
      refine ⟨_, rfl, a, _, 0, _, rfl, rfl, SqT.of (sm2 _ _ g1), rfl, ?_⟩
      rw [ofS [38] "&" rfl]
      refine ⟨_, _, rfl, rfl, big _ _ (by simp only [List.length_append, List.length_cons, List.length_nil]; omega), ?_⟩
      rw [S_cat]
      refine ⟨_, _, rfl, rfl, big _ _ (by simp only [List.length_append, List.length_cons, List.length_nil]; omega), ?_⟩
      rw [S_cat]
      refine ⟨_, rfl, a, _, 2, _, rfl, rfl, SqT.of (sm2 _ _ g1), rfl, c, s2, rfl, h3.on (tt_same (sq.trans sm2)), o2, by omega, by omega, fun H3 sm3 => ?_⟩
      refine ⟨_, _, rfl, rfl, big _ _ (by simp only [List.length_append, List.length_cons, List.length_nil]; omega), ?_⟩
      rw [S_cat, ofS [32, 41] " )" rfl]
      refine ⟨_, _, rfl, rfl, big _ _ (by simp only [List.length_append, List.length_cons, List.length_nil]; omega), ?_⟩
      rw [S_cat]
      have e : ((((((([40, 32] ++ s1.tx) ++ [32]) ++ [38]) ++ [32]) ++ s2.tx)) ++ [32, 41]) = (Rl.lo s1 s2).tx := by
        show _ = joinL [32] ([40] :: (s1.ws ++ ([38] :: (s2.ws ++ [[41]]))))
        rw [join_two]
        simp
      rw [e]
      exact k _ ((sq.trans sm2).trans sm3)
    | hi s1 s2 =>
      obtain ⟨b, c, h1, h2, h3⟩ := pa
      obtain ⟨o1, o2⟩ := id ok
      have n6 : s1.cnt + s2.cnt ≤ 7 := c7
      have n1 : s1.cnt + s2.cnt ≤ n + 1 := hn
      have p1 := Rl.cnt_pos s1
      have p2 := Rl.cnt_pos s2
      have t1 := Rl.tx_lenL o1
      have t2 := Rl.tx_lenL o2
      have big : ∀ a b : List Nat, a.length + b.length ≤ 2000 → (S a).length + (S b).length ≤ sizeLine := fun a b h => by rw [S_len, S_len]; exact Nat.le_trans h (by decide)
      refine ⟨_, rfl, a, _, 0, _, rfl, rfl, SqT.of h1, rfl, (by show 2 ≤ sizeLine; decide), fun q hq => ⟨q, _, rfl, .inr (SqT.of upd_same), rfl, rfl, _, rfl, iteF' (by decide +kernel) ?_⟩⟩
      dsimp only [tNext]
      have sq := same_new (o := HO.tup [V.str (Str.ofString "fixed"), .str (Str.ofString "divided")]) hq
      have g1 := sq _ _ h1
      refine ⟨_, rfl, a, _, 1, _, rfl, rfl, SqT.of g1, rfl, b, s1, rfl, h2.on (tt_same sq), o1, by omega, by omega, fun H2 sm2 => ?_⟩
      rw [ofS [40, 32] "( " rfl]
      refine ⟨_, _, rfl, rfl, big _ _ (by simp only [List.length_cons, List.length_nil]; omega), ?_⟩
      rw [S_cat, ofS [32] " " rfl]
      refine ⟨_, _, rfl, rfl, big _ _ (by simp only [List.length_append, List.length_cons, List.length_nil]; omega), ?_⟩
      rw [S_cat]
      refine ⟨_, rfl, a, _, 0, _, rfl, rfl, SqT.of (sm2 _ _ g1), rfl, ?_⟩
      rw [ofS [124] "|" rfl]
      refine ⟨_, _, rfl, rfl, big _ _ (by simp only [List.length_append, List.length_cons, List.length_nil]; omega), ?_⟩
      rw [S_cat]
      refine ⟨_, _, rfl, rfl, big _ _ (by simp only [List.length_append, List.length_cons, List.length_nil]; omega), ?_⟩
      rw [S_cat]
      refine ⟨_, rfl, a, _, 2, _, rfl, rfl, SqT.of (sm2 _ _ g1), rfl, c, s2, rfl, h3.on (tt_same (sq.trans sm2)), o2, by omega, by omega, fun H3 sm3 => ?_⟩
      refine ⟨_, _, rfl, rfl, big _ _ (by simp only [List.length_append, List.length_cons, List.length_nil]; omega), ?_⟩
      rw [S_cat, ofS [32, 41] " )" rfl]
      refine ⟨_, _, rfl, rfl, big _ _ (by simp only [List.length_append, List.length_cons, List.length_nil]; omega), ?_⟩
      rw [S_cat]
      have e : ((((((([40, 32] ++ s1.tx) ++ [32]) ++ [124]) ++ [32]) ++ s2.tx)) ++ [32, 41]) = (Rl.hi s1 s2).tx := by
        show _ = joinL [32] ([40] :: (s1.ws ++ ([124] :: (s2.ws ++ [[41]]))))
        rw [join_two]
        simp
      rw [e]
      exact k _ ((sq.trans sm2).trans sm3)
theorem cal_tx {f : Addr} {fd : FuncData} (F : C8.Def K mg "_law_text" sTx f fd) (b : Binds K fd ["_law_plain_here"] []) (T : Txt mg) : ∀ n, C8.Cal P w K mg base n "_law_text" (spTx n) []
  | 0 => ⟨f, fd, _, [], ⟨fun vs H Q E ⟨_, t, _, _, _, _, h, _⟩ => absurd h (by have := Rl.cnt_pos t; omega), fun _ _ _ _ _ _ _ _ _ _ _ _ _ ⟨_, t, _, _, _, _, h, _⟩ => absurd h (by have := Rl.cnt_pos t; omega)⟩, F.mgf, F.kp, b, .nil⟩
  | n + 1 => cal_tx1 F b T (cal_tx F b T n)
theorem scDue : FnScope ["_law_page", "_law_words", "_law_end"] ["_law_page"] (C8.fnScope sDue) := C8.fnScope_by (by decide +kernel)
theorem cal_due {f : Addr} {fd : FuncData} (F : C8.Def K mg "_law_due" sDue f fd) (b : Binds K fd ["_law_page"] []) (T : Txt mg) (W : C8.Cal P w K mg base 113 "_law_rule_end" (spEn 111) []) : C8.Cal P w K mg base 114 "_law_due" spDue [] := by
  refine C8.cal0 F b .nil scDue (fun vs H Q E h => ?_) (fun cdv A outer st H vs Q E hr h => ?_)
  · obtain ⟨cs, rfl, _⟩ := h
    rfl
  · obtain ⟨cs, rfl, c1, c2, lw, k⟩ := h
    refine ⟨_, (pss_cons (ps_set (i := 1) scDue.nd rfl (Or.inl rfl) (pe_split (pv 0) pe_str))
  (pss_cons (ps_set (i := 2) scDue.nd rfl (Or.inl rfl) (C8.pe_c W hr (by decide) (by rfl) (pa_cons (pv 1) (pa_cons pe_int (pa_cons pe_int pa_nil)))))
  (pss_cons (ps_if (pt_val (pe_callB call_isz (by rfl) T.n_isinstance (by decide +kernel) (pa_cons (pv 2) (pa_cons (pe_bltn (v := .ty "list") (by rfl) T.n_list (by decide +kernel) rfl) pa_nil)))) (pss_one (ps_ret (pe_ix ix_seq (pv 2) pe_int (fun _ _ => rfl)))) pss_nil)
  (pss_one (ps_ret (pe_ifExp (pt_cmpR op_lt (pe_ix ix_seq (pv 2) pe_int (fun _ _ => rfl)) (pe_callB call_len_seq (by rfl) T.n_len (by decide +kernel) (pa_cons (pv 1) pa_nil)) (nomark _)) (pe_ix ix_seq (pv 2) pe_int (fun _ _ => rfl)) pe_non)))))), ?_⟩
    dsimp only [tSeq]
    have hs : (S cs).length + 2 ≤ sizeLine := by rw [S_len]; exact Nat.le_trans (by omega : cs.length + 2 ≤ 2000) (by decide)
    refine ⟨_, rfl, ⟨_, rfl⟩, _, _, rfl, rfl, by rfl, hs, fun l fl => ?_⟩
    rw [split_wds]
    have s1 := same_new (o := HO.lst (wV (wds cs))) fl
    have hl1 : upd H l (.lst (wV (wds cs))) l = some (.lst (wV (wds cs))) := upd_same
    have fin5 : (((wds cs).map S).map V.str) = wV (wds cs) := rfl
    rw [fin5]
    generalize upd H l (.lst (wV (wds cs))) = H1 at s1 hl1 ⊢
    generalize wds cs = ws at *
    dsimp only [gName, tSeq]
    have ef : pR ws 111 0 0 = pR ws (ws.length + 1) 0 0 := pR_fuel (by decide) (by have := lw.n; omega) (by omega)
    refine ⟨_, rfl, l, ws, 0, 0, rfl, hl1, lw, Nat.zero_le _, by decide, by have := lw.n; omega, fun e a H2 he s2 ha => ?_, fun n m t a H2 he s2 ha => ?_⟩
    · rw [ef] at he
      dsimp only [gName, tSeq]
      refine ⟨_, rfl, ?_⟩
      dsimp only [tCons, tC, tNil]
      refine isl_l ha ⟨_, rfl, iteT ⟨_, rfl, .inl ⟨a, _, 0, _, rfl, rfl, SqL.of ha, rfl, ?_⟩⟩⟩
      have := k H2 (s1.trans s2)
      unfold dueR at this
      rw [he] at this
      exact this
    · rw [ef] at he
      have k2 := k H2 (s1.trans s2)
      unfold dueR at k2
      rw [he] at k2
      have hl2 := s2 _ _ hl1
      dsimp only [gName, tSeq]
      refine ⟨_, rfl, ?_⟩
      dsimp only [tCons, tC, tNil]
      refine isl_t ha ⟨_, rfl, iteF ?_⟩
      dsimp only [tNext]
      refine ⟨_, rfl, .inr (.inl ⟨a, _, 0, _, rfl, rfl, SqT.of ha, rfl, _, rfl, l, _, rfl, .inl (SqL.of hl2), _, _, rfl, rfl, _, rfl, ite2 (fun c => ?_) (fun c => ?_)⟩)⟩
      · refine ⟨_, rfl, .inr (.inl ⟨a, _, 0, _, rfl, rfl, SqT.of ha, rfl, ?_⟩)⟩
        have hn : n < ws.length := by have := of_decide_eq_true c; rw [wV_length] at this; omega
        dsimp only at k2
        rw [if_pos hn] at k2
        exact k2
      · have hn : ¬ n < ws.length := by have := of_decide_eq_false (Bool.eq_false_iff.mpr c); rw [wV_length] at this; omega
        dsimp only at k2
        rw [if_neg hn] at k2
        exact k2
end
end Lw
namespace Lw
open PySem PySem.Spec PyProof.Rows L2
open SX PySem.NumText TL LamX ClX StX
set_option pp.maxSteps 900
abbrev sBen : Stmt := top 55
/-! ### words of a joined text -/
theorem joinL_mem : ∀ {ws : List (List Nat)} {c : Nat}, c ∈ joinL [32] ws → c = 32 ∨ ∃ w ∈ ws, c ∈ w
  | [], c, h => by cases h
  | [p], c, h => .inr ⟨p, List.mem_cons_self, h⟩
  | p :: q :: r, c, h => by
    have h' : c ∈ p ++ ([32] ++ joinL [32] (q :: r)) := h
    rcases List.mem_append.mp h' with h | h
    · exact .inr ⟨p, List.mem_cons_self, h⟩
    · rcases List.mem_append.mp h with h | h
      · exact .inl (List.mem_singleton.mp h)
      · rcases joinL_mem h with h | ⟨w, hw, h⟩
        · exact .inl h
        · exact .inr ⟨w, List.mem_cons_of_mem _ hw, h⟩
/-! ### sizes -/
theorem wds_sp : ∀ (n : Nat) (a b : List Nat), a.length ≤ n → wds (a ++ 32 :: b) = wds a ++ wds b
  | n, a, b, hn => by
    rcases wds_or a with ⟨h1, h2⟩ | ⟨x, y, rfl, h1, h2⟩
    · rw [wds_cut h1, h2]; rfl
    · have hl : y.length < (x ++ 32 :: y).length := by rw [List.length_append, List.length_cons]; omega
      cases n with
      | zero => omega
      | succ n =>
        rw [List.append_assoc]
        show wds (x ++ 32 :: (y ++ 32 :: b)) = _
        rw [wds_cut h1, h2, wds_sp n y b (by omega)]; rfl
theorem wds_cat : ∀ a : List (List Nat), a ≠ [] → wds (joinL [32] a) = a.flatMap wds
  | [], h => absurd rfl h
  | [p], _ => by show wds p = wds p ++ []; rw [List.append_nil]
  | p :: q :: r, _ => by
    show wds (p ++ 32 :: joinL [32] (q :: r)) = wds p ++ (q :: r).flatMap wds
    rw [wds_sp _ _ _ (Nat.le_refl _), wds_cat (q :: r) (List.cons_ne_nil _ _)]
theorem wds_no : ∀ (n : Nat) (cs : List Nat), cs.length ≤ n → ∀ w ∈ wds cs, 32 ∉ w
  | n, cs, hn, w, hw => by
    rcases wds_or cs with ⟨h1, h2⟩ | ⟨x, y, rfl, h1, h2⟩
    · rw [h2] at hw
      rw [List.mem_singleton.mp hw]; exact h1
    · have hl : y.length < (x ++ 32 :: y).length := by rw [List.length_append, List.length_cons]; omega
      rw [h2] at hw
      cases n with
      | zero => omega
      | succ n =>
        rcases List.mem_cons.mp hw with rfl | hw
        · exact h1
        · exact wds_no n y (by omega) w hw
theorem join_wds : ∀ (n : Nat) (cs : List Nat), cs.length ≤ n → joinL [32] (wds cs) = cs
  | n, cs, hn => by
    rcases wds_or cs with ⟨h1, h2⟩ | ⟨x, y, rfl, h1, h2⟩
    · rw [h2]; rfl
    · have hl : y.length < (x ++ 32 :: y).length := by rw [List.length_append, List.length_cons]; omega
      cases n with
      | zero => omega
      | succ n =>
        have ih := join_wds n y (by omega)
        rw [h2]
        cases e : wds y with
        | nil => exact absurd e (wds_ne y)
        | cons p r =>
          rw [e] at ih
          show x ++ ([32] ++ joinL [32] (p :: r)) = _
          rw [ih]; rfl
theorem joinL_sum : ∀ a : List (List Nat), a ≠ [] → (joinL [32] a).length + 1 = (a.map fun w => w.length + 1).sum
  | [], h => absurd rfl h
  | [p], _ => rfl
  | p :: q :: r, _ => by
    have ih := joinL_sum (q :: r) (List.cons_ne_nil _ _)
    show (p ++ ([32] ++ joinL [32] (q :: r))).length + 1 = (p.length + 1) + ((q :: r).map fun w => w.length + 1).sum
    rw [← ih, List.length_append, List.length_append]
    show p.length + (1 + _) + 1 = _
    omega
theorem wds_sum (a : List (List Nat)) (h : a ≠ []) : (wds (joinL [32] a)).length = (a.map fun w => (wds w).length).sum := by rw [wds_cat a h, List.length_flatMap]
theorem sum_td {α : Type} (μ : α → Nat) (ws : List α) (i : Nat) : ((ws.take i).map μ).sum + ((ws.drop i).map μ).sum = (ws.map μ).sum := by
  conv => rhs; rw [← List.take_append_drop i ws, List.map_append, List.sum_append]
theorem sum_dr {α : Type} (μ : α → Nat) (ws : List α) (i : Nat) : ((ws.drop (i + 1)).map μ).sum ≤ ((ws.drop i).map μ).sum := by
  rw [← List.drop_drop (i := 1)]
  cases ws.drop i with
  | nil => exact Nat.le_refl _
  | cons x r => show (r.map μ).sum ≤ μ x + (r.map μ).sum; omega
/-- what one bend may do to the words -/
def Bd (ws : List (List Nat)) (x : List Nat) (a : List (List Nat)) : Prop := (∀ w ∈ a, w ∈ ws ∨ w = x) ∧ ∀ (μ : List Nat → Nat) (c : Nat), μ x ≤ c → (∀ w ∈ ws, μ w ≤ c) → (a.map μ).sum ≤ (ws.map μ).sum + c
theorem mem_tk {α : Type} {ws : List α} {w : α} {i : Nat} (h : w ∈ ws.take i) : w ∈ ws := List.mem_of_mem_take h
theorem mem_dr {α : Type} {ws : List α} {w : α} {i : Nat} (h : w ∈ ws.drop i) : w ∈ ws := List.mem_of_mem_drop h
theorem bd0 (ws : List (List Nat)) (x : List Nat) (i : Nat) : Bd ws x (ws.take i ++ [x] ++ ws.drop i) := by
  refine ⟨fun w hw => ?_, fun μ c h1 _ => ?_⟩
  · rcases List.mem_append.mp hw with hw | hw
    · rcases List.mem_append.mp hw with hw | hw
      · exact .inl (mem_tk hw)
      · exact .inr (List.mem_singleton.mp hw)
    · exact .inl (mem_dr hw)
  · have := sum_td μ ws i
    rw [List.map_append, List.map_append, List.sum_append, List.sum_append]
    show _ + (μ x + 0) + _ ≤ _
    omega
theorem bd1 (ws : List (List Nat)) (x : List Nat) (i : Nat) : Bd ws x (ws.take i ++ ws.drop (i + 1)) := by
  refine ⟨fun w hw => ?_, fun μ c _ _ => ?_⟩
  · rcases List.mem_append.mp hw with hw | hw
    · exact .inl (mem_tk hw)
    · exact .inl (mem_dr hw)
  · have := sum_td μ ws i
    have := sum_dr μ ws i
    rw [List.map_append, List.sum_append]
    omega
theorem bd2 (ws : List (List Nat)) (x : List Nat) (i : Nat) : Bd ws x (ws.take i ++ [x] ++ ws.drop (i + 1)) := by
  refine ⟨fun w hw => ?_, fun μ c h1 _ => ?_⟩
  · rcases List.mem_append.mp hw with hw | hw
    · rcases List.mem_append.mp hw with hw | hw
      · exact .inl (mem_tk hw)
      · exact .inr (List.mem_singleton.mp hw)
    · exact .inl (mem_dr hw)
  · have := sum_td μ ws i
    have := sum_dr μ ws i
    rw [List.map_append, List.map_append, List.sum_append, List.sum_append]
    show _ + (μ x + 0) + _ ≤ _
    omega
theorem bd3 (ws : List (List Nat)) (x : List Nat) (i : Nat) : Bd ws x (ws.take i ++ (ws.drop i).take 1 ++ ws.drop i) := by
  refine ⟨fun w hw => ?_, fun μ c _ h2 => ?_⟩
  · rcases List.mem_append.mp hw with hw | hw
    · rcases List.mem_append.mp hw with hw | hw
      · exact .inl (mem_tk hw)
      · exact .inl (mem_dr (mem_tk hw))
    · exact .inl (mem_dr hw)
  · have := sum_td μ ws i
    have : (((ws.drop i).take 1).map μ).sum ≤ c := by
      cases e : ws.drop i with
      | nil => exact Nat.zero_le _
      | cons y r =>
        have := h2 y (mem_dr (i := i) (by rw [e]; exact List.mem_cons_self))
        show μ y + 0 ≤ c
        omega
    rw [List.map_append, List.map_append, List.sum_append, List.sum_append]
    omega
theorem bd4 (ws : List (List Nat)) (x : List Nat) (i : Nat) : Bd ws x (ws.take i ++ ((ws.drop i).take 2).reverse ++ ws.drop (i + 2)) := by
  refine ⟨fun w hw => ?_, fun μ c _ _ => ?_⟩
  · rcases List.mem_append.mp hw with hw | hw
    · rcases List.mem_append.mp hw with hw | hw
      · exact .inl (mem_tk hw)
      · exact .inl (mem_dr (mem_tk (List.mem_reverse.mp hw)))
    · exact .inl (mem_dr hw)
  · have h1 := sum_td μ ws i
    have h2 := sum_td μ (ws.drop i) 2
    rw [List.drop_drop] at h2
    rw [List.map_append, List.map_append, List.sum_append, List.sum_append, List.map_reverse, List.sum_reverse]
    omega
/-- a page of the law -/
structure PgK (k : Nat) (cs : List Nat) : Prop where
  c : ∀ c ∈ cs, c < 128
  n : (wds cs).length ≤ 46 + 4 * k
  w : ∀ w ∈ wds cs, w.length ≤ 36
  l : cs.length ≤ 330 + 40 * k
theorem PgK.lw {k : Nat} {cs : List Nat} (h : PgK k cs) (hk : k ≤ 16) : LW (wds cs) := ⟨fun w hw => ⟨fun c hc => h.c c ((wds_mem _ cs rfl w hw).2 c hc), Nat.le_trans (h.w w hw) (by decide)⟩, by have := h.n; omega⟩
theorem Bd.page {k : Nat} {cs x : List Nat} {a : List (List Nat)} (h : PgK k cs) (x1 : ∀ c ∈ x, c < 128) (x2 : x.length ≤ 36) (x3 : (wds x).length ≤ 4) (b : Bd (wds cs) x a) : PgK (k + 1) (joinL [32] a) := by
  have mem : ∀ w ∈ a, (∀ c ∈ w, c < 128) ∧ w.length ≤ 36 := fun w hw => (b.1 w hw).elim (fun hw => ⟨fun c hc => h.c c ((wds_mem _ cs rfl w hw).2 c hc), h.w w hw⟩) fun e => by rw [e]; exact ⟨x1, x2⟩
  by_cases e : a = []
  · subst e
    refine ⟨fun c hc => (by cases hc), ?_, fun w hw => ?_, by show 0 ≤ _; omega⟩
    · show 1 ≤ _; omega
    · rw [List.mem_singleton.mp (show w ∈ [[]] from hw)]; exact Nat.zero_le _
  · refine ⟨fun c hc => ?_, ?_, fun w hw => ?_, ?_⟩
    · rcases joinL_mem hc with rfl | ⟨w, hw, hc⟩
      · decide
      · exact (mem w hw).1 c hc
    · have h1 := wds_sum a e
      have h2 := wds_sum (wds cs) (wds_ne cs)
      rw [join_wds _ cs (Nat.le_refl _)] at h2
      have h3 := b.2 (fun w => (wds w).length) 4 x3 fun w hw => by
        show (wds w).length ≤ 4
        rw [wds_one (wds_no _ cs (Nat.le_refl _) w hw)]; show 1 ≤ 4; decide
      have := h.n
      omega
    · rw [wds_cat a e] at hw
      obtain ⟨y, hy, hw⟩ := List.mem_flatMap.mp hw
      exact Nat.le_trans (wds_mem _ y rfl w hw).1 (mem y hy).2
    · have h1 := joinL_sum a e
      have h2 := joinL_sum (wds cs) (wds_ne cs)
      rw [join_wds _ cs (Nat.le_refl _)] at h2
      have h3 := b.2 (fun w => w.length + 1) 37 (by show x.length + 1 ≤ 37; omega) fun w hw => by have := h.w w hw; show w.length + 1 ≤ 37; omega
      have := h.l
      omega
theorem cutA (ws : List (List Nat)) {i : Nat} (h : i ≤ ws.length) : cutV (wV ws) none (some (i : Int)) = wV (ws.take i) := by
  unfold cutV
  rw [HT.sIx_nat, HT.sIx_none, List.drop_zero, Nat.sub_zero, Nat.min_eq_left (by rw [wV_length]; exact h)]
  unfold wV
  rw [List.map_take, List.map_take]
theorem cutB (ws : List (List Nat)) (i : Nat) : cutV (wV ws) (some (i : Int)) none = wV (ws.drop i) := by
  unfold cutV
  rw [HT.sIx_nat, HT.sIx_none, wV_length]
  by_cases h : i ≤ ws.length
  · rw [Nat.min_eq_left h, List.take_of_length_le (by rw [List.length_drop, wV_length]; omega)]
    unfold wV
    rw [List.map_drop, List.map_drop]
  · rw [Nat.min_eq_right (by omega), Nat.sub_self, List.take_zero, List.drop_eq_nil_of_le (by omega : ws.length ≤ i)]; rfl
theorem cutC (ws : List (List Nat)) (i k : Nat) : cutV (wV ws) (some (i : Int)) (some ((i + k : Nat) : Int)) = wV ((ws.drop i).take k) := by
  unfold cutV
  rw [HT.sIx_nat, HT.sIx_nat, wV_length]
  by_cases h : i ≤ ws.length
  · rw [Nat.min_eq_left h]
    by_cases h2 : i + k ≤ ws.length
    · rw [Nat.min_eq_left h2, show i + k - i = k by omega]
      unfold wV
      rw [List.map_take, List.map_take, List.map_drop, List.map_drop]
    · rw [Nat.min_eq_right (by omega), List.take_of_length_le (by rw [List.length_drop, wV_length]; omega), List.take_of_length_le (by rw [List.length_drop]; omega)]
      unfold wV
      rw [List.map_drop, List.map_drop]
  · rw [Nat.min_eq_right (by omega), Nat.min_eq_right (by omega), Nat.sub_self, List.take_zero, List.drop_eq_nil_of_le (by omega : ws.length ≤ i), List.take_nil]; rfl
theorem sumS : ∀ a : List (List Nat), ((a.map S).map (·.length)).sum + a.length = (a.map fun w => w.length + 1).sum
  | [] => rfl
  | w :: r => by
    have ih := sumS r
    show ((S w).length + ((r.map S).map (·.length)).sum) + (r.length + 1) = (w.length + 1) + (r.map fun w => w.length + 1).sum
    rw [S_len]; omega
def some16 : List V := [V.str (Str.ofString ""), V.str (Str.ofString "("), V.str (Str.ofString ")"), V.str (Str.ofString "&"), V.str (Str.ofString "|"), V.str (Str.ofString "fixed"), V.str (Str.ofString "divided"), V.str (Str.ofString "by"), V.str (Str.ofString "0"), V.str (Str.ofString "1"), V.str (Str.ofString "24"), V.str (Str.ofString "25"), V.str (Str.ofString "-1"), V.str (Str.ofString "-1000"), V.str (Str.ofString "-1001"), V.str (Str.ofString "1001")]
def some9 : List V := [V.str (Str.ofString "1" ++ S (List.replicate (30 : Int).toNat [48]).flatten), V.str (Str.ofString "1" ++ S (List.replicate (31 : Int).toNat [48]).flatten), V.str (Str.ofString "-0"), V.str (Str.ofString "a"), V.str (Str.ofString "fixed 3"), V.str (Str.ofString "( fixed 1"), V.str (Str.ofString "divided 1 1 2"), V.str (Str.ofString "2\n"), V.str (Str.ofString "07")]
theorem some25_ok {v : V} (h : v ∈ some16 ++ some9) : ∃ w, v = V.str (S w) ∧ (∀ c ∈ w, c < 128) ∧ w.length ≤ 36 ∧ (wds w).length ≤ 4 := by
  unfold some16 some9 at h
  simp only [List.cons_append, List.nil_append, List.mem_cons, List.not_mem_nil, or_false] at h
  rcases h with rfl | rfl | rfl | rfl | rfl | rfl | rfl | rfl | rfl | rfl | rfl | rfl | rfl | rfl | rfl | rfl | rfl | rfl | rfl | rfl | rfl | rfl | rfl | rfl | rfl
  · exact ⟨[], rfl, by decide, by decide, by decide +kernel⟩
  · exact ⟨[40], rfl, by decide, by decide, by decide +kernel⟩
  · exact ⟨[41], rfl, by decide, by decide, by decide +kernel⟩
  · exact ⟨[38], rfl, by decide, by decide, by decide +kernel⟩
  · exact ⟨[124], rfl, by decide, by decide, by decide +kernel⟩
  · exact ⟨[102, 105, 120, 101, 100], rfl, by decide, by decide, by decide +kernel⟩
  · exact ⟨[100, 105, 118, 105, 100, 101, 100], rfl, by decide, by decide, by decide +kernel⟩
  · exact ⟨[98, 121], rfl, by decide, by decide, by decide +kernel⟩
  · exact ⟨[48], rfl, by decide, by decide, by decide +kernel⟩
  · exact ⟨[49], rfl, by decide, by decide, by decide +kernel⟩
  · exact ⟨[50, 52], rfl, by decide, by decide, by decide +kernel⟩
  · exact ⟨[50, 53], rfl, by decide, by decide, by decide +kernel⟩
  · exact ⟨[45, 49], rfl, by decide, by decide, by decide +kernel⟩
  · exact ⟨[45, 49, 48, 48, 48], rfl, by decide, by decide, by decide +kernel⟩
  · exact ⟨[45, 49, 48, 48, 49], rfl, by decide, by decide, by decide +kernel⟩
  · exact ⟨[49, 48, 48, 49], rfl, by decide, by decide, by decide +kernel⟩
  · exact ⟨[49] ++ (List.replicate (30 : Int).toNat [48]).flatten, congrArg V.str (S_cat [49] _), by decide +kernel, by decide +kernel, by decide +kernel⟩
  · exact ⟨[49] ++ (List.replicate (31 : Int).toNat [48]).flatten, congrArg V.str (S_cat [49] _), by decide +kernel, by decide +kernel, by decide +kernel⟩
  · exact ⟨[45, 48], rfl, by decide, by decide, by decide +kernel⟩
  · exact ⟨[97], rfl, by decide, by decide, by decide +kernel⟩
  · exact ⟨[102, 105, 120, 101, 100, 32, 51], rfl, by decide, by decide, by decide +kernel⟩
  · exact ⟨[40, 32, 102, 105, 120, 101, 100, 32, 49], rfl, by decide, by decide, by decide +kernel⟩
  · exact ⟨[100, 105, 118, 105, 100, 101, 100, 32, 49, 32, 49, 32, 50], rfl, by decide, by decide, by decide +kernel⟩
  · exact ⟨[50, 10], rfl, by decide, by decide, by decide +kernel⟩
  · exact ⟨[48, 55], rfl, by decide, by decide, by decide +kernel⟩
def spBen : Sp := fun vs H Q _ => ∃ (p pl : Addr) (n k : Nat) (cs : List Nat), vs = [.ref p, .str (S cs)] ∧ PgK k cs ∧ k ≤ 9 ∧ Pen H p pl n ∧ n ≤ 900000 ∧
  ∀ (ds : List Nat) (H' : Hp), PgK (k + 1) ds → Pen H' p pl (n + 3) → Kp p H H' → Q (.str (S ds)) H'
section
variable {P : Program} {w : World} {K : PySem.W.Frag} {mg : Str → Option Value} {base : Heap}
theorem scBen : FnScope ["_law_pen_here", "_law_page", "_law_words", "_law_some", "_law_wordy", "_law_way", "_law_at_so"] ["_law_pen_here", "_law_page"] (C8.fnScope sBen) := C8.fnScope_by (by decide +kernel)
theorem cal_ben {f : Addr} {fd : FuncData} (F : C8.Def K mg "_law_bent" sBen f fd) (b : Binds K fd ["_law_pen_here", "_law_page"] []) (T : Txt mg) (D0 : C8.Cal P w K mg base 1 "_law_draw" spDraw []) (DP : C8.Cal P w K mg base 2 "_law_pick" (spPick K) []) : C8.Cal P w K mg base 3 "_law_bent" spBen [] := by
  refine C8.cal0 F b .nil scBen (fun vs H Q E h => ?_) (fun cdv A outer st H vs Q E hr h => ?_)
  · obtain ⟨p, pl, n, k, cs, rfl, _⟩ := h
    rfl
  · obtain ⟨p, pl, n, kk, cs, rfl, pg, k9, hp, hn, k⟩ := h
    refine ⟨_, (pss_cons (ps_set (i := 2) scBen.nd rfl (Or.inl rfl) (pe_split (pv 1) pe_str))
  (pss_cons (ps_par (i := 5) (j := 6) rfl scBen.nd rfl rfl (by decide) rfl rfl (pa_cons (C8.pe_c D0 hr (by decide) (by rfl) (pa_cons (pv 0) (pa_cons pe_int pa_nil))) (pa_cons (C8.pe_c D0 hr (by decide) (by rfl) (pa_cons (pv 0) (pa_cons (pe_op op_add (pe_callB call_len_seq (by rfl) T.n_len (by decide +kernel) (pa_cons (pv 2) pa_nil)) pe_int) pa_nil))) pa_nil)) (by rfl))
  (pss_cons (ps_set (i := 3) scBen.nd rfl (Or.inl rfl) (pe_lst (pa_cons pe_str (pa_cons pe_str (pa_cons pe_str (pa_cons pe_str (pa_cons pe_str (pa_cons pe_str (pa_cons pe_str (pa_cons pe_str (pa_cons pe_str (pa_cons pe_str (pa_cons pe_str (pa_cons pe_str (pa_cons pe_str (pa_cons pe_str (pa_cons pe_str (pa_cons pe_str pa_nil))))))))))))))))))
  (pss_cons (ps_set (i := 3) scBen.nd rfl (Or.inl rfl) (pe_op op_cat (pv 3) (pe_lst (pa_cons (pe_op op_add_str pe_str (pe_op op_mulS pe_str pe_int)) (pa_cons (pe_op op_add_str pe_str (pe_op op_mulS pe_str pe_int)) (pa_cons pe_str (pa_cons pe_str (pa_cons pe_str (pa_cons pe_str (pa_cons pe_str (pa_cons pe_str (pa_cons pe_str pa_nil))))))))))))
  (pss_cons (ps_set (i := 4) scBen.nd rfl (Or.inl rfl) (C8.pe_c DP hr (by decide) (by rfl) (pa_cons (pv 0) (pa_cons (pv 3) pa_nil))))
  (pss_cons (ps_if (pt_cmpR op_eq (pv 5) pe_int (nomark _)) (pss_one (ps_ret (pe_join pe_str (pe_op op_cat (pe_op op_cat (pe_slice sl_list (pv 2) po_none (po_some (pv 6))) (pe_lst (pa_cons (pv 4) pa_nil))) (pe_slice sl_list (pv 2) (po_some (pv 6)) po_none))))) pss_nil)
  (pss_cons (ps_if (pt_cmpR op_eq (pv 5) pe_int (nomark _)) (pss_one (ps_ret (pe_join pe_str (pe_op op_cat (pe_slice sl_list (pv 2) po_none (po_some (pv 6))) (pe_slice sl_list (pv 2) (po_some (pe_op op_add (pv 6) pe_int)) po_none))))) pss_nil)
  (pss_cons (ps_if (pt_cmpR op_eq (pv 5) pe_int (nomark _)) (pss_one (ps_ret (pe_join pe_str (pe_op op_cat (pe_op op_cat (pe_slice sl_list (pv 2) po_none (po_some (pv 6))) (pe_lst (pa_cons (pv 4) pa_nil))) (pe_slice sl_list (pv 2) (po_some (pe_op op_add (pv 6) pe_int)) po_none))))) pss_nil)
  (pss_cons (ps_if (pt_cmpR op_eq (pv 5) pe_int (nomark _)) (pss_one (ps_ret (pe_join pe_str (pe_op op_cat (pe_op op_cat (pe_slice sl_list (pv 2) po_none (po_some (pv 6))) (pe_slice sl_list (pv 2) (po_some (pv 6)) (po_some (pe_op op_add (pv 6) pe_int)))) (pe_slice sl_list (pv 2) (po_some (pv 6)) po_none))))) pss_nil)
  (pss_one (ps_ret (pe_join pe_str (pe_op op_cat (pe_op op_cat (pe_slice sl_list (pv 2) po_none (po_some (pv 6))) (pe_revL (pe_slice sl_list (pv 2) (po_some (pv 6)) (po_some (pe_op op_add (pv 6) pe_int))))) (pe_slice sl_list (pv 2) (po_some (pe_op op_add (pv 6) pe_int)) po_none)))))))))))))), ?_⟩
    have pl1 := pg.l
    have hs : (S cs).length + 2 ≤ sizeLine := by rw [S_len]; exact Nat.le_trans (by omega : cs.length + 2 ≤ 2000) (by decide)
    refine ⟨_, rfl, ⟨_, rfl⟩, _, _, rfl, rfl, by rfl, hs, fun l fl => ?_⟩
    rw [split_wds]
    generalize hL : upd H l _ = H1
    have s1 : Same H H1 := by rw [← hL]; exact same_new fl
    have hl1 : H1 l = some (.lst (wV (wds cs))) := by rw [← hL]; exact upd_same
    clear hL
    have lp : l ≠ p := hp.ne_new fl
    have pg0 := pg
    have pn := pg.n
    generalize hws : wds cs = ws at *
    dsimp only [gName, tSeq]
    refine ⟨_, rfl, p, pl, n, 5, rfl, by decide, by decide, hp.keep s1, by omega, fun r1 H2 r10 r11 hp2 k2 => ?_⟩
    have hl2 := k2 _ _ lp hl1
    refine ⟨_, rfl, _, rfl, l, _, rfl, .inl (SqL.of hl2), _, _, rfl, rfl, p, pl, _, _, rfl, (by rw [wV_length]; omega), (by rw [wV_length]; omega), hp2, by omega, fun r2 H3 r20 r21 hp3 k3 => ⟨_, _, rfl, ?_⟩⟩
    rw [wV_length] at r21
    have hl3 := k3 _ _ lp hl2
    dsimp only [gName, tSeq, List.set]
    refine ⟨(by show 16 ≤ sizeLine; decide), fun q0 f0 => ⟨_, rfl, [48], 30, rfl, rfl, by decide, by decide, by decide, _, _, rfl, rfl, by decide +kernel, [48], 31, rfl, rfl, by decide, by decide, by decide, _, _, rfl, rfl, by decide +kernel, (by show 9 ≤ sizeLine; decide), fun q1 f1 => ⟨q0, q1, some16, some9, rfl, rfl, same_new f1 _ _ upd_same, upd_same, (by show 25 ≤ sizeLine; decide), fun q fq => ?_⟩⟩⟩
    have sq := ((same_new (o := HO.lst some16) f0).trans (same_new (o := HO.lst some9) f1)).trans (same_new (o := HO.lst (some16 ++ some9)) fq)
    have hq : upd (upd (upd H3 q0 (.lst some16)) q1 (.lst some9)) q (.lst (some16 ++ some9)) q = some (.lst (some16 ++ some9)) := upd_same
    have qp : q ≠ p := ((hp3.keep (same_new (o := HO.lst some16) f0)).keep (same_new (o := HO.lst some9) f1)).ne_new fq
    generalize hG : upd (upd (upd H3 q0 _) q1 _) q _ = H4
    have sq : Same H3 H4 := by rw [← hG]; exact sq
    have hq : H4 q = some (.lst (some16 ++ some9)) := by rw [← hG]; exact hq
    clear hG
    dsimp only [gName, tSeq]
    refine ⟨_, rfl, _, rfl, p, pl, q, _, some16 ++ some9, rfl, hp3.keep sq, by omega, SqL.of hq, qp, (by show 0 < 25; decide), (by show 25 < 1000000; decide), fun j v H5 hj hp5 k5 => ?_⟩
    dsimp only [gName, tSeq]
    obtain ⟨w, rfl, w1, w2, w3⟩ := some25_ok (List.mem_of_getElem? hj)
    have hl5 := k5 _ _ lp (sq _ _ hl3)
    have kp5 : Kp p H H5 := ((((Kp.of s1).trans k2).trans k3).trans (.of sq)).trans k5
    obtain ⟨i, rfl⟩ : ∃ i : Nat, r2 = (i : Int) := ⟨r2.toNat, by omega⟩
    have hi : i ≤ ws.length := by omega
    clear hq sq k2 k3 k5 s1 hj hp2 hp3 hl1 hl2 hl3 fl f0 f1 fq qp
    have hsum : (ws.map fun w => w.length + 1).sum = cs.length + 1 := by
      have := joinL_sum (wds cs) (wds_ne cs)
      rw [join_wds _ cs (Nat.le_refl _), hws] at this
      exact this.symm
    have fin : ∀ (a : List (List Nat)) (H' : Hp), Same H5 H' → Bd ws w a → Q (.str (S (joinL [32] a))) H' := fun a H' s b => k _ _ (Bd.page pg w1 w2 w3 (by rw [hws]; exact b)) (hp5.keep s) (kp5.trans (.of s))
    have wl : ∀ x ∈ ws, x.length + 1 ≤ 37 := fun x hx => by have := pg.w x (by rw [hws]; exact hx); omega
    have jn : ∀ (c : Addr) (H' : Hp) (a : List (List Nat)) (xs : List V), xs = wV a → Same H5 H' → H' c = some (.lst xs) → Bd ws w a →
        ∃ (s : Str) (p : Addr) (ys : List Str), V.str (Str.ofString " ") = .str s ∧ [V.ref c] = [V.ref p] ∧ (SqL K H' p (ys.map V.str) ∨ SqT K H' p (ys.map V.str)) ∧ (ys.map (·.length)).sum + ys.length * s.length ≤ 16777216 ∧ Q (.str (Txt.join s ys)) H' := fun c H' a xs ex s hc b => by
      subst ex
      refine ⟨_, c, a.map S, rfl, rfl, .inl (SqL.of hc), ?_, ?_⟩
      · have h1 := sumS a
        have h2 := b.2 (fun w => w.length + 1) 37 (by show w.length + 1 ≤ 37; omega) wl
        rw [List.length_map, show (Str.ofString " ").length = 1 from rfl]
        omega
      · rw [show (Str.ofString " ") = S [32] from rfl, join_S]
        exact fin a H' s b
    have app : ∀ a b : List (List Nat), wV a ++ wV b = wV (a ++ b) := fun a b => by unfold wV; rw [List.map_append, List.map_append]
    have lV : ∀ a : List (List Nat), (wV a).length = a.length := fun a => by unfold wV; rw [List.length_map, List.length_map]
    have lT : ∀ n, (ws.take n).length ≤ 100 := fun n => by rw [List.length_take]; omega
    have lD : ∀ n, (ws.drop n).length ≤ 100 := fun n => by rw [List.length_drop]; omega
    have lDT : ∀ n m, ((ws.drop n).take m).length ≤ 100 := fun n m => by rw [List.length_take, List.length_drop]; omega
    have eA := cutA ws hi
    have eB : cutV (wV ws) (some ((i : Int) + 1)) none = wV (ws.drop (i + 1)) := cutB ws (i + 1)
    have eB2 : cutV (wV ws) (some ((i : Int) + 2)) none = wV (ws.drop (i + 2)) := cutB ws (i + 2)
    have eC := cutB ws i
    have eD : cutV (wV ws) (some (i : Int)) (some ((i : Int) + 1)) = wV ((ws.drop i).take 1) := cutC ws i 1
    have eD2 : cutV (wV ws) (some (i : Int)) (some ((i : Int) + 2)) = wV ((ws.drop i).take 2) := cutC ws i 2
    have big : 1000 ≤ sizeLine := by decide
    have la := lT i
    have lb := lD i
    have lb1 := lD (i + 1)
    have lb2 := lD (i + 2)
    have lc1 := lDT i 1
    have lc2 := lDT i 2
    refine ⟨_, rfl, rfl, _, rfl, ite2 (fun c0 => ?_) (fun c0 => ?_)⟩
    · refine ⟨⟨_, rfl⟩, _, rfl, _, rfl, _, rfl, l, _, rfl, SqL.of hl5, fun c1 f1 => ?_⟩
      rw [eA]
      refine ⟨_, rfl, (by show 1 ≤ sizeLine; decide), fun c2 f2 => ⟨c1, c2, _, _, rfl, rfl, same_new f2 _ _ upd_same, upd_same, (by rw [lV]; show (ws.take i).length + 1 ≤ _; omega), fun c3 f3 => ?_⟩⟩
      have sx := ((same_new (o := HO.lst (wV (ws.take i))) f1).trans (same_new (o := HO.lst [V.str (S w)]) f2)).trans (same_new (o := HO.lst (wV (ws.take i) ++ [V.str (S w)])) f3)
      refine ⟨_, rfl, _, rfl, _, rfl, l, _, rfl, SqL.of (sx _ _ hl5), fun c4 f4 => ?_⟩
      rw [eC]
      refine ⟨c3, c4, _, _, rfl, rfl, same_new f4 _ _ upd_same, upd_same, (by rw [List.length_append, lV, lV]; show (ws.take i).length + 1 + (ws.drop i).length ≤ _; omega), fun c5 f5 => ?_⟩
      exact jn c5 _ (ws.take i ++ [w] ++ ws.drop i) _ (by rw [← app, ← app]; rfl) ((sx.trans (same_new f4)).trans (same_new f5)) upd_same (bd0 ws w i)
    refine ⟨_, rfl, rfl, _, rfl, ite2 (fun c0 => ?_) (fun c0 => ?_)⟩
    · refine ⟨⟨_, rfl⟩, _, rfl, _, rfl, _, rfl, l, _, rfl, SqL.of hl5, fun c1 f1 => ?_⟩
      rw [eA]
      have sx := same_new (o := HO.lst (wV (ws.take i))) f1
      refine ⟨_, rfl, _, rfl, _, _, rfl, rfl, _, rfl, l, _, rfl, SqL.of (sx _ _ hl5), fun c4 f4 => ?_⟩
      rw [eB]
      refine ⟨c1, c4, _, _, rfl, rfl, same_new f4 _ _ upd_same, upd_same, (by rw [lV, lV]; omega), fun c5 f5 => ?_⟩
      exact jn c5 _ (ws.take i ++ ws.drop (i + 1)) _ (by rw [← app]) ((sx.trans (same_new f4)).trans (same_new f5)) upd_same (bd1 ws w i)
    refine ⟨_, rfl, rfl, _, rfl, ite2 (fun c0 => ?_) (fun c0 => ?_)⟩
    · refine ⟨⟨_, rfl⟩, _, rfl, _, rfl, _, rfl, l, _, rfl, SqL.of hl5, fun c1 f1 => ?_⟩
      rw [eA]
      refine ⟨_, rfl, (by show 1 ≤ sizeLine; decide), fun c2 f2 => ⟨c1, c2, _, _, rfl, rfl, same_new f2 _ _ upd_same, upd_same, (by rw [lV]; show (ws.take i).length + 1 ≤ _; omega), fun c3 f3 => ?_⟩⟩
      have sx := ((same_new (o := HO.lst (wV (ws.take i))) f1).trans (same_new (o := HO.lst [V.str (S w)]) f2)).trans (same_new (o := HO.lst (wV (ws.take i) ++ [V.str (S w)])) f3)
      refine ⟨_, rfl, _, rfl, _, _, rfl, rfl, _, rfl, l, _, rfl, SqL.of (sx _ _ hl5), fun c4 f4 => ?_⟩
      rw [eB]
      refine ⟨c3, c4, _, _, rfl, rfl, same_new f4 _ _ upd_same, upd_same, (by rw [List.length_append, lV, lV]; show (ws.take i).length + 1 + (ws.drop (i + 1)).length ≤ _; omega), fun c5 f5 => ?_⟩
      exact jn c5 _ (ws.take i ++ [w] ++ ws.drop (i + 1)) _ (by rw [← app, ← app]; rfl) ((sx.trans (same_new f4)).trans (same_new f5)) upd_same (bd2 ws w i)
    refine ⟨_, rfl, rfl, _, rfl, ite2 (fun c0 => ?_) (fun c0 => ?_)⟩
    · refine ⟨⟨_, rfl⟩, _, rfl, _, rfl, _, rfl, l, _, rfl, SqL.of hl5, fun c1 f1 => ?_⟩
      rw [eA]
      have sx := same_new (o := HO.lst (wV (ws.take i))) f1
      refine ⟨_, rfl, _, rfl, _, rfl, _, rfl, _, _, rfl, rfl, _, rfl, l, _, rfl, SqL.of (sx _ _ hl5), fun c2 f2 => ?_⟩
      rw [eD]
      refine ⟨c1, c2, _, _, rfl, rfl, same_new f2 _ _ upd_same, upd_same, (by rw [lV, lV]; omega), fun c3 f3 => ?_⟩
      have sy := (sx.trans (same_new (o := HO.lst (wV ((ws.drop i).take 1))) f2)).trans (same_new (o := HO.lst (wV (ws.take i) ++ wV ((ws.drop i).take 1))) f3)
      refine ⟨_, rfl, _, rfl, _, rfl, l, _, rfl, SqL.of (sy _ _ hl5), fun c4 f4 => ?_⟩
      rw [eC]
      refine ⟨c3, c4, _, _, rfl, rfl, same_new f4 _ _ upd_same, upd_same, (by rw [List.length_append, lV, lV, lV]; omega), fun c5 f5 => ?_⟩
      exact jn c5 _ (ws.take i ++ (ws.drop i).take 1 ++ ws.drop i) _ (by rw [← app, ← app]) ((sy.trans (same_new f4)).trans (same_new f5)) upd_same (bd3 ws w i)
    · refine ⟨⟨_, rfl⟩, _, rfl, _, rfl, _, rfl, l, _, rfl, SqL.of hl5, fun c1 f1 => ?_⟩
      rw [eA]
      have sx := same_new (o := HO.lst (wV (ws.take i))) f1
      refine ⟨_, rfl, _, rfl, _, rfl, _, rfl, _, _, rfl, rfl, _, rfl, l, _, rfl, SqL.of (sx _ _ hl5), fun c2 f2 => ?_⟩
      rw [eD2]
      refine ⟨c2, _, rfl, SqL.of upd_same, fun c3 f3 => ⟨c1, c3, _, _, rfl, rfl, ((same_new f2).trans (same_new f3)) _ _ upd_same, upd_same, (by rw [List.length_reverse, lV, lV]; omega), fun c4 f4 => ?_⟩⟩
      have eR : (wV ((ws.drop i).take 2)).reverse = wV ((ws.drop i).take 2).reverse := by unfold wV; rw [List.map_reverse, List.map_reverse]
      rw [eR]
      have sy := ((sx.trans (same_new (o := HO.lst (wV ((ws.drop i).take 2))) f2)).trans (same_new (o := HO.lst (wV ((ws.drop i).take 2).reverse)) (by rw [← eR] at *; exact f3))).trans (same_new (o := HO.lst (wV (ws.take i) ++ wV ((ws.drop i).take 2).reverse)) (by rw [← eR] at *; exact f4))
      refine ⟨_, rfl, _, rfl, _, _, rfl, rfl, _, rfl, l, _, rfl, SqL.of (sy _ _ hl5), fun c5 f5 => ?_⟩
      rw [eB2]
      refine ⟨c4, c5, _, _, rfl, rfl, same_new f5 _ _ upd_same, upd_same, (by rw [List.length_append, lV, lV, lV, List.length_reverse]; omega), fun c6 f6 => ?_⟩
      exact jn c6 _ (ws.take i ++ ((ws.drop i).take 2).reverse ++ ws.drop (i + 2)) _ (by rw [← app, ← app]) ((sy.trans (same_new f5)).trans (same_new f6)) upd_same (bd4 ws w i)
end
end Lw
namespace Lw
open PySem PySem.Spec PyProof.Rows L2
open SX PySem.NumText TL LamX ClX
abbrev sHea : Stmt := top 50
/-- a caught error's class -/
structure HrdC (K : PySem.W.Frag) (D L : Addr) : Prop where
  xf : XfC K D
  xc : Hx.XCls K D
  me : PySem.W.kitOne K (.ref D) (.ref D) = some true
  ex : PySem.W.exmOne K (.ref D) (.ref L) = some true
structure Hrd (K : PySem.W.Frag) (mg : Str → Option Value) (DU DS DR DT DX DM L : Addr) : Prop where
  ml : mg "LateError" = some (.ref L)
  cDU : HrdC K DU L
  mDU : mg "BadRule" = some (.ref DU)
  nDU_part : PySem.W.findIn K (.ref DU) "part" = some none
  kDU_DS : PySem.W.kitOne K (.ref DU) (.ref DS) = some false
  kDU_DR : PySem.W.kitOne K (.ref DU) (.ref DR) = some false
  kDU_DT : PySem.W.kitOne K (.ref DU) (.ref DT) = some false
  kDU_DX : PySem.W.kitOne K (.ref DU) (.ref DX) = some false
  kDU_DM : PySem.W.kitOne K (.ref DU) (.ref DM) = some false
  cDS : HrdC K DS L
  mDS : mg "BadSize" = some (.ref DS)
  nDS_value : PySem.W.findIn K (.ref DS) "value" = some none
  kDS_DU : PySem.W.kitOne K (.ref DS) (.ref DU) = some false
  kDS_DR : PySem.W.kitOne K (.ref DS) (.ref DR) = some false
  kDS_DT : PySem.W.kitOne K (.ref DS) (.ref DT) = some false
  kDS_DX : PySem.W.kitOne K (.ref DS) (.ref DX) = some false
  kDS_DM : PySem.W.kitOne K (.ref DS) (.ref DM) = some false
  cDR : HrdC K DR L
  mDR : mg "BadRest" = some (.ref DR)
  nDR_value : PySem.W.findIn K (.ref DR) "value" = some none
  kDR_DU : PySem.W.kitOne K (.ref DR) (.ref DU) = some false
  kDR_DS : PySem.W.kitOne K (.ref DR) (.ref DS) = some false
  kDR_DT : PySem.W.kitOne K (.ref DR) (.ref DT) = some false
  kDR_DX : PySem.W.kitOne K (.ref DR) (.ref DX) = some false
  kDR_DM : PySem.W.kitOne K (.ref DR) (.ref DM) = some false
  cDT : HrdC K DT L
  mDT : mg "BadTotal" = some (.ref DT)
  nDT_value : PySem.W.findIn K (.ref DT) "value" = some none
  kDT_DU : PySem.W.kitOne K (.ref DT) (.ref DU) = some false
  kDT_DS : PySem.W.kitOne K (.ref DT) (.ref DS) = some false
  kDT_DR : PySem.W.kitOne K (.ref DT) (.ref DR) = some false
  kDT_DX : PySem.W.kitOne K (.ref DT) (.ref DX) = some false
  kDT_DM : PySem.W.kitOne K (.ref DT) (.ref DM) = some false
  cDX : HrdC K DX L
  mDX : mg "BadText" = some (.ref DX)
  nDX_line : PySem.W.findIn K (.ref DX) "line" = some none
  nDX_word : PySem.W.findIn K (.ref DX) "word" = some none
  kDX_DU : PySem.W.kitOne K (.ref DX) (.ref DU) = some false
  kDX_DS : PySem.W.kitOne K (.ref DX) (.ref DS) = some false
  kDX_DR : PySem.W.kitOne K (.ref DX) (.ref DR) = some false
  kDX_DT : PySem.W.kitOne K (.ref DX) (.ref DT) = some false
  kDX_DM : PySem.W.kitOne K (.ref DX) (.ref DM) = some false
  cDM : HrdC K DM L
  mDM : mg "TooMany" = some (.ref DM)
  nDM_what : PySem.W.findIn K (.ref DM) "what" = some none
  nDM_most : PySem.W.findIn K (.ref DM) "most" = some none
  kDM_DU : PySem.W.kitOne K (.ref DM) (.ref DU) = some false
  kDM_DS : PySem.W.kitOne K (.ref DM) (.ref DS) = some false
  kDM_DR : PySem.W.kitOne K (.ref DM) (.ref DR) = some false
  kDM_DT : PySem.W.kitOne K (.ref DM) (.ref DT) = some false
  kDM_DX : PySem.W.kitOne K (.ref DM) (.ref DX) = some false
/-- what is heard of an exception -/
def HeardX (K : PySem.W.Frag) (DU DS DR DT DX DM : Addr) (Q : VK) (cls : Value) (d : Option Addr) (H1 : Hp) : Prop :=
  (cls = .ref DU ∧ ∃ (dd : Addr) (fs : List (Str × V)) (v0 : V) , d = some dd ∧ H1 dd = some (.xd fs) ∧ fs.lookup ("part" : Str) = some v0 ∧ ∀ t H3, Same H1 H3 → H1 t = none → H3 t = some (.tup [.str (Str.ofString "rule"), v0]) → Q (.ref t) H3) ∨
  (cls = .ref DS ∧ ∃ (dd : Addr) (fs : List (Str × V)) (v0 : V) (z0 : Str), d = some dd ∧ H1 dd = some (.xd fs) ∧ fs.lookup ("value" : Str) = some v0 ∧ Rp K H1 v0 z0 ∧ ∀ t H3, Same H1 H3 → H1 t = none → H3 t = some (.tup [.str (Str.ofString "size"), .str z0]) → Q (.ref t) H3) ∨
  (cls = .ref DR ∧ ∃ (dd : Addr) (fs : List (Str × V)) (v0 : V) (z0 : Str), d = some dd ∧ H1 dd = some (.xd fs) ∧ fs.lookup ("value" : Str) = some v0 ∧ Rp K H1 v0 z0 ∧ ∀ t H3, Same H1 H3 → H1 t = none → H3 t = some (.tup [.str (Str.ofString "rest"), .str z0]) → Q (.ref t) H3) ∨
  (cls = .ref DT ∧ ∃ (dd : Addr) (fs : List (Str × V)) (v0 : V) (z0 : Str), d = some dd ∧ H1 dd = some (.xd fs) ∧ fs.lookup ("value" : Str) = some v0 ∧ Rp K H1 v0 z0 ∧ ∀ t H3, Same H1 H3 → H1 t = none → H3 t = some (.tup [.str (Str.ofString "total"), .str z0]) → Q (.ref t) H3) ∨
  (cls = .ref DX ∧ ∃ (dd : Addr) (fs : List (Str × V)) (v0 : V) (v1 : V) , d = some dd ∧ H1 dd = some (.xd fs) ∧ fs.lookup ("line" : Str) = some v0 ∧ fs.lookup ("word" : Str) = some v1 ∧ ∀ t H3, Same H1 H3 → H1 t = none → H3 t = some (.tup [.str (Str.ofString "text"), v0, v1]) → Q (.ref t) H3) ∨
  (cls = .ref DM ∧ ∃ (dd : Addr) (fs : List (Str × V)) (v0 : V) (v1 : V) , d = some dd ∧ H1 dd = some (.xd fs) ∧ fs.lookup ("what" : Str) = some v0 ∧ fs.lookup ("most" : Str) = some v1 ∧ ∀ t H3, Same H1 H3 → H1 t = none → H3 t = some (.tup [.str (Str.ofString "many"), v0, v1]) → Q (.ref t) H3)
def HeardV (Q : VK) (x : V) (H1 : Hp) : Prop := ∀ t H3, Same H1 H3 → H1 t = none → H3 t = some (.lst [x]) → Q (.ref t) H3
def TTheard (K : PySem.W.Frag) (DU DS DR DT DX DM : Addr) : (XK → Hp → VK → Prop) → Hp → VK → Prop := fun tl H Q => ∀ H2, Same H H2 → tl (HeardX K DU DS DR DT DX DM Q) H2 (HeardV Q)
abbrev NHea : List Str := ["_law_ask", "_law_caught", "error"]
theorem scHea : FnScope NHea ["_law_ask"] (C8.fnScope sHea) := C8.fnScope_by (by decide +kernel)
theorem pe_weak {X : Cx} {e : Expr} {te : TE} (he : PE X e te) : PE X e (fun σ H Q => ∃ Qx : VK, te σ H Qx ∧ ∀ x H1, Qx x H1 → Q x H1) :=
  ⟨fun pins s σ H Q I ⟨Qx, h, m⟩ => wpAny_mono (he.run pins s σ H Qx I h) (fun v s' ⟨x, H', I', r, q⟩ => ⟨x, H', I', r, m _ _ q⟩) (fun _ _ e => e)⟩
theorem heard_gives {X : Cx} {q : Str} {g DU DS DR DT DX DM L : Addr} {cdg : Value} (R : Hrd X.K X.mg DU DS DR DT DX DM L) (T : Txt X.mg) (hG : X.A.guards = some []) (hr0 : Room 1 X.A) :
    GivesTo X NHea "_law_heard" (C8.fnScope sHea) g cdg (C8.fnBody sHea) "_law_ask" q (TTheard X.K DU DS DR DT DX DM) := by
  intro f c' s H Q tl act hc h
  have hr : Room 0 (cxOf C8.CX0 X.prog X.w X.K X.mg X.base NHea "_law_heard" (C8.fnScope sHea) g cdg X.A X.stack s H C8.E0).nox.A := hr0.deeper _
  have hG' : (cxOf C8.CX0 X.prog X.w X.K X.mg X.base NHea "_law_heard" (C8.fnScope sHea) g cdg X.A X.stack s H C8.E0).nox.A.guards = some [] := hG
  refine ⟨_, pss_cons (ps_set (i := 1) scHea.nd rfl (Or.inl rfl) pe_non)
    (pss_cons (ps_try_held (X := (cxOf C8.CX0 X.prog X.w X.K X.mg X.base NHea "_law_heard" (C8.fnScope sHea) g cdg X.A X.stack s H C8.E0).nox) (c := .ref L) (i := 2)
      (tb := fun W Dn σ H => ∃ Ech : XK, (∀ cls d σ' H', Ech cls d H' → W cls d σ' H') ∧ σ[0]? = some (some (.ref f)) ∧ H c' = some (CodeO c' q) ∧ ∃ Qx : VK, tl Ech H Qx ∧ ∀ x H1, Qx x H1 → ∀ p, H1 p = none → Dn.rt (.ref p) (upd H1 p (.lst [x])))
      rfl rfl scHea.nd rfl (by rfl) ⟨by rfl, by decide, .inl R.ml⟩ rfl (fun W pn xe tk _ => ?_) (fun a oe cls d pn _ _ => pss_one (ps_set (i := 1) scHea.nd rfl (Or.inl rfl) (pv 2))))
    (pss_cons (ps_if (pt_val (pe_callB call_isw (by rfl) T.n_isinstance (by decide +kernel) (pa_cons (pv 1) (pa_cons (pe_glob (v := .ref DU) (by rfl) R.mDU rfl) pa_nil)))) (pss_one (ps_ret (pe_tup (pa_cons pe_str (pa_cons (pe_held R.cDU.xf R.nDU_part (pv 1)) pa_nil))))) pss_nil)
    (pss_cons (ps_if (pt_val (pe_callB call_isw (by rfl) T.n_isinstance (by decide +kernel) (pa_cons (pv 1) (pa_cons (pe_glob (v := .ref DS) (by rfl) R.mDS rfl) pa_nil)))) (pss_one (ps_ret (pe_tup (pa_cons pe_str (pa_cons (pe_callB (call_reprX hG' hr) (by rfl) T.n_repr (by decide +kernel) (pa_cons (pe_held R.cDS.xf R.nDS_value (pv 1)) pa_nil)) pa_nil))))) pss_nil)
    (pss_cons (ps_if (pt_val (pe_callB call_isw (by rfl) T.n_isinstance (by decide +kernel) (pa_cons (pv 1) (pa_cons (pe_glob (v := .ref DR) (by rfl) R.mDR rfl) pa_nil)))) (pss_one (ps_ret (pe_tup (pa_cons pe_str (pa_cons (pe_callB (call_reprX hG' hr) (by rfl) T.n_repr (by decide +kernel) (pa_cons (pe_held R.cDR.xf R.nDR_value (pv 1)) pa_nil)) pa_nil))))) pss_nil)
    (pss_cons (ps_if (pt_val (pe_callB call_isw (by rfl) T.n_isinstance (by decide +kernel) (pa_cons (pv 1) (pa_cons (pe_glob (v := .ref DT) (by rfl) R.mDT rfl) pa_nil)))) (pss_one (ps_ret (pe_tup (pa_cons pe_str (pa_cons (pe_callB (call_reprX hG' hr) (by rfl) T.n_repr (by decide +kernel) (pa_cons (pe_held R.cDT.xf R.nDT_value (pv 1)) pa_nil)) pa_nil))))) pss_nil)
    (pss_cons (ps_if (pt_val (pe_callB call_isw (by rfl) T.n_isinstance (by decide +kernel) (pa_cons (pv 1) (pa_cons (pe_glob (v := .ref DX) (by rfl) R.mDX rfl) pa_nil)))) (pss_one (ps_ret (pe_tup (pa_cons pe_str (pa_cons (pe_held R.cDX.xf R.nDX_line (pv 1)) (pa_cons (pe_held R.cDX.xf R.nDX_word (pv 1)) pa_nil)))))) pss_nil)
    (pss_one (ps_ret (pe_ifExp (pt_val (pe_callB call_isw (by rfl) T.n_isinstance (by decide +kernel) (pa_cons (pv 1) (pa_cons (pe_glob (v := .ref DM) (by rfl) R.mDM rfl) pa_nil)))) (pe_tup (pa_cons pe_str (pa_cons (pe_held R.cDM.xf R.nDM_what (pv 1)) (pa_cons (pe_held R.cDM.xf R.nDM_most (pv 1)) pa_nil)))) (pe_tup (pa_cons pe_str pa_nil))))))))))), ?_⟩
  · refine ⟨fun pins s' σ H' Dn I h' => ?_⟩
    obtain ⟨Ech, hW, h1, h2, h3⟩ := h'
    obtain ⟨Qx, h3, h4⟩ := h3
    refine PSs.run (t := tRet (tLst (tCons (fun σ H Q => ∃ Qx : VK, (fun σZ HZ Q => σZ[0]? = some (some (V.ref f)) ∧ HZ c' = some (CodeO c' q) ∧ tl Ech HZ Q) σ H Qx ∧ ∀ x H1, Qx x H1 → Q x H1) tNil))) ?hp pins s' σ H' Dn I ⟨Qx, ⟨h1, h2, h3⟩, fun x H1 q => ⟨(by show 1 ≤ sizeLine; decide), fun p hp => h4 x H1 q p hp⟩⟩
    case hp => exact pss_one (ps_ret (pe_lst (pa_cons (pe_weak (act W pn xe Ech _ _ tk hW)) pa_nil)))
  · have h0 := h _ (Same.refl H)
    refine ⟨HeardX X.K DU DS DR DT DX DM Q, fun cls d σ' H' z => ?_, rfl, hc, ?_⟩
    · intro hl
      obtain ⟨x0, x1, x2, rfl⟩ : ∃ x0 x1 x2, σ' = [x0, x1, x2] := by
        match σ', hl with
        | [x0, x1, x2], _ => exact ⟨x0, x1, x2, rfl⟩
      rcases z with ⟨rfl, dd, fs, v0, rfl, e1, f0, go⟩ | ⟨rfl, dd, fs, v0, z0, rfl, e1, f0, p0, go⟩ | ⟨rfl, dd, fs, v0, z0, rfl, e1, f0, p0, go⟩ | ⟨rfl, dd, fs, v0, z0, rfl, e1, f0, p0, go⟩ | ⟨rfl, dd, fs, v0, v1, rfl, e1, f0, f1, go⟩ | ⟨rfl, dd, fs, v0, v1, rfl, e1, f0, f1, go⟩
      · refine ⟨R.cDU.ex, fun a na => ⟨_, rfl, fun na' => ?_⟩⟩
        have s1 : Same H' (upd H' a (ExO a (.ref DU) (some dd))) := same_new na
        have ea : upd H' a (ExO a (.ref DU) (some dd)) a = some (ExO a (.ref DU) (some dd)) := upd_same
        have ed := s1 _ _ e1
        generalize upd H' a (ExO a (.ref DU) (some dd)) = H1 at s1 ea ed ⊢
        refine ⟨_, rfl, _, .ref DU, .ref DU, .ref DU, true, rfl, .own DU, .held ea ed R.cDU.xc, R.cDU.me, _, rfl, iteT ⟨_, rfl, a, dd, _, _, rfl, ea, ed, f0, (by show 2 ≤ sizeLine; decide), fun t ft => ?_⟩⟩
        exact go t _ (s1.trans (same_new ft)) (s1.free ft) upd_same
      · refine ⟨R.cDS.ex, fun a na => ⟨_, rfl, fun na' => ?_⟩⟩
        have s1 : Same H' (upd H' a (ExO a (.ref DS) (some dd))) := same_new na
        have ea : upd H' a (ExO a (.ref DS) (some dd)) a = some (ExO a (.ref DS) (some dd)) := upd_same
        have ed := s1 _ _ e1
        generalize upd H' a (ExO a (.ref DS) (some dd)) = H1 at s1 ea ed ⊢
        refine ⟨_, rfl, _, .ref DU, .ref DS, .ref DU, false, rfl, .own DU, .held ea ed R.cDS.xc, R.kDS_DU, _, rfl, iteF ?_⟩
        refine ⟨_, rfl, _, .ref DS, .ref DS, .ref DS, true, rfl, .own DS, .held ea ed R.cDS.xc, R.cDS.me, _, rfl, iteT ⟨_, rfl, a, dd, _, _, rfl, ea, ed, f0, v0, z0, rfl, Rp.same s1 p0, (by show 2 ≤ sizeLine; decide), fun t ft => ?_⟩⟩
        exact go t _ (s1.trans (same_new ft)) (s1.free ft) upd_same
      · refine ⟨R.cDR.ex, fun a na => ⟨_, rfl, fun na' => ?_⟩⟩
        have s1 : Same H' (upd H' a (ExO a (.ref DR) (some dd))) := same_new na
        have ea : upd H' a (ExO a (.ref DR) (some dd)) a = some (ExO a (.ref DR) (some dd)) := upd_same
        have ed := s1 _ _ e1
        generalize upd H' a (ExO a (.ref DR) (some dd)) = H1 at s1 ea ed ⊢
        refine ⟨_, rfl, _, .ref DU, .ref DR, .ref DU, false, rfl, .own DU, .held ea ed R.cDR.xc, R.kDR_DU, _, rfl, iteF ?_⟩
        refine ⟨_, rfl, _, .ref DS, .ref DR, .ref DS, false, rfl, .own DS, .held ea ed R.cDR.xc, R.kDR_DS, _, rfl, iteF ?_⟩
        refine ⟨_, rfl, _, .ref DR, .ref DR, .ref DR, true, rfl, .own DR, .held ea ed R.cDR.xc, R.cDR.me, _, rfl, iteT ⟨_, rfl, a, dd, _, _, rfl, ea, ed, f0, v0, z0, rfl, Rp.same s1 p0, (by show 2 ≤ sizeLine; decide), fun t ft => ?_⟩⟩
        exact go t _ (s1.trans (same_new ft)) (s1.free ft) upd_same
      · refine ⟨R.cDT.ex, fun a na => ⟨_, rfl, fun na' => ?_⟩⟩
        have s1 : Same H' (upd H' a (ExO a (.ref DT) (some dd))) := same_new na
        have ea : upd H' a (ExO a (.ref DT) (some dd)) a = some (ExO a (.ref DT) (some dd)) := upd_same
        have ed := s1 _ _ e1
        generalize upd H' a (ExO a (.ref DT) (some dd)) = H1 at s1 ea ed ⊢
        refine ⟨_, rfl, _, .ref DU, .ref DT, .ref DU, false, rfl, .own DU, .held ea ed R.cDT.xc, R.kDT_DU, _, rfl, iteF ?_⟩
        refine ⟨_, rfl, _, .ref DS, .ref DT, .ref DS, false, rfl, .own DS, .held ea ed R.cDT.xc, R.kDT_DS, _, rfl, iteF ?_⟩
        refine ⟨_, rfl, _, .ref DR, .ref DT, .ref DR, false, rfl, .own DR, .held ea ed R.cDT.xc, R.kDT_DR, _, rfl, iteF ?_⟩
        refine ⟨_, rfl, _, .ref DT, .ref DT, .ref DT, true, rfl, .own DT, .held ea ed R.cDT.xc, R.cDT.me, _, rfl, iteT ⟨_, rfl, a, dd, _, _, rfl, ea, ed, f0, v0, z0, rfl, Rp.same s1 p0, (by show 2 ≤ sizeLine; decide), fun t ft => ?_⟩⟩
        exact go t _ (s1.trans (same_new ft)) (s1.free ft) upd_same
      · refine ⟨R.cDX.ex, fun a na => ⟨_, rfl, fun na' => ?_⟩⟩
        have s1 : Same H' (upd H' a (ExO a (.ref DX) (some dd))) := same_new na
        have ea : upd H' a (ExO a (.ref DX) (some dd)) a = some (ExO a (.ref DX) (some dd)) := upd_same
        have ed := s1 _ _ e1
        generalize upd H' a (ExO a (.ref DX) (some dd)) = H1 at s1 ea ed ⊢
        refine ⟨_, rfl, _, .ref DU, .ref DX, .ref DU, false, rfl, .own DU, .held ea ed R.cDX.xc, R.kDX_DU, _, rfl, iteF ?_⟩
        refine ⟨_, rfl, _, .ref DS, .ref DX, .ref DS, false, rfl, .own DS, .held ea ed R.cDX.xc, R.kDX_DS, _, rfl, iteF ?_⟩
        refine ⟨_, rfl, _, .ref DR, .ref DX, .ref DR, false, rfl, .own DR, .held ea ed R.cDX.xc, R.kDX_DR, _, rfl, iteF ?_⟩
        refine ⟨_, rfl, _, .ref DT, .ref DX, .ref DT, false, rfl, .own DT, .held ea ed R.cDX.xc, R.kDX_DT, _, rfl, iteF ?_⟩
        refine ⟨_, rfl, _, .ref DX, .ref DX, .ref DX, true, rfl, .own DX, .held ea ed R.cDX.xc, R.cDX.me, _, rfl, iteT ⟨_, rfl, a, dd, _, _, rfl, ea, ed, f0, _, rfl, a, dd, _, _, rfl, ea, ed, f1, (by show 3 ≤ sizeLine; decide), fun t ft => ?_⟩⟩
        exact go t _ (s1.trans (same_new ft)) (s1.free ft) upd_same
      · refine ⟨R.cDM.ex, fun a na => ⟨_, rfl, fun na' => ?_⟩⟩
        have s1 : Same H' (upd H' a (ExO a (.ref DM) (some dd))) := same_new na
        have ea : upd H' a (ExO a (.ref DM) (some dd)) a = some (ExO a (.ref DM) (some dd)) := upd_same
        have ed := s1 _ _ e1
        generalize upd H' a (ExO a (.ref DM) (some dd)) = H1 at s1 ea ed ⊢
        refine ⟨_, rfl, _, .ref DU, .ref DM, .ref DU, false, rfl, .own DU, .held ea ed R.cDM.xc, R.kDM_DU, _, rfl, iteF ?_⟩
        refine ⟨_, rfl, _, .ref DS, .ref DM, .ref DS, false, rfl, .own DS, .held ea ed R.cDM.xc, R.kDM_DS, _, rfl, iteF ?_⟩
        refine ⟨_, rfl, _, .ref DR, .ref DM, .ref DR, false, rfl, .own DR, .held ea ed R.cDM.xc, R.kDM_DR, _, rfl, iteF ?_⟩
        refine ⟨_, rfl, _, .ref DT, .ref DM, .ref DT, false, rfl, .own DT, .held ea ed R.cDM.xc, R.kDM_DT, _, rfl, iteF ?_⟩
        refine ⟨_, rfl, _, .ref DX, .ref DM, .ref DX, false, rfl, .own DX, .held ea ed R.cDM.xc, R.kDM_DX, _, rfl, iteF ?_⟩
        refine ⟨_, rfl, _, .ref DM, .ref DM, .ref DM, true, rfl, .own DM, .held ea ed R.cDM.xc, R.cDM.me, _, rfl, iteT ⟨_, rfl, a, dd, _, _, rfl, ea, ed, f0, _, rfl, a, dd, _, _, rfl, ea, ed, f1, (by show 3 ≤ sizeLine; decide), fun t ft => ?_⟩⟩
        exact go t _ (s1.trans (same_new ft)) (s1.free ft) upd_same
    · refine ⟨_, h0, ?_⟩
      rintro x H1 go p hp
      exact go p _ (same_new hp) hp upd_same
end Lw
namespace Lw
open PySem PySem.Spec PyProof.Rows L2
open SX PySem.NumText TL LamX ClX StX
set_option pp.maxSteps 900
abbrev sRdr : Stmt := top 54
abbrev sLaw : Stmt := top 56
/-- == of data, or of a list and a tuple -/
def rEqLT (K : PySem.W.Frag) : R2 := fun x y H Q => rEqD K x y H Q ∨ ∃ a b xs ys, x = .ref a ∧ y = .ref b ∧ SqL K H a xs ∧ SqT K H b ys ∧ Q (.bl false) H
theorem op_eqLT {X : Cx} (hu : X.A.units + 64 < cLine) : OpR X (compareOp .Eq) (rEqLT X.K) := by
  intro pins s σ H x y v u Q I rx ry h
  rcases h with h | ⟨a, b, xs, ys, rfl, rfl, ha, hb, q⟩
  · exact op_eqD hu pins s σ H x y v u Q I rx ry h
  obtain rfl : v = Value.ref a := rx
  obtain rfl : u = Value.ref b := ry
  obtain ⟨_, _, hl, _⟩ := I.list ha
  obtain ⟨_, _, ht, _⟩ := I.tuple hb
  exact SeqAt.RcAt.list_tuple hl.isList ht (by omega) X.prog X.w _ _ ⟨.bl false, H, I, rfl, q⟩
structure TabOf (T : List (Addr × Str)) (B : Addr) (x : Str) : Prop where
  mem : (B, (x ++ (".<locals>." : Str)) ++ ("<lambda>" : Str)) ∈ T
  own : ∀ p ∈ T, p.1 = B → p.2 = (x ++ (".<locals>." : Str)) ++ ("<lambda>" : Str)
/-! ### the words of a rule that was read -/
theorem intOf_back {cs : List Nat} {i : Int} (h : intOf cs = some i) (l : cs.length ≤ 1000) : intL i = cs := by
  by_cases hd : digB (figs cs) = true
  · obtain ⟨n, _, _, h3⟩ := wri_math hd l
    rcases h3 with ⟨e1, e2⟩ | ⟨_, e2⟩
    · rw [h] at e2
      cases e2
      rw [str_int] at e1
      exact S_inj e1
    · rw [h] at e2; cases e2
  · unfold intOf at h
    rw [if_neg hd] at h; cases h
theorem drop_w {ws : List (List Nat)} {n : Nat} {w : List Nat} (h : ws[n]? = some w) : ws.drop n = w :: ws.drop (n + 1) := by
  have hn := some_lt h
  rw [List.drop_eq_getElem_cons hn]
  rw [List.getElem?_eq_getElem hn] at h
  rw [Option.some.inj h]
theorem num_word {ws : List (List Nat)} {n : Nat} {lo hi k : Int} (hw : ∀ w ∈ ws, w.length ≤ 1000) (h : numAt ws n lo hi = some k) : ws[n]? = some (intL k) := by
  cases e : ws[n]? with
  | none => rw [numAt_none e] at h; cases h
  | some w =>
    rw [numAt_some e] at h
    cases hi : intOf w with
    | none => rw [hi] at h; cases h
    | some i =>
      rw [hi] at h
      dsimp only at h
      split at h
      · cases h
        rw [intOf_back hi (hw w (List.mem_of_getElem? e))]
      · cases h
theorem leafR_ws {ws : List (List Nat)} {n m n1 m1 : Nat} {t : Rl} (hw : ∀ w ∈ ws, w.length ≤ 1000) (h : leafR ws n m = .ok n1 m1 t) : ws.drop n = t.ws ++ ws.drop n1 := by
  unfold leafR at h
  split at h
  · rename_i h0
    split at h
    · rename_i k hk
      cases h
      rw [drop_w h0, drop_w (num_word hw hk)]; rfl
    · cases h
  · split at h
    · rename_i h0
      split at h
      · cases h
      · rename_i x hx
        split at h
        · cases h
        · rename_i y hy
          split at h
          · cases h
          · rename_i w hz
            cases h
            rw [drop_w h0, drop_w (num_word hw hx), drop_w (num_word hw hy), drop_w (num_word hw hz)]; rfl
    · cases h
theorem jn_ws {c : Nat} (hc : c = 38 ∨ c = 124) (a b : Rl) : (Rl.jn c a b).ws = [40] :: (a.ws ++ ([c] :: (b.ws ++ [[41]]))) := by rcases hc with rfl | rfl <;> rfl
theorem pR_ws {ws : List (List Nat)} (hw : ∀ w ∈ ws, w.length ≤ 1000) : ∀ {f n m n1 m1 : Nat} {t : Rl}, pR ws f n m = .ok n1 m1 t → ws.drop n = t.ws ++ ws.drop n1
  | 0, _, _, _, _, _, h => by cases h
  | f + 1, n, m, n1, m1, t, h => by
    by_cases h0 : ws[n]? = some [40]
    · rw [pR_open h0] at h
      cases e1 : pR ws f (n + 1) m with
      | er e => rw [e1] at h; cases h
      | ok n2 m2 a =>
        rw [e1] at h
        change sgR ws f n2 m2 a = _ at h
        cases hc : sgn ws[n2]? with
        | none => rw [sgR_no hc] at h; cases h
        | some c =>
          rw [sgR_on hc] at h
          obtain ⟨c2, hs⟩ := sgn_some hc
          cases e2 : pR ws f (n2 + 1) m2 with
          | er e => rw [e2] at h; cases h
          | ok n3 m3 b =>
            rw [e2] at h
            change closeR ws c a n3 m3 b = _ at h
            unfold closeR at h
            split at h
            · rename_i hd
              cases h
              rw [drop_w h0, pR_ws hw e1, drop_w hs, pR_ws hw e2, drop_w hd, jn_ws c2]
              simp
            · cases h
    · have pl : pR ws (f + 1) n m = if m = 6 then .er n else leafR ws n m := by
        conv => lhs; unfold pR
        rw [if_neg h0]
      rw [pl] at h
      split at h
      · cases h
      · exact leafR_ws hw h
/-- a page that is a rule is the rule's text -/
theorem due_none {cs : List Nat} {k : Nat} (pg : PgK k cs) (h : dueR (wds cs) = none) : ∃ n m t, pR (wds cs) ((wds cs).length + 1) 0 0 = .ok n m t ∧ (wds cs).length ≤ n ∧ cs = t.tx ∧ t.Lf ∧ t.cnt ≤ 6 := by
  unfold dueR at h
  cases e : pR (wds cs) ((wds cs).length + 1) 0 0 with
  | er e1 => rw [e] at h; cases h
  | ok n m t =>
    rw [e] at h
    dsimp only at h
    split at h
    · cases h
    · rename_i hn
      obtain ⟨p1, p2, p3, p4, p5⟩ := pR_ok (by decide) e
      have hd := pR_ws (fun w hw => Nat.le_trans (pg.w w hw) (by decide)) e
      rw [List.drop_eq_nil_of_le (by omega : (wds cs).length ≤ n), List.append_nil] at hd
      refine ⟨n, m, t, rfl, by omega, ?_, p5, by omega⟩
      have : joinL [32] ((wds cs).drop 0) = joinL [32] t.ws := by rw [hd]
      rw [List.drop_zero, join_wds _ cs (Nat.le_refl _)] at this
      exact this
theorem due_some {cs : List Nat} {e : Nat} (h : dueR (wds cs) = some e) : pR (wds cs) ((wds cs).length + 1) 0 0 = .er e ∨ ∃ m t, pR (wds cs) ((wds cs).length + 1) 0 0 = .ok e m t ∧ e < (wds cs).length := by
  unfold dueR at h
  cases e1 : pR (wds cs) ((wds cs).length + 1) 0 0 with
  | er e2 => rw [e1] at h; cases h; exact .inl rfl
  | ok n m t =>
    rw [e1] at h
    dsimp only at h
    split at h
    · rename_i hn
      cases h; exact .inr ⟨m, t, rfl, hn⟩
    · cases h
theorem RdO.text {FC VC LC GC D DM : Addr} {H : Hp} {Q : VK} {E : XK} {cs : List Nat} {e : Nat} (h : dueR (wds cs) = some e) (go : Rf D H E e) : RdO FC VC LC GC D DM H Q E (wds cs) := by
  rcases due_some h with e1 | ⟨m, t, e1, hn⟩
  · exact ⟨fun e' he => (by rw [e1] at he; cases he; exact go), fun n m t he => (by rw [e1] at he; cases he)⟩
  · refine ⟨fun e' he => (by rw [e1] at he; cases he), fun n' m' t' he => ?_⟩
    rw [e1] at he
    cases he
    exact ⟨fun _ => go, fun z => absurd z (by omega)⟩
def pTx (e : Int) : PyData := .tuple [.str (Str.ofString "text"), .int 0, .int e]
theorem dp_pTx {K : PySem.W.Frag} {H : Hp} {t : Addr} {e : Int} (h : H t = some (.tup [.str (Str.ofString "text"), .int 0, .int e])) : Dp K H (.ref t) (pTx e) := .tup (SqT.of h) (.cons (.str _) (.cons (.int _) (.cons (.int _) .nil)))
theorem shp_pTx (e : Int) : SeqAt.shaped (pTx e) = true := by
  show ((PyData.canLay0 (.str (Str.ofString "text")) && true) && true) = true
  decide +kernel
theorem eqv_pTx (e : Int) : PyData.eqv (pTx e) (pTx e) = true := by
  show ((Str.ofString "text" == Str.ofString "text") && ((0 : Int) == 0 && (e == e && true))) = true
  simp
def pMn : PyData := .tuple [.str (Str.ofString "many"), .str (Str.ofString "residues"), .int 5000]
theorem dp_pMn {K : PySem.W.Frag} {H : Hp} {t : Addr} (h : H t = some (.tup [.str (Str.ofString "many"), .str (Str.ofString "residues"), .int 5000])) : Dp K H (.ref t) pMn := .tup (SqT.of h) (.cons (.str _) (.cons (.str _) (.cons (.int _) .nil)))
def spRdr (TS : List (Addr × Str)) : Sp := fun vs H Q _ => ∃ (cs : List Nat) (k : Nat), vs = [.str (S cs)] ∧ PgK k cs ∧ k ≤ 9 ∧ Tabs TS H ∧ ∀ H', ExtN H H' → Tabs TS H' → Q (.bl true) H'
section
variable {K : PySem.W.Frag} {DU DS DR DT DX DM : Addr} {H : Hp} {Q : VK}
theorem hd_text {n : Nat} (k : ∀ t H8, Same H H8 → H8 t = some (.tup [.str (Str.ofString "text"), .int 0, .int (n : Int)]) → Q (.ref t) H8) : Rf DX H (HeardX K DU DS DR DT DX DM Q) n := fun d fs H7 s7 hd f1 f2 =>
  have s8 : Same H (upd H7 d (.xd fs)) := s7.trans (same_new hd)
  .inr (.inr (.inr (.inr (.inl ⟨rfl, d, fs, .int 0, .int (n : Int), rfl, upd_same, f1, f2, fun t H8 s9 n9 h9 => k t H8 (s8.trans s9) h9⟩))))
theorem hd_many (k : ∀ t H8, Same H H8 → H8 t = some (.tup [.str (Str.ofString "many"), .str (Str.ofString "residues"), .int 5000]) → Q (.ref t) H8) : Mg2 DM "residues" 5000 H (HeardX K DU DS DR DT DX DM Q) := fun d fs H7 s7 hd f1 f2 =>
  have s8 : Same H (upd H7 d (.xd fs)) := s7.trans (same_new hd)
  .inr (.inr (.inr (.inr (.inr ⟨rfl, d, fs, _, _, rfl, upd_same, f1, f2, fun t H8 s9 n9 h9 => k t H8 (s8.trans s9) h9⟩))))
end
section
variable {P : Program} {w : World} {K : PySem.W.Frag} {mg : Str → Option Value} {base : Heap} {FC VC LC GC D DM_ UC pR_ gR : Addr} {fdR : FuncData}
variable {DU DS DR DT DX L gH B c0 : Addr} {fdH : FuncData} {TS : List (Addr × Str)}
theorem scRdr : FnScope ["_law_page", "_law_due_here", "_law_heard_here"] ["_law_page"] (C8.fnScope sRdr) := C8.fnScope_by (by decide +kernel)
theorem cal_rdr {f : Addr} {fd : FuncData} (F : DefC K mg "_law_read_right" sRdr f fd c0) (b : Binds K fd ["_law_page"] []) (FH : C8.Def K mg "_law_heard" sHea gH fdH) (bH : Binds K fdH ["_law_ask"] []) (TB : TabB base mg c0 B) (TO : TabOf TS B "_law_read_right")
    (R : Hrd K mg DU DS DR DT DX DM_ L) (T : Txt mg) (hUC : mg "Rule" = some (.ref UC)) (RR : RrE P w K mg base FC VC LC GC DX DM_ UC pR_ gR fdR) (SP : MetP P w K mg base 13 (Rk FC VC LC GC) "__str__" (spSt FC VC LC GC 6))
    (DDu : C8.Cal P w K mg base 114 "_law_due" spDue []) : CalG P w K mg base 115 "_law_read_right" (spRdr TS) [] := by
  obtain ⟨ocH, odH, dVH, kVH, docH, pmH, anH, cdvH, ctH, oslH, rfl, lkH, cdH⟩ := FH.fn.ex
  refine calGC F b .nil scRdr (fun vs H Q E h => ?_) (fun A outer st H vs Q E hG hr h => ?_)
  · obtain ⟨cs, k, rfl, _⟩ := h
    rfl
  · obtain ⟨cs, k, rfl, pg, k9, ht, kk⟩ := h
    refine ⟨_, (pss_cons (ps_par (i := 1) (j := 2) rfl scRdr.nd rfl rfl (by decide) rfl rfl (pa_cons (C8.pe_c DDu hr (by decide) (by rfl) (pa_cons (pv 0) pa_nil)) (pa_cons (pe_lamcall (k := 12) (T := TS) (TT := TTheard K DU DS DR DT DX DM_) (by rfl) FH.mgf FH.kp lkH cdH bH scHea rfl (.inl rfl) (heard_gives R T hG (hr.mono (by decide))) TB rfl TO.mem TO.own (hr.mono (by decide)) (lamS_by (by rfl)) rfl (fun _ _ _ _ _ => rfl)
      (fun A outer s H E f c2 hr2 => (by exact (pe_static (pe_glob (v := .ref UC) (by rfl) hUC rfl) RR.S RR.F (hr2.mono (Nat.le_of_ble_eq_true rfl)) RR.b .nil (passes_call (takes_of rfl rfl rfl rfl) (fun _ _ _ _ z => z)) (pa_cons (pv 0) pa_nil))))) pa_nil)) (by rfl))
  (pss_cons (ps_if (pt_cmpR op_notN (pv 1) pe_non (nomark _)) (pss_one (ps_ret (pe_cmpR (op_eqLT hr.units) (pv 2) (pe_tup (pa_cons pe_str (pa_cons pe_int (pa_cons (pv 1) pa_nil)))) (nomark _)))) pss_nil)
  (pss_one (ps_ret (pe_or (pe_cmpR (op_eqLT hr.units) (pv 2) (pe_tup (pa_cons pe_str (pa_cons pe_str (pa_cons pe_int pa_nil)))) (nomark _)) (pe_one (pe_and (pe_callB call_isz (by rfl) T.n_isinstance (by decide +kernel) (pa_cons (pv 2) (pa_cons (pe_bltn (v := .ty "list") (by rfl) T.n_list (by decide +kernel) rfl) pa_nil))) (pe_one (pe_cmpR op_eq (pe_callTy (call_strP (E := C8.E0) SP (passes_call takes0 (fun _ _ _ _ z => z)) hr (by decide)) (by rfl) T.n_str (by decide +kernel) (pa_cons (pe_ix ix_list (pv 2) pe_int (fun _ _ => rfl)) pa_nil)) (pv 0) (nomark _)))))))))), ?_⟩
    dsimp only [tSeq]
    have pl := pg.l
    refine ⟨_, rfl, cs, rfl, pg.c, by omega, pg.lw (by omega), fun H1 s1 => ?_⟩
    refine ⟨ht.ext s1, fun H2 x2 t2 H3 s3 => ⟨rfl, _, rfl, _, rfl, .str _, (fun e => by cases e), fun z hz => ⟨cs, (by cases hz; rfl), pg.c, by omega, ?_⟩⟩⟩
    cases hd : dueR (wds cs) with
    | some e =>
      refine RdO.text hd (hd_text fun t8 H8 s8 h8 => ⟨_, _, rfl, ?_⟩)
      dsimp only [tSeq]
      refine ⟨_, rfl, rfl, _, rfl, iteT' (by rw [decide_eq_false (fun h => by cases h)]; rfl) ⟨_, rfl, _, rfl, (by show 3 ≤ sizeLine; decide), fun q fq => .inl ⟨pTx e, pTx e, dp_pTx (same_new fq _ _ h8), dp_pTx upd_same, shp_pTx _, shp_pTx _, ?_⟩⟩⟩
      rw [eqv_pTx]
      exact kk _ ((((ExtN.of s1).trans x2).trans (.of s3)).trans (.of (s8.trans (same_new fq)))) (t2.ext (s3.trans (s8.trans (same_new fq))))
    | none =>
      obtain ⟨n, m, t, e1, hn, etx, lf, c6⟩ := due_none pg hd
      refine ⟨fun e he => (by rw [e1] at he; cases he), fun n' m' t' he => ?_⟩
      rw [e1] at he
      cases he
      refine ⟨fun h => absurd h (by omega), fun _ => ⟨fun h5 => hd_many fun t8 H8 s8 h8 => ⟨_, _, rfl, ?_⟩, fun h5 a H4 s4 ra => fun t8 H8 s8 n8 h8 => ⟨_, _, rfl, ?_⟩⟩⟩
      · dsimp only [tSeq]
        refine ⟨_, rfl, rfl, _, rfl, iteF' (by rw [show natV none = V.non from rfl, decide_eq_true rfl]; rfl) ?_⟩
        dsimp only [tNext]
        refine ⟨_, rfl, (by show 3 ≤ sizeLine; decide), fun q fq => .inl ⟨pMn, pMn, dp_pMn (same_new fq _ _ h8), dp_pMn upd_same, by decide +kernel, by decide +kernel, _, rfl, ?_⟩⟩
        rw [show PyData.eqv pMn pMn = true by decide +kernel, if_pos rfl]
        exact kk _ ((((ExtN.of s1).trans x2).trans (.of s3)).trans (.of (s8.trans (same_new fq)))) (t2.ext (s3.trans (s8.trans (same_new fq))))
      · dsimp only [tSeq]
        have ok := lf.ok c6 h5
        refine ⟨_, rfl, rfl, _, rfl, iteF' (by rw [show natV none = V.non from rfl, decide_eq_true rfl]; rfl) ?_⟩
        dsimp only [tNext]
        refine ⟨_, rfl, (by show 3 ≤ sizeLine; decide), fun q fq => .inr ⟨t8, q, _, _, rfl, rfl, SqL.of (same_new fq _ _ h8), SqT.of upd_same, _, rfl, ?_⟩⟩
        rw [if_neg Bool.false_ne_true]
        have h9 := same_new (o := HO.tup [V.str (Str.ofString "many"), V.str (Str.ofString "residues"), V.int 5000]) fq _ _ h8
        have ra9 := ra.on (s8.trans (same_new (o := HO.tup [V.str (Str.ofString "many"), V.str (Str.ofString "residues"), V.int 5000]) fq))
        have s9 := s4.trans (s8.trans (same_new (o := HO.tup [V.str (Str.ofString "many"), V.str (Str.ofString "residues"), V.int 5000]) fq))
        generalize upd H8 q _ = H9 at h9 ra9 s9 ⊢
        obtain ⟨dx, fs, _, _, ha, _⟩ := ra9.has ok
        refine ⟨_, rfl, ?_⟩
        dsimp only [tCons, tC, tNil]
        refine isl_l h9 ⟨_, rfl, ?_⟩
        rw [if_pos rfl]
        refine ⟨_, rfl, t8, _, 0, _, rfl, rfl, SqL.of h9, rfl, a, _, dx, fs, rfl, Rk.of t, ha, a, t, rfl, rfl, ra9, ok, c6, _, rfl, _, rfl, rfl, ?_⟩
        rw [← etx, decide_eq_true rfl]
        exact kk _ ((((ExtN.of s1).trans x2).trans (.of s3)).trans (.of s9)) (t2.ext (s3.trans s9))
end
end Lw
namespace Lw
open PySem PySem.Spec PyProof.Rows L2
open SX PySem.NumText TL LamX ClX StX
set_option pp.maxSteps 900
/-- the law's def, its code object known -/
structure LawC (K : PySem.W.Frag) (x : Str) (st : Stmt) (f : Addr) (fd : FuncData) (c : Addr) : Prop where
  ex : ∃ (oc : Value) (od : Option Addr) (dV kV doc pm : Value) (an : Option Addr) (ct : Value) (osl : Array (Option Value)),
    fd = PySem.W.fnOf x x (C8.fnArgs st) (C8.fnBody st) (C8.fnScope st) dV kV doc pm an (.ref c) ct ∧ K.lookup f = some ⟨oc, od, .func fd, osl⟩ ∧ PySem.W.codeIn K (.ref c) x = true
theorem fnGC {P : Program} {w : World} {K : PySem.W.Frag} {mg : Str → Option Value} {base : Heap} {x : Str} {st : Stmt} {f c : Addr} {fd : FuncData} {N ps : List Str} {k : Nat} {sp : Sp} (F : LawC K x st f fd c) (S : FnScope N ps (C8.fnScope st)) (len : ∀ vs H Q E, sp vs H Q E → vs.length = ps.length)
    (body : ∀ (A : Around) (outer : List Env) (s : Shared) (H : Hp) (vs : List V) (Q : VK) (E : XK), (A.deeper (envOfC x (C8.fnScope st) s.heap.objs.size f (.ref c))).guards = some [] → Room k (A.deeper (envOfC x (C8.fnScope st) s.heap.objs.size f (.ref c))) → sp vs H Q E →
      ∃ t, PSs (cxOf C8.CX0 P w K mg base N x (C8.fnScope st) f (.ref c) A outer s H E).nox (C8.fnBody st) t ∧ t { nx := fun _ H' => Q .non H', rt := Q } (start N vs) H) : FnG P w K mg base (k + 1) f fd ps sp := by
  refine ⟨len, ?_⟩
  intro A outer s H args us vs Q E hg hr e0 hb r hs
  obtain ⟨oc, od, dV, kV, doc, pm, an, ct, osl, rfl, lk, hcd⟩ := F.ex
  refine LamX.run_ofS lk hcd S hr e0 hb r (len _ _ _ _ hs) fun hr' => ?_
  obtain ⟨t, h1, h2⟩ := body A outer s H vs Q E hg hr' hs
  exact ⟨t, h1.nox, h2⟩
theorem ifs_no {tt : TT} {a : TS} {D : Ends} {σ : L2.St} {H : Hp} (Pj : Hp → Prop) (rest : ∀ H', Pj H' → D.nx σ H') (test : ∀ QQ : Bool → Hp → Prop, (∀ H', Pj H' → QQ false H') → tt σ H QQ) : tIfS tt a tNext D σ H :=
  test _ fun H' h => iteF (rest H' h)
theorem any_tup {K : PySem.W.Frag} {H : Hp} {a : Addr} {xs : List V} (h : H a = some (.tup xs)) : Anyv K H (.ref a) := .obj (.x (.base (.tup h))) (kit_ty (by decide +kernel)) (kit_ty (by decide +kernel)) (kit_ty (by decide +kernel))
theorem any_lst {K : PySem.W.Frag} {H : Hp} {a : Addr} {xs : List V} (h : H a = some (.lst xs)) : Anyv K H (.ref a) := .obj (.x (.base (.lst h))) (kit_ty (by decide +kernel)) (kit_ty (by decide +kernel)) (kit_ty (by decide +kernel))
theorem any_dK {K : PySem.W.Frag} {H : Hp} {a : Addr} {xs : List (L2.Key × V)} (h : H a = some (.dK xs)) : Anyv K H (.ref a) := .obj (.x (.base (.dK h))) (kit_ty (by decide +kernel)) (kit_ty (by decide +kernel)) (kit_ty (by decide +kernel))
/-! ### the page of a drawn rule -/
theorem num_ok {i : Int} (h : i.natAbs < 10 ^ 31) : (∀ c ∈ intL i, c < 128) ∧ (intL i).length ≤ 36 ∧ 32 ∉ intL i := by
  have l := intL_b (k := 31) (i := i) (by decide) h
  exact ⟨fun c hc => by have := intL_chars hc; omega, by omega, fun hc => by have := intL_chars hc; omega⟩
theorem Rl.ws_okL : ∀ {t : Rl}, t.Lf → ∀ w ∈ t.ws, (∀ c ∈ w, c < 128) ∧ w.length ≤ 36 ∧ 32 ∉ w
  | .fx n, h, w, hw => by
    obtain ⟨h1, h2⟩ := h
    rcases List.mem_cons.mp hw with rfl | hw
    · exact ⟨by decide, by decide, by decide⟩
    · obtain rfl := List.mem_singleton.mp hw
      exact num_ok (by omega)
  | .dv x y z, h, w, hw => by
    obtain ⟨h1, h2, h3, h4, h5, h6⟩ := h
    have g : ∀ {i : Int}, i.natAbs ≤ 1000 → i.natAbs < 10 ^ 31 := fun h => Nat.lt_of_le_of_lt h (by decide)
    rcases List.mem_cons.mp hw with rfl | hw
    · exact ⟨by decide, by decide, by decide⟩
    rcases List.mem_cons.mp hw with rfl | hw
    · exact num_ok (g (by omega))
    rcases List.mem_cons.mp hw with rfl | hw
    · exact num_ok (g (by omega))
    · obtain rfl := List.mem_singleton.mp hw
      exact num_ok (g (by omega))
  | .lo a b, h, w, hw => by
    rcases List.mem_cons.mp hw with rfl | hw
    · exact ⟨by decide, by decide, by decide⟩
    rcases List.mem_append.mp hw with hw | hw
    · exact Rl.ws_okL h.1 w hw
    rcases List.mem_cons.mp hw with rfl | hw
    · exact ⟨by decide, by decide, by decide⟩
    rcases List.mem_append.mp hw with hw | hw
    · exact Rl.ws_okL h.2 w hw
    · obtain rfl := List.mem_singleton.mp hw
      exact ⟨by decide, by decide, by decide⟩
  | .hi a b, h, w, hw => by
    rcases List.mem_cons.mp hw with rfl | hw
    · exact ⟨by decide, by decide, by decide⟩
    rcases List.mem_append.mp hw with hw | hw
    · exact Rl.ws_okL h.1 w hw
    rcases List.mem_cons.mp hw with rfl | hw
    · exact ⟨by decide, by decide, by decide⟩
    rcases List.mem_append.mp hw with hw | hw
    · exact Rl.ws_okL h.2 w hw
    · obtain rfl := List.mem_singleton.mp hw
      exact ⟨by decide, by decide, by decide⟩
theorem Rl.ws_len : ∀ t : Rl, t.ws.length + 3 ≤ 7 * t.cnt
  | .fx _ => by show 2 + 3 ≤ 7 * 1; decide
  | .dv _ _ _ => by show 4 + 3 ≤ 7 * 1; decide
  | .lo a b => by
    have h1 := Rl.ws_len a
    have h2 := Rl.ws_len b
    show ([40] :: (a.ws ++ ([38] :: (b.ws ++ [[41]])))).length + 3 ≤ 7 * (a.cnt + b.cnt)
    simp only [List.length_append, List.length_cons, List.length_nil]
    omega
  | .hi a b => by
    have h1 := Rl.ws_len a
    have h2 := Rl.ws_len b
    show ([40] :: (a.ws ++ ([124] :: (b.ws ++ [[41]])))).length + 3 ≤ 7 * (a.cnt + b.cnt)
    simp only [List.length_append, List.length_cons, List.length_nil]
    omega
theorem page0 {t : Rl} (lf : t.Lf) (c7 : t.cnt ≤ 7) : PgK 0 t.tx := by
  have hw := Rl.ws_okL lf
  have e : wds t.tx = t.ws := wds_join t.ws_ne fun w h => (hw w h).2.2
  have l := Rl.tx_lenL lf
  have n := Rl.ws_len t
  refine ⟨fun c hc => ?_, by rw [e]; omega, fun w h => by rw [e] at h; exact (hw w h).2.1, by omega⟩
  rcases joinL_mem hc with rfl | ⟨w, h, hc⟩
  · decide
  · exact (hw w h).1 c hc
def seven : List Nat := ((List.replicate (6 : Int).toNat [40, 32]).flatten ++ [102, 105, 120, 101, 100, 32, 49]) ++ (List.replicate (6 : Int).toNat [32, 38, 32, 102, 105, 120, 101, 100, 32, 50, 32, 41]).flatten
def forty : List Nat := (List.replicate (40 : Int).toNat [40, 32]).flatten
def some20 : List (List Nat) := [[], [32], [102, 105, 120, 101, 100], [102, 105, 120, 101, 100, 32, 48], [100, 105, 118, 105, 100, 101, 100, 32, 49], [100, 105, 118, 105, 100, 101, 100, 32, 49, 32, 49], [100, 105, 118, 105, 100, 101, 100, 32, 50, 53, 32, 48, 32, 49], [100, 105, 118, 105, 100, 101, 100, 32, 49, 32, 48, 32, 48], [40, 32, 102, 105, 120, 101, 100, 32, 49], [40, 32, 102, 105, 120, 101, 100, 32, 49, 32, 38], [40, 32, 102, 105, 120, 101, 100, 32, 49, 32, 38, 32, 102, 105, 120, 101, 100, 32, 50], [40, 32, 102, 105, 120, 101, 100, 32, 49, 32, 41], [102, 105, 120, 101, 100, 32, 49, 32, 38, 32, 102, 105, 120, 101, 100, 32, 50], [40, 32, 40, 32, 102, 105, 120, 101, 100, 32, 49, 32, 41, 32, 41], forty, seven, [98, 121], [102, 105, 120, 101, 100, 32, 49, 32], [40, 32, 102, 105, 120, 101, 100, 32, 49, 32, 32, 102, 105, 120, 101, 100, 32, 50, 32, 41], [40, 32, 102, 105, 120, 101, 100, 32, 49, 32, 38, 124, 32, 102, 105, 120, 101, 100, 32, 50, 32, 41]]
def wideC : List Nat := [40, 32, 40, 32, 100, 105, 118, 105, 100, 101, 100, 32, 49, 32, 48, 32, 50, 52, 32, 38, 32, 100, 105, 118, 105, 100, 101, 100, 32, 49, 32, 48, 32, 50, 51, 32, 41, 32, 124, 32, 100, 105, 118, 105, 100, 101, 100, 32, 49, 32, 48, 32, 49, 57, 32, 41]
def pgB (cs : List Nat) : Bool := (cs.all fun c => decide (c < 128)) && (decide ((wds cs).length ≤ 46) && (((wds cs).all fun w => decide (w.length ≤ 36)) && decide (cs.length ≤ 330)))
theorem pgB_ok {cs : List Nat} (h : pgB cs = true) : PgK 0 cs := by
  unfold pgB at h
  simp only [Bool.and_eq_true, List.all_eq_true, decide_eq_true_eq] at h
  exact ⟨h.1, h.2.1, h.2.2.1, h.2.2.2⟩
theorem some20_ok : (some20.all fun cs => pgB cs && (dueR (wds cs)).isSome) = true := by decide +kernel
theorem seven_due : dueR (wds seven) = some 29 := by decide +kernel
theorem seven_pg : pgB seven = true := by decide +kernel
theorem wide_pg : pgB wideC = true := by decide +kernel
theorem wide5_pg : pgB (wideC ++ [32, 53]) = true := by decide +kernel
theorem wide_due : dueR (wds wideC) = none := by decide +kernel
theorem wide5_due : dueR (wds (wideC ++ [32, 53])) = some 18 := by decide +kernel
def mdlR (ws : List (List Nat)) : Option Nat := match pR ws (ws.length + 1) 0 0 with
  | .ok _ _ t => some t.mdl
  | .er _ => none
theorem wide_mdl : mdlR (wds wideC) = some 10488 := by decide +kernel
def lsA : List V := [V.str (Str.ofString ""), V.str (Str.ofString " "), V.str (Str.ofString "fixed"), V.str (Str.ofString "fixed 0"), V.str (Str.ofString "divided 1"), V.str (Str.ofString "divided 1 1"), V.str (Str.ofString "divided 25 0 1"), V.str (Str.ofString "divided 1 0 0"), V.str (Str.ofString "( fixed 1")]
def lsB : List V := [V.str (Str.ofString "( fixed 1 &"), V.str (Str.ofString "( fixed 1 & fixed 2"), V.str (Str.ofString "( fixed 1 )"), V.str (Str.ofString "fixed 1 & fixed 2"), V.str (Str.ofString "( ( fixed 1 ) )")]
def lsC : List V := [V.str (S forty), V.str (S seven), V.str (Str.ofString "by"), V.str (Str.ofString "fixed 1 "), V.str (Str.ofString "( fixed 1  fixed 2 )"), V.str (Str.ofString "( fixed 1 &| fixed 2 )")]
theorem ls20 : (lsA ++ lsB) ++ lsC = some20.map fun cs => V.str (S cs) := by decide +kernel
theorem RdO.many {FC VC LC GC D DM : Addr} {H : Hp} {Q : VK} {E : XK} {cs : List Nat} {k m : Nat} (pg : PgK k cs) (h : dueR (wds cs) = none) (hm : mdlR (wds cs) = some m) (h5 : 5000 < m) (go : Mg2 DM "residues" 5000 H E) : RdO FC VC LC GC D DM H Q E (wds cs) := by
  obtain ⟨n, m', t, e1, hn, _, _, _⟩ := due_none pg h
  unfold mdlR at hm
  rw [e1] at hm
  have hm : t.mdl = m := Option.some.inj hm
  refine ⟨fun e he => (by rw [e1] at he; cases he), fun n' m' t' he => ?_⟩
  rw [e1] at he
  cases he
  exact ⟨fun z => absurd z (by omega), fun _ => ⟨fun _ => go, fun z => absurd z (by omega)⟩⟩
def spLaw (K : PySem.W.Frag) (TS : List (Addr × Str)) : Sp := fun vs H Q _ => ∃ (a : Addr) (ns : List Int), vs = [.ref a] ∧ SqL K H a (ns.map V.int) ∧ ns.length ≤ 63 ∧ Tabs TS H ∧ ∀ H', Q (.bl true) H'
section
variable {P : Program} {w : World} {K : PySem.W.Frag} {mg : Str → Option Value} {base : Heap} {FC VC LC GC DM_ UC pR_ gR fF : Addr} {fdR fdF : FuncData}
variable {DU DS DR DT DX L gH B c0 : Addr} {fdH : FuncData} {TS : List (Addr × Str)}
theorem scLaw : FnScope ["_law_script", "_law_pen_here", "_law_lap", "_law_seven", "_law_some", "_law_wide", "_law_heard_here", "_law_page", "_law_again", "_law_odd"] ["_law_script"] (C8.fnScope sLaw) := C8.fnScope_by (by decide +kernel)
set_option maxHeartbeats 4000000 in
theorem fn_law {f : Addr} {fd : FuncData} (F : LawC K "law" sLaw f fd c0) (FH : C8.Def K mg "_law_heard" sHea gH fdH) (bH : Binds K fdH ["_law_ask"] []) (TB : TabB base mg c0 B) (TO : TabOf TS B "law")
    (R : Hrd K mg DU DS DR DT DX DM_ L) (T : Txt mg) (Z : RlZ K mg FC VC LC GC) (FM : FixM P w K mg base FC DS fF fdF) (hUC : mg "Rule" = some (.ref UC)) (RR : RrE P w K mg base FC VC LC GC DX DM_ UC pR_ gR fdR)
    (nI : PySem.W.kitOne K (.ref FC) (.type "int") = some false) (nB : PySem.W.kitOne K (.ref FC) (.type "bool") = some false) (nS : PySem.W.kitOne K (.ref FC) (.type "str") = some false)
    (DPen : C8.Cal P w K mg base 1 "_law_pen" (spPen K) []) (D0 : C8.Cal P w K mg base 1 "_law_draw" spDraw []) (DP : C8.Cal P w K mg base 2 "_law_pick" (spPick K) []) (DPl : C8.Cal P w K mg base 10 "_law_plain" (spPla 7) []) (DTx : C8.Cal P w K mg base 7 "_law_text" (spTx 7) [])
    (DBe : C8.Cal P w K mg base 3 "_law_bent" spBen []) (DDu : C8.Cal P w K mg base 114 "_law_due" spDue []) (DRr : CalG P w K mg base 115 "_law_read_right" (spRdr TS) []) : FnG P w K mg base 116 f fd ["_law_script"] (spLaw K TS) := by
  obtain ⟨ocH, odH, dVH, kVH, docH, pmH, anH, cdvH, ctH, oslH, rfl, lkH, cdH⟩ := FH.fn.ex
  refine fnGC F scLaw (fun vs H Q E h => ?_) (fun A outer st H vs Q E hG hr h => ?_)
  · obtain ⟨a, ns, rfl, _⟩ := h
    rfl
  · obtain ⟨a, ns, rfl, hs, hl, ht, k⟩ := h
    refine ⟨_, (pss_cons (ps_set (i := 1) scLaw.nd rfl (Or.inl rfl) (C8.pe_c DPen hr (by decide) (by rfl) (pa_cons (pv 0) pa_nil)))
  (pss_cons (ps_for PassesOwn.never rfl (pi_range1 (by rfl) T.n_range (pa_cons pe_int pa_nil)) (pg_name (i := 2) scLaw.nd rfl (Or.inl rfl)) (pss_cons (ps_set (i := 7) scLaw.nd rfl (Or.inl rfl) (C8.pe_c DTx hr (by decide) (by rfl) (pa_cons (C8.pe_c DPl hr (by decide) (by rfl) (pa_cons (pv 1) (pa_cons (pe_op op_add pe_int (C8.pe_c D0 hr (by decide) (by rfl) (pa_cons (pv 1) (pa_cons pe_int pa_nil)))) pa_nil))) pa_nil)))
  (pss_cons (ps_if (pt_not (pt_val (pe_g DRr hG hr (by decide) (by rfl) (pa_cons (pv 7) pa_nil)))) (pss_one (ps_ret pe_bl)) pss_nil)
  (pss_cons (ps_for PassesOwn.never rfl (pi_range1 (by rfl) T.n_range (pa_cons pe_int pa_nil)) (pg_name (i := 8) scLaw.nd rfl (Or.inl rfl)) (pss_cons (ps_set (i := 7) scLaw.nd rfl (Or.inl rfl) (C8.pe_c DBe hr (by decide) (by rfl) (pa_cons (pv 1) (pa_cons (pv 7) pa_nil))))
  (pss_one (ps_if (pt_not (pt_val (pe_g DRr hG hr (by decide) (by rfl) (pa_cons (pv 7) pa_nil)))) (pss_one (ps_ret pe_bl)) pss_nil))))
  (pss_cons (ps_set (i := 9) scLaw.nd rfl (Or.inr rfl) (C8.pe_c DP hr (by decide) (by rfl) (pa_cons (pv 1) (pa_cons (pe_lst (pa_cons pe_non (pa_cons pe_int (pa_cons pe_bl (pa_cons (pe_tup (pa_cons pe_str pa_nil)) (pa_cons (pe_lst (pa_cons pe_str pa_nil)) (pa_cons pe_dnewK (pa_cons (pe_make (E := C8.E0) FM.M FM.F (hr.mono (by decide)) (by rfl) FM.hm FM.b .nil (passes_call takes0 (fun _ _ _ _ z => z)) (pa_cons pe_int pa_nil)) pa_nil)))))))) pa_nil))))
  (pss_one (ps_if (pt_cmpR (op_neD hr.units) (pe_lamcall (k := 12) (T := TS) (TT := TTheard K DU DS DR DT DX DM_) (by rfl) FH.mgf FH.kp lkH cdH bH scHea rfl (.inl rfl) (heard_gives R T hG (hr.mono (by decide))) TB rfl TO.mem TO.own (hr.mono (by decide)) (lamS_by (by rfl)) rfl (fun _ _ _ _ _ => rfl)
      (fun A outer s H E f c2 hr2 => (by exact (pe_static (pe_glob (v := .ref UC) (by rfl) hUC rfl) RR.S RR.F (hr2.mono (Nat.le_of_ble_eq_true rfl)) RR.b .nil (passes_call (takes_of rfl rfl rfl rfl) (fun _ _ _ _ z => z)) (pa_cons (pv 9) pa_nil))))) (pe_tup (pa_cons pe_str (pa_cons pe_int (pa_cons pe_int pa_nil)))) (nomark _)) (pss_one (ps_ret pe_bl)) pss_nil)))))))
  (pss_cons (ps_set (i := 3) scLaw.nd rfl (Or.inl rfl) (pe_op op_add_str (pe_op op_add_str (pe_op op_mulS pe_str pe_int) pe_str) (pe_op op_mulS pe_str pe_int)))
  (pss_cons (ps_set (i := 4) scLaw.nd rfl (Or.inl rfl) (pe_lst (pa_cons pe_str (pa_cons pe_str (pa_cons pe_str (pa_cons pe_str (pa_cons pe_str (pa_cons pe_str (pa_cons pe_str (pa_cons pe_str (pa_cons pe_str pa_nil)))))))))))
  (pss_cons (ps_set (i := 4) scLaw.nd rfl (Or.inl rfl) (pe_op op_cat (pv 4) (pe_lst (pa_cons pe_str (pa_cons pe_str (pa_cons pe_str (pa_cons pe_str (pa_cons pe_str pa_nil))))))))
  (pss_cons (ps_set (i := 4) scLaw.nd rfl (Or.inl rfl) (pe_op op_cat (pv 4) (pe_lst (pa_cons (pe_op op_mulS pe_str pe_int) (pa_cons (pv 3) (pa_cons pe_str (pa_cons pe_str (pa_cons pe_str (pa_cons pe_str pa_nil)))))))))
  (pss_cons (ps_if (pt_cmpR (op_neD hr.units) (pe_lc (own := [("_law_page", 7)]) (g := gName 7) rfl scLaw.nd (pi_list (pv 4)) (blkOk_by (own := [("_law_page", 7)]) (N := ["_law_script", "_law_pen_here", "_law_lap", "_law_seven", "_law_some", "_law_wide", "_law_heard_here", "_law_page", "_law_again", "_law_odd"]) (sc := (C8.fnScope sLaw)) (by decide +kernel)) (fun _ _ _ _ _ => pg_name (i := 7) scLaw.nd rfl (Or.inl rfl)) (fun _ _ _ _ _ => pts_one (PW.pt (pw_or (pt_cmpR op_isN (C8.pe_c DDu hr (by decide) (by rfl) (pa_cons (pv 7) pa_nil)) pe_non (nomark _)) (pw_or1 (pt_not (pt_val (pe_g DRr hG hr (by decide) (by rfl) (pa_cons (pv 7) pa_nil)))))))) (fun _ _ _ _ _ => (pv 7))) (pe_lst pa_nil) (nomark _)) (pss_one (ps_ret pe_bl)) pss_nil)
  (pss_cons (ps_set (i := 5) scLaw.nd rfl (Or.inr rfl) pe_str)
  (pss_cons (ps_set (i := 6) scLaw.nd rfl (Or.inl rfl) (pe_lst (pa_cons (pe_lamcall (k := 12) (T := TS) (TT := TTheard K DU DS DR DT DX DM_) (by rfl) FH.mgf FH.kp lkH cdH bH scHea rfl (.inl rfl) (heard_gives R T hG (hr.mono (by decide))) TB rfl TO.mem TO.own (hr.mono (by decide)) (lamS_by (by rfl)) rfl (fun _ _ _ _ _ => rfl)
      (fun A outer s H E f c2 hr2 => (by exact (pe_static (pe_glob (v := .ref UC) (by rfl) hUC rfl) RR.S RR.F (hr2.mono (Nat.le_of_ble_eq_true rfl)) RR.b .nil (passes_call (takes_of rfl rfl rfl rfl) (fun _ _ _ _ z => z)) (pa_cons (pv 5) pa_nil))))) pa_nil)))
  (pss_cons (ps_expr (pe_bm PySem.F.plainAttrs_list PySem.F.slot_list_append PySem.F.type_list_append mt_append (pv 6) (pa_cons (pe_lamcall (k := 12) (T := TS) (TT := TTheard K DU DS DR DT DX DM_) (by rfl) FH.mgf FH.kp lkH cdH bH scHea rfl (.inl rfl) (heard_gives R T hG (hr.mono (by decide))) TB rfl TO.mem TO.own (hr.mono (by decide)) (lamS_by (by rfl)) rfl (fun _ _ _ _ _ => rfl)
      (fun A outer s H E f c2 hr2 => (by exact (pe_static (pe_glob (v := .ref UC) (by rfl) hUC rfl) RR.S RR.F (hr2.mono (Nat.le_of_ble_eq_true rfl)) RR.b .nil (passes_call (takes_of rfl rfl rfl rfl) (fun _ _ _ _ z => z)) (pa_cons (pe_op op_add_str (pv 5) pe_str) pa_nil))))) pa_nil)))
  (pss_one (ps_ret (pe_and (pe_cmpR (op_eqLT hr.units) (pv 6) (pe_lst (pa_cons (pe_tup (pa_cons pe_str (pa_cons pe_str (pa_cons pe_int pa_nil)))) (pa_cons (pe_tup (pa_cons pe_str (pa_cons pe_int (pa_cons pe_int pa_nil)))) pa_nil))) (nomark _)) (pe_one (pe_cmpR op_eq (C8.pe_c DDu hr (by decide) (by rfl) (pa_cons (pv 3) pa_nil)) (pe_op op_add (pe_op op_add (pe_op op_add pe_int pe_int) (pe_op op_mulW pe_int pe_int)) pe_int) (nomark _)))))))))))))))), ?_⟩
    refine ⟨_, rfl, a, ns, rfl, hs, hl, fun p pl H1 hp1 s1 _ => ?_⟩
    dsimp only [gName, tSeq]
    refine ⟨_, rfl, by decide, by decide, for_range (fun i σ' H' => ∃ x2 x7 x8 x9, σ' = [some (V.ref a), some (V.ref p), x2, none, none, none, none, x7, x8, x9] ∧ Pen H' p pl (100 * i) ∧ Tabs TS H') ⟨_, _, _, _, rfl, hp1, ht.ext s1⟩ ?_ ?_⟩
    · rintro i σ1 H2 hi ⟨x2, x7, x8, x9, rfl, hp2, ht2⟩
      have hi5 : i < 7 := hi
      dsimp only [gName, tSeq]
      refine ⟨_, rfl, _, rfl, p, pl, _, 7, rfl, by decide, by decide, hp2, by omega, fun r H3 r0 r1 hp3 k3 => ?_⟩
      obtain ⟨j, rfl⟩ := Int.eq_ofNat_of_zero_le r0
      refine ⟨_, _, rfl, rfl, p, pl, _, 1 + j, rfl, by omega, by omega, by omega, hp3, by omega, fun t a4 H4 lf ct pa hp4 k4 => ?_⟩
      refine ⟨a4, t, rfl, pa, lf, by omega, by omega, fun H5 s5 => ?_⟩
      have pg := page0 lf (by omega : t.cnt ≤ 7)
      have hp5 := (hp4.keep s5).more (by omega : _ ≤ 100 * i + 70)
      have ht5 := (Lw.Tabs.kp (Lw.Tabs.kp ht2 hp2 k3) hp3 k4).ext s5
      generalize t.tx = cs at pg ⊢
      clear pa hp4 k4 s5 hp3 k3 hp2 ht2
      dsimp only [gName, tSeq, List.set]
      refine ifs_no (fun H' => Pen H' p pl (100 * i + 70) ∧ Tabs TS H') (fun H6 ⟨hp6, ht6⟩ => ?_) (fun QQ go => ?_)
      rotate_left
      · exact ⟨_, rfl, cs, 0, rfl, pg, by decide, ht5, fun H6 x6 t6 => ⟨_, rfl, go _ ⟨hp5.extn x6, t6⟩⟩⟩
      clear hp5 ht5
      dsimp only [tSeq]
      refine ⟨_, rfl, by decide, by decide, for_range (fun n σ' H' => ∃ x8 cs, σ' = [some (V.ref a), some (V.ref p), some (V.int (0 + (i : Int))), none, none, none, none, some (V.str (S cs)), x8, x9] ∧ PgK n cs ∧ Pen H' p pl (100 * i + 70 + 3 * n) ∧ Tabs TS H') ⟨_, cs, rfl, pg, hp6, ht6⟩ ?_ ?_⟩
      · rintro n σ2 H7 hn ⟨x8, cs, rfl, pg, hp7, ht7⟩
        have hn : n < 3 := hn
        dsimp only [gName, tSeq]
        refine ⟨_, rfl, _, rfl, p, pl, _, n, cs, rfl, pg, by omega, hp7, by omega, fun ds H8 pg8 hp8 k8 => ?_⟩
        have ht8 := Lw.Tabs.kp ht7 hp7 k8
        dsimp only [gName, tSeq, List.set]
        refine ifs_no (fun H' => Pen H' p pl (100 * i + 70 + 3 * (n + 1)) ∧ Tabs TS H') (fun H6 ⟨hp6, ht6⟩ => ⟨_, _, rfl, pg8, hp6, ht6⟩) (fun QQ go => ?_)
        exact ⟨_, rfl, ds, n + 1, rfl, pg8, by omega, ht8, fun H6 x6 t6 => ⟨_, rfl, go _ ⟨hp8.extn x6, t6⟩⟩⟩
      · rintro σ2 H7 ⟨x8, cs, rfl, pg, hp7, ht7⟩
        have hp7 : Pen H7 p pl (100 * i + 79) := hp7
        dsimp only [gName, tSeq]
        refine ⟨_, rfl, (by show 1 ≤ sizeLine; decide), fun q1 f1 => ⟨(by show 1 ≤ sizeLine; decide), fun q2 f2 => fun q3 f3 => fun x dx hx hdx ne => fx_ok (by decide) (by decide) hx hdx ne fun H8 s8 fa => ⟨(by show 7 ≤ sizeLine; decide), fun q fq => ?_⟩⟩⟩
        have sA := same_new (o := HO.tup [V.str (Str.ofString "fixed 1")]) f1
        have sB := same_new (o := HO.lst [V.str (Str.ofString "fixed 1")]) f2
        have sC := same_new (o := HO.dK []) f3
        have hpA := hp7.keep sA
        have hpB := hpA.keep sB
        have hpC := hpB.keep sC
        have hp8 := hpC.keep s8
        have n1 : q1 ≠ p := hp7.ne_new f1
        have n2 : q2 ≠ p := hpA.ne_new f2
        have n3 : q3 ≠ p := hpB.ne_new f3
        have nx : x ≠ p := hpC.ne_new hx
        have nq : q ≠ p := hp8.ne_new fq
        obtain ⟨dx1, px, hx8, _⟩ := fa
        have h1 := (sB.trans (sC.trans s8)) _ _ (upd_same (H := H7) (a := q1) (o := HO.tup [V.str (Str.ofString "fixed 1")]))
        have h2 := (sC.trans s8) _ _ (upd_same (a := q2) (o := HO.lst [V.str (Str.ofString "fixed 1")]))
        have h3 := s8 _ _ (upd_same (a := q3) (o := HO.dK []))
        have ht8 := (((ht7.ext sA).ext sB).ext sC).ext s8
        have sD := same_new (o := HO.lst [V.non, V.int 0, V.bl true, V.ref q1, V.ref q2, V.ref q3, V.ref x]) fq
        have hp9 := hp8.keep sD
        have ht9 := ht8.ext sD
        clear hp7 hpA hpB hpC sA sB sC s8 f1 f2 f3 hx hdx ne ht7
        refine ⟨p, pl, q, _, _, rfl, hp9, by omega, SqL.of upd_same, nq, (by show 0 < 7; decide), (by show 7 < 1000000; decide), fun j v H10 hj hp10 k10 => ?_⟩
        have ht10 := Lw.Tabs.kp ht9 hp9 k10
        have h1 := k10 _ _ n1 (sD _ _ h1)
        have h2 := k10 _ _ n2 (sD _ _ h2)
        have h3 := k10 _ _ n3 (sD _ _ h3)
        have h4 := k10 _ _ nx (sD _ _ hx8)
        dsimp only [gName, List.set]
        have IC : C8.InsC K FC := Z.ins FC (Rk.of (.fx 1))
        have av : isS v = false ∧ ∀ H', ExtN H10 H' → Anyv K H' v := by
          have hv := List.mem_of_getElem? hj
          simp only [List.mem_cons, List.not_mem_nil, or_false] at hv
          rcases hv with rfl | rfl | rfl | rfl | rfl | rfl | rfl
          · exact ⟨rfl, fun _ _ => .non⟩
          · exact ⟨rfl, fun _ _ => .int _⟩
          · exact ⟨rfl, fun _ _ => .bl _⟩
          · exact ⟨rfl, fun H' e => any_tup (e _ _ h1 (fun _ z => by cases z))⟩
          · exact ⟨rfl, fun H' e => any_lst (e _ _ h2 (fun _ z => by cases z))⟩
          · exact ⟨rfl, fun H' e => any_dK (e _ _ h3 (fun _ z => by cases z))⟩
          · exact ⟨rfl, fun H' e => .obj (.x (.base (.ins (e _ _ h4 (fun _ z => by cases z)) IC.cl IC.ha IC.hn IC.htk IC.hm))) nI nB nS⟩
        refine ifs_no (fun H' => Pen H' p pl (100 * i + 80) ∧ Tabs TS H') (fun H6 ⟨hp6, ht6⟩ => ⟨_, _, _, _, rfl, hp6.more (by omega), ht6⟩) (fun QQ go => ?_)
        refine ⟨ht10, fun H11 x11 t11 H12 s12 => ⟨rfl, _, rfl, v, rfl, av.2 _ (x11.trans (.of s12)), (fun _ => hd_text fun t8 H13 s13 h8 => ⟨(by show 3 ≤ sizeLine; decide), fun q5 f5 => ?_⟩), fun z hz => by rw [hz] at av; exact absurd av.1 (by simp [isS])⟩⟩
        refine ⟨pTx 0, pTx 0, dp_pTx (same_new f5 _ _ h8), dp_pTx upd_same, shp_pTx _, shp_pTx _, _, rfl, ?_⟩
        rw [eqv_pTx]
        exact go _ ⟨hp10.extn (((x11.trans (.of s12)).trans (.of s13)).trans (.of (same_new f5))), ((t11.ext s12).ext s13).ext (same_new f5)⟩
    · rintro σ1 H2 ⟨x2, x7, x8, x9, rfl, hp2, ht2⟩
      clear hp1 s1 hs ht
      dsimp only [gName, tSeq]
      refine ⟨[40, 32], 6, rfl, rfl, by decide, by decide, by decide, _, _, rfl, rfl, by decide +kernel, [32, 38, 32, 102, 105, 120, 101, 100, 32, 50, 32, 41], 6, rfl, rfl, by decide, by decide, by decide, _, _, rfl, rfl, by decide +kernel, ?_⟩
      have e7 : (S (List.replicate (6 : Int).toNat [40, 32]).flatten ++ Str.ofString "fixed 1") ++ S (List.replicate (6 : Int).toNat [32, 38, 32, 102, 105, 120, 101, 100, 32, 50, 32, 41]).flatten = S seven := by
        rw [ofS [102, 105, 120, 101, 100, 32, 49] "fixed 1" rfl, S_cat, S_cat]; rfl
      rw [e7]
      clear e7
      dsimp only [gName, tSeq, List.set]
      refine ⟨(by show 9 ≤ sizeLine; decide), fun q1 f1 => ?_⟩
      dsimp only [gName, tSeq, List.set]
      refine ⟨_, rfl, (by show 5 ≤ sizeLine; decide), fun q2 f2 => ⟨q1, q2, lsA, lsB, rfl, rfl, same_new f2 _ _ upd_same, upd_same, (by show 14 ≤ sizeLine; decide), fun q3 f3 => ?_⟩⟩
      dsimp only [gName, tSeq, List.set]
      refine ⟨_, rfl, [40, 32], 40, rfl, rfl, by decide, by decide, by decide, _, rfl, (by show 6 ≤ sizeLine; decide), fun q4 f4 => ⟨q3, q4, lsA ++ lsB, lsC, rfl, rfl, same_new f4 _ _ upd_same, upd_same, (by show 20 ≤ sizeLine; decide), fun q5 f5 => ?_⟩⟩
      have sx : Same H2 (upd (upd (upd (upd (upd H2 q1 (.lst lsA)) q2 (.lst lsB)) q3 (.lst (lsA ++ lsB))) q4 (.lst lsC)) q5 (.lst ((lsA ++ lsB) ++ lsC))) := ((((same_new f1).trans (same_new f2)).trans (same_new f3)).trans (same_new f4)).trans (same_new f5)
      have hq : upd (upd (upd (upd (upd H2 q1 (.lst lsA)) q2 (.lst lsB)) q3 (.lst (lsA ++ lsB))) q4 (.lst lsC)) q5 (.lst ((lsA ++ lsB) ++ lsC)) q5 = some (.lst (some20.map fun cs => V.str (S cs))) := by rw [upd_same, ls20]
      generalize hG : upd (upd (upd (upd (upd H2 q1 _) q2 _) q3 _) q4 _) q5 _ = H3
      have ht3 : Tabs TS H3 := by rw [← hG]; exact ht2.ext sx
      have hq : H3 q5 = some (.lst (some20.map fun cs => V.str (S cs))) := by rw [← hG]; exact hq
      clear hG sx f1 f2 f3 f4 f5 hp2 ht2
      dsimp only [gName, tSeq, List.set]
      refine ifs_no (fun H' => Tabs TS H') (fun H4 ht4 => ?_) (fun QQ go => ?_)
      rotate_left
      · have len : (some20.map fun cs => V.str (S cs)).length = 20 := rfl
        refine ⟨_, rfl, q5, rfl, ⟨_, SqL.of hq⟩, fun D hD => lc_it (walk_list (xs := some20.map fun cs => V.str (S cs))) (fun n H' => ExtN H3 H' ∧ Tabs TS H' ∧ H' D = some (.lst [])) ⟨.of (same_new hD), ht3.ext (same_new hD), upd_same⟩ (fun n H' _ h => SqL.of (h.1 _ _ hq (fun _ z => by cases z))) ?_ ?_⟩
        · rintro n x H5 H6 hn ⟨x5, t5, d5⟩ ⟨rfl, hx⟩
          obtain ⟨cs, hc, rfl⟩ : ∃ cs, some20[n]? = some cs ∧ x = V.str (S cs) := by
            rw [List.getElem?_map] at hx
            obtain ⟨a, h1, h2⟩ := Option.map_eq_some_iff.mp hx
            exact ⟨a, h1, h2.symm⟩
          have ok := List.all_eq_true.mp some20_ok cs (List.mem_of_getElem? hc)
          rw [Bool.and_eq_true] at ok
          have pg := pgB_ok ok.1
          obtain ⟨e, he⟩ := Option.isSome_iff_exists.mp ok.2
          have pl := pg.l
          dsimp only [gName]
          refine ⟨rfl, ?_⟩
          refine ⟨_, rfl, cs, rfl, pg.c, by omega, pg.lw (by decide), fun H7 s7 => ⟨rfl, _, rfl, ?_⟩⟩
          rw [he]
          refine iteF' (decide_eq_false (fun h => by cases h)) ?_
          refine ⟨_, rfl, cs, 0, rfl, pg, by decide, t5.ext s7, fun H8 x8 t8 => ⟨_, rfl, ?_⟩⟩
          have x9 := (x5.trans (.of s7)).trans x8
          exact ⟨x9, t8, x8 _ _ (s7 _ _ d5) (fun _ z => by cases z)⟩
        · rintro H5 ⟨x5, t5, d5⟩
          refine ⟨(by show 0 ≤ sizeLine; decide), fun q hq' => ⟨.list [], .list [], .lst (SqL.of (same_new hq' _ _ d5)) .nil, .lst (SqL.of upd_same) .nil, by decide +kernel, by decide +kernel, _, rfl, ?_⟩⟩
          rw [show PyData.eqv (.list []) (.list []) = true by decide +kernel]
          exact go _ (t5.ext (same_new hq'))
      clear hq ht3
      dsimp only [gName, tSeq, List.set]
      have eW : Str.ofString "( ( divided 1 0 24 & divided 1 0 23 ) | divided 1 0 19 )" = S wideC := by decide +kernel
      rw [eW]
      clear eW
      have pgW := pgB_ok wide_pg
      have pg5 := pgB_ok wide5_pg
      have lW := pgW.l
      have l5 := pg5.l
      refine ⟨ht4, fun H5 x5 t5 H6 s6 => ⟨rfl, _, rfl, _, rfl, .str _, (fun e => by cases e), fun z hz => ⟨wideC, (by cases hz; rfl), pgW.c, by omega, RdO.many pgW wide_due wide_mdl (by decide) (hd_many fun t8 H8 s8 h8 => ?_)⟩⟩⟩
      refine ⟨(by show 1 ≤ sizeLine; decide), fun q1 f1 => ?_⟩
      have t9 := ((t5.ext s6).ext s8).ext (same_new (o := HO.lst [V.ref t8]) f1)
      have h9 := same_new (o := HO.lst [V.ref t8]) f1 _ _ h8
      have hq9 : upd H8 q1 (.lst [V.ref t8]) q1 = some (.lst [V.ref t8]) := upd_same
      generalize upd H8 q1 _ = H9 at t9 h9 hq9 ⊢
      clear x5 t5 s6 s8 h8 f1 ht4
      dsimp only [gName, tSeq, List.set]
      refine ⟨_, rfl, .inl ⟨rfl, _, SqL.of hq9⟩, t9, fun Ha xa ta Hb sb => ⟨rfl, _, rfl, _, _, rfl, rfl, (by decide +kernel), _, rfl, .str _, (fun e => by cases e), fun z hz => ⟨wideC ++ [32, 53], ?_, pg5.c, by omega, RdO.text wide5_due (hd_text fun t10 Hc sc h10 => ?_)⟩⟩⟩
      · rw [ofS [32, 53] " 5" rfl, S_cat] at hz
        cases hz; rfl
      have hqc := sc _ _ (sb _ _ (xa _ _ hq9 (fun _ z => by cases z)))
      have h9c := sc _ _ (sb _ _ (xa _ _ h9 (fun _ z => by cases z)))
      have ne1 : t8 ≠ q1 := fun e => by rw [e, hqc] at h9c; cases h9c
      have ne2 : t10 ≠ q1 := fun e => by rw [e, hqc] at h10; cases h10
      refine ⟨q1, _, _, rfl, rfl, hqc, (by show 1 < sizeLine; decide), ?_⟩
      have hqd : upd Hc q1 (.lst ([V.ref t8] ++ [V.ref t10])) q1 = some (.lst [V.ref t8, V.ref t10]) := upd_same
      have h9d : upd Hc q1 (.lst ([V.ref t8] ++ [V.ref t10])) t8 = _ := (upd_ne ne1).trans h9c
      have h10d : upd Hc q1 (.lst ([V.ref t8] ++ [V.ref t10])) t10 = _ := (upd_ne ne2).trans h10
      generalize upd Hc q1 _ = Hd at hqd h9d h10d ⊢
      clear hqc h9c h10 sb sc xa ta t9 h9 hq9
      refine ⟨_, rfl, (by show 3 ≤ sizeLine; decide), fun a1 g1 => ⟨(by show 3 ≤ sizeLine; decide), fun a2 g2 => ⟨(by show 2 ≤ sizeLine; decide), fun a3 g3 => ?_⟩⟩⟩
      have z1 := same_new (o := HO.tup [V.str (Str.ofString "many"), V.str (Str.ofString "residues"), V.int 5000]) g1
      have z2 := same_new (o := HO.tup [V.str (Str.ofString "text"), V.int 0, V.int 18]) g2
      have z3 := same_new (o := HO.lst [V.ref a1, V.ref a2]) g3
      have zz := (z1.trans z2).trans z3
      refine .inl ⟨.list [pMn, pTx 18], .list [pMn, pTx 18], .lst (SqL.of (zz _ _ hqd)) (.cons (dp_pMn (zz _ _ h9d)) (.cons (dp_pTx (zz _ _ h10d)) .nil)), .lst (SqL.of upd_same) (.cons (dp_pMn ((z2.trans z3) _ _ upd_same)) (.cons (dp_pTx (z3 _ _ upd_same)) .nil)), by decide +kernel, by decide +kernel, _, rfl, ?_⟩
      rw [show PyData.eqv (.list [pMn, pTx 18]) (.list [pMn, pTx 18]) = true by decide +kernel, if_pos rfl]
      have pg7 := pgB_ok seven_pg
      have l7 := pg7.l
      refine ⟨_, rfl, seven, rfl, pg7.c, by omega, pg7.lw (by decide), fun He se => ?_⟩
      rw [seven_due]
      refine ⟨_, _, rfl, rfl, _, _, rfl, rfl, (by unfold CMulW; decide), _, _, rfl, rfl, _, _, rfl, rfl, rfl, ?_⟩
      rw [decide_eq_true (by rfl)]
      exact k _
end
end Lw
namespace Lw
open PySem PySem.Spec PyProof.Rows L2
open LamX
/-! ### the call of the law where nothing is being shown, with tables of code objects -/
/-- what is tracked when the law is entered: the tables, and the script unless it is written -/
def Entry (K : PySem.W.Frag) (h : Heap) (a : Addr) (Bs : List Addr) (ns : List Int) (H : Hp) : Prop :=
  (∀ B ∈ Bs, H B = some (.tbl #[])) ∧ SqL K H a (ns.map V.int) ∧ (∀ b u, H b = some u → (b ∈ Bs ∧ u = .tbl #[]) ∨ (b = a ∧ K.lookup a = none ∧ ∃ o xs, u = .frz o (.lst xs) ∧ h.get? a = some o))
theorem entry {P : Program} {w : World} {K : PySem.W.Frag} {h : Heap} {a : Addr} {Bs : List Addr} {vs : List Value} {ns : List Int} (KX : K.In h) (hT : ∀ B ∈ Bs, h.get? B = some { cls := .none, data := .fields #[] }) (ha : h.get? a = some { cls := .type "list", data := .seq vs.toArray }) (hi : IntsAre vs ns) (hl : ns.length ≤ sizeLine) :
    a ∉ Bs ∧ ∃ H, Entry K h a Bs ns H ∧ HOk P w H h := by
  have rv := vals_ints hi
  have lv := hi.length
  have ne : a ∉ Bs := fun e => by
    have hT := hT a e
    rw [ha] at hT
    have z : Data.seq vs.toArray _ = Data.fields #[] := congrArg Obj.data (Option.some.inj hT)
    cases z
  refine ⟨ne, ?_⟩
  cases hk : K.lookup a with
  | some o =>
    have e := KX a o hk
    rw [ha] at e
    cases e
    refine ⟨fun b => if b ∈ Bs then some (.tbl #[]) else none, ⟨fun B hB => if_pos hB, .inr ⟨_, vs.toArray, _, hk, rfl, rfl, rfl, by rw [List.size_toArray, lv]; exact hl, by simpa using rv⟩, fun b u z => ?_⟩, fun b u z => ?_⟩
    · by_cases q : b ∈ Bs
      · exact .inl ⟨q, (Option.some.inj ((if_pos q).symm.trans z)).symm⟩
      · cases (if_neg q).symm.trans z
    · by_cases q : b ∈ Bs
      · cases (if_pos q).symm.trans z
        exact hT b q
      · cases (if_neg q).symm.trans z
  | none =>
    refine ⟨fun b => if b ∈ Bs then some (.tbl #[]) else if b = a then some (.frz { cls := .type "list", data := .seq vs.toArray } (.lst (ns.map V.int))) else none,
      ⟨fun B hB => if_pos hB, .inl (.inr ⟨_, (if_neg ne).trans (if_pos rfl)⟩), fun b u z => ?_⟩, fun b u z => ?_⟩
    · by_cases q : b ∈ Bs
      · exact .inl ⟨q, (Option.some.inj ((if_pos q).symm.trans z)).symm⟩
      · have z2 := (if_neg q).symm.trans z
        by_cases q2 : b = a
        · exact .inr ⟨q2, hk, _, _, (Option.some.inj ((if_pos q2).symm.trans z2)).symm, ha⟩
        · cases (if_neg q2).symm.trans z2
    · by_cases q : b ∈ Bs
      · cases (if_pos q).symm.trans z
        exact hT b q
      · have z2 := (if_neg q).symm.trans z
        by_cases q2 : b = a
        · cases (if_pos q2).symm.trans z2
          rw [q2]
          exact ⟨ha, by rw [List.length_map]; exact hl, vs, _, rv, ha⟩
        · cases (if_neg q2).symm.trans z2
theorem law_end {P : Program} {w : World} {K : PySem.W.Frag} {mg mb : Str → Option Value} {k : Nat} {fa a : Addr} {Bs : List Addr} {fd : FuncData} {x : Str} {sp : Sp} {s₁ : Shared} {vs : List Value} {ns : List Int}
    (KX : K.In s₁.heap) (hns : s₁.heap.Ns mainGlobals mg) (hb : s₁.heap.Ns builtinsNs mb) (hbb : ∀ x : Str, x ≠ "__name__" → mb x = bootBuiltins x) (hlim : s₁.heap.NoLimit) (hg : s₁.gens = #[])
    (hT : ∀ B ∈ Bs, s₁.heap.get? B = some { cls := .none, data := .fields #[] }) (nT : ∀ B ∈ Bs, K.lookup B = none) (C : ∀ B ∈ Bs, ∃ c, PySem.W.CodeHd s₁.heap c B)
    (hbm : ∃ (bm : Addr) (ob : Obj), mg "__builtins__" = some (.ref bm) ∧ bm ≠ builtinsNs ∧ s₁.heap.get? bm = some ob ∧ ob.cls = .type "module" ∧ ob.dict = some builtinsNs ∧ ob.data = .plain)
    (ha : s₁.heap.get? a = some { cls := .type "list", data := .seq vs.toArray }) (hi : IntsAre vs ns) (hl : ns.length ≤ sizeLine) (hr : Room k callerA)
    (F : ∀ base : Heap, K.In base → base.Ns mainGlobals mg → (∀ B ∈ Bs, ∀ c, PySem.W.CodeHd s₁.heap c B → TabB base mg c B) → FnG P w K mg base k fa fd [x] sp) (hbind : ∀ (s : Shared) (u : Value), BindsTo s fd ⟨[u], []⟩ [(x, u)])
    (hsp : ∀ H : Hp, (∀ B ∈ Bs, H B = some (.tbl #[])) → SqL K H a (ns.map V.int) → sp [.ref a] H (fun v _ => v = .bl true) C8.E0) :
    codeAny (model P w) callerA (.call (.ref fa) ⟨[.ref a], []⟩) (fun r s' => r = .ok (.ret (.bool true)) ∧ OldK s₁.heap s'.heap ∧ s'.os = s₁.os ∧ AllBare s'.gens) s₁ := by
  obtain ⟨ne, H, ⟨hB, hS, hA⟩, hok⟩ := entry (P := P) (w := w) KX hT ha hi hl
  -- what is neither a table nor the script is untracked
  have free : ∀ {b : Addr} {o : Obj}, s₁.heap.get? b = some o → (∀ vs n, o.data ≠ .seq vs n) → o.data ≠ .fields #[] → H b = none := fun {b o} e h1 h2 => by
    cases q : H b with
    | none => rfl
    | some u =>
      rcases hA b u q with ⟨e', _⟩ | ⟨e', _⟩
      · rw [hT b e'] at e
        cases e
        exact absurd rfl h2
      · rw [e', ha] at e
        cases e
        exact absurd rfl (h1 _ _)
  have through : ∀ {b : Addr} {o : Obj}, s₁.heap.get? b = some o → H b = none → (hidT s₁.heap H).get? b = some o := fun e n => hidT_get e n
  have nsT : ∀ {b : Addr} {m : Str → Option Value}, s₁.heap.Ns b m → (hidT s₁.heap H).Ns b m := fun {b m} ⟨o, es, ep, e, d, r⟩ => by
    refine ⟨o, es, ep, through e (free e (fun vs n z => ?_) fun z => ?_), d, r⟩ <;> · rw [d] at z; cases z
  have inT : K.In (hidT s₁.heap H) := fun b o e => by
    refine through (KX b o e) ?_
    cases q : H b with
    | none => rfl
    | some u =>
      rcases hA b u q with ⟨e', _⟩ | ⟨e', n, _⟩
      · rw [nT b e'] at e; cases e
      · rw [e', n] at e; cases e
  have modT : L2.Mod K mg (hidT s₁.heap H) := by
    obtain ⟨mc, h1, h2⟩ := hlim
    exact ⟨inT, nsT hns, ⟨mb, nsT hb, hbb⟩, ⟨mc, nsT h1, h2⟩⟩
  have tabT : ∀ B ∈ Bs, ∀ c, PySem.W.CodeHd s₁.heap c B → TabB (hidT s₁.heap H) mg c B := fun B hBs c C => by
    refine ⟨?_, ?_, fun z => ?_⟩
    · obtain ⟨o, us, file, tf, flags, tg, inF, text, tt, e1, r1, r2, r3, r4⟩ := C
      refine ⟨o, us, file, tf, flags, tg, inF, text, tt, through e1 (free e1 (fun vs n z => ?_) fun z => ?_), r1, r2, r3, r4⟩
      · rw [r2] at z; cases z
      · rw [r2] at z; cases z
        simp at r3
    · obtain ⟨bm, ob, b1, b2, b3, b4, b5, b6⟩ := hbm
      refine ⟨bm, ob, b1, b2, fun q => ?_, fun q => ?_, through b3 (free b3 (fun vs n z => ?_) fun z => ?_), b4, b5, b6⟩
      · obtain ⟨o, es, ep, e, d, _⟩ := hns
        rw [q, e] at b3
        cases b3
        rw [d] at b6
        cases b6
      · rw [q, hT B hBs] at b3
        cases b3
        cases b6
      · rw [b6] at z; cases z
      · rw [b6] at z; cases z
    · obtain ⟨o, es, ep, e, d, _⟩ := hns
      rw [z, hT B hBs] at e
      cases e
      cases d
  have e0 : Env0 P w K mg (hidT s₁.heap H) callerA [] s₁ H := ⟨rfl, modT, fun b o e => of_hidT e, Nat.le_of_eq (hidT_size _ _), trivial, fun b hb => absurd (show b ∈ ([] : List Addr) from hb) (by simp), hok, .of_eq hg⟩
  refine codeAny_mono ((F _ inT (nsT hns) tabT).run callerA [] s₁ H ⟨[.ref a], []⟩ [.ref a] [.ref a] _ _ rfl hr e0 (hbind s₁ (.ref a)) (.cons rfl .nil) (hsp H hB hS)) fun r s' q => ?_
  match r, q with
  | .error e, q => exact (show False from q).elim
  | .ok .next, q => exact (show False from q).elim
  | .ok .brk, q => exact (show False from q).elim
  | .ok .cont, q => exact (show False from q).elim
  | .ok (.ret u), q =>
    obtain ⟨v, H', os, bare, un, hok', r', qv⟩ := q
    have qv' : v = .bl true := qv
    subst qv'
    obtain rfl : u = Value.bool true := r'
    have same : ∀ b o, b ∉ Bs → s₁.heap.get? b = some o → s'.heap.get? b = some o := fun b o nb e => by
      cases q : H b with
      | none => exact un.keep b o e q (by intro z; exact absurd (show b ∈ ([] : List Addr) from z) (by simp)) (by simp)
      | some u =>
        rcases hA b u q with ⟨z, _⟩ | ⟨e', _, ob, xs, rfl, hob⟩
        · exact absurd z nb
        · obtain ⟨e2, _⟩ := hok' b _ (un.frzs b ob _ q)
          rw [e', hob] at e
          cases e
          exact e2
    refine ⟨rfl, ⟨fun b o e => ?_, fun b o e => ?_⟩, os, bare⟩
    · by_cases hb : b ∈ Bs
      · obtain ⟨more, hmore⟩ := un.tbls b #[] (hB b hb)
        have atB := hok' b _ hmore
        obtain ⟨c, C⟩ := C b hb
        have hT := hT b hb
        rw [hT] at e
        cases e
        exact .inr (.inl ⟨(C.tab hT).isCodeTable, rfl, #[], _, rfl, atB⟩)
      · exact .inl (same b o hb e)
    · by_cases hb : b ∈ Bs
      · obtain ⟨more, hmore⟩ := un.tbls b #[] (hB b hb)
        exact ⟨_, hok' b _ hmore⟩
      · exact ⟨o, same b o hb e⟩
theorem tabIn_of {K : PySem.W.Frag} {x : Str} {f c B : Addr} {oc occ : Value} {od odc : Option Addr} {fd : FuncData} {sl slc : Array (Option Value)} {us : Array Value} (h1 : PySem.W.nsIn K mainGlobals x = some (some (.ref f))) (h2 : K.lookup f = some ⟨oc, od, .func fd, sl⟩) (hc : fd.code = .ref c)
    (h3 : K.lookup c = some ⟨occ, odc, .fields us, slc⟩) (h4 : us[11]? = some (.ref B)) : PySem.W.tabIn K x = some (c, B) := by
  unfold PySem.W.tabIn
  rw [h1]
  dsimp only
  rw [h2]
  dsimp only
  rw [hc]
  dsimp only
  rw [h3]
  dsimp only
  rw [h4]
/-- the walk's end, with any number of tables of code objects (tb: the def's name, its code object, its table) -/
theorem walk_endL {l : PySem.W.OpenLaw} {n k : Nat} {q : Program} {loose : List Str} {XP : (Str → Option Value) → Heap → Prop} {YP : World → Heap → Prop} {d : DefRec} {K : Params → PySem.W.Frag} {x : Str} {xts : List Str}
    (hn : l.most = some n) (hn2 : n ≤ 63) (hdf : d.params.defaults = []) (hr : Room k callerA) (hY : ∀ (w : World) (h : Heap), YP w h → (K w.params).In h) (hrec : (xts.all fun xt => ((recsOf q).find? fun e => e.name == xt).isSome) = true)
    (F : ∀ (w : World) (mg : Str → Option Value) (fa : Addr) (h : Heap), (K w.params).In h → h.Ns mainGlobals mg → mg d.name = some (.ref fa) → ∃ (fd : FuncData) (tb : List (Str × Addr × Addr)) (sp : Sp), (∀ e ∈ tb, e.1 ∈ xts ∧ PySem.W.tabIn (K w.params) e.1 = some (e.2.1, e.2.2) ∧ (K w.params).lookup e.2.2 = none) ∧ (∀ (s : Shared) (u : Value), BindsTo s fd ⟨[u], []⟩ [(x, u)]) ∧
      (∀ base : Heap, (K w.params).In base → base.Ns mainGlobals mg → (∀ e ∈ tb, TabB base mg e.2.1 e.2.2) → FnG l.prog w (K w.params) mg base k fa fd [x] sp) ∧
      ∀ (H : Hp) (a : Addr) (ns : List Int), (∀ e ∈ tb, H e.2.2 = some (.tbl #[])) → SqL (K w.params) H a (ns.map V.int) → ns.length ≤ 63 → sp [.ref a] H (fun v _ => v = .bl true) C8.E0) :
    PySem.W.WalkO q loose XP YP l.row.toRowW d [] (fun f vs => PySem.call f vs) := by
  refine Att.attach_callB hn hdf fun w s₀ s₁ mg mb fa o pm cd doc a vs ns G Y ho hd hcd hmg hobj hints hlen hbits hg => ?_
  have KX := hY w _ Y
  obtain ⟨fd, tb, sp, ht, hb, hF, hsp⟩ := F w mg fa _ KX G.T.g hmg
  have tab : ∀ e ∈ tb, PySem.W.CodeHd s₁.heap e.2.1 e.2.2 ∧ s₁.heap.get? e.2.2 = some { cls := .none, data := .fields #[] } := fun e he => by
    obtain ⟨h1, h2, h3⟩ := ht e he
    obtain ⟨dr, hdr⟩ := Option.isSome_iff_exists.mp (List.all_eq_true.mp hrec _ h1)
    exact PySem.W.tab_of G.T KX hdr h2
  have mem : ∀ {p : Addr → Prop}, (∀ e ∈ tb, p e.2.2) → ∀ b ∈ tb.map (·.2.2), p b := fun {p} h b hb => by
    obtain ⟨e, he, rfl⟩ := List.mem_map.mp hb
    exact h e he
  exact law_end (Bs := tb.map (·.2.2)) KX G.T.g G.T.b G.T.builtins G.T.nolimit hg (mem fun e he => (tab e he).2) (mem fun e he => (ht e he).2.2) (mem fun e he => ⟨_, (tab e he).1⟩) G.T.bmain hobj hints (Nat.le_trans (Nat.le_trans hlen hn2) (by decide)) hr
    (fun base kin ns' tbb => hF base kin ns' fun e he => tbb e.2.2 (List.mem_map.mpr ⟨e, he, rfl⟩) e.2.1 (tab e he).1) hb fun H hB hS => hsp H a ns (fun e he => hB e.2.2 (List.mem_map.mpr ⟨e, he, rfl⟩)) hS (Nat.le_trans hlen hn2)
end Lw
namespace Lw
open PySem PySem.Spec PyProof.Rows L2

open LamX ClX StX
set_option pp.maxSteps 900
def tab2 (B0 B1 : Addr) : List (Addr × Str) := [(B0, ((("_law_read_right" : Str) ++ (".<locals>." : Str)) ++ ("<lambda>" : Str))), (B1, ((("law" : Str) ++ (".<locals>." : Str)) ++ ("<lambda>" : Str)))]
theorem tab2_0 {B0 B1 : Addr} (h10 : B1 ≠ B0) : TabOf (tab2 B0 B1) B0 "_law_read_right" := ⟨by simp [tab2], fun p hp e => by
  simp only [tab2, List.mem_cons, List.not_mem_nil, or_false] at hp
  rcases hp with rfl | rfl
  · rfl
  · exact absurd e h10⟩
theorem tab2_1 {B0 B1 : Addr} (h10 : B1 ≠ B0) : TabOf (tab2 B0 B1) B1 "law" := ⟨by simp [tab2], fun p hp e => by
  simp only [tab2, List.mem_cons, List.not_mem_nil, or_false] at hp
  rcases hp with rfl | rfl
  · exact absurd e h10.symm
  · rfl⟩
theorem kb_same {K : PySem.W.Frag} {x q : Str} {st : Stmt} {f : Addr} {fd : FuncData} {ps ks : List Str} (F : C8.Fun K x q st f fd) (df : fd.defaults = .none) (h : ∀ (kV doc pm : Value) (an : Option Addr) (cdv ct : Value) (us ws : List Value), us.length = 0 → ws.length = ks.length → bindArgs (PySem.W.fnOf x q (C8.fnArgs st) (C8.fnBody st) (C8.fnScope st) .none kV doc pm an cdv ct) ⟨us, ks.zip ws⟩ = pure (ps.zip ws)) :
    KBn K fd ps 0 ks (fun _ ws => ws) (fun _ zs => zs) := by
  obtain ⟨oc, od, dV, kV, doc, pm, an, cdv, ct, osl, rfl, lk, hcd⟩ := F.ex
  have e : dV = .none := df
  subst e
  exact ⟨fun s us ws X h1 h2 => .of_eq (h kV doc pm an cdv ct us ws h1 h2), fun r1 r2 => r2⟩
abbrev sBruE : Stmt := inClass (top 12) 0
theorem scBruE : FnScope ["self", "part"] ["self", "part"] (C8.fnScope sBruE) := C8.fnScope_by (by decide +kernel)
theorem fn_BruE {P : Program} {w : World} {K : PySem.W.Frag} {mg : Str → Option Value} {base : Heap} {C f : Addr} {fd : FuncData} (F : C8.Fun K "__init__" "BadRule.__init__" sBruE f fd) (T : OexC K C) (no1 : PySem.W.findIn K (.ref C) "part" = some none) : FnOk P w K mg base C8.CX0 1 f fd ["self", "part"] (spE1 C "part") := by
  refine C8.fn0 F scBruE (fun vs H Q E h => ?_) (fun cdv A outer st H vs Q E hr h => ?_)
  · obtain ⟨a, v1, rfl, _⟩ := h
    rfl
  · obtain ⟨a, v1, rfl, ha, k⟩ := h
    refine ⟨_, (pss_one (ps_ost (pv 0) (pv 1))), ?_⟩
    exact ⟨_, rfl, _, rfl, a, C, rfl, T, no1, .inl ⟨ha, fun dx h1 h2 => k dx h1 h2 _ (by rw [lookup_put, if_pos rfl])⟩⟩
abbrev sBszE : Stmt := inClass (top 9) 0
theorem scBszE : FnScope ["self", "value"] ["self", "value"] (C8.fnScope sBszE) := C8.fnScope_by (by decide +kernel)
theorem fn_BszE {P : Program} {w : World} {K : PySem.W.Frag} {mg : Str → Option Value} {base : Heap} {C f : Addr} {fd : FuncData} (F : C8.Fun K "__init__" "BadSize.__init__" sBszE f fd) (T : OexC K C) (no1 : PySem.W.findIn K (.ref C) "value" = some none) : FnOk P w K mg base C8.CX0 1 f fd ["self", "value"] (spE1 C "value") := by
  refine C8.fn0 F scBszE (fun vs H Q E h => ?_) (fun cdv A outer st H vs Q E hr h => ?_)
  · obtain ⟨a, v1, rfl, _⟩ := h
    rfl
  · obtain ⟨a, v1, rfl, ha, k⟩ := h
    refine ⟨_, (pss_one (ps_ost (pv 0) (pv 1))), ?_⟩
    exact ⟨_, rfl, _, rfl, a, C, rfl, T, no1, .inl ⟨ha, fun dx h1 h2 => k dx h1 h2 _ (by rw [lookup_put, if_pos rfl])⟩⟩
abbrev sBreE : Stmt := inClass (top 11) 0
theorem scBreE : FnScope ["self", "value"] ["self", "value"] (C8.fnScope sBreE) := C8.fnScope_by (by decide +kernel)
theorem fn_BreE {P : Program} {w : World} {K : PySem.W.Frag} {mg : Str → Option Value} {base : Heap} {C f : Addr} {fd : FuncData} (F : C8.Fun K "__init__" "BadRest.__init__" sBreE f fd) (T : OexC K C) (no1 : PySem.W.findIn K (.ref C) "value" = some none) : FnOk P w K mg base C8.CX0 1 f fd ["self", "value"] (spE1 C "value") := by
  refine C8.fn0 F scBreE (fun vs H Q E h => ?_) (fun cdv A outer st H vs Q E hr h => ?_)
  · obtain ⟨a, v1, rfl, _⟩ := h
    rfl
  · obtain ⟨a, v1, rfl, ha, k⟩ := h
    refine ⟨_, (pss_one (ps_ost (pv 0) (pv 1))), ?_⟩
    exact ⟨_, rfl, _, rfl, a, C, rfl, T, no1, .inl ⟨ha, fun dx h1 h2 => k dx h1 h2 _ (by rw [lookup_put, if_pos rfl])⟩⟩
abbrev sBtoE : Stmt := inClass (top 10) 0
theorem scBtoE : FnScope ["self", "value"] ["self", "value"] (C8.fnScope sBtoE) := C8.fnScope_by (by decide +kernel)
theorem fn_BtoE {P : Program} {w : World} {K : PySem.W.Frag} {mg : Str → Option Value} {base : Heap} {C f : Addr} {fd : FuncData} (F : C8.Fun K "__init__" "BadTotal.__init__" sBtoE f fd) (T : OexC K C) (no1 : PySem.W.findIn K (.ref C) "value" = some none) : FnOk P w K mg base C8.CX0 1 f fd ["self", "value"] (spE1 C "value") := by
  refine C8.fn0 F scBtoE (fun vs H Q E h => ?_) (fun cdv A outer st H vs Q E hr h => ?_)
  · obtain ⟨a, v1, rfl, _⟩ := h
    rfl
  · obtain ⟨a, v1, rfl, ha, k⟩ := h
    refine ⟨_, (pss_one (ps_ost (pv 0) (pv 1))), ?_⟩
    exact ⟨_, rfl, _, rfl, a, C, rfl, T, no1, .inl ⟨ha, fun dx h1 h2 => k dx h1 h2 _ (by rw [lookup_put, if_pos rfl])⟩⟩
abbrev sSize : Stmt := top 6
section
variable {P : Program} {w : World} {K : PySem.W.Frag} {mg : Str → Option Value} {base : Heap}
theorem scSize : FnScope ["value"] ["value"] (C8.fnScope sSize) := C8.fnScope_by (by decide +kernel)
theorem cal_sz {f : Addr} {fd : FuncData} (F : C8.Def K mg "is_size" sSize f fd) (b : Binds K fd ["value"] []) (hGS : ∃ t, mg "GREATEST_SIZE" = some (.int (10 ^ 30) t)) (DW : C8.Cal P w K mg base 2 "is_within" (spWithin K) []) : C8.Cal P w K mg base 3 "is_size" (spSize K) [] := by
  obtain ⟨tf, hGS⟩ := hGS
  refine C8.cal0 F b .nil scSize (fun vs H Q E h => ?_) (fun cdv A outer st H vs Q E hr h => ?_)
  · obtain ⟨x, rfl, _⟩ := h
    rfl
  · obtain ⟨x, rfl, ax, k⟩ := h
    refine ⟨_, (pss_one (ps_ret (C8.pe_c DW hr (by decide) (by rfl) (pa_cons (pv 0) (pa_cons pe_int (pa_cons (pe_glob (v := .int (10 ^ 30)) rfl hGS ⟨_, rfl⟩) pa_nil)))))), ?_⟩
    exact ⟨_, rfl, x, _, _, rfl, ax, k⟩
end

theorem all_known {l : PySem.W.OpenLaw} {w : World} {K : PySem.W.Frag} {h : Heap} {mg : Str → Option Value} {fa : Addr} (X : K.In h) (G : h.Ns mainGlobals mg) (hfa : mg "law" = some (.ref fa))
    {L : Addr}
    {fii : Addr} {ocii kVii dcii pmii ctii cdii : Value} {odii anii : Option Addr} {slii : Array (Option Value)}
    {fiw : Addr} {ociw kViw dciw pmiw ctiw cdiw : Value} {odiw aniw : Option Addr} {sliw : Array (Option Value)}
    {fiz : Addr} {ociz kViz dciz pmiz ctiz cdiz : Value} {odiz aniz : Option Addr} {sliz : Array (Option Value)}
    {fjf : Addr} {ocjf kVjf dcjf pmjf ctjf cdjf : Value} {odjf anjf : Option Addr} {sljf : Array (Option Value)}
    {fis : Addr} {ocis kVis dcis pmis ctis cdis : Value} {odis anis : Option Addr} {slis : Array (Option Value)}
    {fio : Addr} {ocio kVio dcio pmio ctio cdio : Value} {odio anio : Option Addr} {slio : Array (Option Value)}
    {fnu : Addr} {ocnu kVnu dcnu pmnu ctnu cdnu : Value} {odnu annu : Option Addr} {slnu : Array (Option Value)}
    {fwr : Addr} {ocwr kVwr dcwr pmwr ctwr cdwr : Value} {odwr anwr : Option Addr} {slwr : Array (Option Value)}
    {fwp : Addr} {ocwp kVwp dcwp pmwp ctwp cdwp : Value} {odwp anwp : Option Addr} {slwp : Array (Option Value)}
    {fws : Addr} {ocws kVws dcws pmws ctws cdws : Value} {odws anws : Option Addr} {slws : Array (Option Value)}
    {fwo : Addr} {ocwo kVwo dcwo pmwo ctwo cdwo : Value} {odwo anwo : Option Addr} {slwo : Array (Option Value)}
    {fmo : Addr} {ocmo kVmo dcmo pmmo ctmo cdmo : Value} {odmo anmo : Option Addr} {slmo : Array (Option Value)}
    {fjo : Addr} {ocjo kVjo dcjo pmjo ctjo cdjo : Value} {odjo anjo : Option Addr} {sljo : Array (Option Value)}
    {flp : Addr} {oclp kVlp dclp pmlp ctlp cdlp : Value} {odlp anlp : Option Addr} {sllp : Array (Option Value)}
    {fld : Addr} {ocld kVld dcld pmld ctld cdld : Value} {odld anld : Option Addr} {slld : Array (Option Value)}
    {flk : Addr} {oclk kVlk dclk pmlk ctlk cdlk : Value} {odlk anlk : Option Addr} {sllk : Array (Option Value)}
    {fle : Addr} {ocle kVle dcle pmle ctle cdle : Value} {odle anle : Option Addr} {slle : Array (Option Value)}
    {flq : Addr} {oclq kVlq dclq pmlq ctlq cdlq : Value} {odlq anlq : Option Addr} {sllq : Array (Option Value)}
    {flt : Addr} {oclt kVlt dclt pmlt ctlt cdlt : Value} {odlt anlt : Option Addr} {sllt : Array (Option Value)}
    {flh : Addr} {oclh kVlh dclh pmlh ctlh cdlh : Value} {odlh anlh : Option Addr} {sllh : Array (Option Value)}
    {fln : Addr} {ocln kVln dcln pmln ctln cdln : Value} {odln anln : Option Addr} {slln : Array (Option Value)}
    {flr : Addr} {oclr kVlr dclr pmlr ctlr cdlr : Value} {odlr anlr : Option Addr} {sllr : Array (Option Value)}
    {flu : Addr} {oclu kVlu dclu pmlu ctlu cdlu : Value} {odlu anlu : Option Addr} {sllu : Array (Option Value)}
    {flb : Addr} {oclb kVlb dclb pmlb ctlb cdlb : Value} {odlb anlb : Option Addr} {sllb : Array (Option Value)}
    {flx : Addr} {oclx kVlx dclx pmlx ctlx : Value} {odlx anlx : Option Addr} {sllx : Array (Option Value)}
    {fla : Addr} {ocla kVla dcla pmla ctla : Value} {odla anla : Option Addr} {slla : Array (Option Value)}
    {c0 B0 : Addr} {oc_c0 : Value} {od_c0 : Option Addr} {us_c0 : Array Value} {sl_c0 : Array (Option Value)}
    {c1 B1 : Addr} {oc_c1 : Value} {od_c1 : Option Addr} {us_c1 : Array Value} {sl_c1 : Array (Option Value)}
    {FC : Addr}
    {VC : Addr}
    {LC : Addr}
    {GC : Addr}
    {UC : Addr} {mcUC : Value}
    {fur : Addr} {ocur kVur dcur pmur ctur cdur : Value} {odur anur : Option Addr} {slur : Array (Option Value)}
    {pur : Addr} {rsur : List Value}
    {ffi : Addr} {ocfi kVfi dcfi pmfi ctfi cdfi : Value} {odfi anfi : Option Addr} {slfi : Array (Option Value)}
    {fvi : Addr} {ocvi kVvi dcvi pmvi ctvi cdvi : Value} {odvi anvi : Option Addr} {slvi : Array (Option Value)}
    {fgi0 : Addr} {ocgi0 kVgi0 dcgi0 pmgi0 ctgi0 cdgi0 : Value} {odgi0 angi0 : Option Addr} {slgi0 : Array (Option Value)}
    {fgi1 : Addr} {ocgi1 kVgi1 dcgi1 pmgi1 ctgi1 cdgi1 : Value} {odgi1 angi1 : Option Addr} {slgi1 : Array (Option Value)}
    {fft : Addr} {ocft kVft dcft pmft ctft cdft : Value} {odft anft : Option Addr} {slft : Array (Option Value)}
    {ffa : Addr} {ocfa kVfa dcfa pmfa ctfa cdfa : Value} {odfa anfa : Option Addr} {slfa : Array (Option Value)}
    {ffo : Addr} {ocfo kVfo dcfo pmfo ctfo cdfo : Value} {odfo anfo : Option Addr} {slfo : Array (Option Value)}
    {fvt : Addr} {ocvt kVvt dcvt pmvt ctvt cdvt : Value} {odvt anvt : Option Addr} {slvt : Array (Option Value)}
    {fva : Addr} {ocva kVva dcva pmva ctva cdva : Value} {odva anva : Option Addr} {slva : Array (Option Value)}
    {fvo : Addr} {ocvo kVvo dcvo pmvo ctvo cdvo : Value} {odvo anvo : Option Addr} {slvo : Array (Option Value)}
    {fqt : Addr} {ocqt kVqt dcqt pmqt ctqt cdqt : Value} {odqt anqt : Option Addr} {slqt : Array (Option Value)}
    {fqa : Addr} {ocqa kVqa dcqa pmqa ctqa cdqa : Value} {odqa anqa : Option Addr} {slqa : Array (Option Value)}
    {fqo : Addr} {ocqo kVqo dcqo pmqo ctqo cdqo : Value} {odqo anqo : Option Addr} {slqo : Array (Option Value)}
    {fgt : Addr} {ocgt kVgt dcgt pmgt ctgt cdgt : Value} {odgt angt : Option Addr} {slgt : Array (Option Value)}
    {fga : Addr} {ocga kVga dcga pmga ctga cdga : Value} {odga anga : Option Addr} {slga : Array (Option Value)}
    {fgo : Addr} {ocgo kVgo dcgo pmgo ctgo cdgo : Value} {odgo ango : Option Addr} {slgo : Array (Option Value)}
    {R : Addr}
    {fri : Addr} {ocri kVri dcri pmri ctri cdri : Value} {odri anri : Option Addr} {slri : Array (Option Value)}
    {Tdri : Addr} {ocDri : Value} {odDri : Option Addr} {slDri : Array (Option Value)} {tDri : Tok} {nDri : Nat}
    {frh : Addr} {ocrh kVrh dcrh pmrh ctrh cdrh : Value} {odrh anrh : Option Addr} {slrh : Array (Option Value)}
    {fry : Addr} {ocry kVry dcry pmry ctry cdry : Value} {odry anry : Option Addr} {slry : Array (Option Value)}
    {frk : Addr} {ocrk kVrk dcrk pmrk ctrk cdrk : Value} {odrk anrk : Option Addr} {slrk : Array (Option Value)}
    {frx : Addr} {ocrx kVrx dcrx pmrx ctrx cdrx : Value} {odrx anrx : Option Addr} {slrx : Array (Option Value)}
    {frf : Addr} {ocrf kVrf dcrf pmrf ctrf cdrf : Value} {odrf anrf : Option Addr} {slrf : Array (Option Value)}
    {frn : Addr} {ocrn kVrn dcrn pmrn ctrn cdrn : Value} {odrn anrn : Option Addr} {slrn : Array (Option Value)}
    {DU fEu : Addr} {ocEu kVEu dcEu pmEu cdEu ctEu : Value} {odEu anEu : Option Addr} {slEu : Array (Option Value)} {nmDu qDu : Str} {NDu : Addr} {bsDu bmDu : List Value} {snDu : List Str} {subDu : List Value} {abDu : Bool} {colDu : Option Bool} {ddDu : Option Addr} {e0u e1u e2u e3u e5u : Option Value}
    {DS fEs : Addr} {ocEs kVEs dcEs pmEs cdEs ctEs : Value} {odEs anEs : Option Addr} {slEs : Array (Option Value)} {nmDs qDs : Str} {NDs : Addr} {bsDs bmDs : List Value} {snDs : List Str} {subDs : List Value} {abDs : Bool} {colDs : Option Bool} {ddDs : Option Addr} {e0s e1s e2s e3s e5s : Option Value}
    {DR fEr : Addr} {ocEr kVEr dcEr pmEr cdEr ctEr : Value} {odEr anEr : Option Addr} {slEr : Array (Option Value)} {nmDr qDr : Str} {NDr : Addr} {bsDr bmDr : List Value} {snDr : List Str} {subDr : List Value} {abDr : Bool} {colDr : Option Bool} {ddDr : Option Addr} {e0r e1r e2r e3r e5r : Option Value}
    {DT fEt : Addr} {ocEt kVEt dcEt pmEt cdEt ctEt : Value} {odEt anEt : Option Addr} {slEt : Array (Option Value)} {nmDt qDt : Str} {NDt : Addr} {bsDt bmDt : List Value} {snDt : List Str} {subDt : List Value} {abDt : Bool} {colDt : Option Bool} {ddDt : Option Addr} {e0t e1t e2t e3t e5t : Option Value}
    {DX fEx : Addr} {ocEx kVEx dcEx pmEx cdEx ctEx : Value} {odEx anEx : Option Addr} {slEx : Array (Option Value)} {nmDx qDx : Str} {NDx : Addr} {bsDx bmDx : List Value} {snDx : List Str} {subDx : List Value} {abDx : Bool} {colDx : Option Bool} {ddDx : Option Addr} {e0x e1x e2x e3x e5x : Option Value}
    {DM fEm : Addr} {ocEm kVEm dcEm pmEm cdEm ctEm : Value} {odEm anEm : Option Addr} {slEm : Array (Option Value)} {nmDm qDm : Str} {NDm : Addr} {bsDm bmDm : List Value} {snDm : List Str} {subDm : List Value} {abDm : Bool} {colDm : Option Bool} {ddDm : Option Addr} {e0m e1m e2m e3m e5m : Option Value}
    {tMF : Tok} {vMF : Int}
    {tMS : Tok} {vMS : Int}
    {tGS : Tok} {vGS : Int}
    {tMP : Tok} {vMP : Int}
    {tMR : Tok} {vMR : Int}
    {tPF : Tok} {vPF : Int}
    {tPW : Tok} {vPW : Int}
    {SG : Addr} {odG : Option Addr} {wsG : Array Value} {nG : Nat} {slG : Array (Option Value)}
    (aL : PySem.W.nsIn K mainGlobals "LateError" = some (some (.ref L)))
    (aii : PySem.W.nsIn K mainGlobals "is_integer" = some (some (.ref fii)))
    (lii : K.lookup fii = some ⟨ocii, odii, .func (PySem.W.fnOf "is_integer" "is_integer" (C8.fnArgs sIsInt) (C8.fnBody sIsInt) (C8.fnScope sIsInt) .none kVii dcii pmii anii cdii ctii), slii⟩)
    (cii : PySem.W.codeIn K cdii "is_integer" = true)
    (kii : PySem.W.keepIn K (.ref fii) = true)
    (aiw : PySem.W.nsIn K mainGlobals "is_within" = some (some (.ref fiw)))
    (liw : K.lookup fiw = some ⟨ociw, odiw, .func (PySem.W.fnOf "is_within" "is_within" (C8.fnArgs sWithin) (C8.fnBody sWithin) (C8.fnScope sWithin) .none kViw dciw pmiw aniw cdiw ctiw), sliw⟩)
    (ciw : PySem.W.codeIn K cdiw "is_within" = true)
    (kiw : PySem.W.keepIn K (.ref fiw) = true)
    (aiz : PySem.W.nsIn K mainGlobals "is_size" = some (some (.ref fiz)))
    (liz : K.lookup fiz = some ⟨ociz, odiz, .func (PySem.W.fnOf "is_size" "is_size" (C8.fnArgs sSize) (C8.fnBody sSize) (C8.fnScope sSize) .none kViz dciz pmiz aniz cdiz ctiz), sliz⟩)
    (ciz : PySem.W.codeIn K cdiz "is_size" = true)
    (kiz : PySem.W.keepIn K (.ref fiz) = true)
    (ajf : PySem.W.nsIn K mainGlobals "is_factor" = some (some (.ref fjf)))
    (ljf : K.lookup fjf = some ⟨ocjf, odjf, .func (PySem.W.fnOf "is_factor" "is_factor" (C8.fnArgs sFac) (C8.fnBody sFac) (C8.fnScope sFac) .none kVjf dcjf pmjf anjf cdjf ctjf), sljf⟩)
    (cjf : PySem.W.codeIn K cdjf "is_factor" = true)
    (kjf : PySem.W.keepIn K (.ref fjf) = true)
    (ais : PySem.W.nsIn K mainGlobals "is_start" = some (some (.ref fis)))
    (lis : K.lookup fis = some ⟨ocis, odis, .func (PySem.W.fnOf "is_start" "is_start" (C8.fnArgs sSta) (C8.fnBody sSta) (C8.fnScope sSta) .none kVis dcis pmis anis cdis ctis), slis⟩)
    (cis : PySem.W.codeIn K cdis "is_start" = true)
    (kis : PySem.W.keepIn K (.ref fis) = true)
    (aio : PySem.W.nsIn K mainGlobals "integer_of" = some (some (.ref fio)))
    (lio : K.lookup fio = some ⟨ocio, odio, .func (PySem.W.fnOf "integer_of" "integer_of" (C8.fnArgs sIntOf) (C8.fnBody sIntOf) (C8.fnScope sIntOf) .none kVio dcio pmio anio cdio ctio), slio⟩)
    (cio : PySem.W.codeIn K cdio "integer_of" = true)
    (kio : PySem.W.keepIn K (.ref fio) = true)
    (anu : PySem.W.nsIn K mainGlobals "number_of" = some (some (.ref fnu)))
    (lnu : K.lookup fnu = some ⟨ocnu, odnu, .func (PySem.W.fnOf "number_of" "number_of" (C8.fnArgs sNumOf) (C8.fnBody sNumOf) (C8.fnScope sNumOf) .none kVnu dcnu pmnu annu cdnu ctnu), slnu⟩)
    (cnu : PySem.W.codeIn K cdnu "number_of" = true)
    (knu : PySem.W.keepIn K (.ref fnu) = true)
    (awr : PySem.W.nsIn K mainGlobals "read_rule" = some (some (.ref fwr)))
    (lwr : K.lookup fwr = some ⟨ocwr, odwr, .func (PySem.W.fnOf "read_rule" "read_rule" (C8.fnArgs sRr) (C8.fnBody sRr) (C8.fnScope sRr) .none kVwr dcwr pmwr anwr cdwr ctwr), slwr⟩)
    (cwr : PySem.W.codeIn K cdwr "read_rule" = true)
    (kwr : PySem.W.keepIn K (.ref fwr) = true)
    (awp : PySem.W.nsIn K mainGlobals "read_part" = some (some (.ref fwp)))
    (lwp : K.lookup fwp = some ⟨ocwp, odwp, .func (PySem.W.fnOf "read_part" "read_part" (C8.fnArgs sRp) (C8.fnBody sRp) (C8.fnScope sRp) .none kVwp dcwp pmwp anwp cdwp ctwp), slwp⟩)
    (cwp : PySem.W.codeIn K cdwp "read_part" = true)
    (kwp : PySem.W.keepIn K (.ref fwp) = true)
    (aws : PySem.W.nsIn K mainGlobals "read_sign" = some (some (.ref fws)))
    (lws : K.lookup fws = some ⟨ocws, odws, .func (PySem.W.fnOf "read_sign" "read_sign" (C8.fnArgs sRs) (C8.fnBody sRs) (C8.fnScope sRs) .none kVws dcws pmws anws cdws ctws), slws⟩)
    (cws : PySem.W.codeIn K cdws "read_sign" = true)
    (kws : PySem.W.keepIn K (.ref fws) = true)
    (awo : PySem.W.nsIn K mainGlobals "rule_of" = some (some (.ref fwo)))
    (lwo : K.lookup fwo = some ⟨ocwo, odwo, .func (PySem.W.fnOf "rule_of" "rule_of" (C8.fnArgs sRo) (C8.fnBody sRo) (C8.fnScope sRo) .none kVwo dcwo pmwo anwo cdwo ctwo), slwo⟩)
    (cwo : PySem.W.codeIn K cdwo "rule_of" = true)
    (kwo : PySem.W.keepIn K (.ref fwo) = true)
    (amo : PySem.W.nsIn K mainGlobals "check_modulus" = some (some (.ref fmo)))
    (lmo : K.lookup fmo = some ⟨ocmo, odmo, .func (PySem.W.fnOf "check_modulus" "check_modulus" (C8.fnArgs sMo) (C8.fnBody sMo) (C8.fnScope sMo) .none kVmo dcmo pmmo anmo cdmo ctmo), slmo⟩)
    (cmo : PySem.W.codeIn K cdmo "check_modulus" = true)
    (kmo : PySem.W.keepIn K (.ref fmo) = true)
    (ajo : PySem.W.nsIn K mainGlobals "check_joined" = some (some (.ref fjo)))
    (ljo : K.lookup fjo = some ⟨ocjo, odjo, .func (PySem.W.fnOf "check_joined" "check_joined" (C8.fnArgs sJo) (C8.fnBody sJo) (C8.fnScope sJo) .none kVjo dcjo pmjo anjo cdjo ctjo), sljo⟩)
    (cjo : PySem.W.codeIn K cdjo "check_joined" = true)
    (kjo : PySem.W.keepIn K (.ref fjo) = true)
    (alp : PySem.W.nsIn K mainGlobals "_law_pen" = some (some (.ref flp)))
    (llp : K.lookup flp = some ⟨oclp, odlp, .func (PySem.W.fnOf "_law_pen" "_law_pen" (C8.fnArgs sPen) (C8.fnBody sPen) (C8.fnScope sPen) .none kVlp dclp pmlp anlp cdlp ctlp), sllp⟩)
    (clp : PySem.W.codeIn K cdlp "_law_pen" = true)
    (klp : PySem.W.keepIn K (.ref flp) = true)
    (ald : PySem.W.nsIn K mainGlobals "_law_draw" = some (some (.ref fld)))
    (lld : K.lookup fld = some ⟨ocld, odld, .func (PySem.W.fnOf "_law_draw" "_law_draw" (C8.fnArgs sDraw) (C8.fnBody sDraw) (C8.fnScope sDraw) .none kVld dcld pmld anld cdld ctld), slld⟩)
    (cld : PySem.W.codeIn K cdld "_law_draw" = true)
    (kld : PySem.W.keepIn K (.ref fld) = true)
    (alk : PySem.W.nsIn K mainGlobals "_law_pick" = some (some (.ref flk)))
    (llk : K.lookup flk = some ⟨oclk, odlk, .func (PySem.W.fnOf "_law_pick" "_law_pick" (C8.fnArgs sPick) (C8.fnBody sPick) (C8.fnScope sPick) .none kVlk dclk pmlk anlk cdlk ctlk), sllk⟩)
    (clk : PySem.W.codeIn K cdlk "_law_pick" = true)
    (klk : PySem.W.keepIn K (.ref flk) = true)
    (ale : PySem.W.nsIn K mainGlobals "_law_leaf" = some (some (.ref fle)))
    (lle : K.lookup fle = some ⟨ocle, odle, .func (PySem.W.fnOf "_law_leaf" "_law_leaf" (C8.fnArgs sLef) (C8.fnBody sLef) (C8.fnScope sLef) .none kVle dcle pmle anle cdle ctle), slle⟩)
    (cle : PySem.W.codeIn K cdle "_law_leaf" = true)
    (kle : PySem.W.keepIn K (.ref fle) = true)
    (alq : PySem.W.nsIn K mainGlobals "_law_plain" = some (some (.ref flq)))
    (llq : K.lookup flq = some ⟨oclq, odlq, .func (PySem.W.fnOf "_law_plain" "_law_plain" (C8.fnArgs sPla) (C8.fnBody sPla) (C8.fnScope sPla) .none kVlq dclq pmlq anlq cdlq ctlq), sllq⟩)
    (clq : PySem.W.codeIn K cdlq "_law_plain" = true)
    (klq : PySem.W.keepIn K (.ref flq) = true)
    (alt : PySem.W.nsIn K mainGlobals "_law_text" = some (some (.ref flt)))
    (llt : K.lookup flt = some ⟨oclt, odlt, .func (PySem.W.fnOf "_law_text" "_law_text" (C8.fnArgs sTx) (C8.fnBody sTx) (C8.fnScope sTx) .none kVlt dclt pmlt anlt cdlt ctlt), sllt⟩)
    (clt : PySem.W.codeIn K cdlt "_law_text" = true)
    (klt : PySem.W.keepIn K (.ref flt) = true)
    (alh : PySem.W.nsIn K mainGlobals "_law_heard" = some (some (.ref flh)))
    (llh : K.lookup flh = some ⟨oclh, odlh, .func (PySem.W.fnOf "_law_heard" "_law_heard" (C8.fnArgs sHea) (C8.fnBody sHea) (C8.fnScope sHea) .none kVlh dclh pmlh anlh cdlh ctlh), sllh⟩)
    (clh : PySem.W.codeIn K cdlh "_law_heard" = true)
    (klh : PySem.W.keepIn K (.ref flh) = true)
    (aln : PySem.W.nsIn K mainGlobals "_law_is_number" = some (some (.ref fln)))
    (lln : K.lookup fln = some ⟨ocln, odln, .func (PySem.W.fnOf "_law_is_number" "_law_is_number" (C8.fnArgs sIn) (C8.fnBody sIn) (C8.fnScope sIn) .none kVln dcln pmln anln cdln ctln), slln⟩)
    (cln : PySem.W.codeIn K cdln "_law_is_number" = true)
    (kln : PySem.W.keepIn K (.ref fln) = true)
    (alr : PySem.W.nsIn K mainGlobals "_law_rule_end" = some (some (.ref flr)))
    (llr : K.lookup flr = some ⟨oclr, odlr, .func (PySem.W.fnOf "_law_rule_end" "_law_rule_end" (C8.fnArgs sEn) (C8.fnBody sEn) (C8.fnScope sEn) .none kVlr dclr pmlr anlr cdlr ctlr), sllr⟩)
    (clr : PySem.W.codeIn K cdlr "_law_rule_end" = true)
    (klr : PySem.W.keepIn K (.ref flr) = true)
    (alu : PySem.W.nsIn K mainGlobals "_law_due" = some (some (.ref flu)))
    (llu : K.lookup flu = some ⟨oclu, odlu, .func (PySem.W.fnOf "_law_due" "_law_due" (C8.fnArgs sDue) (C8.fnBody sDue) (C8.fnScope sDue) .none kVlu dclu pmlu anlu cdlu ctlu), sllu⟩)
    (clu : PySem.W.codeIn K cdlu "_law_due" = true)
    (klu : PySem.W.keepIn K (.ref flu) = true)
    (alb : PySem.W.nsIn K mainGlobals "_law_bent" = some (some (.ref flb)))
    (llb : K.lookup flb = some ⟨oclb, odlb, .func (PySem.W.fnOf "_law_bent" "_law_bent" (C8.fnArgs sBen) (C8.fnBody sBen) (C8.fnScope sBen) .none kVlb dclb pmlb anlb cdlb ctlb), sllb⟩)
    (clb : PySem.W.codeIn K cdlb "_law_bent" = true)
    (klb : PySem.W.keepIn K (.ref flb) = true)
    (alx : PySem.W.nsIn K mainGlobals "_law_read_right" = some (some (.ref flx)))
    (llx : K.lookup flx = some ⟨oclx, odlx, .func (PySem.W.fnOf "_law_read_right" "_law_read_right" (C8.fnArgs sRdr) (C8.fnBody sRdr) (C8.fnScope sRdr) .none kVlx dclx pmlx anlx (.ref c0) ctlx), sllx⟩)
    (clx : PySem.W.codeIn K (.ref c0) "_law_read_right" = true)
    (klx : PySem.W.keepIn K (.ref flx) = true)
    (ala : PySem.W.nsIn K mainGlobals "law" = some (some (.ref fla)))
    (lla : K.lookup fla = some ⟨ocla, odla, .func (PySem.W.fnOf "law" "law" (C8.fnArgs sLaw) (C8.fnBody sLaw) (C8.fnScope sLaw) .none kVla dcla pmla anla (.ref c1) ctla), slla⟩)
    (cla : PySem.W.codeIn K (.ref c1) "law" = true)
    (kla : PySem.W.keepIn K (.ref fla) = true)
    (ltlx : K.lookup c0 = some ⟨oc_c0, od_c0, .fields us_c0, sl_c0⟩)
    (vtlx : us_c0[11]? = some (.ref B0))
    (ntlx : K.lookup B0 = none)
    (ltla : K.lookup c1 = some ⟨oc_c1, od_c1, .fields us_c1, sl_c1⟩)
    (vtla : us_c1[11]? = some (.ref B1))
    (ntla : K.lookup B1 = none)
    (nB10 : B1 ≠ B0)
    (aFC : PySem.W.nsIn K mainGlobals "Fixed" = some (some (.ref FC)))
    (pgFC : PySem.W.plainGet K FC Str.empty = true)
    (hdFC : PySem.W.hasDictIn K FC = true)
    (poFC : PySem.W.plainOver K FC = true)
    (saFC : PySem.W.findIn K (.ref FC) "__setattr__" = some (some (.builtin "object.__setattr__")))
    (mkFC : PySem.W.makesIn K FC = true)
    (kCFC : PySem.W.keepIn K (.ref FC) = true)
    (noFC_size : PySem.W.findIn K (.ref FC) "size" = some none)
    (noFC_parts : PySem.W.findIn K (.ref FC) "parts" = some none)
    (noFC_modulus : PySem.W.findIn K (.ref FC) "modulus" = some none)
    (hCFC : PySem.W.findIn K (.ref FC) "__class__" = some (some (.builtin "object.__class__")))
    (hMFC : PySem.W.mroIn K FC (.type "object") = some true)
    (hG : PySem.W.specialIn K (.builtin "object.__class__") "__get__" = some (some (.builtin "getset_descriptor.__get__")))
    (hK : PySem.W.takesIn K (.builtin "object.__class__") = some true)
    (nEFC : PySem.W.findIn K (.ref FC) "__ne__" = some (some (.builtin "object.__ne__")))
    (aVC : PySem.W.nsIn K mainGlobals "Divided" = some (some (.ref VC)))
    (pgVC : PySem.W.plainGet K VC Str.empty = true)
    (hdVC : PySem.W.hasDictIn K VC = true)
    (poVC : PySem.W.plainOver K VC = true)
    (saVC : PySem.W.findIn K (.ref VC) "__setattr__" = some (some (.builtin "object.__setattr__")))
    (mkVC : PySem.W.makesIn K VC = true)
    (kCVC : PySem.W.keepIn K (.ref VC) = true)
    (noVC_x : PySem.W.findIn K (.ref VC) "x" = some none)
    (noVC_y : PySem.W.findIn K (.ref VC) "y" = some none)
    (noVC_w : PySem.W.findIn K (.ref VC) "w" = some none)
    (noVC_parts : PySem.W.findIn K (.ref VC) "parts" = some none)
    (noVC_modulus : PySem.W.findIn K (.ref VC) "modulus" = some none)
    (hCVC : PySem.W.findIn K (.ref VC) "__class__" = some (some (.builtin "object.__class__")))
    (hMVC : PySem.W.mroIn K VC (.type "object") = some true)
    (nEVC : PySem.W.findIn K (.ref VC) "__ne__" = some (some (.builtin "object.__ne__")))
    (aLC : PySem.W.nsIn K mainGlobals "Lesser" = some (some (.ref LC)))
    (pgLC : PySem.W.plainGet K LC Str.empty = true)
    (hdLC : PySem.W.hasDictIn K LC = true)
    (poLC : PySem.W.plainOver K LC = true)
    (saLC : PySem.W.findIn K (.ref LC) "__setattr__" = some (some (.builtin "object.__setattr__")))
    (mkLC : PySem.W.makesIn K LC = true)
    (kCLC : PySem.W.keepIn K (.ref LC) = true)
    (noLC_one : PySem.W.findIn K (.ref LC) "one" = some none)
    (noLC_other : PySem.W.findIn K (.ref LC) "other" = some none)
    (noLC_parts : PySem.W.findIn K (.ref LC) "parts" = some none)
    (noLC_modulus : PySem.W.findIn K (.ref LC) "modulus" = some none)
    (hCLC : PySem.W.findIn K (.ref LC) "__class__" = some (some (.builtin "object.__class__")))
    (hMLC : PySem.W.mroIn K LC (.type "object") = some true)
    (nELC : PySem.W.findIn K (.ref LC) "__ne__" = some (some (.builtin "object.__ne__")))
    (aGC : PySem.W.nsIn K mainGlobals "Greater" = some (some (.ref GC)))
    (pgGC : PySem.W.plainGet K GC Str.empty = true)
    (hdGC : PySem.W.hasDictIn K GC = true)
    (poGC : PySem.W.plainOver K GC = true)
    (saGC : PySem.W.findIn K (.ref GC) "__setattr__" = some (some (.builtin "object.__setattr__")))
    (mkGC : PySem.W.makesIn K GC = true)
    (kCGC : PySem.W.keepIn K (.ref GC) = true)
    (noGC_one : PySem.W.findIn K (.ref GC) "one" = some none)
    (noGC_other : PySem.W.findIn K (.ref GC) "other" = some none)
    (noGC_parts : PySem.W.findIn K (.ref GC) "parts" = some none)
    (noGC_modulus : PySem.W.findIn K (.ref GC) "modulus" = some none)
    (hCGC : PySem.W.findIn K (.ref GC) "__class__" = some (some (.builtin "object.__class__")))
    (hMGC : PySem.W.mroIn K GC (.type "object") = some true)
    (nEGC : PySem.W.findIn K (.ref GC) "__ne__" = some (some (.builtin "object.__ne__")))
    (aUC : PySem.W.nsIn K mainGlobals "Rule" = some (some (.ref UC)))
    (sTUC : PySem.W.typeIn K (.ref UC) = some mcUC)
    (sRUC : PySem.W.readsIn K UC mcUC = true)
    (sGUC : PySem.W.specialIn K (.ref UC) "__getattribute__" = some (some (.builtin "type.__getattribute__")))
    (pgUC : PySem.W.plainGet K UC Str.empty = true)
    (hdUC : PySem.W.hasDictIn K UC = true)
    (poUC : PySem.W.plainOver K UC = true)
    (saUC : PySem.W.findIn K (.ref UC) "__setattr__" = some (some (.builtin "object.__setattr__")))
    (mkUC : PySem.W.makesIn K UC = true)
    (kCUC : PySem.W.keepIn K (.ref UC) = true)
    (lur : K.lookup fur = some ⟨ocur, odur, .func (PySem.W.fnOf "read" "Rule.read" (C8.fnArgs sRd) (C8.fnBody sRd) (C8.fnScope sRd) .none kVur dcur pmur anur cdur ctur), slur⟩)
    (cur : PySem.W.codeIn K cdur "Rule.read" = true)
    (kur : PySem.W.keepIn K (.ref fur) = true)
    (sur : PySem.W.findCls K (.ref UC) mcUC "read" = some (.get (.builtin "staticmethod.__get__") (.ref pur) .none (.ref UC)))
    (rur : PySem.W.recIn K pur "staticmethod" = some (.ref fur :: rsur))
    (afi : PySem.W.findIn K (.ref FC) "__init__" = some (some (.ref ffi)))
    (ifi : PySem.W.isFn K (.ref ffi) = true)
    (lfi : K.lookup ffi = some ⟨ocfi, odfi, .func (PySem.W.fnOf "__init__" "Fixed.__init__" (C8.fnArgs sFxi) (C8.fnBody sFxi) (C8.fnScope sFxi) .none kVfi dcfi pmfi anfi cdfi ctfi), slfi⟩)
    (cfi : PySem.W.codeIn K cdfi "Fixed.__init__" = true)
    (kfi : PySem.W.keepIn K (.ref ffi) = true)
    (avi : PySem.W.findIn K (.ref VC) "__init__" = some (some (.ref fvi)))
    (ivi : PySem.W.isFn K (.ref fvi) = true)
    (lvi : K.lookup fvi = some ⟨ocvi, odvi, .func (PySem.W.fnOf "__init__" "Divided.__init__" (C8.fnArgs sDvi) (C8.fnBody sDvi) (C8.fnScope sDvi) .none kVvi dcvi pmvi anvi cdvi ctvi), slvi⟩)
    (cvi : PySem.W.codeIn K cdvi "Divided.__init__" = true)
    (kvi : PySem.W.keepIn K (.ref fvi) = true)
    (agi0 : PySem.W.findIn K (.ref LC) "__init__" = some (some (.ref fgi0)))
    (igi0 : PySem.W.isFn K (.ref fgi0) = true)
    (lgi0 : K.lookup fgi0 = some ⟨ocgi0, odgi0, .func (PySem.W.fnOf "__init__" "Lesser.__init__" (C8.fnArgs sLoi) (C8.fnBody sLoi) (C8.fnScope sLoi) .none kVgi0 dcgi0 pmgi0 angi0 cdgi0 ctgi0), slgi0⟩)
    (cgi0 : PySem.W.codeIn K cdgi0 "Lesser.__init__" = true)
    (kgi0 : PySem.W.keepIn K (.ref fgi0) = true)
    (agi1 : PySem.W.findIn K (.ref GC) "__init__" = some (some (.ref fgi1)))
    (igi1 : PySem.W.isFn K (.ref fgi1) = true)
    (lgi1 : K.lookup fgi1 = some ⟨ocgi1, odgi1, .func (PySem.W.fnOf "__init__" "Greater.__init__" (C8.fnArgs sHii) (C8.fnBody sHii) (C8.fnScope sHii) .none kVgi1 dcgi1 pmgi1 angi1 cdgi1 ctgi1), slgi1⟩)
    (cgi1 : PySem.W.codeIn K cdgi1 "Greater.__init__" = true)
    (kgi1 : PySem.W.keepIn K (.ref fgi1) = true)
    (aft : PySem.W.findIn K (.ref FC) "__str__" = some (some (.ref fft)))
    (ift : PySem.W.isFn K (.ref fft) = true)
    (lft : K.lookup fft = some ⟨ocft, odft, .func (PySem.W.fnOf "__str__" "Fixed.__str__" (C8.fnArgs sFxs) (C8.fnBody sFxs) (C8.fnScope sFxs) .none kVft dcft pmft anft cdft ctft), slft⟩)
    (cft : PySem.W.codeIn K cdft "Fixed.__str__" = true)
    (kft : PySem.W.keepIn K (.ref fft) = true)
    (afa : PySem.W.findIn K (.ref FC) "__and__" = some (some (.ref ffa)))
    (ifa : PySem.W.isFn K (.ref ffa) = true)
    (lfa : K.lookup ffa = some ⟨ocfa, odfa, .func (PySem.W.fnOf "__and__" "Fixed.__and__" (C8.fnArgs sFxa) (C8.fnBody sFxa) (C8.fnScope sFxa) .none kVfa dcfa pmfa anfa cdfa ctfa), slfa⟩)
    (cfa : PySem.W.codeIn K cdfa "Fixed.__and__" = true)
    (kfa : PySem.W.keepIn K (.ref ffa) = true)
    (afo : PySem.W.findIn K (.ref FC) "__or__" = some (some (.ref ffo)))
    (ifo : PySem.W.isFn K (.ref ffo) = true)
    (lfo : K.lookup ffo = some ⟨ocfo, odfo, .func (PySem.W.fnOf "__or__" "Fixed.__or__" (C8.fnArgs sFxo) (C8.fnBody sFxo) (C8.fnScope sFxo) .none kVfo dcfo pmfo anfo cdfo ctfo), slfo⟩)
    (cfo : PySem.W.codeIn K cdfo "Fixed.__or__" = true)
    (kfo : PySem.W.keepIn K (.ref ffo) = true)
    (avt : PySem.W.findIn K (.ref VC) "__str__" = some (some (.ref fvt)))
    (ivt : PySem.W.isFn K (.ref fvt) = true)
    (lvt : K.lookup fvt = some ⟨ocvt, odvt, .func (PySem.W.fnOf "__str__" "Divided.__str__" (C8.fnArgs sDvs) (C8.fnBody sDvs) (C8.fnScope sDvs) .none kVvt dcvt pmvt anvt cdvt ctvt), slvt⟩)
    (cvt : PySem.W.codeIn K cdvt "Divided.__str__" = true)
    (kvt : PySem.W.keepIn K (.ref fvt) = true)
    (ava : PySem.W.findIn K (.ref VC) "__and__" = some (some (.ref fva)))
    (iva : PySem.W.isFn K (.ref fva) = true)
    (lva : K.lookup fva = some ⟨ocva, odva, .func (PySem.W.fnOf "__and__" "Divided.__and__" (C8.fnArgs sDva) (C8.fnBody sDva) (C8.fnScope sDva) .none kVva dcva pmva anva cdva ctva), slva⟩)
    (cva : PySem.W.codeIn K cdva "Divided.__and__" = true)
    (kva : PySem.W.keepIn K (.ref fva) = true)
    (avo : PySem.W.findIn K (.ref VC) "__or__" = some (some (.ref fvo)))
    (ivo : PySem.W.isFn K (.ref fvo) = true)
    (lvo : K.lookup fvo = some ⟨ocvo, odvo, .func (PySem.W.fnOf "__or__" "Divided.__or__" (C8.fnArgs sDvo) (C8.fnBody sDvo) (C8.fnScope sDvo) .none kVvo dcvo pmvo anvo cdvo ctvo), slvo⟩)
    (cvo : PySem.W.codeIn K cdvo "Divided.__or__" = true)
    (kvo : PySem.W.keepIn K (.ref fvo) = true)
    (aqt : PySem.W.findIn K (.ref LC) "__str__" = some (some (.ref fqt)))
    (iqt : PySem.W.isFn K (.ref fqt) = true)
    (lqt : K.lookup fqt = some ⟨ocqt, odqt, .func (PySem.W.fnOf "__str__" "Lesser.__str__" (C8.fnArgs sLos) (C8.fnBody sLos) (C8.fnScope sLos) .none kVqt dcqt pmqt anqt cdqt ctqt), slqt⟩)
    (cqt : PySem.W.codeIn K cdqt "Lesser.__str__" = true)
    (kqt : PySem.W.keepIn K (.ref fqt) = true)
    (aqa : PySem.W.findIn K (.ref LC) "__and__" = some (some (.ref fqa)))
    (iqa : PySem.W.isFn K (.ref fqa) = true)
    (lqa : K.lookup fqa = some ⟨ocqa, odqa, .func (PySem.W.fnOf "__and__" "Lesser.__and__" (C8.fnArgs sLoa) (C8.fnBody sLoa) (C8.fnScope sLoa) .none kVqa dcqa pmqa anqa cdqa ctqa), slqa⟩)
    (cqa : PySem.W.codeIn K cdqa "Lesser.__and__" = true)
    (kqa : PySem.W.keepIn K (.ref fqa) = true)
    (aqo : PySem.W.findIn K (.ref LC) "__or__" = some (some (.ref fqo)))
    (iqo : PySem.W.isFn K (.ref fqo) = true)
    (lqo : K.lookup fqo = some ⟨ocqo, odqo, .func (PySem.W.fnOf "__or__" "Lesser.__or__" (C8.fnArgs sLoo) (C8.fnBody sLoo) (C8.fnScope sLoo) .none kVqo dcqo pmqo anqo cdqo ctqo), slqo⟩)
    (cqo : PySem.W.codeIn K cdqo "Lesser.__or__" = true)
    (kqo : PySem.W.keepIn K (.ref fqo) = true)
    (agt : PySem.W.findIn K (.ref GC) "__str__" = some (some (.ref fgt)))
    (igt : PySem.W.isFn K (.ref fgt) = true)
    (lgt : K.lookup fgt = some ⟨ocgt, odgt, .func (PySem.W.fnOf "__str__" "Greater.__str__" (C8.fnArgs sHis) (C8.fnBody sHis) (C8.fnScope sHis) .none kVgt dcgt pmgt angt cdgt ctgt), slgt⟩)
    (cgt : PySem.W.codeIn K cdgt "Greater.__str__" = true)
    (kgt : PySem.W.keepIn K (.ref fgt) = true)
    (aga : PySem.W.findIn K (.ref GC) "__and__" = some (some (.ref fga)))
    (iga : PySem.W.isFn K (.ref fga) = true)
    (lga : K.lookup fga = some ⟨ocga, odga, .func (PySem.W.fnOf "__and__" "Greater.__and__" (C8.fnArgs sHia) (C8.fnBody sHia) (C8.fnScope sHia) .none kVga dcga pmga anga cdga ctga), slga⟩)
    (cga : PySem.W.codeIn K cdga "Greater.__and__" = true)
    (kga : PySem.W.keepIn K (.ref fga) = true)
    (ago : PySem.W.findIn K (.ref GC) "__or__" = some (some (.ref fgo)))
    (igo : PySem.W.isFn K (.ref fgo) = true)
    (lgo : K.lookup fgo = some ⟨ocgo, odgo, .func (PySem.W.fnOf "__or__" "Greater.__or__" (C8.fnArgs sHio) (C8.fnBody sHio) (C8.fnScope sHio) .none kVgo dcgo pmgo ango cdgo ctgo), slgo⟩)
    (cgo : PySem.W.codeIn K cdgo "Greater.__or__" = true)
    (kgo : PySem.W.keepIn K (.ref fgo) = true)
    (aR : PySem.W.nsIn K mainGlobals "Reader" = some (some (.ref R)))
    (pgR : PySem.W.plainGet K R Str.empty = true)
    (hdR : PySem.W.hasDictIn K R = true)
    (poR : PySem.W.plainOver K R = true)
    (saR : PySem.W.findIn K (.ref R) "__setattr__" = some (some (.builtin "object.__setattr__")))
    (mkR : PySem.W.makesIn K R = true)
    (kCR : PySem.W.keepIn K (.ref R) = true)
    (noR__words : PySem.W.findIn K (.ref R) "_words" = some none)
    (noR__row : PySem.W.findIn K (.ref R) "_row" = some none)
    (noR__at : PySem.W.findIn K (.ref R) "_at" = some none)
    (ari : PySem.W.findIn K (.ref R) "__init__" = some (some (.ref fri)))
    (iri : PySem.W.isFn K (.ref fri) = true)
    (lri : K.lookup fri = some ⟨ocri, odri, .func (PySem.W.fnOf "__init__" "Reader.__init__" (C8.fnArgs sRI) (C8.fnBody sRI) (C8.fnScope sRI) (.ref Tdri) kVri dcri pmri anri cdri ctri), slri⟩)
    (cri : PySem.W.codeIn K cdri "Reader.__init__" = true)
    (kri : PySem.W.keepIn K (.ref fri) = true)
    (lDri : K.lookup Tdri = some ⟨ocDri, odDri, .seq #[.int 0 tDri] nDri, slDri⟩)
    (arh : PySem.W.findIn K (.ref R) "at_hand" = some (some (.ref frh)))
    (irh : PySem.W.isFn K (.ref frh) = true)
    (lrh : K.lookup frh = some ⟨ocrh, odrh, .func (PySem.W.fnOf "at_hand" "Reader.at_hand" (C8.fnArgs sRah) (C8.fnBody sRah) (C8.fnScope sRah) .none kVrh dcrh pmrh anrh cdrh ctrh), slrh⟩)
    (crh : PySem.W.codeIn K cdrh "Reader.at_hand" = true)
    (krh : PySem.W.keepIn K (.ref frh) = true)
    (ary : PySem.W.findIn K (.ref R) "refuse" = some (some (.ref fry)))
    (iry : PySem.W.isFn K (.ref fry) = true)
    (lry : K.lookup fry = some ⟨ocry, odry, .func (PySem.W.fnOf "refuse" "Reader.refuse" (C8.fnArgs sRrf) (C8.fnBody sRrf) (C8.fnScope sRrf) .none kVry dcry pmry anry cdry ctry), slry⟩)
    (cry : PySem.W.codeIn K cdry "Reader.refuse" = true)
    (kry : PySem.W.keepIn K (.ref fry) = true)
    (ark : PySem.W.findIn K (.ref R) "take" = some (some (.ref frk)))
    (irk : PySem.W.isFn K (.ref frk) = true)
    (lrk : K.lookup frk = some ⟨ocrk, odrk, .func (PySem.W.fnOf "take" "Reader.take" (C8.fnArgs sRtk) (C8.fnBody sRtk) (C8.fnScope sRtk) .none kVrk dcrk pmrk anrk cdrk ctrk), slrk⟩)
    (crk : PySem.W.codeIn K cdrk "Reader.take" = true)
    (krk : PySem.W.keepIn K (.ref frk) = true)
    (arx : PySem.W.findIn K (.ref R) "expect" = some (some (.ref frx)))
    (irx : PySem.W.isFn K (.ref frx) = true)
    (lrx : K.lookup frx = some ⟨ocrx, odrx, .func (PySem.W.fnOf "expect" "Reader.expect" (C8.fnArgs sRexZ) (C8.fnBody sRexZ) (C8.fnScope sRexZ) .none kVrx dcrx pmrx anrx cdrx ctrx), slrx⟩)
    (crx : PySem.W.codeIn K cdrx "Reader.expect" = true)
    (krx : PySem.W.keepIn K (.ref frx) = true)
    (arf : PySem.W.findIn K (.ref R) "finish" = some (some (.ref frf)))
    (irf : PySem.W.isFn K (.ref frf) = true)
    (lrf : K.lookup frf = some ⟨ocrf, odrf, .func (PySem.W.fnOf "finish" "Reader.finish" (C8.fnArgs sRfi) (C8.fnBody sRfi) (C8.fnScope sRfi) .none kVrf dcrf pmrf anrf cdrf ctrf), slrf⟩)
    (crf : PySem.W.codeIn K cdrf "Reader.finish" = true)
    (krf : PySem.W.keepIn K (.ref frf) = true)
    (arn : PySem.W.findIn K (.ref R) "integer" = some (some (.ref frn)))
    (irn : PySem.W.isFn K (.ref frn) = true)
    (lrn : K.lookup frn = some ⟨ocrn, odrn, .func (PySem.W.fnOf "integer" "Reader.integer" (C8.fnArgs sRin) (C8.fnBody sRin) (C8.fnScope sRin) .none kVrn dcrn pmrn anrn cdrn ctrn), slrn⟩)
    (crn : PySem.W.codeIn K cdrn "Reader.integer" = true)
    (krn : PySem.W.keepIn K (.ref frn) = true)
    (fsFC : PySem.W.selfFirst K FC = true)
    (raFC : PySem.W.findIn K (.ref FC) "__rand__" = some none)
    (roFC : PySem.W.findIn K (.ref FC) "__ror__" = some none)
    (fmFC : PySem.W.findIn K (.ref FC) "__format__" = some (some (.builtin "object.__format__")))
    (sbFCVC : PySem.W.subIn K (.ref VC) (.ref FC) = some false)
    (sbFCLC : PySem.W.subIn K (.ref LC) (.ref FC) = some false)
    (sbFCGC : PySem.W.subIn K (.ref GC) (.ref FC) = some false)
    (neFCVC : FC ≠ VC)
    (neFCLC : FC ≠ LC)
    (neFCGC : FC ≠ GC)
    (fsVC : PySem.W.selfFirst K VC = true)
    (raVC : PySem.W.findIn K (.ref VC) "__rand__" = some none)
    (roVC : PySem.W.findIn K (.ref VC) "__ror__" = some none)
    (fmVC : PySem.W.findIn K (.ref VC) "__format__" = some (some (.builtin "object.__format__")))
    (sbVCFC : PySem.W.subIn K (.ref FC) (.ref VC) = some false)
    (sbVCLC : PySem.W.subIn K (.ref LC) (.ref VC) = some false)
    (sbVCGC : PySem.W.subIn K (.ref GC) (.ref VC) = some false)
    (neVCLC : VC ≠ LC)
    (neVCGC : VC ≠ GC)
    (fsLC : PySem.W.selfFirst K LC = true)
    (raLC : PySem.W.findIn K (.ref LC) "__rand__" = some none)
    (roLC : PySem.W.findIn K (.ref LC) "__ror__" = some none)
    (fmLC : PySem.W.findIn K (.ref LC) "__format__" = some (some (.builtin "object.__format__")))
    (sbLCFC : PySem.W.subIn K (.ref FC) (.ref LC) = some false)
    (sbLCVC : PySem.W.subIn K (.ref VC) (.ref LC) = some false)
    (sbLCGC : PySem.W.subIn K (.ref GC) (.ref LC) = some false)
    (neLCGC : LC ≠ GC)
    (fsGC : PySem.W.selfFirst K GC = true)
    (raGC : PySem.W.findIn K (.ref GC) "__rand__" = some none)
    (roGC : PySem.W.findIn K (.ref GC) "__ror__" = some none)
    (fmGC : PySem.W.findIn K (.ref GC) "__format__" = some (some (.builtin "object.__format__")))
    (sbGCFC : PySem.W.subIn K (.ref FC) (.ref GC) = some false)
    (sbGCVC : PySem.W.subIn K (.ref VC) (.ref GC) = some false)
    (sbGCLC : PySem.W.subIn K (.ref LC) (.ref GC) = some false)
    (kkFCVC : PySem.W.kitOne K (.ref FC) (.ref VC) = some false)
    (nfFCVC : PySem.W.notFirst K FC (.ref VC) = true)
    (kkFCLC : PySem.W.kitOne K (.ref FC) (.ref LC) = some false)
    (nfFCLC : PySem.W.notFirst K FC (.ref LC) = true)
    (kkFCGC : PySem.W.kitOne K (.ref FC) (.ref GC) = some false)
    (nfFCGC : PySem.W.notFirst K FC (.ref GC) = true)
    (kkVCFC : PySem.W.kitOne K (.ref VC) (.ref FC) = some false)
    (nfVCFC : PySem.W.notFirst K VC (.ref FC) = true)
    (kkVCLC : PySem.W.kitOne K (.ref VC) (.ref LC) = some false)
    (nfVCLC : PySem.W.notFirst K VC (.ref LC) = true)
    (kkVCGC : PySem.W.kitOne K (.ref VC) (.ref GC) = some false)
    (nfVCGC : PySem.W.notFirst K VC (.ref GC) = true)
    (kkLCFC : PySem.W.kitOne K (.ref LC) (.ref FC) = some false)
    (nfLCFC : PySem.W.notFirst K LC (.ref FC) = true)
    (kkLCVC : PySem.W.kitOne K (.ref LC) (.ref VC) = some false)
    (nfLCVC : PySem.W.notFirst K LC (.ref VC) = true)
    (kkLCGC : PySem.W.kitOne K (.ref LC) (.ref GC) = some false)
    (nfLCGC : PySem.W.notFirst K LC (.ref GC) = true)
    (kkGCFC : PySem.W.kitOne K (.ref GC) (.ref FC) = some false)
    (nfGCFC : PySem.W.notFirst K GC (.ref FC) = true)
    (kkGCVC : PySem.W.kitOne K (.ref GC) (.ref VC) = some false)
    (nfGCVC : PySem.W.notFirst K GC (.ref VC) = true)
    (kkGCLC : PySem.W.kitOne K (.ref GC) (.ref LC) = some false)
    (nfGCLC : PySem.W.notFirst K GC (.ref LC) = true)
    (nI : PySem.W.kitOne K (.ref FC) (.type "int") = some false)
    (nB : PySem.W.kitOne K (.ref FC) (.type "bool") = some false)
    (nS : PySem.W.kitOne K (.ref FC) (.type "str") = some false)
    (aLCM : PySem.W.nsIn K mainGlobals "lcm" = some (some (.builtin "math.lcm")))
    (aDu : PySem.W.nsIn K mainGlobals "BadRule" = some (some (.ref DU)))
    (xDu : K.lookup DU = some (excClassObj nmDu qDu DU NDu bsDu bmDu true snDu subDu abDu colDu ddDu e0u e1u e2u e3u e5u "ValueError.__new__"))
    (xBu : PySem.HandSPX.refsVE bmDu = true)
    (xsu : PySem.W.findIn K (.ref DU) "__setattr__" = some (some (.builtin "object.__setattr__")))
    (xeu : PySem.W.subIn K (.ref DU) (.type "BaseException") = some true)
    (xtu : PySem.W.typeIn K (.ref DU) = some (.type "type"))
    (xku : PySem.W.keepIn K (.ref DU) = true)
    (xiu : PySem.W.findIn K (.ref DU) "__init__" = some (some (.ref fEu)))
    (xfu : PySem.W.typeIn K (.ref fEu) = some (.type "function"))
    (lEu : K.lookup fEu = some ⟨ocEu, odEu, .func (PySem.W.fnOf "__init__" "BadRule.__init__" (C8.fnArgs sBruE) (C8.fnBody sBruE) (C8.fnScope sBruE) .none kVEu dcEu pmEu anEu cdEu ctEu), slEu⟩)
    (cEu : PySem.W.codeIn K cdEu "BadRule.__init__" = true)
    (xvu0 : PySem.W.findIn K (.ref DU) "part" = some none)
    (xgu : PySem.W.findIn K (.ref DU) "__getattribute__" = some (some (.builtin "BaseException.__getattribute__")))
    (xnu : PySem.W.findIn K (.ref DU) "__getattr__" = some none)
    (xdu : PySem.W.hasDictIn K DU = true)
    (xcu : PySem.W.findIn K (.ref DU) "__class__" = some (some (.builtin "object.__class__")))
    (xmu : PySem.W.mroIn K DU (.type "object") = some true)
    (xou : PySem.W.kitOne K (.ref DU) (.ref DU) = some true)
    (xLu : PySem.W.exmOne K (.ref DU) (.ref L) = some true)
    (aDs : PySem.W.nsIn K mainGlobals "BadSize" = some (some (.ref DS)))
    (xDs : K.lookup DS = some (excClassObj nmDs qDs DS NDs bsDs bmDs true snDs subDs abDs colDs ddDs e0s e1s e2s e3s e5s "ValueError.__new__"))
    (xBs : PySem.HandSPX.refsVE bmDs = true)
    (xss : PySem.W.findIn K (.ref DS) "__setattr__" = some (some (.builtin "object.__setattr__")))
    (xes : PySem.W.subIn K (.ref DS) (.type "BaseException") = some true)
    (xts : PySem.W.typeIn K (.ref DS) = some (.type "type"))
    (xks : PySem.W.keepIn K (.ref DS) = true)
    (xis : PySem.W.findIn K (.ref DS) "__init__" = some (some (.ref fEs)))
    (xfs : PySem.W.typeIn K (.ref fEs) = some (.type "function"))
    (lEs : K.lookup fEs = some ⟨ocEs, odEs, .func (PySem.W.fnOf "__init__" "BadSize.__init__" (C8.fnArgs sBszE) (C8.fnBody sBszE) (C8.fnScope sBszE) .none kVEs dcEs pmEs anEs cdEs ctEs), slEs⟩)
    (cEs : PySem.W.codeIn K cdEs "BadSize.__init__" = true)
    (xvs0 : PySem.W.findIn K (.ref DS) "value" = some none)
    (xgs : PySem.W.findIn K (.ref DS) "__getattribute__" = some (some (.builtin "BaseException.__getattribute__")))
    (xns : PySem.W.findIn K (.ref DS) "__getattr__" = some none)
    (xds : PySem.W.hasDictIn K DS = true)
    (xcs : PySem.W.findIn K (.ref DS) "__class__" = some (some (.builtin "object.__class__")))
    (xms : PySem.W.mroIn K DS (.type "object") = some true)
    (xos : PySem.W.kitOne K (.ref DS) (.ref DS) = some true)
    (xLs : PySem.W.exmOne K (.ref DS) (.ref L) = some true)
    (aDr : PySem.W.nsIn K mainGlobals "BadRest" = some (some (.ref DR)))
    (xDr : K.lookup DR = some (excClassObj nmDr qDr DR NDr bsDr bmDr true snDr subDr abDr colDr ddDr e0r e1r e2r e3r e5r "ValueError.__new__"))
    (xBr : PySem.HandSPX.refsVE bmDr = true)
    (xsr : PySem.W.findIn K (.ref DR) "__setattr__" = some (some (.builtin "object.__setattr__")))
    (xer : PySem.W.subIn K (.ref DR) (.type "BaseException") = some true)
    (xtr : PySem.W.typeIn K (.ref DR) = some (.type "type"))
    (xkr : PySem.W.keepIn K (.ref DR) = true)
    (xir : PySem.W.findIn K (.ref DR) "__init__" = some (some (.ref fEr)))
    (xfr : PySem.W.typeIn K (.ref fEr) = some (.type "function"))
    (lEr : K.lookup fEr = some ⟨ocEr, odEr, .func (PySem.W.fnOf "__init__" "BadRest.__init__" (C8.fnArgs sBreE) (C8.fnBody sBreE) (C8.fnScope sBreE) .none kVEr dcEr pmEr anEr cdEr ctEr), slEr⟩)
    (cEr : PySem.W.codeIn K cdEr "BadRest.__init__" = true)
    (xvr0 : PySem.W.findIn K (.ref DR) "value" = some none)
    (xgr : PySem.W.findIn K (.ref DR) "__getattribute__" = some (some (.builtin "BaseException.__getattribute__")))
    (xnr : PySem.W.findIn K (.ref DR) "__getattr__" = some none)
    (xdr : PySem.W.hasDictIn K DR = true)
    (xcr : PySem.W.findIn K (.ref DR) "__class__" = some (some (.builtin "object.__class__")))
    (xmr : PySem.W.mroIn K DR (.type "object") = some true)
    (xor : PySem.W.kitOne K (.ref DR) (.ref DR) = some true)
    (xLr : PySem.W.exmOne K (.ref DR) (.ref L) = some true)
    (aDt : PySem.W.nsIn K mainGlobals "BadTotal" = some (some (.ref DT)))
    (xDt : K.lookup DT = some (excClassObj nmDt qDt DT NDt bsDt bmDt true snDt subDt abDt colDt ddDt e0t e1t e2t e3t e5t "ValueError.__new__"))
    (xBt : PySem.HandSPX.refsVE bmDt = true)
    (xst : PySem.W.findIn K (.ref DT) "__setattr__" = some (some (.builtin "object.__setattr__")))
    (xet : PySem.W.subIn K (.ref DT) (.type "BaseException") = some true)
    (xtt : PySem.W.typeIn K (.ref DT) = some (.type "type"))
    (xkt : PySem.W.keepIn K (.ref DT) = true)
    (xit : PySem.W.findIn K (.ref DT) "__init__" = some (some (.ref fEt)))
    (xft : PySem.W.typeIn K (.ref fEt) = some (.type "function"))
    (lEt : K.lookup fEt = some ⟨ocEt, odEt, .func (PySem.W.fnOf "__init__" "BadTotal.__init__" (C8.fnArgs sBtoE) (C8.fnBody sBtoE) (C8.fnScope sBtoE) .none kVEt dcEt pmEt anEt cdEt ctEt), slEt⟩)
    (cEt : PySem.W.codeIn K cdEt "BadTotal.__init__" = true)
    (xvt0 : PySem.W.findIn K (.ref DT) "value" = some none)
    (xgt : PySem.W.findIn K (.ref DT) "__getattribute__" = some (some (.builtin "BaseException.__getattribute__")))
    (xnt : PySem.W.findIn K (.ref DT) "__getattr__" = some none)
    (xdt : PySem.W.hasDictIn K DT = true)
    (xct : PySem.W.findIn K (.ref DT) "__class__" = some (some (.builtin "object.__class__")))
    (xmt : PySem.W.mroIn K DT (.type "object") = some true)
    (xot : PySem.W.kitOne K (.ref DT) (.ref DT) = some true)
    (xLt : PySem.W.exmOne K (.ref DT) (.ref L) = some true)
    (aDx : PySem.W.nsIn K mainGlobals "BadText" = some (some (.ref DX)))
    (xDx : K.lookup DX = some (excClassObj nmDx qDx DX NDx bsDx bmDx true snDx subDx abDx colDx ddDx e0x e1x e2x e3x e5x "ValueError.__new__"))
    (xBx : PySem.HandSPX.refsVE bmDx = true)
    (xsx : PySem.W.findIn K (.ref DX) "__setattr__" = some (some (.builtin "object.__setattr__")))
    (xex : PySem.W.subIn K (.ref DX) (.type "BaseException") = some true)
    (xtx : PySem.W.typeIn K (.ref DX) = some (.type "type"))
    (xkx : PySem.W.keepIn K (.ref DX) = true)
    (xix : PySem.W.findIn K (.ref DX) "__init__" = some (some (.ref fEx)))
    (xfx : PySem.W.typeIn K (.ref fEx) = some (.type "function"))
    (lEx : K.lookup fEx = some ⟨ocEx, odEx, .func (PySem.W.fnOf "__init__" "BadText.__init__" (C8.fnArgs sTxE) (C8.fnBody sTxE) (C8.fnScope sTxE) .none kVEx dcEx pmEx anEx cdEx ctEx), slEx⟩)
    (cEx : PySem.W.codeIn K cdEx "BadText.__init__" = true)
    (xvx0 : PySem.W.findIn K (.ref DX) "line" = some none)
    (xvx1 : PySem.W.findIn K (.ref DX) "word" = some none)
    (xgx : PySem.W.findIn K (.ref DX) "__getattribute__" = some (some (.builtin "BaseException.__getattribute__")))
    (xnx : PySem.W.findIn K (.ref DX) "__getattr__" = some none)
    (xdx : PySem.W.hasDictIn K DX = true)
    (xcx : PySem.W.findIn K (.ref DX) "__class__" = some (some (.builtin "object.__class__")))
    (xmx : PySem.W.mroIn K DX (.type "object") = some true)
    (xox : PySem.W.kitOne K (.ref DX) (.ref DX) = some true)
    (xLx : PySem.W.exmOne K (.ref DX) (.ref L) = some true)
    (aDm : PySem.W.nsIn K mainGlobals "TooMany" = some (some (.ref DM)))
    (xDm : K.lookup DM = some (excClassObj nmDm qDm DM NDm bsDm bmDm true snDm subDm abDm colDm ddDm e0m e1m e2m e3m e5m "ValueError.__new__"))
    (xBm : PySem.HandSPX.refsVE bmDm = true)
    (xsm : PySem.W.findIn K (.ref DM) "__setattr__" = some (some (.builtin "object.__setattr__")))
    (xem : PySem.W.subIn K (.ref DM) (.type "BaseException") = some true)
    (xtm : PySem.W.typeIn K (.ref DM) = some (.type "type"))
    (xkm : PySem.W.keepIn K (.ref DM) = true)
    (xim : PySem.W.findIn K (.ref DM) "__init__" = some (some (.ref fEm)))
    (xfm : PySem.W.typeIn K (.ref fEm) = some (.type "function"))
    (lEm : K.lookup fEm = some ⟨ocEm, odEm, .func (PySem.W.fnOf "__init__" "TooMany.__init__" (C8.fnArgs sMnE) (C8.fnBody sMnE) (C8.fnScope sMnE) .none kVEm dcEm pmEm anEm cdEm ctEm), slEm⟩)
    (cEm : PySem.W.codeIn K cdEm "TooMany.__init__" = true)
    (xvm0 : PySem.W.findIn K (.ref DM) "what" = some none)
    (xvm1 : PySem.W.findIn K (.ref DM) "most" = some none)
    (xgm : PySem.W.findIn K (.ref DM) "__getattribute__" = some (some (.builtin "BaseException.__getattribute__")))
    (xnm : PySem.W.findIn K (.ref DM) "__getattr__" = some none)
    (xdm : PySem.W.hasDictIn K DM = true)
    (xcm : PySem.W.findIn K (.ref DM) "__class__" = some (some (.builtin "object.__class__")))
    (xmm : PySem.W.mroIn K DM (.type "object") = some true)
    (xom : PySem.W.kitOne K (.ref DM) (.ref DM) = some true)
    (xLm : PySem.W.exmOne K (.ref DM) (.ref L) = some true)
    (xNus : PySem.W.kitOne K (.ref DU) (.ref DS) = some false)
    (xNur : PySem.W.kitOne K (.ref DU) (.ref DR) = some false)
    (xNut : PySem.W.kitOne K (.ref DU) (.ref DT) = some false)
    (xNux : PySem.W.kitOne K (.ref DU) (.ref DX) = some false)
    (xNum : PySem.W.kitOne K (.ref DU) (.ref DM) = some false)
    (xNsu : PySem.W.kitOne K (.ref DS) (.ref DU) = some false)
    (xNsr : PySem.W.kitOne K (.ref DS) (.ref DR) = some false)
    (xNst : PySem.W.kitOne K (.ref DS) (.ref DT) = some false)
    (xNsx : PySem.W.kitOne K (.ref DS) (.ref DX) = some false)
    (xNsm : PySem.W.kitOne K (.ref DS) (.ref DM) = some false)
    (xNru : PySem.W.kitOne K (.ref DR) (.ref DU) = some false)
    (xNrs : PySem.W.kitOne K (.ref DR) (.ref DS) = some false)
    (xNrt : PySem.W.kitOne K (.ref DR) (.ref DT) = some false)
    (xNrx : PySem.W.kitOne K (.ref DR) (.ref DX) = some false)
    (xNrm : PySem.W.kitOne K (.ref DR) (.ref DM) = some false)
    (xNtu : PySem.W.kitOne K (.ref DT) (.ref DU) = some false)
    (xNts : PySem.W.kitOne K (.ref DT) (.ref DS) = some false)
    (xNtr : PySem.W.kitOne K (.ref DT) (.ref DR) = some false)
    (xNtx : PySem.W.kitOne K (.ref DT) (.ref DX) = some false)
    (xNtm : PySem.W.kitOne K (.ref DT) (.ref DM) = some false)
    (xNxu : PySem.W.kitOne K (.ref DX) (.ref DU) = some false)
    (xNxs : PySem.W.kitOne K (.ref DX) (.ref DS) = some false)
    (xNxr : PySem.W.kitOne K (.ref DX) (.ref DR) = some false)
    (xNxt : PySem.W.kitOne K (.ref DX) (.ref DT) = some false)
    (xNxm : PySem.W.kitOne K (.ref DX) (.ref DM) = some false)
    (xNmu : PySem.W.kitOne K (.ref DM) (.ref DU) = some false)
    (xNms : PySem.W.kitOne K (.ref DM) (.ref DS) = some false)
    (xNmr : PySem.W.kitOne K (.ref DM) (.ref DR) = some false)
    (xNmt : PySem.W.kitOne K (.ref DM) (.ref DT) = some false)
    (xNmx : PySem.W.kitOne K (.ref DM) (.ref DX) = some false)
    (gMF : PySem.W.nsIn K mainGlobals "MOST_FACTOR" = some (some (.int vMF tMF)))
    (eMF : vMF = 24)
    (gMS : PySem.W.nsIn K mainGlobals "MOST_START" = some (some (.int vMS tMS)))
    (eMS : vMS = 1000)
    (gGS : PySem.W.nsIn K mainGlobals "GREATEST_SIZE" = some (some (.int vGS tGS)))
    (eGS : vGS = 10 ^ 30)
    (gMP : PySem.W.nsIn K mainGlobals "MOST_PARTS" = some (some (.int vMP tMP)))
    (eMP : vMP = 6)
    (gMR : PySem.W.nsIn K mainGlobals "MOST_RESIDUES" = some (some (.int vMR tMR)))
    (eMR : vMR = 5000)
    (gPF : PySem.W.nsIn K mainGlobals "PIECE_FIGURES" = some (some (.int vPF tPF)))
    (ePF : vPF = 60)
    (gPW : PySem.W.nsIn K mainGlobals "PIECE_WORTH" = some (some (.int vPW tPW)))
    (ePW : vPW = 10 ^ 60)
    (gSG : PySem.W.nsIn K mainGlobals "SIGNS" = some (some (.ref SG)))
    (lSG : K.lookup SG = some ⟨.type "tuple", odG, .seq wsG nG, slG⟩)
    (sSG : wsG.size ≤ 100)
    (vSG : Vals [.str "&", .str "|"] wsG.toList)
    (z_int : PySem.W.nsIn K mainGlobals "int" = some none)
    (z_list : PySem.W.nsIn K mainGlobals "list" = some none)
    (z_len : PySem.W.nsIn K mainGlobals "len" = some none)
    (z_abs : PySem.W.nsIn K mainGlobals "abs" = some none)
    (z_bool : PySem.W.nsIn K mainGlobals "bool" = some none)
    (z_str : PySem.W.nsIn K mainGlobals "str" = some none)
    (z_isinstance : PySem.W.nsIn K mainGlobals "isinstance" = some none)
    (z_range : PySem.W.nsIn K mainGlobals "range" = some none)
    (z_repr : PySem.W.nsIn K mainGlobals "repr" = some none)
    (z_all : PySem.W.nsIn K mainGlobals "all" = some none) :
    ∃ (fd : FuncData) (tb : List (Str × Addr × Addr)) (sp : Sp), (∀ e ∈ tb, e.1 ∈ (["_law_read_right", "law"] : List Str) ∧ PySem.W.tabIn K e.1 = some (e.2.1, e.2.2) ∧ K.lookup e.2.2 = none) ∧ (∀ (s : Shared) (u : Value), BindsTo s fd ⟨[u], []⟩ [("_law_script", u)]) ∧
      (∀ base : Heap, K.In base → base.Ns mainGlobals mg → (∀ e ∈ tb, TabB base mg e.2.1 e.2.2) → FnG l.prog w K mg base 116 fa fd ["_law_script"] sp) ∧
      ∀ (H : Hp) (a : Addr) (ns : List Int), (∀ e ∈ tb, H e.2.2 = some (.tbl #[])) → SqL K H a (ns.map V.int) → ns.length ≤ 63 → sp [.ref a] H (fun v _ => v = .bl true) C8.E0 := by
  have e := hfa.symm.trans (PySem.W.mg_of X G ala)
  cases e
  subst eMF eMS eGS eMP eMR ePF ePW
  have Fii : C8.Def K mg "is_integer" sIsInt fii _ := ⟨⟨_, _, _, _, _, _, _, _, _, _, rfl, lii, cii⟩, PySem.W.mg_of X G aii, kii⟩
  have bii : Binds K _ ["value"] [] := Fii.fn.binds rfl fun _ _ _ _ _ _ us hl => match us, hl with | [_], _ => rfl
  have Fiw : C8.Def K mg "is_within" sWithin fiw _ := ⟨⟨_, _, _, _, _, _, _, _, _, _, rfl, liw, ciw⟩, PySem.W.mg_of X G aiw, kiw⟩
  have biw : Binds K _ ["value", "least", "most"] [] := Fiw.fn.binds rfl fun _ _ _ _ _ _ us hl => match us, hl with | [_, _, _], _ => rfl
  have Fiz : C8.Def K mg "is_size" sSize fiz _ := ⟨⟨_, _, _, _, _, _, _, _, _, _, rfl, liz, ciz⟩, PySem.W.mg_of X G aiz, kiz⟩
  have biz : Binds K _ ["value"] [] := Fiz.fn.binds rfl fun _ _ _ _ _ _ us hl => match us, hl with | [_], _ => rfl
  have Fjf : C8.Def K mg "is_factor" sFac fjf _ := ⟨⟨_, _, _, _, _, _, _, _, _, _, rfl, ljf, cjf⟩, PySem.W.mg_of X G ajf, kjf⟩
  have bjf : Binds K _ ["value", "least"] [] := Fjf.fn.binds rfl fun _ _ _ _ _ _ us hl => match us, hl with | [_, _], _ => rfl
  have Fis : C8.Def K mg "is_start" sSta fis _ := ⟨⟨_, _, _, _, _, _, _, _, _, _, rfl, lis, cis⟩, PySem.W.mg_of X G ais, kis⟩
  have bis : Binds K _ ["value"] [] := Fis.fn.binds rfl fun _ _ _ _ _ _ us hl => match us, hl with | [_], _ => rfl
  have Fio : C8.Def K mg "integer_of" sIntOf fio _ := ⟨⟨_, _, _, _, _, _, _, _, _, _, rfl, lio, cio⟩, PySem.W.mg_of X G aio, kio⟩
  have bio : Binds K _ ["word"] [] := Fio.fn.binds rfl fun _ _ _ _ _ _ us hl => match us, hl with | [_], _ => rfl
  have Fnu : C8.Def K mg "number_of" sNumOf fnu _ := ⟨⟨_, _, _, _, _, _, _, _, _, _, rfl, lnu, cnu⟩, PySem.W.mg_of X G anu, knu⟩
  have bnu : Binds K _ ["word", "least", "most"] [] := Fnu.fn.binds rfl fun _ _ _ _ _ _ us hl => match us, hl with | [_, _, _], _ => rfl
  have Fwr : C8.Def K mg "read_rule" sRr fwr _ := ⟨⟨_, _, _, _, _, _, _, _, _, _, rfl, lwr, cwr⟩, PySem.W.mg_of X G awr, kwr⟩
  have bwr : Binds K _ ["reader"] [] := Fwr.fn.binds rfl fun _ _ _ _ _ _ us hl => match us, hl with | [_], _ => rfl
  have Fwp : C8.Def K mg "read_part" sRp fwp _ := ⟨⟨_, _, _, _, _, _, _, _, _, _, rfl, lwp, cwp⟩, PySem.W.mg_of X G awp, kwp⟩
  have bwp : Binds K _ ["reader"] [] := Fwp.fn.binds rfl fun _ _ _ _ _ _ us hl => match us, hl with | [_], _ => rfl
  have Fws : C8.Def K mg "read_sign" sRs fws _ := ⟨⟨_, _, _, _, _, _, _, _, _, _, rfl, lws, cws⟩, PySem.W.mg_of X G aws, kws⟩
  have bws : Binds K _ ["reader"] [] := Fws.fn.binds rfl fun _ _ _ _ _ _ us hl => match us, hl with | [_], _ => rfl
  have Fwo : C8.Def K mg "rule_of" sRo fwo _ := ⟨⟨_, _, _, _, _, _, _, _, _, _, rfl, lwo, cwo⟩, PySem.W.mg_of X G awo, kwo⟩
  have bwo : Binds K _ ["told"] [] := Fwo.fn.binds rfl fun _ _ _ _ _ _ us hl => match us, hl with | [_], _ => rfl
  have Fmo : C8.Def K mg "check_modulus" sMo fmo _ := ⟨⟨_, _, _, _, _, _, _, _, _, _, rfl, lmo, cmo⟩, PySem.W.mg_of X G amo, kmo⟩
  have bmo : Binds K _ ["modulus"] [] := Fmo.fn.binds rfl fun _ _ _ _ _ _ us hl => match us, hl with | [_], _ => rfl
  have Fjo : C8.Def K mg "check_joined" sJo fjo _ := ⟨⟨_, _, _, _, _, _, _, _, _, _, rfl, ljo, cjo⟩, PySem.W.mg_of X G ajo, kjo⟩
  have bjo : Binds K _ ["one", "other"] [] := Fjo.fn.binds rfl fun _ _ _ _ _ _ us hl => match us, hl with | [_, _], _ => rfl
  have Flp : C8.Def K mg "_law_pen" sPen flp _ := ⟨⟨_, _, _, _, _, _, _, _, _, _, rfl, llp, clp⟩, PySem.W.mg_of X G alp, klp⟩
  have blp : Binds K _ ["_law_script"] [] := Flp.fn.binds rfl fun _ _ _ _ _ _ us hl => match us, hl with | [_], _ => rfl
  have Fld : C8.Def K mg "_law_draw" sDraw fld _ := ⟨⟨_, _, _, _, _, _, _, _, _, _, rfl, lld, cld⟩, PySem.W.mg_of X G ald, kld⟩
  have bld : Binds K _ ["_law_pen_here", "_law_many"] [] := Fld.fn.binds rfl fun _ _ _ _ _ _ us hl => match us, hl with | [_, _], _ => rfl
  have Flk : C8.Def K mg "_law_pick" sPick flk _ := ⟨⟨_, _, _, _, _, _, _, _, _, _, rfl, llk, clk⟩, PySem.W.mg_of X G alk, klk⟩
  have blk : Binds K _ ["_law_pen_here", "_law_some"] [] := Flk.fn.binds rfl fun _ _ _ _ _ _ us hl => match us, hl with | [_, _], _ => rfl
  have Fle : C8.Def K mg "_law_leaf" sLef fle _ := ⟨⟨_, _, _, _, _, _, _, _, _, _, rfl, lle, cle⟩, PySem.W.mg_of X G ale, kle⟩
  have ble : Binds K _ ["_law_pen_here"] [] := Fle.fn.binds rfl fun _ _ _ _ _ _ us hl => match us, hl with | [_], _ => rfl
  have Flq : C8.Def K mg "_law_plain" sPla flq _ := ⟨⟨_, _, _, _, _, _, _, _, _, _, rfl, llq, clq⟩, PySem.W.mg_of X G alq, klq⟩
  have blq : Binds K _ ["_law_pen_here", "_law_many"] [] := Flq.fn.binds rfl fun _ _ _ _ _ _ us hl => match us, hl with | [_, _], _ => rfl
  have Flt : C8.Def K mg "_law_text" sTx flt _ := ⟨⟨_, _, _, _, _, _, _, _, _, _, rfl, llt, clt⟩, PySem.W.mg_of X G alt, klt⟩
  have blt : Binds K _ ["_law_plain_here"] [] := Flt.fn.binds rfl fun _ _ _ _ _ _ us hl => match us, hl with | [_], _ => rfl
  have Flh : C8.Def K mg "_law_heard" sHea flh _ := ⟨⟨_, _, _, _, _, _, _, _, _, _, rfl, llh, clh⟩, PySem.W.mg_of X G alh, klh⟩
  have blh : Binds K _ ["_law_ask"] [] := Flh.fn.binds rfl fun _ _ _ _ _ _ us hl => match us, hl with | [_], _ => rfl
  have Fln : C8.Def K mg "_law_is_number" sIn fln _ := ⟨⟨_, _, _, _, _, _, _, _, _, _, rfl, lln, cln⟩, PySem.W.mg_of X G aln, kln⟩
  have bln : Binds K _ ["_law_words", "_law_at_so", "_law_low", "_law_high"] [] := Fln.fn.binds rfl fun _ _ _ _ _ _ us hl => match us, hl with | [_, _, _, _], _ => rfl
  have Flr : C8.Def K mg "_law_rule_end" sEn flr _ := ⟨⟨_, _, _, _, _, _, _, _, _, _, rfl, llr, clr⟩, PySem.W.mg_of X G alr, klr⟩
  have blr : Binds K _ ["_law_words", "_law_at_so", "_law_many"] [] := Flr.fn.binds rfl fun _ _ _ _ _ _ us hl => match us, hl with | [_, _, _], _ => rfl
  have Flu : C8.Def K mg "_law_due" sDue flu _ := ⟨⟨_, _, _, _, _, _, _, _, _, _, rfl, llu, clu⟩, PySem.W.mg_of X G alu, klu⟩
  have blu : Binds K _ ["_law_page"] [] := Flu.fn.binds rfl fun _ _ _ _ _ _ us hl => match us, hl with | [_], _ => rfl
  have Flb : C8.Def K mg "_law_bent" sBen flb _ := ⟨⟨_, _, _, _, _, _, _, _, _, _, rfl, llb, clb⟩, PySem.W.mg_of X G alb, klb⟩
  have blb : Binds K _ ["_law_pen_here", "_law_page"] [] := Flb.fn.binds rfl fun _ _ _ _ _ _ us hl => match us, hl with | [_, _], _ => rfl
  have Flx : DefC K mg "_law_read_right" sRdr flx _ c0 := ⟨⟨_, _, _, _, _, _, _, _, _, rfl, llx, clx⟩, PySem.W.mg_of X G alx, klx⟩
  have blx : Binds K _ ["_law_page"] [] := C8.Fun.binds (st := sRdr) (x := "_law_read_right") (qual := "_law_read_right") (f := flx) ⟨_, _, _, _, _, _, _, _, _, _, rfl, llx, clx⟩ rfl fun _ _ _ _ _ _ us hl => match us, hl with | [_], _ => rfl
  have Fla : LawC K "law" sLaw fa _ c1 := ⟨⟨_, _, _, _, _, _, _, _, _, rfl, lla, cla⟩⟩
  have clFC : Cls K FC := ⟨pgFC, hdFC, poFC, saFC⟩
  have IFC : C8.InsC K FC := ⟨clFC, hCFC, hG, hK, hMFC, by unfold PySem.W.kitOne; rw [if_pos (by simp)]⟩
  have clVC : Cls K VC := ⟨pgVC, hdVC, poVC, saVC⟩
  have IVC : C8.InsC K VC := ⟨clVC, hCVC, hG, hK, hMVC, by unfold PySem.W.kitOne; rw [if_pos (by simp)]⟩
  have clLC : Cls K LC := ⟨pgLC, hdLC, poLC, saLC⟩
  have ILC : C8.InsC K LC := ⟨clLC, hCLC, hG, hK, hMLC, by unfold PySem.W.kitOne; rw [if_pos (by simp)]⟩
  have clGC : Cls K GC := ⟨pgGC, hdGC, poGC, saGC⟩
  have IGC : C8.InsC K GC := ⟨clGC, hCGC, hG, hK, hMGC, by unfold PySem.W.kitOne; rw [if_pos (by simp)]⟩
  have rUC : CRead K UC mcUC := ⟨sRUC, sGUC⟩
  have clUC : Cls K UC := ⟨pgUC, hdUC, poUC, saUC⟩
  have Fur : C8.Fun K "read" "Rule.read" sRd fur _ := ⟨_, _, _, _, _, _, _, _, _, _, rfl, lur, cur⟩
  have bur : Binds K _ ["text"] [] := Fur.binds rfl fun _ _ _ _ _ _ us hl => match us, hl with | [_], _ => rfl
  have Sur : SMet K UC "read" pur fur := ⟨⟨_, sTUC, sRUC, sur⟩, sGUC, ⟨_, rur⟩, kur⟩
  have Ffi : C8.Fun K "__init__" "Fixed.__init__" sFxi ffi _ := ⟨_, _, _, _, _, _, _, _, _, _, rfl, lfi, cfi⟩
  have bfi : Binds K _ ["self", "size"] [] := Ffi.binds rfl fun _ _ _ _ _ _ us hl => match us, hl with | [_, _], _ => rfl
  have tfi : Meth K FC "__init__" ffi := ⟨afi, ifi, kfi⟩
  have Fvi : C8.Fun K "__init__" "Divided.__init__" sDvi fvi _ := ⟨_, _, _, _, _, _, _, _, _, _, rfl, lvi, cvi⟩
  have bvi : Binds K _ ["self", "x", "y", "w"] [] := Fvi.binds rfl fun _ _ _ _ _ _ us hl => match us, hl with | [_, _, _, _], _ => rfl
  have tvi : Meth K VC "__init__" fvi := ⟨avi, ivi, kvi⟩
  have Fgi0 : C8.Fun K "__init__" "Lesser.__init__" sLoi fgi0 _ := ⟨_, _, _, _, _, _, _, _, _, _, rfl, lgi0, cgi0⟩
  have bgi0 : Binds K _ ["self", "one", "other"] [] := Fgi0.binds rfl fun _ _ _ _ _ _ us hl => match us, hl with | [_, _, _], _ => rfl
  have tgi0 : Meth K LC "__init__" fgi0 := ⟨agi0, igi0, kgi0⟩
  have Fgi1 : C8.Fun K "__init__" "Greater.__init__" sHii fgi1 _ := ⟨_, _, _, _, _, _, _, _, _, _, rfl, lgi1, cgi1⟩
  have bgi1 : Binds K _ ["self", "one", "other"] [] := Fgi1.binds rfl fun _ _ _ _ _ _ us hl => match us, hl with | [_, _, _], _ => rfl
  have tgi1 : Meth K GC "__init__" fgi1 := ⟨agi1, igi1, kgi1⟩
  have Fft : C8.Fun K "__str__" "Fixed.__str__" sFxs fft _ := ⟨_, _, _, _, _, _, _, _, _, _, rfl, lft, cft⟩
  have bft : Binds K _ ["self"] [] := Fft.binds rfl fun _ _ _ _ _ _ us hl => match us, hl with | [_], _ => rfl
  have tft : Meth K FC "__str__" fft := ⟨aft, ift, kft⟩
  have Ffa : C8.Fun K "__and__" "Fixed.__and__" sFxa ffa _ := ⟨_, _, _, _, _, _, _, _, _, _, rfl, lfa, cfa⟩
  have bfa : Binds K _ ["self", "other"] [] := Ffa.binds rfl fun _ _ _ _ _ _ us hl => match us, hl with | [_, _], _ => rfl
  have tfa : Meth K FC "__and__" ffa := ⟨afa, ifa, kfa⟩
  have Ffo : C8.Fun K "__or__" "Fixed.__or__" sFxo ffo _ := ⟨_, _, _, _, _, _, _, _, _, _, rfl, lfo, cfo⟩
  have bfo : Binds K _ ["self", "other"] [] := Ffo.binds rfl fun _ _ _ _ _ _ us hl => match us, hl with | [_, _], _ => rfl
  have tfo : Meth K FC "__or__" ffo := ⟨afo, ifo, kfo⟩
  have Fvt : C8.Fun K "__str__" "Divided.__str__" sDvs fvt _ := ⟨_, _, _, _, _, _, _, _, _, _, rfl, lvt, cvt⟩
  have bvt : Binds K _ ["self"] [] := Fvt.binds rfl fun _ _ _ _ _ _ us hl => match us, hl with | [_], _ => rfl
  have tvt : Meth K VC "__str__" fvt := ⟨avt, ivt, kvt⟩
  have Fva : C8.Fun K "__and__" "Divided.__and__" sDva fva _ := ⟨_, _, _, _, _, _, _, _, _, _, rfl, lva, cva⟩
  have bva : Binds K _ ["self", "other"] [] := Fva.binds rfl fun _ _ _ _ _ _ us hl => match us, hl with | [_, _], _ => rfl
  have tva : Meth K VC "__and__" fva := ⟨ava, iva, kva⟩
  have Fvo : C8.Fun K "__or__" "Divided.__or__" sDvo fvo _ := ⟨_, _, _, _, _, _, _, _, _, _, rfl, lvo, cvo⟩
  have bvo : Binds K _ ["self", "other"] [] := Fvo.binds rfl fun _ _ _ _ _ _ us hl => match us, hl with | [_, _], _ => rfl
  have tvo : Meth K VC "__or__" fvo := ⟨avo, ivo, kvo⟩
  have Fqt : C8.Fun K "__str__" "Lesser.__str__" sLos fqt _ := ⟨_, _, _, _, _, _, _, _, _, _, rfl, lqt, cqt⟩
  have bqt : Binds K _ ["self"] [] := Fqt.binds rfl fun _ _ _ _ _ _ us hl => match us, hl with | [_], _ => rfl
  have tqt : Meth K LC "__str__" fqt := ⟨aqt, iqt, kqt⟩
  have Fqa : C8.Fun K "__and__" "Lesser.__and__" sLoa fqa _ := ⟨_, _, _, _, _, _, _, _, _, _, rfl, lqa, cqa⟩
  have bqa : Binds K _ ["self", "other"] [] := Fqa.binds rfl fun _ _ _ _ _ _ us hl => match us, hl with | [_, _], _ => rfl
  have tqa : Meth K LC "__and__" fqa := ⟨aqa, iqa, kqa⟩
  have Fqo : C8.Fun K "__or__" "Lesser.__or__" sLoo fqo _ := ⟨_, _, _, _, _, _, _, _, _, _, rfl, lqo, cqo⟩
  have bqo : Binds K _ ["self", "other"] [] := Fqo.binds rfl fun _ _ _ _ _ _ us hl => match us, hl with | [_, _], _ => rfl
  have tqo : Meth K LC "__or__" fqo := ⟨aqo, iqo, kqo⟩
  have Fgt : C8.Fun K "__str__" "Greater.__str__" sHis fgt _ := ⟨_, _, _, _, _, _, _, _, _, _, rfl, lgt, cgt⟩
  have bgt : Binds K _ ["self"] [] := Fgt.binds rfl fun _ _ _ _ _ _ us hl => match us, hl with | [_], _ => rfl
  have tgt : Meth K GC "__str__" fgt := ⟨agt, igt, kgt⟩
  have Fga : C8.Fun K "__and__" "Greater.__and__" sHia fga _ := ⟨_, _, _, _, _, _, _, _, _, _, rfl, lga, cga⟩
  have bga : Binds K _ ["self", "other"] [] := Fga.binds rfl fun _ _ _ _ _ _ us hl => match us, hl with | [_, _], _ => rfl
  have tga : Meth K GC "__and__" fga := ⟨aga, iga, kga⟩
  have Fgo : C8.Fun K "__or__" "Greater.__or__" sHio fgo _ := ⟨_, _, _, _, _, _, _, _, _, _, rfl, lgo, cgo⟩
  have bgo : Binds K _ ["self", "other"] [] := Fgo.binds rfl fun _ _ _ _ _ _ us hl => match us, hl with | [_, _], _ => rfl
  have tgo : Meth K GC "__or__" fgo := ⟨ago, igo, kgo⟩
  have clR : Cls K R := ⟨pgR, hdR, poR, saR⟩
  have Fri : C8.Fun K "__init__" "Reader.__init__" sRI fri _ := ⟨_, _, _, _, _, _, _, _, _, _, rfl, lri, cri⟩
  have FDri : FunD K "__init__" "Reader.__init__" (C8.fnArgs sRI) (C8.fnBody sRI) (C8.fnScope sRI) [.int 0] [] fri _ := ⟨⟨_, _, _, _, _, _, _, _, _, _, rfl, lri, cri, .inr ⟨by simp, Tdri, _, [.int 0 tDri], nDri, rfl, lDri, rfl, .cons ⟨_, rfl⟩ .nil⟩, .inl rfl⟩, kri⟩
  have Frh : C8.Fun K "at_hand" "Reader.at_hand" sRah frh _ := ⟨_, _, _, _, _, _, _, _, _, _, rfl, lrh, crh⟩
  have brh : Binds K _ ["self"] [] := Frh.binds rfl fun _ _ _ _ _ _ us hl => match us, hl with | [_], _ => rfl
  have trh : Meth K R "at_hand" frh := ⟨arh, irh, krh⟩
  have Fry : C8.Fun K "refuse" "Reader.refuse" sRrf fry _ := ⟨_, _, _, _, _, _, _, _, _, _, rfl, lry, cry⟩
  have bry : Binds K _ ["self"] [] := Fry.binds rfl fun _ _ _ _ _ _ us hl => match us, hl with | [_], _ => rfl
  have tryM : Meth K R "refuse" fry := ⟨ary, iry, kry⟩
  have Frk : C8.Fun K "take" "Reader.take" sRtk frk _ := ⟨_, _, _, _, _, _, _, _, _, _, rfl, lrk, crk⟩
  have brk : Binds K _ ["self", "worth"] [] := Frk.binds rfl fun _ _ _ _ _ _ us hl => match us, hl with | [_, _], _ => rfl
  have trk : Meth K R "take" frk := ⟨ark, irk, krk⟩
  have Frx : C8.Fun K "expect" "Reader.expect" sRexZ frx _ := ⟨_, _, _, _, _, _, _, _, _, _, rfl, lrx, crx⟩
  have brx : Binds K _ ["self", "sign"] [] := Frx.binds rfl fun _ _ _ _ _ _ us hl => match us, hl with | [_, _], _ => rfl
  have trx : Meth K R "expect" frx := ⟨arx, irx, krx⟩
  have Frf : C8.Fun K "finish" "Reader.finish" sRfi frf _ := ⟨_, _, _, _, _, _, _, _, _, _, rfl, lrf, crf⟩
  have brf : Binds K _ ["self"] [] := Frf.binds rfl fun _ _ _ _ _ _ us hl => match us, hl with | [_], _ => rfl
  have trf : Meth K R "finish" frf := ⟨arf, irf, krf⟩
  have Frn : C8.Fun K "integer" "Reader.integer" sRin frn _ := ⟨_, _, _, _, _, _, _, _, _, _, rfl, lrn, crn⟩
  have brn : Binds K _ ["self", "least", "most"] [] := Frn.binds rfl fun _ _ _ _ _ _ us hl => match us, hl with | [_, _, _], _ => rfl
  have trn : Meth K R "integer" frn := ⟨arn, irn, krn⟩
  have FEu : C8.Fun K "__init__" "BadRule.__init__" sBruE fEu _ := ⟨_, _, _, _, _, _, _, _, _, _, rfl, lEu, cEu⟩
  have bEu : Binds K _ ["self", "part"] [] := FEu.binds rfl fun _ _ _ _ _ _ us hl => match us, hl with | [_, _], _ => rfl
  have OXu : OexC K DU := ⟨⟨_, _, _, _, _, _, _, _, _, _, _, _, _, _, _, xDu, xBu⟩, xsu, xeu, xtu, xku⟩
  have XFu : XfC K DU := ⟨xgu, xnu, xeu, xdu⟩
  have XCu : Hx.XCls K DU := ⟨xgu, xnu, xeu, xdu, xcu, hG, hK, xmu⟩
  have FEs : C8.Fun K "__init__" "BadSize.__init__" sBszE fEs _ := ⟨_, _, _, _, _, _, _, _, _, _, rfl, lEs, cEs⟩
  have bEs : Binds K _ ["self", "value"] [] := FEs.binds rfl fun _ _ _ _ _ _ us hl => match us, hl with | [_, _], _ => rfl
  have OXs : OexC K DS := ⟨⟨_, _, _, _, _, _, _, _, _, _, _, _, _, _, _, xDs, xBs⟩, xss, xes, xts, xks⟩
  have XFs : XfC K DS := ⟨xgs, xns, xes, xds⟩
  have XCs : Hx.XCls K DS := ⟨xgs, xns, xes, xds, xcs, hG, hK, xms⟩
  have FEr : C8.Fun K "__init__" "BadRest.__init__" sBreE fEr _ := ⟨_, _, _, _, _, _, _, _, _, _, rfl, lEr, cEr⟩
  have bEr : Binds K _ ["self", "value"] [] := FEr.binds rfl fun _ _ _ _ _ _ us hl => match us, hl with | [_, _], _ => rfl
  have OXr : OexC K DR := ⟨⟨_, _, _, _, _, _, _, _, _, _, _, _, _, _, _, xDr, xBr⟩, xsr, xer, xtr, xkr⟩
  have XFr : XfC K DR := ⟨xgr, xnr, xer, xdr⟩
  have XCr : Hx.XCls K DR := ⟨xgr, xnr, xer, xdr, xcr, hG, hK, xmr⟩
  have FEt : C8.Fun K "__init__" "BadTotal.__init__" sBtoE fEt _ := ⟨_, _, _, _, _, _, _, _, _, _, rfl, lEt, cEt⟩
  have bEt : Binds K _ ["self", "value"] [] := FEt.binds rfl fun _ _ _ _ _ _ us hl => match us, hl with | [_, _], _ => rfl
  have OXt : OexC K DT := ⟨⟨_, _, _, _, _, _, _, _, _, _, _, _, _, _, _, xDt, xBt⟩, xst, xet, xtt, xkt⟩
  have XFt : XfC K DT := ⟨xgt, xnt, xet, xdt⟩
  have XCt : Hx.XCls K DT := ⟨xgt, xnt, xet, xdt, xct, hG, hK, xmt⟩
  have FEx : C8.Fun K "__init__" "BadText.__init__" sTxE fEx _ := ⟨_, _, _, _, _, _, _, _, _, _, rfl, lEx, cEx⟩
  have bEx : Binds K _ ["self", "line", "word"] [] := FEx.binds rfl fun _ _ _ _ _ _ us hl => match us, hl with | [_, _, _], _ => rfl
  have OXx : OexC K DX := ⟨⟨_, _, _, _, _, _, _, _, _, _, _, _, _, _, _, xDx, xBx⟩, xsx, xex, xtx, xkx⟩
  have XFx : XfC K DX := ⟨xgx, xnx, xex, xdx⟩
  have XCx : Hx.XCls K DX := ⟨xgx, xnx, xex, xdx, xcx, hG, hK, xmx⟩
  have FEm : C8.Fun K "__init__" "TooMany.__init__" sMnE fEm _ := ⟨_, _, _, _, _, _, _, _, _, _, rfl, lEm, cEm⟩
  have bEm : Binds K _ ["self", "what", "most"] [] := FEm.binds rfl fun _ _ _ _ _ _ us hl => match us, hl with | [_, _, _], _ => rfl
  have OXm : OexC K DM := ⟨⟨_, _, _, _, _, _, _, _, _, _, _, _, _, _, _, xDm, xBm⟩, xsm, xem, xtm, xkm⟩
  have XFm : XfC K DM := ⟨xgm, xnm, xem, xdm⟩
  have XCm : Hx.XCls K DM := ⟨xgm, xnm, xem, xdm, xcm, hG, hK, xmm⟩
  have T : Txt mg := { n_int := PySem.W.mg_none_of X G z_int, n_list := PySem.W.mg_none_of X G z_list, n_len := PySem.W.mg_none_of X G z_len, n_abs := PySem.W.mg_none_of X G z_abs, n_bool := PySem.W.mg_none_of X G z_bool, n_str := PySem.W.mg_none_of X G z_str, n_isinstance := PySem.W.mg_none_of X G z_isinstance, n_range := PySem.W.mg_none_of X G z_range, n_repr := PySem.W.mg_none_of X G z_repr, n_all := PySem.W.mg_none_of X G z_all }
  have TN : TxtN mg := { toTxt := T, c_PF := ⟨_, PySem.W.mg_of X G gPF⟩, c_PW := ⟨_, PySem.W.mg_of X G gPW⟩ }
  have TO0 : TabOf (tab2 B0 B1) B0 "_law_read_right" := tab2_0 nB10
  have TO1 : TabOf (tab2 B0 B1) B1 "law" := tab2_1 nB10
  have R2 : Hrd K mg DU DS DR DT DX DM L := { ml := PySem.W.mg_of X G aL, cDU := ⟨XFu, XCu, xou, xLu⟩, mDU := PySem.W.mg_of X G aDu, nDU_part := xvu0, kDU_DS := xNus, kDU_DR := xNur, kDU_DT := xNut, kDU_DX := xNux, kDU_DM := xNum, cDS := ⟨XFs, XCs, xos, xLs⟩, mDS := PySem.W.mg_of X G aDs, nDS_value := xvs0, kDS_DU := xNsu, kDS_DR := xNsr, kDS_DT := xNst, kDS_DX := xNsx, kDS_DM := xNsm, cDR := ⟨XFr, XCr, xor, xLr⟩, mDR := PySem.W.mg_of X G aDr, nDR_value := xvr0, kDR_DU := xNru, kDR_DS := xNrs, kDR_DT := xNrt, kDR_DX := xNrx, kDR_DM := xNrm, cDT := ⟨XFt, XCt, xot, xLt⟩, mDT := PySem.W.mg_of X G aDt, nDT_value := xvt0, kDT_DU := xNtu, kDT_DS := xNts, kDT_DR := xNtr, kDT_DX := xNtx, kDT_DM := xNtm, cDX := ⟨XFx, XCx, xox, xLx⟩, mDX := PySem.W.mg_of X G aDx, nDX_line := xvx0, nDX_word := xvx1, kDX_DU := xNxu, kDX_DS := xNxs, kDX_DR := xNxr, kDX_DT := xNxt, kDX_DM := xNxm, cDM := ⟨XFm, XCm, xom, xLm⟩, mDM := PySem.W.mg_of X G aDm, nDM_what := xvm0, nDM_most := xvm1, kDM_DU := xNmu, kDM_DS := xNms, kDM_DR := xNmr, kDM_DT := xNmt, kDM_DX := xNmx }
  obtain ⟨ds, vds, bri⟩ := FDri.binds1 (ps := ["self", "text", "row"]) 2 0 (by simp) rfl (fun Tq kVq dcq pmq anq cdq ctq us its h1 h2 => match us, its, h1, h2 with | [_, _], [_], _, _ => ⟨_, rfl, rfl⟩)
  refine ⟨PySem.W.fnOf "law" "law" (C8.fnArgs sLaw) (C8.fnBody sLaw) (C8.fnScope sLaw) .none kVla dcla pmla anla (.ref c1) ctla, [("_law_read_right", c0, B0), ("law", c1, B1)], spLaw K (tab2 B0 B1), ?tbs, fun s u => .of_eq rfl, fun base KB GB TBS => ?_, ?hsp⟩
  case tbs =>
    exact fun e he => by
      simp only [List.mem_cons, List.not_mem_nil, or_false] at he
      rcases he with rfl | rfl
      · exact ⟨by simp, tabIn_of alx llx rfl ltlx vtlx, ntlx⟩
      · exact ⟨by simp, tabIn_of ala lla rfl ltla vtla, ntla⟩
  case hsp =>
    exact fun H a ns hB hS hl => ⟨a, ns, rfl, hS, hl, fun p hp => by
      simp only [tab2, List.mem_cons, List.not_mem_nil, or_false] at hp
      rcases hp with rfl | rfl
      · exact TabS.nil (hB _ (List.Mem.head _))
      · exact TabS.nil (hB _ (List.Mem.tail _ (List.Mem.head _))), fun _ => rfl⟩
  have TBlx : TabB base mg c0 B0 := TBS ("_law_read_right", c0, B0) (by simp)
  have TBla : TabB base mg c1 B1 := TBS ("law", c1, B1) (by simp)
  have ERu : Err1 "BadRule" "part" l.prog w K mg base DU fEu _ := ⟨OXu, xiu, xfu, fn_BruE FEu OXu xvu0, bEu, PySem.W.mg_of X G aDu⟩
  have ERs : Err1 "BadSize" "value" l.prog w K mg base DS fEs _ := ⟨OXs, xis, xfs, fn_BszE FEs OXs xvs0, bEs, PySem.W.mg_of X G aDs⟩
  have ERm : Err2 "TooMany" "what" "most" l.prog w K mg base DM fEm _ := ⟨OXm, xim, xfm, fn_mnE FEm OXm xvm0 xvm1, bEm, PySem.W.mg_of X G aDm⟩
  have ERx : Err2 "BadText" "line" "word" l.prog w K mg base DX fEx _ := ⟨OXx, xix, xfx, fn_txE FEx OXx xvx0 xvx1, bEx, PySem.W.mg_of X G aDx⟩
  have Dii := cal_isint (P := l.prog) (w := w) (base := base) Fii bii T
  have Diw := cal_within Fiw biw T Dii
  have Diz := cal_sz (P := l.prog) (w := w) (base := base) Fiz biz ⟨_, PySem.W.mg_of X G gGS⟩ Diw
  have Dif := cal_fac (P := l.prog) (w := w) (base := base) Fjf bjf ⟨_, PySem.W.mg_of X G gMF⟩ Diw
  have Dis := cal_sta (P := l.prog) (w := w) (base := base) Fis bis ⟨_, PySem.W.mg_of X G gMS⟩ Diw
  have Dio := cal_intof (P := l.prog) (w := w) (base := base) Fio bio TN
  have Dno := cal_numof Fnu bnu Dio Diw
  have ZF : FxC K FC := ⟨clFC, noFC_size, noFC_parts, noFC_modulus⟩
  have ZV : DvC K VC := ⟨clVC, noVC_x, noVC_y, noVC_w, noVC_parts, noVC_modulus⟩
  have ZL : JnC K LC := ⟨clLC, noLC_one, noLC_other, noLC_parts, noLC_modulus⟩
  have ZG : JnC K GC := ⟨clGC, noGC_one, noGC_other, noGC_parts, noGC_modulus⟩
  have hF := PySem.W.mg_of X G aFC
  have hV := PySem.W.mg_of X G aVC
  have hL := PySem.W.mg_of X G aLC
  have hGr := PySem.W.mg_of X G aGC
  have hlc := PySem.W.mg_of X G aLCM
  have hU := PySem.W.mg_of X G aUC
  have kit : ∀ C D, Rk FC VC LC GC C → Rk FC VC LC GC D → PySem.W.kitOne K (.ref C) (.ref D) = some (decide (C = D)) := fun C D hC hD => by
    rcases hC with rfl | rfl | rfl | rfl <;> rcases hD with rfl | rfl | rfl | rfl
    · exact (by rw [IFC.me]; simp)
    · exact (by rw [kkFCVC, decide_eq_false (neFCVC)])
    · exact (by rw [kkFCLC, decide_eq_false (neFCLC)])
    · exact (by rw [kkFCGC, decide_eq_false (neFCGC)])
    · exact (by rw [kkVCFC, decide_eq_false (neFCVC.symm)])
    · exact (by rw [IVC.me]; simp)
    · exact (by rw [kkVCLC, decide_eq_false (neVCLC)])
    · exact (by rw [kkVCGC, decide_eq_false (neVCGC)])
    · exact (by rw [kkLCFC, decide_eq_false (neFCLC.symm)])
    · exact (by rw [kkLCVC, decide_eq_false (neVCLC.symm)])
    · exact (by rw [ILC.me]; simp)
    · exact (by rw [kkLCGC, decide_eq_false (neLCGC)])
    · exact (by rw [kkGCFC, decide_eq_false (neFCGC.symm)])
    · exact (by rw [kkGCVC, decide_eq_false (neVCGC.symm)])
    · exact (by rw [kkGCLC, decide_eq_false (neLCGC.symm)])
    · exact (by rw [IGC.me]; simp)
  have ins : ∀ C, Rk FC VC LC GC C → C8.InsC K C := fun C hC => by
    rcases hC with rfl | rfl | rfl | rfl
    · exact IFC
    · exact IVC
    · exact ILC
    · exact IGC
  have Z : RlZ K mg FC VC LC GC := ⟨ZF, ZV, ZL, ZG, hF, hV, hL, hGr, neFCVC, neFCLC, neFCGC, neVCLC, neVCGC, neLCGC, ins, kit⟩
  have FM : FixM l.prog w K mg base FC DS ffi _ := ⟨⟨mkFC, afi, ifi, kCFC⟩, fn_fxi Ffi ZF ERs Diz, hF, bfi⟩
  have DM1 : DivM l.prog w K mg base VC DU fvi _ := ⟨⟨mkVC, avi, ivi, kCVC⟩, fn_dvi Fvi ZV ERu Dif Dis, hV, bvi⟩
  have DMo : CalX l.prog w K mg base 3 "check_modulus" (spMo DM) := ⟨_, _, _, fn_mo Fmo ERm ⟨_, PySem.W.mg_of X G gMR⟩, Fmo.mgf, Fmo.kp, bmo⟩
  have DJo : CalX l.prog w K mg base 4 "check_joined" (spJo K FC VC LC GC DU DM) := ⟨_, _, _, fn_jo Fjo T Z ERu ERm ⟨_, PySem.W.mg_of X G gMP⟩ hlc DMo, Fjo.mgf, Fjo.kp, bjo⟩
  have LM : JnM "Lesser" .lo l.prog w K mg base FC VC LC GC DU DM LC fgi0 _ := ⟨⟨mkLC, agi0, igi0, kCLC⟩, fn_loi Fgi0 Z hlc DJo, hL, bgi0⟩
  have GM : JnM "Greater" .hi l.prog w K mg base FC VC LC GC DU DM GC fgi1 _ := ⟨⟨mkGC, agi1, igi1, kCGC⟩, fn_hii Fgi1 Z hlc DJo, hGr, bgi1⟩
  have LA : MetP l.prog w K mg base 7 (Rk FC VC LC GC) (PySem.dunder "and") (fun _ => spAn K FC VC LC GC DU DM .lo) := andP LM Ffa tfa bfa Fva tva bva Fqa tqa bqa Fga tga bga
  have LO : MetP l.prog w K mg base 7 (Rk FC VC LC GC) (PySem.dunder "or") (fun _ => spAn K FC VC LC GC DU DM .hi) := orP GM Ffo tfo bfo Fvo tvo bvo Fqo tqo bqo Fgo tgo bgo
  have OA : OpP K (Rk FC VC LC GC) .BitAnd := ⟨fun C hC => by
    rcases hC with rfl | rfl | rfl | rfl
    · exact fsFC
    · exact fsVC
    · exact fsLC
    · exact fsGC
, fun C hC => by
    rcases hC with rfl | rfl | rfl | rfl
    · exact raFC
    · exact raVC
    · exact raLC
    · exact raGC
, fun C D hC hD ne => by
    rcases hC with rfl | rfl | rfl | rfl <;> rcases hD with rfl | rfl | rfl | rfl
    · exact absurd rfl ne
    · exact sbFCVC
    · exact sbFCLC
    · exact sbFCGC
    · exact sbVCFC
    · exact absurd rfl ne
    · exact sbVCLC
    · exact sbVCGC
    · exact sbLCFC
    · exact sbLCVC
    · exact absurd rfl ne
    · exact sbLCGC
    · exact sbGCFC
    · exact sbGCVC
    · exact sbGCLC
    · exact absurd rfl ne
⟩
  have OO : OpP K (Rk FC VC LC GC) .BitOr := ⟨fun C hC => by
    rcases hC with rfl | rfl | rfl | rfl
    · exact fsFC
    · exact fsVC
    · exact fsLC
    · exact fsGC
, fun C hC => by
    rcases hC with rfl | rfl | rfl | rfl
    · exact roFC
    · exact roVC
    · exact roLC
    · exact roGC
, fun C D hC hD ne => by
    rcases hC with rfl | rfl | rfl | rfl <;> rcases hD with rfl | rfl | rfl | rfl
    · exact absurd rfl ne
    · exact sbFCVC
    · exact sbFCLC
    · exact sbFCGC
    · exact sbVCFC
    · exact absurd rfl ne
    · exact sbVCLC
    · exact sbVCGC
    · exact sbLCFC
    · exact sbLCVC
    · exact absurd rfl ne
    · exact sbLCGC
    · exact sbGCFC
    · exact sbGCVC
    · exact sbGCLC
    · exact absurd rfl ne
⟩
  have FP : FmP K (Rk FC VC LC GC) := ⟨fun C hC => by
    rcases hC with rfl | rfl | rfl | rfl
    · exact fmFC
    · exact fmVC
    · exact fmLC
    · exact fmGC
, fun C hC => by
    rcases hC with rfl | rfl | rfl | rfl
    · exact hMFC
    · exact hMVC
    · exact hMLC
    · exact hMGC
⟩
  have SP : MetP l.prog w K mg base 13 (Rk FC VC LC GC) "__str__" (spSt FC VC LC GC 6) := strP Z FP Fft tft bft Fvt tvt bvt Fqt tqt bqt Fgt tgt bgt 6
  have RC : RdC K R := ⟨clR, noR__words, noR__row, noR__at⟩
  have Mrh : MetX l.prog w K mg base 1 R "at_hand" (spRah R) := ⟨_, _, _, trh, fn_rah Frh T RC, brh⟩
  have Mry : MetX l.prog w K mg base 3 R "refuse" (spRrf R DX) := ⟨_, _, _, tryM, fn_rrf Fry RC ERx, bry⟩
  have Mrk : MetX l.prog w K mg base 5 R "take" (spRtk R DX) := ⟨_, _, _, trk, fn_rtk Frk RC Mry, brk⟩
  have Mrx : MetX l.prog w K mg base 7 R "expect" (spRexZ R DX) := ⟨_, _, _, trx, fn_rexZ Frx RC Mrh Mrk, brx⟩
  have Mrf : MetX l.prog w K mg base 5 R "finish" (spRfi R DX) := ⟨_, _, _, trf, fn_rfi Frf T RC Mry, brf⟩
  have Mrn : MetX l.prog w K mg base 7 R "integer" (spRin R DX) := ⟨_, _, _, trn, fn_rin Frn RC Mrh Mrk Dno, brn⟩
  have RM : RdE l.prog w K mg base R DX := ⟨RC, Mrh, Mrk, Mrx, Mrn, Mrf, Mry⟩
  have RK : RdK l.prog w K mg base R DX fri _ ds := ⟨⟨mkR, ari, iri, kCR⟩, fn_ri Fri T RC ERx, PySem.W.mg_of X G aR, bri, vds⟩
  have DWp : CalX l.prog w K mg base 8 "read_part" (spRpE R DX) := ⟨_, _, _, fn_rpE Fwp RM ⟨_, PySem.W.mg_of X G gGS⟩ ⟨_, PySem.W.mg_of X G gMF⟩ ⟨_, PySem.W.mg_of X G gMS⟩, Fwp.mgf, Fwp.kp, bwp⟩
  have tSG : ∀ H, SqT K H SG [.str (SX.S [38]), .str (SX.S [124])] := fun H => .inr ⟨_, _, _, lSG, rfl, rfl, Nat.le_trans sSG (by decide), vSG⟩
  have DWs : CalX l.prog w K mg base 6 "read_sign" (spRsE R DX) := ⟨_, _, _, fn_rsE Fws RM (PySem.W.mg_of X G gSG) tSG, Fws.mgf, Fws.kp, bws⟩
  have DWr : CalX l.prog w K mg base 9 "read_rule" (spRrE R DX) := ⟨_, _, _, fn_rrE Fwr RM ⟨_, PySem.W.mg_of X G gMP⟩ DWp DWs, Fwr.mgf, Fwr.kp, bwr⟩
  have DWo : CalX l.prog w K mg base 8 "rule_of" (spRoE FC VC LC GC DM) := ⟨_, _, _, fn_roE Fwo T Z FM DM1 LA OA LO OO, Fwo.mgf, Fwo.kp, bwo⟩
  have RR : RrE l.prog w K mg base FC VC LC GC DX DM UC pur fur _ := ⟨Sur, fn_rdE Fur RK RM DWr DWo, bur⟩
  have D1 := cal_draw (P := l.prog) (w := w) (K := K) (base := base) Fld bld T.toTxt0
  have D2 := cal_pick Flk blk T.toTxt0 D1
  have D0 := cal_pen (P := l.prog) (w := w) (base := base) Flp blp T.toTxt0
  have DLe := cal_lef Fle ble D1 D2
  have DPl : C8.Cal l.prog w K mg base 10 "_law_plain" (spPla 7) [] := cal_pla Flq blq D1 D2 DLe 7
  have DTx := cal_tx (P := l.prog) (w := w) (base := base) Flt blt T 7
  have DIn := cal_in (P := l.prog) (w := w) (base := base) Fln bln T
  have DEn : C8.Cal l.prog w K mg base 113 "_law_rule_end" (spEn 111) [] := cal_en Flr blr T DIn 111
  have DDu := cal_due Flu blu T DEn
  have DBe := cal_ben Flb blb T D1 D2
  have DRr := cal_rdr Flx blx Flh blh TBlx TO0 R2 T hU RR SP DDu
  exact fn_law Fla Flh blh TBla TO1 R2 T Z FM hU RR nI nB nS D0 D1 D2 DPl DTx DBe DDu DRr
end Lw
namespace Lw
open PySem PySem.Spec PyProof.Rows L2
open LamX
theorem tab_parts {K : PySem.W.Frag} {c P : Addr} (h : PySem.W.codeHdIn K c P = true) : ∃ (oc : Value) (od : Option Addr) (us : Array Value) (sl : Array (Option Value)), K.lookup c = some ⟨oc, od, .fields us, sl⟩ ∧ us[11]? = some (.ref P) := by
  unfold PySem.W.codeHdIn at h
  split at h
  · rename_i od vs sl hk
    refine ⟨_, _, _, _, hk, ?_⟩
    have h1 := (Bool.and_eq_true_iff.mp (Bool.and_eq_true_iff.mp (Bool.and_eq_true_iff.mp (Bool.and_eq_true_iff.mp (Bool.and_eq_true_iff.mp h).1).1).1).1).1
    split at h1
    · rename_i P' e
      rw [e, beq_iff_eq.mp h1]
    · cases h1
  · cases h
/-- the walk's end over a Hook that tells of some K -/
theorem walk_endX {l : PySem.W.OpenLaw} {n k : Nat} {q : Program} {loose : List Str} {XP : (Str → Option Value) → Heap → Prop} {YP : World → Heap → Prop} {d : DefRec} {x : Str} {xts : List Str}
    (hn : l.most = some n) (hn2 : n ≤ 63) (hdf : d.params.defaults = []) (hr : Room k callerA)
    (F : ∀ (w : World) (mg : Str → Option Value) (fa : Addr) (h : Heap), YP w h → h.Ns mainGlobals mg → mg d.name = some (.ref fa) → ∃ (K : PySem.W.Frag) (fd : FuncData) (tb : List (Str × Addr × Addr)) (sp : Sp), K.In h ∧ (∀ y ∈ xts, ∃ c B, PySem.W.tabIn K y = some (c, B) ∧ PySem.W.codeHdIn K c B = true ∧ h.get? B = some { cls := .none, data := .fields #[] }) ∧
      (∀ e ∈ tb, e.1 ∈ xts ∧ PySem.W.tabIn K e.1 = some (e.2.1, e.2.2) ∧ K.lookup e.2.2 = none) ∧ (∀ (s : Shared) (u : Value), BindsTo s fd ⟨[u], []⟩ [(x, u)]) ∧
      (∀ base : Heap, K.In base → base.Ns mainGlobals mg → (∀ e ∈ tb, TabB base mg e.2.1 e.2.2) → FnG l.prog w K mg base k fa fd [x] sp) ∧
      ∀ (H : Hp) (a : Addr) (ns : List Int), (∀ e ∈ tb, H e.2.2 = some (.tbl #[])) → SqL K H a (ns.map V.int) → ns.length ≤ 63 → sp [.ref a] H (fun v _ => v = .bl true) C8.E0) :
    PySem.W.WalkO q loose XP YP l.row.toRowW d [] (fun f vs => PySem.call f vs) := by
  refine Att.attach_callB hn hdf fun w s₀ s₁ mg mb fa o pm cd doc a vs ns G Y ho hd hcd hmg hobj hints hlen hbits hg => ?_
  obtain ⟨K, fd, tb, sp, KX, hx, ht, hb, hF, hsp⟩ := F w mg fa _ Y G.T.g hmg
  have tab : ∀ e ∈ tb, PySem.W.CodeHd s₁.heap e.2.1 e.2.2 ∧ s₁.heap.get? e.2.2 = some { cls := .none, data := .fields #[] } := fun e he => by
    obtain ⟨h1, h2, h3⟩ := ht e he
    obtain ⟨c, B, g1, g2, g3⟩ := hx _ h1
    rw [g1] at h2
    obtain ⟨z1, z2⟩ := Prod.mk.inj (Option.some.inj h2)
    rw [← z1, ← z2]
    exact ⟨PySem.W.codeHd_of_K KX g2, g3⟩
  have mem : ∀ {p : Addr → Prop}, (∀ e ∈ tb, p e.2.2) → ∀ b ∈ tb.map (·.2.2), p b := fun {p} h b hb => by
    obtain ⟨e, he, rfl⟩ := List.mem_map.mp hb
    exact h e he
  exact law_end (Bs := tb.map (·.2.2)) KX G.T.g G.T.b G.T.builtins G.T.nolimit hg (mem fun e he => (tab e he).2) (mem fun e he => (ht e he).2.2) (mem fun e he => ⟨_, (tab e he).1⟩) G.T.bmain hobj hints (Nat.le_trans (Nat.le_trans hlen hn2) (by decide)) hr
    (fun base kin ns' tbb => hF base kin ns' fun e he => tbb e.2.2 (List.mem_map.mpr ⟨e, he, rfl⟩) e.2.1 (tab e he).1) hb fun H hB hS => hsp H a ns (fun e he => hB e.2.2 (List.mem_map.mpr ⟨e, he, rfl⟩)) hS (Nat.le_trans hlen hn2)
theorem known {l : PySem.W.OpenLaw} {w : World} {K : PySem.W.Frag} {h : Heap} {mg : Str → Option Value} {fa : Addr} (X : K.In h) (G : h.Ns mainGlobals mg) (hfa' : mg "law" = some (.ref fa)) (c : Hz.SaysZ hfn htf exK h K) :
    ∃ (K : PySem.W.Frag) (fd : FuncData) (tb : List (Str × Addr × Addr)) (sp : Sp), K.In h ∧ (∀ y ∈ (["_law_read_right", "law"] : List Str), ∃ c B, PySem.W.tabIn K y = some (c, B) ∧ PySem.W.codeHdIn K c B = true ∧ h.get? B = some { cls := .none, data := .fields #[] }) ∧
      (∀ e ∈ tb, e.1 ∈ (["_law_read_right", "law"] : List Str) ∧ PySem.W.tabIn K e.1 = some (e.2.1, e.2.2) ∧ K.lookup e.2.2 = none) ∧ (∀ (s : Shared) (u : Value), BindsTo s fd ⟨[u], []⟩ [("_law_script", u)]) ∧
      (∀ base : Heap, K.In base → base.Ns mainGlobals mg → (∀ e ∈ tb, TabB base mg e.2.1 e.2.2) → FnG l.prog w K mg base 116 fa fd ["_law_script"] sp) ∧
      ∀ (H : Hp) (a : Addr) (ns : List Int), (∀ e ∈ tb, H e.2.2 = some (.tbl #[])) → SqL K H a (ns.map V.int) → ns.length ≤ 63 → sp [.ref a] H (fun v _ => v = .bl true) C8.E0 := by
  have e0 : (exK K).all (fun l => l.all id) = true := c.more
  obtain ⟨_, _, _, _, _, _, cd_ii, _, _, l_ii, c_ii⟩ := (show ∃ oc od kV dc pm an cd ct sl, K.lookup (He.ga K "is_integer") = some ⟨oc, od, .func (PySem.W.fnOf "is_integer" "is_integer" (C8.fnArgs sIsInt) (C8.fnBody sIsInt) (C8.fnScope sIsInt) .none kV dc pm an cd ct), sl⟩ ∧ PySem.W.codeIn K cd "is_integer" = true from c.get0 0 (d := hd0) rfl rfl)
  obtain ⟨_, _, _, _, _, _, cd_iw, _, _, l_iw, c_iw⟩ := (show ∃ oc od kV dc pm an cd ct sl, K.lookup (He.ga K "is_within") = some ⟨oc, od, .func (PySem.W.fnOf "is_within" "is_within" (C8.fnArgs sWithin) (C8.fnBody sWithin) (C8.fnScope sWithin) .none kV dc pm an cd ct), sl⟩ ∧ PySem.W.codeIn K cd "is_within" = true from c.get0 1 (d := hd1) rfl rfl)
  obtain ⟨_, _, _, _, _, _, cd_iz, _, _, l_iz, c_iz⟩ := (show ∃ oc od kV dc pm an cd ct sl, K.lookup (He.ga K "is_size") = some ⟨oc, od, .func (PySem.W.fnOf "is_size" "is_size" (C8.fnArgs sSize) (C8.fnBody sSize) (C8.fnScope sSize) .none kV dc pm an cd ct), sl⟩ ∧ PySem.W.codeIn K cd "is_size" = true from c.get0 2 (d := hd2) rfl rfl)
  obtain ⟨_, _, _, _, _, _, cd_jf, _, _, l_jf, c_jf⟩ := (show ∃ oc od kV dc pm an cd ct sl, K.lookup (He.ga K "is_factor") = some ⟨oc, od, .func (PySem.W.fnOf "is_factor" "is_factor" (C8.fnArgs sFac) (C8.fnBody sFac) (C8.fnScope sFac) .none kV dc pm an cd ct), sl⟩ ∧ PySem.W.codeIn K cd "is_factor" = true from c.get0 3 (d := hd3) rfl rfl)
  obtain ⟨_, _, _, _, _, _, cd_is, _, _, l_is, c_is⟩ := (show ∃ oc od kV dc pm an cd ct sl, K.lookup (He.ga K "is_start") = some ⟨oc, od, .func (PySem.W.fnOf "is_start" "is_start" (C8.fnArgs sSta) (C8.fnBody sSta) (C8.fnScope sSta) .none kV dc pm an cd ct), sl⟩ ∧ PySem.W.codeIn K cd "is_start" = true from c.get0 4 (d := hd4) rfl rfl)
  obtain ⟨_, _, _, _, _, _, cd_io, _, _, l_io, c_io⟩ := (show ∃ oc od kV dc pm an cd ct sl, K.lookup (He.ga K "integer_of") = some ⟨oc, od, .func (PySem.W.fnOf "integer_of" "integer_of" (C8.fnArgs sIntOf) (C8.fnBody sIntOf) (C8.fnScope sIntOf) .none kV dc pm an cd ct), sl⟩ ∧ PySem.W.codeIn K cd "integer_of" = true from c.get0 5 (d := hd5) rfl rfl)
  obtain ⟨_, _, _, _, _, _, cd_nu, _, _, l_nu, c_nu⟩ := (show ∃ oc od kV dc pm an cd ct sl, K.lookup (He.ga K "number_of") = some ⟨oc, od, .func (PySem.W.fnOf "number_of" "number_of" (C8.fnArgs sNumOf) (C8.fnBody sNumOf) (C8.fnScope sNumOf) .none kV dc pm an cd ct), sl⟩ ∧ PySem.W.codeIn K cd "number_of" = true from c.get0 6 (d := hd6) rfl rfl)
  obtain ⟨_, _, _, _, _, _, cd_wr, _, _, l_wr, c_wr⟩ := (show ∃ oc od kV dc pm an cd ct sl, K.lookup (He.ga K "read_rule") = some ⟨oc, od, .func (PySem.W.fnOf "read_rule" "read_rule" (C8.fnArgs sRr) (C8.fnBody sRr) (C8.fnScope sRr) .none kV dc pm an cd ct), sl⟩ ∧ PySem.W.codeIn K cd "read_rule" = true from c.get0 7 (d := hd7) rfl rfl)
  obtain ⟨_, _, _, _, _, _, cd_wp, _, _, l_wp, c_wp⟩ := (show ∃ oc od kV dc pm an cd ct sl, K.lookup (He.ga K "read_part") = some ⟨oc, od, .func (PySem.W.fnOf "read_part" "read_part" (C8.fnArgs sRp) (C8.fnBody sRp) (C8.fnScope sRp) .none kV dc pm an cd ct), sl⟩ ∧ PySem.W.codeIn K cd "read_part" = true from c.get0 8 (d := hd8) rfl rfl)
  obtain ⟨_, _, _, _, _, _, cd_ws, _, _, l_ws, c_ws⟩ := (show ∃ oc od kV dc pm an cd ct sl, K.lookup (He.ga K "read_sign") = some ⟨oc, od, .func (PySem.W.fnOf "read_sign" "read_sign" (C8.fnArgs sRs) (C8.fnBody sRs) (C8.fnScope sRs) .none kV dc pm an cd ct), sl⟩ ∧ PySem.W.codeIn K cd "read_sign" = true from c.get0 9 (d := hd9) rfl rfl)
  obtain ⟨_, _, _, _, _, _, cd_wo, _, _, l_wo, c_wo⟩ := (show ∃ oc od kV dc pm an cd ct sl, K.lookup (He.ga K "rule_of") = some ⟨oc, od, .func (PySem.W.fnOf "rule_of" "rule_of" (C8.fnArgs sRo) (C8.fnBody sRo) (C8.fnScope sRo) .none kV dc pm an cd ct), sl⟩ ∧ PySem.W.codeIn K cd "rule_of" = true from c.get0 10 (d := hd10) rfl rfl)
  obtain ⟨_, _, _, _, _, _, cd_mo, _, _, l_mo, c_mo⟩ := (show ∃ oc od kV dc pm an cd ct sl, K.lookup (He.ga K "check_modulus") = some ⟨oc, od, .func (PySem.W.fnOf "check_modulus" "check_modulus" (C8.fnArgs sMo) (C8.fnBody sMo) (C8.fnScope sMo) .none kV dc pm an cd ct), sl⟩ ∧ PySem.W.codeIn K cd "check_modulus" = true from c.get0 11 (d := hd11) rfl rfl)
  obtain ⟨_, _, _, _, _, _, cd_jo, _, _, l_jo, c_jo⟩ := (show ∃ oc od kV dc pm an cd ct sl, K.lookup (He.ga K "check_joined") = some ⟨oc, od, .func (PySem.W.fnOf "check_joined" "check_joined" (C8.fnArgs sJo) (C8.fnBody sJo) (C8.fnScope sJo) .none kV dc pm an cd ct), sl⟩ ∧ PySem.W.codeIn K cd "check_joined" = true from c.get0 12 (d := hd12) rfl rfl)
  obtain ⟨_, _, _, _, _, _, cd_lp, _, _, l_lp, c_lp⟩ := (show ∃ oc od kV dc pm an cd ct sl, K.lookup (He.ga K "_law_pen") = some ⟨oc, od, .func (PySem.W.fnOf "_law_pen" "_law_pen" (C8.fnArgs sPen) (C8.fnBody sPen) (C8.fnScope sPen) .none kV dc pm an cd ct), sl⟩ ∧ PySem.W.codeIn K cd "_law_pen" = true from c.get0 13 (d := hd13) rfl rfl)
  obtain ⟨_, _, _, _, _, _, cd_ld, _, _, l_ld, c_ld⟩ := (show ∃ oc od kV dc pm an cd ct sl, K.lookup (He.ga K "_law_draw") = some ⟨oc, od, .func (PySem.W.fnOf "_law_draw" "_law_draw" (C8.fnArgs sDraw) (C8.fnBody sDraw) (C8.fnScope sDraw) .none kV dc pm an cd ct), sl⟩ ∧ PySem.W.codeIn K cd "_law_draw" = true from c.get0 14 (d := hd14) rfl rfl)
  obtain ⟨_, _, _, _, _, _, cd_lk, _, _, l_lk, c_lk⟩ := (show ∃ oc od kV dc pm an cd ct sl, K.lookup (He.ga K "_law_pick") = some ⟨oc, od, .func (PySem.W.fnOf "_law_pick" "_law_pick" (C8.fnArgs sPick) (C8.fnBody sPick) (C8.fnScope sPick) .none kV dc pm an cd ct), sl⟩ ∧ PySem.W.codeIn K cd "_law_pick" = true from c.get0 15 (d := hd15) rfl rfl)
  obtain ⟨_, _, _, _, _, _, cd_le, _, _, l_le, c_le⟩ := (show ∃ oc od kV dc pm an cd ct sl, K.lookup (He.ga K "_law_leaf") = some ⟨oc, od, .func (PySem.W.fnOf "_law_leaf" "_law_leaf" (C8.fnArgs sLef) (C8.fnBody sLef) (C8.fnScope sLef) .none kV dc pm an cd ct), sl⟩ ∧ PySem.W.codeIn K cd "_law_leaf" = true from c.get0 16 (d := hd16) rfl rfl)
  obtain ⟨_, _, _, _, _, _, cd_lq, _, _, l_lq, c_lq⟩ := (show ∃ oc od kV dc pm an cd ct sl, K.lookup (He.ga K "_law_plain") = some ⟨oc, od, .func (PySem.W.fnOf "_law_plain" "_law_plain" (C8.fnArgs sPla) (C8.fnBody sPla) (C8.fnScope sPla) .none kV dc pm an cd ct), sl⟩ ∧ PySem.W.codeIn K cd "_law_plain" = true from c.get0 17 (d := hd17) rfl rfl)
  obtain ⟨_, _, _, _, _, _, cd_lt, _, _, l_lt, c_lt⟩ := (show ∃ oc od kV dc pm an cd ct sl, K.lookup (He.ga K "_law_text") = some ⟨oc, od, .func (PySem.W.fnOf "_law_text" "_law_text" (C8.fnArgs sTx) (C8.fnBody sTx) (C8.fnScope sTx) .none kV dc pm an cd ct), sl⟩ ∧ PySem.W.codeIn K cd "_law_text" = true from c.get0 18 (d := hd18) rfl rfl)
  obtain ⟨_, _, _, _, _, _, cd_lh, _, _, l_lh, c_lh⟩ := (show ∃ oc od kV dc pm an cd ct sl, K.lookup (He.ga K "_law_heard") = some ⟨oc, od, .func (PySem.W.fnOf "_law_heard" "_law_heard" (C8.fnArgs sHea) (C8.fnBody sHea) (C8.fnScope sHea) .none kV dc pm an cd ct), sl⟩ ∧ PySem.W.codeIn K cd "_law_heard" = true from c.get0 19 (d := hd19) rfl rfl)
  obtain ⟨_, _, _, _, _, _, cd_ln, _, _, l_ln, c_ln⟩ := (show ∃ oc od kV dc pm an cd ct sl, K.lookup (He.ga K "_law_is_number") = some ⟨oc, od, .func (PySem.W.fnOf "_law_is_number" "_law_is_number" (C8.fnArgs sIn) (C8.fnBody sIn) (C8.fnScope sIn) .none kV dc pm an cd ct), sl⟩ ∧ PySem.W.codeIn K cd "_law_is_number" = true from c.get0 20 (d := hd20) rfl rfl)
  obtain ⟨_, _, _, _, _, _, cd_lr, _, _, l_lr, c_lr⟩ := (show ∃ oc od kV dc pm an cd ct sl, K.lookup (He.ga K "_law_rule_end") = some ⟨oc, od, .func (PySem.W.fnOf "_law_rule_end" "_law_rule_end" (C8.fnArgs sEn) (C8.fnBody sEn) (C8.fnScope sEn) .none kV dc pm an cd ct), sl⟩ ∧ PySem.W.codeIn K cd "_law_rule_end" = true from c.get0 21 (d := hd21) rfl rfl)
  obtain ⟨_, _, _, _, _, _, cd_lu, _, _, l_lu, c_lu⟩ := (show ∃ oc od kV dc pm an cd ct sl, K.lookup (He.ga K "_law_due") = some ⟨oc, od, .func (PySem.W.fnOf "_law_due" "_law_due" (C8.fnArgs sDue) (C8.fnBody sDue) (C8.fnScope sDue) .none kV dc pm an cd ct), sl⟩ ∧ PySem.W.codeIn K cd "_law_due" = true from c.get0 22 (d := hd22) rfl rfl)
  obtain ⟨_, _, _, _, _, _, cd_lb, _, _, l_lb, c_lb⟩ := (show ∃ oc od kV dc pm an cd ct sl, K.lookup (He.ga K "_law_bent") = some ⟨oc, od, .func (PySem.W.fnOf "_law_bent" "_law_bent" (C8.fnArgs sBen) (C8.fnBody sBen) (C8.fnScope sBen) .none kV dc pm an cd ct), sl⟩ ∧ PySem.W.codeIn K cd "_law_bent" = true from c.get0 23 (d := hd23) rfl rfl)
  obtain ⟨_, _, _, _, _, _, cd_lx, _, _, l_lx, c_lx⟩ := (show ∃ oc od kV dc pm an cd ct sl, K.lookup (He.ga K "_law_read_right") = some ⟨oc, od, .func (PySem.W.fnOf "_law_read_right" "_law_read_right" (C8.fnArgs sRdr) (C8.fnBody sRdr) (C8.fnScope sRdr) .none kV dc pm an cd ct), sl⟩ ∧ PySem.W.codeIn K cd "_law_read_right" = true from c.get0 24 (d := hd24) rfl rfl)
  obtain ⟨c1_lx, rfl⟩ := He.codeIn_ref c_lx
  have ec_lx : He.codeOf K ("_law_read_right", none) = c1_lx := He.codeOf_eq (K := K) (p := ("_law_read_right", none)) l_lx rfl
  subst ec_lx
  obtain ⟨_, _, _, _, lt_lx, vt_lx⟩ := tab_parts (c.hd ("_law_read_right", none) (List.Mem.head _))
  obtain ⟨_, _, _, _, _, _, cd_la, _, _, l_la, c_la⟩ := (show ∃ oc od kV dc pm an cd ct sl, K.lookup (He.ga K "law") = some ⟨oc, od, .func (PySem.W.fnOf "law" "law" (C8.fnArgs sLaw) (C8.fnBody sLaw) (C8.fnScope sLaw) .none kV dc pm an cd ct), sl⟩ ∧ PySem.W.codeIn K cd "law" = true from c.get0 25 (d := hd25) rfl rfl)
  obtain ⟨c1_la, rfl⟩ := He.codeIn_ref c_la
  have ec_la : He.codeOf K ("law", none) = c1_la := He.codeOf_eq (K := K) (p := ("law", none)) l_la rfl
  subst ec_la
  obtain ⟨_, _, _, _, lt_la, vt_la⟩ := tab_parts (c.hd ("law", none) (List.Mem.tail _ (List.Mem.head _)))
  obtain ⟨_, _, _, _, _, _, cd_ur, _, _, l_ur, c_ur⟩ := (show ∃ oc od kV dc pm an cd ct sl, K.lookup (Hz.rAd K (Hz.pAd K (He.ga K "Rule") "read") "staticmethod") = some ⟨oc, od, .func (PySem.W.fnOf "read" "Rule.read" (C8.fnArgs sRd) (C8.fnBody sRd) (C8.fnScope sRd) .none kV dc pm an cd ct), sl⟩ ∧ PySem.W.codeIn K cd "Rule.read" = true from c.get0 26 (d := hd26) rfl rfl)
  obtain ⟨_, _, _, _, _, _, cd_fi, _, _, l_fi, c_fi⟩ := (show ∃ oc od kV dc pm an cd ct sl, K.lookup (He.ma K (He.ga K "Fixed") "__init__") = some ⟨oc, od, .func (PySem.W.fnOf "__init__" "Fixed.__init__" (C8.fnArgs sFxi) (C8.fnBody sFxi) (C8.fnScope sFxi) .none kV dc pm an cd ct), sl⟩ ∧ PySem.W.codeIn K cd "Fixed.__init__" = true from c.get0 27 (d := hd27) rfl rfl)
  obtain ⟨_, _, _, _, _, _, cd_vi, _, _, l_vi, c_vi⟩ := (show ∃ oc od kV dc pm an cd ct sl, K.lookup (He.ma K (He.ga K "Divided") "__init__") = some ⟨oc, od, .func (PySem.W.fnOf "__init__" "Divided.__init__" (C8.fnArgs sDvi) (C8.fnBody sDvi) (C8.fnScope sDvi) .none kV dc pm an cd ct), sl⟩ ∧ PySem.W.codeIn K cd "Divided.__init__" = true from c.get0 28 (d := hd28) rfl rfl)
  obtain ⟨_, _, _, _, _, _, cd_gi0, _, _, l_gi0, c_gi0⟩ := (show ∃ oc od kV dc pm an cd ct sl, K.lookup (He.ma K (He.ga K "Lesser") "__init__") = some ⟨oc, od, .func (PySem.W.fnOf "__init__" "Lesser.__init__" (C8.fnArgs sLoi) (C8.fnBody sLoi) (C8.fnScope sLoi) .none kV dc pm an cd ct), sl⟩ ∧ PySem.W.codeIn K cd "Lesser.__init__" = true from c.get0 29 (d := hd29) rfl rfl)
  obtain ⟨_, _, _, _, _, _, cd_gi1, _, _, l_gi1, c_gi1⟩ := (show ∃ oc od kV dc pm an cd ct sl, K.lookup (He.ma K (He.ga K "Greater") "__init__") = some ⟨oc, od, .func (PySem.W.fnOf "__init__" "Greater.__init__" (C8.fnArgs sHii) (C8.fnBody sHii) (C8.fnScope sHii) .none kV dc pm an cd ct), sl⟩ ∧ PySem.W.codeIn K cd "Greater.__init__" = true from c.get0 30 (d := hd30) rfl rfl)
  obtain ⟨_, _, _, _, _, _, cd_ft, _, _, l_ft, c_ft⟩ := (show ∃ oc od kV dc pm an cd ct sl, K.lookup (He.ma K (He.ga K "Fixed") "__str__") = some ⟨oc, od, .func (PySem.W.fnOf "__str__" "Fixed.__str__" (C8.fnArgs sFxs) (C8.fnBody sFxs) (C8.fnScope sFxs) .none kV dc pm an cd ct), sl⟩ ∧ PySem.W.codeIn K cd "Fixed.__str__" = true from c.get0 31 (d := hd31) rfl rfl)
  obtain ⟨_, _, _, _, _, _, cd_fa, _, _, l_fa, c_fa⟩ := (show ∃ oc od kV dc pm an cd ct sl, K.lookup (He.ma K (He.ga K "Fixed") "__and__") = some ⟨oc, od, .func (PySem.W.fnOf "__and__" "Fixed.__and__" (C8.fnArgs sFxa) (C8.fnBody sFxa) (C8.fnScope sFxa) .none kV dc pm an cd ct), sl⟩ ∧ PySem.W.codeIn K cd "Fixed.__and__" = true from c.get0 32 (d := hd32) rfl rfl)
  obtain ⟨_, _, _, _, _, _, cd_fo, _, _, l_fo, c_fo⟩ := (show ∃ oc od kV dc pm an cd ct sl, K.lookup (He.ma K (He.ga K "Fixed") "__or__") = some ⟨oc, od, .func (PySem.W.fnOf "__or__" "Fixed.__or__" (C8.fnArgs sFxo) (C8.fnBody sFxo) (C8.fnScope sFxo) .none kV dc pm an cd ct), sl⟩ ∧ PySem.W.codeIn K cd "Fixed.__or__" = true from c.get0 33 (d := hd33) rfl rfl)
  obtain ⟨_, _, _, _, _, _, cd_vt, _, _, l_vt, c_vt⟩ := (show ∃ oc od kV dc pm an cd ct sl, K.lookup (He.ma K (He.ga K "Divided") "__str__") = some ⟨oc, od, .func (PySem.W.fnOf "__str__" "Divided.__str__" (C8.fnArgs sDvs) (C8.fnBody sDvs) (C8.fnScope sDvs) .none kV dc pm an cd ct), sl⟩ ∧ PySem.W.codeIn K cd "Divided.__str__" = true from c.get0 34 (d := hd34) rfl rfl)
  obtain ⟨_, _, _, _, _, _, cd_va, _, _, l_va, c_va⟩ := (show ∃ oc od kV dc pm an cd ct sl, K.lookup (He.ma K (He.ga K "Divided") "__and__") = some ⟨oc, od, .func (PySem.W.fnOf "__and__" "Divided.__and__" (C8.fnArgs sDva) (C8.fnBody sDva) (C8.fnScope sDva) .none kV dc pm an cd ct), sl⟩ ∧ PySem.W.codeIn K cd "Divided.__and__" = true from c.get0 35 (d := hd35) rfl rfl)
  obtain ⟨_, _, _, _, _, _, cd_vo, _, _, l_vo, c_vo⟩ := (show ∃ oc od kV dc pm an cd ct sl, K.lookup (He.ma K (He.ga K "Divided") "__or__") = some ⟨oc, od, .func (PySem.W.fnOf "__or__" "Divided.__or__" (C8.fnArgs sDvo) (C8.fnBody sDvo) (C8.fnScope sDvo) .none kV dc pm an cd ct), sl⟩ ∧ PySem.W.codeIn K cd "Divided.__or__" = true from c.get0 36 (d := hd36) rfl rfl)
  obtain ⟨_, _, _, _, _, _, cd_qt, _, _, l_qt, c_qt⟩ := (show ∃ oc od kV dc pm an cd ct sl, K.lookup (He.ma K (He.ga K "Lesser") "__str__") = some ⟨oc, od, .func (PySem.W.fnOf "__str__" "Lesser.__str__" (C8.fnArgs sLos) (C8.fnBody sLos) (C8.fnScope sLos) .none kV dc pm an cd ct), sl⟩ ∧ PySem.W.codeIn K cd "Lesser.__str__" = true from c.get0 37 (d := hd37) rfl rfl)
  obtain ⟨_, _, _, _, _, _, cd_qa, _, _, l_qa, c_qa⟩ := (show ∃ oc od kV dc pm an cd ct sl, K.lookup (He.ma K (He.ga K "Lesser") "__and__") = some ⟨oc, od, .func (PySem.W.fnOf "__and__" "Lesser.__and__" (C8.fnArgs sLoa) (C8.fnBody sLoa) (C8.fnScope sLoa) .none kV dc pm an cd ct), sl⟩ ∧ PySem.W.codeIn K cd "Lesser.__and__" = true from c.get0 38 (d := hd38) rfl rfl)
  obtain ⟨_, _, _, _, _, _, cd_qo, _, _, l_qo, c_qo⟩ := (show ∃ oc od kV dc pm an cd ct sl, K.lookup (He.ma K (He.ga K "Lesser") "__or__") = some ⟨oc, od, .func (PySem.W.fnOf "__or__" "Lesser.__or__" (C8.fnArgs sLoo) (C8.fnBody sLoo) (C8.fnScope sLoo) .none kV dc pm an cd ct), sl⟩ ∧ PySem.W.codeIn K cd "Lesser.__or__" = true from c.get0 39 (d := hd39) rfl rfl)
  obtain ⟨_, _, _, _, _, _, cd_gt, _, _, l_gt, c_gt⟩ := (show ∃ oc od kV dc pm an cd ct sl, K.lookup (He.ma K (He.ga K "Greater") "__str__") = some ⟨oc, od, .func (PySem.W.fnOf "__str__" "Greater.__str__" (C8.fnArgs sHis) (C8.fnBody sHis) (C8.fnScope sHis) .none kV dc pm an cd ct), sl⟩ ∧ PySem.W.codeIn K cd "Greater.__str__" = true from c.get0 40 (d := hd40) rfl rfl)
  obtain ⟨_, _, _, _, _, _, cd_ga, _, _, l_ga, c_ga⟩ := (show ∃ oc od kV dc pm an cd ct sl, K.lookup (He.ma K (He.ga K "Greater") "__and__") = some ⟨oc, od, .func (PySem.W.fnOf "__and__" "Greater.__and__" (C8.fnArgs sHia) (C8.fnBody sHia) (C8.fnScope sHia) .none kV dc pm an cd ct), sl⟩ ∧ PySem.W.codeIn K cd "Greater.__and__" = true from c.get0 41 (d := hd41) rfl rfl)
  obtain ⟨_, _, _, _, _, _, cd_go, _, _, l_go, c_go⟩ := (show ∃ oc od kV dc pm an cd ct sl, K.lookup (He.ma K (He.ga K "Greater") "__or__") = some ⟨oc, od, .func (PySem.W.fnOf "__or__" "Greater.__or__" (C8.fnArgs sHio) (C8.fnBody sHio) (C8.fnScope sHio) .none kV dc pm an cd ct), sl⟩ ∧ PySem.W.codeIn K cd "Greater.__or__" = true from c.get0 42 (d := hd42) rfl rfl)
  obtain ⟨_, _, _, _, _, _, _, _, _, _, _, _, its_ri, _, _, l_ri, c_ri, lD_ri, v_ri⟩ := (show ∃ oc od T kV dc pm an cd ct sl oT odT its n slT, K.lookup (He.ma K (He.ga K "Reader") "__init__") = some ⟨oc, od, .func (PySem.W.fnOf "__init__" "Reader.__init__" (C8.fnArgs sRI) (C8.fnBody sRI) (C8.fnScope sRI) (.ref T) kV dc pm an cd ct), sl⟩ ∧ PySem.W.codeIn K cd "Reader.__init__" = true ∧ K.lookup T = some ⟨oT, odT, .seq (List.toArray its) n, slT⟩ ∧ Vals [V.int 0] its from c.getD 43 (d := hd43) rfl (by simp [hd43]))
  obtain ⟨_, rfl⟩ := Hz.ints1 v_ri
  obtain ⟨_, _, _, _, _, _, cd_rh, _, _, l_rh, c_rh⟩ := (show ∃ oc od kV dc pm an cd ct sl, K.lookup (He.ma K (He.ga K "Reader") "at_hand") = some ⟨oc, od, .func (PySem.W.fnOf "at_hand" "Reader.at_hand" (C8.fnArgs sRah) (C8.fnBody sRah) (C8.fnScope sRah) .none kV dc pm an cd ct), sl⟩ ∧ PySem.W.codeIn K cd "Reader.at_hand" = true from c.get0 44 (d := hd44) rfl rfl)
  obtain ⟨_, _, _, _, _, _, cd_ry, _, _, l_ry, c_ry⟩ := (show ∃ oc od kV dc pm an cd ct sl, K.lookup (He.ma K (He.ga K "Reader") "refuse") = some ⟨oc, od, .func (PySem.W.fnOf "refuse" "Reader.refuse" (C8.fnArgs sRrf) (C8.fnBody sRrf) (C8.fnScope sRrf) .none kV dc pm an cd ct), sl⟩ ∧ PySem.W.codeIn K cd "Reader.refuse" = true from c.get0 45 (d := hd45) rfl rfl)
  obtain ⟨_, _, _, _, _, _, cd_rk, _, _, l_rk, c_rk⟩ := (show ∃ oc od kV dc pm an cd ct sl, K.lookup (He.ma K (He.ga K "Reader") "take") = some ⟨oc, od, .func (PySem.W.fnOf "take" "Reader.take" (C8.fnArgs sRtk) (C8.fnBody sRtk) (C8.fnScope sRtk) .none kV dc pm an cd ct), sl⟩ ∧ PySem.W.codeIn K cd "Reader.take" = true from c.get0 46 (d := hd46) rfl rfl)
  obtain ⟨_, _, _, _, _, _, cd_rx, _, _, l_rx, c_rx⟩ := (show ∃ oc od kV dc pm an cd ct sl, K.lookup (He.ma K (He.ga K "Reader") "expect") = some ⟨oc, od, .func (PySem.W.fnOf "expect" "Reader.expect" (C8.fnArgs sRexZ) (C8.fnBody sRexZ) (C8.fnScope sRexZ) .none kV dc pm an cd ct), sl⟩ ∧ PySem.W.codeIn K cd "Reader.expect" = true from c.get0 47 (d := hd47) rfl rfl)
  obtain ⟨_, _, _, _, _, _, cd_rf, _, _, l_rf, c_rf⟩ := (show ∃ oc od kV dc pm an cd ct sl, K.lookup (He.ma K (He.ga K "Reader") "finish") = some ⟨oc, od, .func (PySem.W.fnOf "finish" "Reader.finish" (C8.fnArgs sRfi) (C8.fnBody sRfi) (C8.fnScope sRfi) .none kV dc pm an cd ct), sl⟩ ∧ PySem.W.codeIn K cd "Reader.finish" = true from c.get0 48 (d := hd48) rfl rfl)
  obtain ⟨_, _, _, _, _, _, cd_rn, _, _, l_rn, c_rn⟩ := (show ∃ oc od kV dc pm an cd ct sl, K.lookup (He.ma K (He.ga K "Reader") "integer") = some ⟨oc, od, .func (PySem.W.fnOf "integer" "Reader.integer" (C8.fnArgs sRin) (C8.fnBody sRin) (C8.fnScope sRin) .none kV dc pm an cd ct), sl⟩ ∧ PySem.W.codeIn K cd "Reader.integer" = true from c.get0 49 (d := hd49) rfl rfl)
  obtain ⟨_, _, _, _, _, _, cd_Eu, _, _, l_Eu, c_Eu⟩ := (show ∃ oc od kV dc pm an cd ct sl, K.lookup (He.ma K (He.ga K "BadRule") "__init__") = some ⟨oc, od, .func (PySem.W.fnOf "__init__" "BadRule.__init__" (C8.fnArgs sBruE) (C8.fnBody sBruE) (C8.fnScope sBruE) .none kV dc pm an cd ct), sl⟩ ∧ PySem.W.codeIn K cd "BadRule.__init__" = true from c.get0 50 (d := hd50) rfl rfl)
  obtain ⟨_, _, _, _, _, _, cd_Es, _, _, l_Es, c_Es⟩ := (show ∃ oc od kV dc pm an cd ct sl, K.lookup (He.ma K (He.ga K "BadSize") "__init__") = some ⟨oc, od, .func (PySem.W.fnOf "__init__" "BadSize.__init__" (C8.fnArgs sBszE) (C8.fnBody sBszE) (C8.fnScope sBszE) .none kV dc pm an cd ct), sl⟩ ∧ PySem.W.codeIn K cd "BadSize.__init__" = true from c.get0 51 (d := hd51) rfl rfl)
  obtain ⟨_, _, _, _, _, _, cd_Er, _, _, l_Er, c_Er⟩ := (show ∃ oc od kV dc pm an cd ct sl, K.lookup (He.ma K (He.ga K "BadRest") "__init__") = some ⟨oc, od, .func (PySem.W.fnOf "__init__" "BadRest.__init__" (C8.fnArgs sBreE) (C8.fnBody sBreE) (C8.fnScope sBreE) .none kV dc pm an cd ct), sl⟩ ∧ PySem.W.codeIn K cd "BadRest.__init__" = true from c.get0 52 (d := hd52) rfl rfl)
  obtain ⟨_, _, _, _, _, _, cd_Et, _, _, l_Et, c_Et⟩ := (show ∃ oc od kV dc pm an cd ct sl, K.lookup (He.ma K (He.ga K "BadTotal") "__init__") = some ⟨oc, od, .func (PySem.W.fnOf "__init__" "BadTotal.__init__" (C8.fnArgs sBtoE) (C8.fnBody sBtoE) (C8.fnScope sBtoE) .none kV dc pm an cd ct), sl⟩ ∧ PySem.W.codeIn K cd "BadTotal.__init__" = true from c.get0 53 (d := hd53) rfl rfl)
  obtain ⟨_, _, _, _, _, _, cd_Ex, _, _, l_Ex, c_Ex⟩ := (show ∃ oc od kV dc pm an cd ct sl, K.lookup (He.ma K (He.ga K "BadText") "__init__") = some ⟨oc, od, .func (PySem.W.fnOf "__init__" "BadText.__init__" (C8.fnArgs sTxE) (C8.fnBody sTxE) (C8.fnScope sTxE) .none kV dc pm an cd ct), sl⟩ ∧ PySem.W.codeIn K cd "BadText.__init__" = true from c.get0 54 (d := hd54) rfl rfl)
  obtain ⟨_, _, _, _, _, _, cd_Em, _, _, l_Em, c_Em⟩ := (show ∃ oc od kV dc pm an cd ct sl, K.lookup (He.ma K (He.ga K "TooMany") "__init__") = some ⟨oc, od, .func (PySem.W.fnOf "__init__" "TooMany.__init__" (C8.fnArgs sMnE) (C8.fnBody sMnE) (C8.fnScope sMnE) .none kV dc pm an cd ct), sl⟩ ∧ PySem.W.codeIn K cd "TooMany.__init__" = true from c.get0 55 (d := hd55) rfl rfl)
  obtain ⟨_, y_rur⟩ := Hz.recB_ok (Hz.at_ e0 3 4 rfl rfl)
  obtain ⟨_, _, _, _, _, _, _, _, _, _, _, _, _, _, _, y_xDu, y_xBu⟩ := Hz.exB_ok (Hz.at_ e0 6 27 rfl rfl)
  obtain ⟨_, _, _, _, _, _, _, _, _, _, _, _, _, _, _, y_xDs, y_xBs⟩ := Hz.exB_ok (Hz.at_ e0 7 3 rfl rfl)
  obtain ⟨_, _, _, _, _, _, _, _, _, _, _, _, _, _, _, y_xDr, y_xBr⟩ := Hz.exB_ok (Hz.at_ e0 7 19 rfl rfl)
  obtain ⟨_, _, _, _, _, _, _, _, _, _, _, _, _, _, _, y_xDt, y_xBt⟩ := Hz.exB_ok (Hz.at_ e0 7 35 rfl rfl)
  obtain ⟨_, _, _, _, _, _, _, _, _, _, _, _, _, _, _, y_xDx, y_xBx⟩ := Hz.exB_ok (Hz.at_ e0 8 11 rfl rfl)
  obtain ⟨_, _, _, _, _, _, _, _, _, _, _, _, _, _, _, y_xDm, y_xBm⟩ := Hz.exB_ok (Hz.at_ e0 8 28 rfl rfl)
  obtain ⟨_, y_gMF⟩ := Hz.intB_ok (Hz.at_ e0 9 34 rfl rfl)
  obtain ⟨_, y_gMS⟩ := Hz.intB_ok (Hz.at_ e0 9 35 rfl rfl)
  obtain ⟨_, y_gGS⟩ := Hz.intB_ok (Hz.at_ e0 9 36 rfl rfl)
  obtain ⟨_, y_gMP⟩ := Hz.intB_ok (Hz.at_ e0 9 37 rfl rfl)
  obtain ⟨_, y_gMR⟩ := Hz.intB_ok (Hz.at_ e0 9 38 rfl rfl)
  obtain ⟨_, y_gPF⟩ := Hz.intB_ok (Hz.at_ e0 9 39 rfl rfl)
  obtain ⟨_, y_gPW⟩ := Hz.intB_ok (Hz.at_ e0 10 0 rfl rfl)
  obtain ⟨_, _, _, _, y_lSG, y_vSG, y_sSG⟩ := Hz.tupB_ok (Hz.at_ e0 10 2 rfl rfl)
  obtain ⟨fd, tb, sp, r1, r2, r3, r4⟩ := all_known (l := l) (w := w) X G hfa' (of_decide_eq_true (Hz.at_ e0 0 0 rfl rfl)) (of_decide_eq_true (Hz.at_ e0 0 1 rfl rfl)) l_ii c_ii (Hz.at_ e0 0 2 rfl rfl) (of_decide_eq_true (Hz.at_ e0 0 3 rfl rfl)) l_iw c_iw (Hz.at_ e0 0 4 rfl rfl) (of_decide_eq_true (Hz.at_ e0 0 5 rfl rfl)) l_iz c_iz (Hz.at_ e0 0 6 rfl rfl) (of_decide_eq_true (Hz.at_ e0 0 7 rfl rfl)) l_jf c_jf (Hz.at_ e0 0 8 rfl rfl) (of_decide_eq_true (Hz.at_ e0 0 9 rfl rfl)) l_is c_is (Hz.at_ e0 0 10 rfl rfl) (of_decide_eq_true (Hz.at_ e0 0 11 rfl rfl)) l_io c_io (Hz.at_ e0 0 12 rfl rfl) (of_decide_eq_true (Hz.at_ e0 0 13 rfl rfl)) l_nu c_nu (Hz.at_ e0 0 14 rfl rfl) (of_decide_eq_true (Hz.at_ e0 0 15 rfl rfl)) l_wr c_wr (Hz.at_ e0 0 16 rfl rfl) (of_decide_eq_true (Hz.at_ e0 0 17 rfl rfl)) l_wp c_wp (Hz.at_ e0 0 18 rfl rfl) (of_decide_eq_true (Hz.at_ e0 0 19 rfl rfl)) l_ws c_ws (Hz.at_ e0 0 20 rfl rfl) (of_decide_eq_true (Hz.at_ e0 0 21 rfl rfl)) l_wo c_wo (Hz.at_ e0 0 22 rfl rfl) (of_decide_eq_true (Hz.at_ e0 0 23 rfl rfl)) l_mo c_mo (Hz.at_ e0 0 24 rfl rfl) (of_decide_eq_true (Hz.at_ e0 0 25 rfl rfl)) l_jo c_jo (Hz.at_ e0 0 26 rfl rfl) (of_decide_eq_true (Hz.at_ e0 0 27 rfl rfl)) l_lp c_lp (Hz.at_ e0 0 28 rfl rfl) (of_decide_eq_true (Hz.at_ e0 0 29 rfl rfl)) l_ld c_ld (Hz.at_ e0 0 30 rfl rfl) (of_decide_eq_true (Hz.at_ e0 0 31 rfl rfl)) l_lk c_lk (Hz.at_ e0 0 32 rfl rfl) (of_decide_eq_true (Hz.at_ e0 0 33 rfl rfl)) l_le c_le (Hz.at_ e0 0 34 rfl rfl) (of_decide_eq_true (Hz.at_ e0 0 35 rfl rfl)) l_lq c_lq (Hz.at_ e0 0 36 rfl rfl) (of_decide_eq_true (Hz.at_ e0 0 37 rfl rfl)) l_lt c_lt (Hz.at_ e0 0 38 rfl rfl) (of_decide_eq_true (Hz.at_ e0 0 39 rfl rfl)) l_lh c_lh (Hz.at_ e0 1 0 rfl rfl) (of_decide_eq_true (Hz.at_ e0 1 1 rfl rfl)) l_ln c_ln (Hz.at_ e0 1 2 rfl rfl) (of_decide_eq_true (Hz.at_ e0 1 3 rfl rfl)) l_lr c_lr (Hz.at_ e0 1 4 rfl rfl) (of_decide_eq_true (Hz.at_ e0 1 5 rfl rfl)) l_lu c_lu (Hz.at_ e0 1 6 rfl rfl) (of_decide_eq_true (Hz.at_ e0 1 7 rfl rfl)) l_lb c_lb (Hz.at_ e0 1 8 rfl rfl) (of_decide_eq_true (Hz.at_ e0 1 9 rfl rfl)) l_lx c_lx (Hz.at_ e0 1 10 rfl rfl) (of_decide_eq_true (Hz.at_ e0 1 11 rfl rfl)) l_la c_la (Hz.at_ e0 1 12 rfl rfl) lt_lx vt_lx (c.out ("_law_read_right", none) (List.Mem.head _)) lt_la vt_la (c.out ("law", none) (List.Mem.tail _ (List.Mem.head _))) (of_decide_eq_true (Hz.at_ e0 1 13 rfl rfl)) (of_decide_eq_true (Hz.at_ e0 1 14 rfl rfl)) (Hz.at_ e0 1 15 rfl rfl) (Hz.at_ e0 1 16 rfl rfl) (Hz.at_ e0 1 17 rfl rfl) (of_decide_eq_true (Hz.at_ e0 1 18 rfl rfl)) (Hz.at_ e0 1 19 rfl rfl) (Hz.at_ e0 1 20 rfl rfl) (of_decide_eq_true (Hz.at_ e0 1 21 rfl rfl)) (of_decide_eq_true (Hz.at_ e0 1 22 rfl rfl)) (of_decide_eq_true (Hz.at_ e0 1 23 rfl rfl)) (of_decide_eq_true (Hz.at_ e0 1 24 rfl rfl)) (of_decide_eq_true (Hz.at_ e0 1 25 rfl rfl)) (of_decide_eq_true (Hz.at_ e0 1 26 rfl rfl)) (of_decide_eq_true (Hz.at_ e0 1 27 rfl rfl)) (of_decide_eq_true (Hz.at_ e0 1 28 rfl rfl)) (of_decide_eq_true (Hz.at_ e0 1 29 rfl rfl)) (Hz.at_ e0 1 30 rfl rfl) (Hz.at_ e0 1 31 rfl rfl) (Hz.at_ e0 1 32 rfl rfl) (of_decide_eq_true (Hz.at_ e0 1 33 rfl rfl)) (Hz.at_ e0 1 34 rfl rfl) (Hz.at_ e0 1 35 rfl rfl) (of_decide_eq_true (Hz.at_ e0 1 36 rfl rfl)) (of_decide_eq_true (Hz.at_ e0 1 37 rfl rfl)) (of_decide_eq_true (Hz.at_ e0 1 38 rfl rfl)) (of_decide_eq_true (Hz.at_ e0 1 39 rfl rfl)) (of_decide_eq_true (Hz.at_ e0 2 0 rfl rfl)) (of_decide_eq_true (Hz.at_ e0 2 1 rfl rfl)) (of_decide_eq_true (Hz.at_ e0 2 2 rfl rfl)) (of_decide_eq_true (Hz.at_ e0 2 3 rfl rfl)) (of_decide_eq_true (Hz.at_ e0 2 4 rfl rfl)) (Hz.at_ e0 2 5 rfl rfl) (Hz.at_ e0 2 6 rfl rfl) (Hz.at_ e0 2 7 rfl rfl) (of_decide_eq_true (Hz.at_ e0 2 8 rfl rfl)) (Hz.at_ e0 2 9 rfl rfl) (Hz.at_ e0 2 10 rfl rfl) (of_decide_eq_true (Hz.at_ e0 2 11 rfl rfl)) (of_decide_eq_true (Hz.at_ e0 2 12 rfl rfl)) (of_decide_eq_true (Hz.at_ e0 2 13 rfl rfl)) (of_decide_eq_true (Hz.at_ e0 2 14 rfl rfl)) (of_decide_eq_true (Hz.at_ e0 2 15 rfl rfl)) (of_decide_eq_true (Hz.at_ e0 2 16 rfl rfl)) (of_decide_eq_true (Hz.at_ e0 2 17 rfl rfl)) (of_decide_eq_true (Hz.at_ e0 2 18 rfl rfl)) (Hz.at_ e0 2 19 rfl rfl) (Hz.at_ e0 2 20 rfl rfl) (Hz.at_ e0 2 21 rfl rfl) (of_decide_eq_true (Hz.at_ e0 2 22 rfl rfl)) (Hz.at_ e0 2 23 rfl rfl) (Hz.at_ e0 2 24 rfl rfl) (of_decide_eq_true (Hz.at_ e0 2 25 rfl rfl)) (of_decide_eq_true (Hz.at_ e0 2 26 rfl rfl)) (of_decide_eq_true (Hz.at_ e0 2 27 rfl rfl)) (of_decide_eq_true (Hz.at_ e0 2 28 rfl rfl)) (of_decide_eq_true (Hz.at_ e0 2 29 rfl rfl)) (of_decide_eq_true (Hz.at_ e0 2 30 rfl rfl)) (of_decide_eq_true (Hz.at_ e0 2 31 rfl rfl)) (of_decide_eq_true (Hz.at_ e0 2 32 rfl rfl)) (Hz.typB_ok (Hz.at_ e0 2 33 rfl rfl)) (Hz.at_ e0 2 34 rfl rfl) (of_decide_eq_true (Hz.at_ e0 2 35 rfl rfl)) (Hz.at_ e0 2 36 rfl rfl) (Hz.at_ e0 2 37 rfl rfl) (Hz.at_ e0 2 38 rfl rfl) (of_decide_eq_true (Hz.at_ e0 2 39 rfl rfl)) (Hz.at_ e0 3 0 rfl rfl) (Hz.at_ e0 3 1 rfl rfl) l_ur c_ur (Hz.at_ e0 3 2 rfl rfl) (Hz.getB_ok (Hz.at_ e0 3 3 rfl rfl)) y_rur (of_decide_eq_true (Hz.at_ e0 3 5 rfl rfl)) (Hz.at_ e0 3 6 rfl rfl) l_fi c_fi (Hz.at_ e0 3 7 rfl rfl) (of_decide_eq_true (Hz.at_ e0 3 8 rfl rfl)) (Hz.at_ e0 3 9 rfl rfl) l_vi c_vi (Hz.at_ e0 3 10 rfl rfl) (of_decide_eq_true (Hz.at_ e0 3 11 rfl rfl)) (Hz.at_ e0 3 12 rfl rfl) l_gi0 c_gi0 (Hz.at_ e0 3 13 rfl rfl) (of_decide_eq_true (Hz.at_ e0 3 14 rfl rfl)) (Hz.at_ e0 3 15 rfl rfl) l_gi1 c_gi1 (Hz.at_ e0 3 16 rfl rfl) (of_decide_eq_true (Hz.at_ e0 3 17 rfl rfl)) (Hz.at_ e0 3 18 rfl rfl) l_ft c_ft (Hz.at_ e0 3 19 rfl rfl) (of_decide_eq_true (Hz.at_ e0 3 20 rfl rfl)) (Hz.at_ e0 3 21 rfl rfl) l_fa c_fa (Hz.at_ e0 3 22 rfl rfl) (of_decide_eq_true (Hz.at_ e0 3 23 rfl rfl)) (Hz.at_ e0 3 24 rfl rfl) l_fo c_fo (Hz.at_ e0 3 25 rfl rfl) (of_decide_eq_true (Hz.at_ e0 3 26 rfl rfl)) (Hz.at_ e0 3 27 rfl rfl) l_vt c_vt (Hz.at_ e0 3 28 rfl rfl) (of_decide_eq_true (Hz.at_ e0 3 29 rfl rfl)) (Hz.at_ e0 3 30 rfl rfl) l_va c_va (Hz.at_ e0 3 31 rfl rfl) (of_decide_eq_true (Hz.at_ e0 3 32 rfl rfl)) (Hz.at_ e0 3 33 rfl rfl) l_vo c_vo (Hz.at_ e0 3 34 rfl rfl) (of_decide_eq_true (Hz.at_ e0 3 35 rfl rfl)) (Hz.at_ e0 3 36 rfl rfl) l_qt c_qt (Hz.at_ e0 3 37 rfl rfl) (of_decide_eq_true (Hz.at_ e0 3 38 rfl rfl)) (Hz.at_ e0 3 39 rfl rfl) l_qa c_qa (Hz.at_ e0 4 0 rfl rfl) (of_decide_eq_true (Hz.at_ e0 4 1 rfl rfl)) (Hz.at_ e0 4 2 rfl rfl) l_qo c_qo (Hz.at_ e0 4 3 rfl rfl) (of_decide_eq_true (Hz.at_ e0 4 4 rfl rfl)) (Hz.at_ e0 4 5 rfl rfl) l_gt c_gt (Hz.at_ e0 4 6 rfl rfl) (of_decide_eq_true (Hz.at_ e0 4 7 rfl rfl)) (Hz.at_ e0 4 8 rfl rfl) l_ga c_ga (Hz.at_ e0 4 9 rfl rfl) (of_decide_eq_true (Hz.at_ e0 4 10 rfl rfl)) (Hz.at_ e0 4 11 rfl rfl) l_go c_go (Hz.at_ e0 4 12 rfl rfl) (of_decide_eq_true (Hz.at_ e0 4 13 rfl rfl)) (Hz.at_ e0 4 14 rfl rfl) (Hz.at_ e0 4 15 rfl rfl) (Hz.at_ e0 4 16 rfl rfl) (of_decide_eq_true (Hz.at_ e0 4 17 rfl rfl)) (Hz.at_ e0 4 18 rfl rfl) (Hz.at_ e0 4 19 rfl rfl) (of_decide_eq_true (Hz.at_ e0 4 20 rfl rfl)) (of_decide_eq_true (Hz.at_ e0 4 21 rfl rfl)) (of_decide_eq_true (Hz.at_ e0 4 22 rfl rfl)) (of_decide_eq_true (Hz.at_ e0 4 23 rfl rfl)) (Hz.at_ e0 4 24 rfl rfl) l_ri c_ri (Hz.at_ e0 4 25 rfl rfl) lD_ri (of_decide_eq_true (Hz.at_ e0 4 26 rfl rfl)) (Hz.at_ e0 4 27 rfl rfl) l_rh c_rh (Hz.at_ e0 4 28 rfl rfl) (of_decide_eq_true (Hz.at_ e0 4 29 rfl rfl)) (Hz.at_ e0 4 30 rfl rfl) l_ry c_ry (Hz.at_ e0 4 31 rfl rfl) (of_decide_eq_true (Hz.at_ e0 4 32 rfl rfl)) (Hz.at_ e0 4 33 rfl rfl) l_rk c_rk (Hz.at_ e0 4 34 rfl rfl) (of_decide_eq_true (Hz.at_ e0 4 35 rfl rfl)) (Hz.at_ e0 4 36 rfl rfl) l_rx c_rx (Hz.at_ e0 4 37 rfl rfl) (of_decide_eq_true (Hz.at_ e0 4 38 rfl rfl)) (Hz.at_ e0 4 39 rfl rfl) l_rf c_rf (Hz.at_ e0 5 0 rfl rfl) (of_decide_eq_true (Hz.at_ e0 5 1 rfl rfl)) (Hz.at_ e0 5 2 rfl rfl) l_rn c_rn (Hz.at_ e0 5 3 rfl rfl) (Hz.at_ e0 5 4 rfl rfl) (of_decide_eq_true (Hz.at_ e0 5 5 rfl rfl)) (of_decide_eq_true (Hz.at_ e0 5 6 rfl rfl)) (of_decide_eq_true (Hz.at_ e0 5 7 rfl rfl)) (of_decide_eq_true (Hz.at_ e0 5 8 rfl rfl)) (of_decide_eq_true (Hz.at_ e0 5 9 rfl rfl)) (of_decide_eq_true (Hz.at_ e0 5 10 rfl rfl)) (of_decide_eq_true (Hz.at_ e0 5 11 rfl rfl)) (of_decide_eq_true (Hz.at_ e0 5 12 rfl rfl)) (of_decide_eq_true (Hz.at_ e0 5 13 rfl rfl)) (Hz.at_ e0 5 14 rfl rfl) (of_decide_eq_true (Hz.at_ e0 5 15 rfl rfl)) (of_decide_eq_true (Hz.at_ e0 5 16 rfl rfl)) (of_decide_eq_true (Hz.at_ e0 5 17 rfl rfl)) (of_decide_eq_true (Hz.at_ e0 5 18 rfl rfl)) (of_decide_eq_true (Hz.at_ e0 5 19 rfl rfl)) (of_decide_eq_true (Hz.at_ e0 5 20 rfl rfl)) (of_decide_eq_true (Hz.at_ e0 5 21 rfl rfl)) (of_decide_eq_true (Hz.at_ e0 5 22 rfl rfl)) (Hz.at_ e0 5 23 rfl rfl) (of_decide_eq_true (Hz.at_ e0 5 24 rfl rfl)) (of_decide_eq_true (Hz.at_ e0 5 25 rfl rfl)) (of_decide_eq_true (Hz.at_ e0 5 26 rfl rfl)) (of_decide_eq_true (Hz.at_ e0 5 27 rfl rfl)) (of_decide_eq_true (Hz.at_ e0 5 28 rfl rfl)) (of_decide_eq_true (Hz.at_ e0 5 29 rfl rfl)) (of_decide_eq_true (Hz.at_ e0 5 30 rfl rfl)) (Hz.at_ e0 5 31 rfl rfl) (of_decide_eq_true (Hz.at_ e0 5 32 rfl rfl)) (of_decide_eq_true (Hz.at_ e0 5 33 rfl rfl)) (of_decide_eq_true (Hz.at_ e0 5 34 rfl rfl)) (of_decide_eq_true (Hz.at_ e0 5 35 rfl rfl)) (of_decide_eq_true (Hz.at_ e0 5 36 rfl rfl)) (of_decide_eq_true (Hz.at_ e0 5 37 rfl rfl)) (of_decide_eq_true (Hz.at_ e0 5 38 rfl rfl)) (Hz.at_ e0 5 39 rfl rfl) (of_decide_eq_true (Hz.at_ e0 6 0 rfl rfl)) (Hz.at_ e0 6 1 rfl rfl) (of_decide_eq_true (Hz.at_ e0 6 2 rfl rfl)) (Hz.at_ e0 6 3 rfl rfl) (of_decide_eq_true (Hz.at_ e0 6 4 rfl rfl)) (Hz.at_ e0 6 5 rfl rfl) (of_decide_eq_true (Hz.at_ e0 6 6 rfl rfl)) (Hz.at_ e0 6 7 rfl rfl) (of_decide_eq_true (Hz.at_ e0 6 8 rfl rfl)) (Hz.at_ e0 6 9 rfl rfl) (of_decide_eq_true (Hz.at_ e0 6 10 rfl rfl)) (Hz.at_ e0 6 11 rfl rfl) (of_decide_eq_true (Hz.at_ e0 6 12 rfl rfl)) (Hz.at_ e0 6 13 rfl rfl) (of_decide_eq_true (Hz.at_ e0 6 14 rfl rfl)) (Hz.at_ e0 6 15 rfl rfl) (of_decide_eq_true (Hz.at_ e0 6 16 rfl rfl)) (Hz.at_ e0 6 17 rfl rfl) (of_decide_eq_true (Hz.at_ e0 6 18 rfl rfl)) (Hz.at_ e0 6 19 rfl rfl) (of_decide_eq_true (Hz.at_ e0 6 20 rfl rfl)) (Hz.at_ e0 6 21 rfl rfl) (of_decide_eq_true (Hz.at_ e0 6 22 rfl rfl)) (of_decide_eq_true (Hz.at_ e0 6 23 rfl rfl)) (of_decide_eq_true (Hz.at_ e0 6 24 rfl rfl)) (of_decide_eq_true (Hz.at_ e0 6 25 rfl rfl)) (of_decide_eq_true (Hz.at_ e0 6 26 rfl rfl)) y_xDu y_xBu (of_decide_eq_true (Hz.at_ e0 6 28 rfl rfl)) (of_decide_eq_true (Hz.at_ e0 6 29 rfl rfl)) (of_decide_eq_true (Hz.at_ e0 6 30 rfl rfl)) (Hz.at_ e0 6 31 rfl rfl) (of_decide_eq_true (Hz.at_ e0 6 32 rfl rfl)) (of_decide_eq_true (Hz.at_ e0 6 33 rfl rfl)) l_Eu c_Eu (of_decide_eq_true (Hz.at_ e0 6 34 rfl rfl)) (of_decide_eq_true (Hz.at_ e0 6 35 rfl rfl)) (of_decide_eq_true (Hz.at_ e0 6 36 rfl rfl)) (Hz.at_ e0 6 37 rfl rfl) (of_decide_eq_true (Hz.at_ e0 6 38 rfl rfl)) (of_decide_eq_true (Hz.at_ e0 6 39 rfl rfl)) (of_decide_eq_true (Hz.at_ e0 7 0 rfl rfl)) (of_decide_eq_true (Hz.at_ e0 7 1 rfl rfl)) (of_decide_eq_true (Hz.at_ e0 7 2 rfl rfl)) y_xDs y_xBs (of_decide_eq_true (Hz.at_ e0 7 4 rfl rfl)) (of_decide_eq_true (Hz.at_ e0 7 5 rfl rfl)) (of_decide_eq_true (Hz.at_ e0 7 6 rfl rfl)) (Hz.at_ e0 7 7 rfl rfl) (of_decide_eq_true (Hz.at_ e0 7 8 rfl rfl)) (of_decide_eq_true (Hz.at_ e0 7 9 rfl rfl)) l_Es c_Es (of_decide_eq_true (Hz.at_ e0 7 10 rfl rfl)) (of_decide_eq_true (Hz.at_ e0 7 11 rfl rfl)) (of_decide_eq_true (Hz.at_ e0 7 12 rfl rfl)) (Hz.at_ e0 7 13 rfl rfl) (of_decide_eq_true (Hz.at_ e0 7 14 rfl rfl)) (of_decide_eq_true (Hz.at_ e0 7 15 rfl rfl)) (of_decide_eq_true (Hz.at_ e0 7 16 rfl rfl)) (of_decide_eq_true (Hz.at_ e0 7 17 rfl rfl)) (of_decide_eq_true (Hz.at_ e0 7 18 rfl rfl)) y_xDr y_xBr (of_decide_eq_true (Hz.at_ e0 7 20 rfl rfl)) (of_decide_eq_true (Hz.at_ e0 7 21 rfl rfl)) (of_decide_eq_true (Hz.at_ e0 7 22 rfl rfl)) (Hz.at_ e0 7 23 rfl rfl) (of_decide_eq_true (Hz.at_ e0 7 24 rfl rfl)) (of_decide_eq_true (Hz.at_ e0 7 25 rfl rfl)) l_Er c_Er (of_decide_eq_true (Hz.at_ e0 7 26 rfl rfl)) (of_decide_eq_true (Hz.at_ e0 7 27 rfl rfl)) (of_decide_eq_true (Hz.at_ e0 7 28 rfl rfl)) (Hz.at_ e0 7 29 rfl rfl) (of_decide_eq_true (Hz.at_ e0 7 30 rfl rfl)) (of_decide_eq_true (Hz.at_ e0 7 31 rfl rfl)) (of_decide_eq_true (Hz.at_ e0 7 32 rfl rfl)) (of_decide_eq_true (Hz.at_ e0 7 33 rfl rfl)) (of_decide_eq_true (Hz.at_ e0 7 34 rfl rfl)) y_xDt y_xBt (of_decide_eq_true (Hz.at_ e0 7 36 rfl rfl)) (of_decide_eq_true (Hz.at_ e0 7 37 rfl rfl)) (of_decide_eq_true (Hz.at_ e0 7 38 rfl rfl)) (Hz.at_ e0 7 39 rfl rfl) (of_decide_eq_true (Hz.at_ e0 8 0 rfl rfl)) (of_decide_eq_true (Hz.at_ e0 8 1 rfl rfl)) l_Et c_Et (of_decide_eq_true (Hz.at_ e0 8 2 rfl rfl)) (of_decide_eq_true (Hz.at_ e0 8 3 rfl rfl)) (of_decide_eq_true (Hz.at_ e0 8 4 rfl rfl)) (Hz.at_ e0 8 5 rfl rfl) (of_decide_eq_true (Hz.at_ e0 8 6 rfl rfl)) (of_decide_eq_true (Hz.at_ e0 8 7 rfl rfl)) (of_decide_eq_true (Hz.at_ e0 8 8 rfl rfl)) (of_decide_eq_true (Hz.at_ e0 8 9 rfl rfl)) (of_decide_eq_true (Hz.at_ e0 8 10 rfl rfl)) y_xDx y_xBx (of_decide_eq_true (Hz.at_ e0 8 12 rfl rfl)) (of_decide_eq_true (Hz.at_ e0 8 13 rfl rfl)) (of_decide_eq_true (Hz.at_ e0 8 14 rfl rfl)) (Hz.at_ e0 8 15 rfl rfl) (of_decide_eq_true (Hz.at_ e0 8 16 rfl rfl)) (of_decide_eq_true (Hz.at_ e0 8 17 rfl rfl)) l_Ex c_Ex (of_decide_eq_true (Hz.at_ e0 8 18 rfl rfl)) (of_decide_eq_true (Hz.at_ e0 8 19 rfl rfl)) (of_decide_eq_true (Hz.at_ e0 8 20 rfl rfl)) (of_decide_eq_true (Hz.at_ e0 8 21 rfl rfl)) (Hz.at_ e0 8 22 rfl rfl) (of_decide_eq_true (Hz.at_ e0 8 23 rfl rfl)) (of_decide_eq_true (Hz.at_ e0 8 24 rfl rfl)) (of_decide_eq_true (Hz.at_ e0 8 25 rfl rfl)) (of_decide_eq_true (Hz.at_ e0 8 26 rfl rfl)) (of_decide_eq_true (Hz.at_ e0 8 27 rfl rfl)) y_xDm y_xBm (of_decide_eq_true (Hz.at_ e0 8 29 rfl rfl)) (of_decide_eq_true (Hz.at_ e0 8 30 rfl rfl)) (of_decide_eq_true (Hz.at_ e0 8 31 rfl rfl)) (Hz.at_ e0 8 32 rfl rfl) (of_decide_eq_true (Hz.at_ e0 8 33 rfl rfl)) (of_decide_eq_true (Hz.at_ e0 8 34 rfl rfl)) l_Em c_Em (of_decide_eq_true (Hz.at_ e0 8 35 rfl rfl)) (of_decide_eq_true (Hz.at_ e0 8 36 rfl rfl)) (of_decide_eq_true (Hz.at_ e0 8 37 rfl rfl)) (of_decide_eq_true (Hz.at_ e0 8 38 rfl rfl)) (Hz.at_ e0 8 39 rfl rfl) (of_decide_eq_true (Hz.at_ e0 9 0 rfl rfl)) (of_decide_eq_true (Hz.at_ e0 9 1 rfl rfl)) (of_decide_eq_true (Hz.at_ e0 9 2 rfl rfl)) (of_decide_eq_true (Hz.at_ e0 9 3 rfl rfl)) (of_decide_eq_true (Hz.at_ e0 9 4 rfl rfl)) (of_decide_eq_true (Hz.at_ e0 9 5 rfl rfl)) (of_decide_eq_true (Hz.at_ e0 9 6 rfl rfl)) (of_decide_eq_true (Hz.at_ e0 9 7 rfl rfl)) (of_decide_eq_true (Hz.at_ e0 9 8 rfl rfl)) (of_decide_eq_true (Hz.at_ e0 9 9 rfl rfl)) (of_decide_eq_true (Hz.at_ e0 9 10 rfl rfl)) (of_decide_eq_true (Hz.at_ e0 9 11 rfl rfl)) (of_decide_eq_true (Hz.at_ e0 9 12 rfl rfl)) (of_decide_eq_true (Hz.at_ e0 9 13 rfl rfl)) (of_decide_eq_true (Hz.at_ e0 9 14 rfl rfl)) (of_decide_eq_true (Hz.at_ e0 9 15 rfl rfl)) (of_decide_eq_true (Hz.at_ e0 9 16 rfl rfl)) (of_decide_eq_true (Hz.at_ e0 9 17 rfl rfl)) (of_decide_eq_true (Hz.at_ e0 9 18 rfl rfl)) (of_decide_eq_true (Hz.at_ e0 9 19 rfl rfl)) (of_decide_eq_true (Hz.at_ e0 9 20 rfl rfl)) (of_decide_eq_true (Hz.at_ e0 9 21 rfl rfl)) (of_decide_eq_true (Hz.at_ e0 9 22 rfl rfl)) (of_decide_eq_true (Hz.at_ e0 9 23 rfl rfl)) (of_decide_eq_true (Hz.at_ e0 9 24 rfl rfl)) (of_decide_eq_true (Hz.at_ e0 9 25 rfl rfl)) (of_decide_eq_true (Hz.at_ e0 9 26 rfl rfl)) (of_decide_eq_true (Hz.at_ e0 9 27 rfl rfl)) (of_decide_eq_true (Hz.at_ e0 9 28 rfl rfl)) (of_decide_eq_true (Hz.at_ e0 9 29 rfl rfl)) (of_decide_eq_true (Hz.at_ e0 9 30 rfl rfl)) (of_decide_eq_true (Hz.at_ e0 9 31 rfl rfl)) (of_decide_eq_true (Hz.at_ e0 9 32 rfl rfl)) (of_decide_eq_true (Hz.at_ e0 9 33 rfl rfl)) y_gMF rfl y_gMS rfl y_gGS rfl y_gMP rfl y_gMR rfl y_gPF rfl y_gPW rfl (of_decide_eq_true (Hz.at_ e0 10 1 rfl rfl)) y_lSG (Nat.le_trans (Nat.le_of_eq y_sSG) (by decide)) y_vSG (of_decide_eq_true (Hz.at_ e0 10 3 rfl rfl)) (of_decide_eq_true (Hz.at_ e0 10 4 rfl rfl)) (of_decide_eq_true (Hz.at_ e0 10 5 rfl rfl)) (of_decide_eq_true (Hz.at_ e0 10 6 rfl rfl)) (of_decide_eq_true (Hz.at_ e0 10 7 rfl rfl)) (of_decide_eq_true (Hz.at_ e0 10 8 rfl rfl)) (of_decide_eq_true (Hz.at_ e0 10 9 rfl rfl)) (of_decide_eq_true (Hz.at_ e0 10 10 rfl rfl)) (of_decide_eq_true (Hz.at_ e0 10 11 rfl rfl)) (of_decide_eq_true (Hz.at_ e0 10 12 rfl rfl))
  refine ⟨K, fd, tb, sp, X, fun y hy => ?_, r1, r2, r3, r4⟩
  simp only [List.mem_cons, List.not_mem_nil, or_false] at hy
  rcases hy with rfl | rfl
  · exact ⟨_, _, of_decide_eq_true (Hz.at_ e0 10 13 rfl rfl), c.hd _ (List.Mem.head _), c.empty _ (List.Mem.head _)⟩
  · exact ⟨_, _, of_decide_eq_true (Hz.at_ e0 10 14 rfl rfl), c.hd _ (List.Mem.tail _ (List.Mem.head _)), c.empty _ (List.Mem.tail _ (List.Mem.head _))⟩
end Lw
open PySem PySem.W PyProof.Rows
set_option maxRecDepth 100000 in
set_option maxHeartbeats 0 in
theorem PySem.Challenge.cw_latechunks_k49_texts_that_are_no_rules_holds : PySem.Challenge.rw_latechunks_k49_texts_that_are_no_rules.Holds := by
  w_on; o_law
  refine HandSHeadRun.head_imp (r := PySem.W.OpenLaw.row PySem.Challenge.rw_latechunks_k49_texts_that_are_no_rules) (q := view (OpenLaw.row PySem.Challenge.rw_latechunks_k49_texts_that_are_no_rules).prog [0, 56]) (H := Lw.hkZ) (ob := Lw.hob) (M := 12000) (loose := ((["_wall", "GREATEST_SIZE", "is_integer", "is_within", "is_size", "LateError", "BadSize", "BadTotal", "BadRest", "BadRule", "BadText", "TooMany", "PIECE_FIGURES", "PIECE_WORTH", "integer_of", "number_of", "Reader", "MOST_PARTS", "MOST_FACTOR", "MOST_START", "SIGNS", "is_factor", "is_start", "read_rule", "read_part", "read_sign", "MOST_RESIDUES", "Rule", "Fixed", "Divided"] : List PySem.Str) ++ (["Lesser", "Greater", "check_rest", "check_joined", "check_modulus", "chunk_for", "rule_of", "_law_pen", "_law_draw", "_law_pick", "_law_leaf", "_law_plain", "_law_text", "_law_heard", "_law_is_number", "_law_rule_end", "_law_due", "_law_read_right", "_law_bent"] : List PySem.Str))) (d := HandSHeadRun.topDef (OpenLaw.row PySem.Challenge.rw_latechunks_k49_texts_that_are_no_rules).prog 56) (kwd := []) Lw.hob_eq
    Lw.head_run (by kernel_rfl) (by kernel_rfl) (by kernel_rfl) (by rfl) (by first | assumption | decide +kernel) (by decide +kernel) ⟨rfl, rfl, rfl, rfl, rfl, by decide +kernel⟩ ?hw ?hc
  case hw => w_witness2
  case hc =>
    refine Lw.walk_endX (l := PySem.Challenge.rw_latechunks_k49_texts_that_are_no_rules) (n := 63) (k := 116) (x := "_law_script") (xts := (["_law_read_right", "law"] : List Str)) rfl (by decide) (by kernel_rfl) ⟨rfl, by decide, by decide⟩ ?F
    intro w mg fa h Y G hmg0
    obtain ⟨K, KX, c⟩ := Y
    have hmg : mg ("law" : PySem.Str) = some (.ref fa) := by
      have e : (HandSHeadRun.topDef (OpenLaw.row PySem.Challenge.rw_latechunks_k49_texts_that_are_no_rules).prog 56).name = ("law" : PySem.Str) := by kernel_rfl
      rw [← e]
      exact hmg0
    exact Lw.known KX G hmg c
