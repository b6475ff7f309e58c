import PyProof.Rows.All
import Wide.All
import OpenK.AllK
import Wide.FinOn
import HandS.ForMost
import HandS.Wide
import HandS.Codes
import HandS.EndBits
import KE.KStateDown
import HandS.Defaults
import HandS.Words
import HandS.ExcInit
import HandS.Head0
import HandS.Head1
import HandS.Head2
import HandS.Head3
import HandS.HeadHook1
import HandS.HeadHook2
import HandS.HeadHook3
import HandS.HeadHook4
import HandS.Lambda
import HandS.IsInst
import HandS.Walk
import HandS.ClsMeth
import HandS.SlotsOwn
import KE.KOpsOwn
import PyProof.TwoTypes
import PyProof.IsiBase
import KE.KIsAll
import HandS.StrMore
import PyProof.StrOps2
import HandS.Text
import KE.IntTextText
import HandS.Dict
import HandS.Style
import HandS.Star
import HandS.FStr
import HandS.RaiseMore
import KE.KCallOwn
import PyProof.Methods
import HandS.OwnEq
import PyProof.InstEq
import PyProof.Raises
import PyProof.TypeEq
import HandS.Exc
import HandS.ExcField
import HandS.ExcIs
import HandS.Gcd
import KE.KMathGC
import HandS.MakeKw
import KE.KFmtOwn
import HandS.MakeKwOnly
import HandS.EndTab
import PySem.Challenge.RW_latechunks_k48_texts_of_rules
set_option Elab.async false
set_option linter.all false
set_option maxRecDepth 100000
set_option maxHeartbeats 4000000
namespace Lw
open PySem PySem.Spec PyProof.Rows L2
def tq (i : Nat) : Stmt := PySem.Challenge.pw_latechunks_k48_texts_of_rules.main.body.getD i (.Pass ⟨0, 0, 0, 0⟩)
/-! ### the head told by one run: defs at paths, tests of K, tables of lambdas -/
namespace Hz
open PySem PySem.Spec PyProof.Rows L2 He
def mcOf (K : PySem.W.Frag) (C : Addr) : Value := match PySem.W.typeIn K (.ref C) with
  | some v => v
  | none => .none
def pAd (K : PySem.W.Frag) (C : Addr) (n : Str) : Addr := match PySem.W.findCls K (.ref C) (mcOf K C) n with
  | some (.get _ (.ref p) _ _) => p
  | _ => 0
def rAd (K : PySem.W.Frag) (p : Addr) (T : String) : Addr := match PySem.W.recIn K p T with
  | some (.ref f :: _) => f
  | _ => 0
def typB (K : PySem.W.Frag) (C : Addr) : Bool := match PySem.W.typeIn K (.ref C) with
  | some _ => true
  | none => false
theorem typB_ok {K : PySem.W.Frag} {C : Addr} (h : typB K C = true) : PySem.W.typeIn K (.ref C) = some (mcOf K C) := by
  unfold typB at h
  unfold mcOf
  cases e : PySem.W.typeIn K (.ref C) with
  | none => rw [e] at h; cases h
  | some v => rfl
def getB (K : PySem.W.Frag) (C : Addr) (n : Str) (g : String) : Bool := match PySem.W.findCls K (.ref C) (mcOf K C) n with
  | some (.get (.builtin g') (.ref _) .none (.ref C')) => g' == g && C' == C
  | _ => false
theorem getB_ok {K : PySem.W.Frag} {C : Addr} {n : Str} {g : String} (h : getB K C n g = true) : PySem.W.findCls K (.ref C) (mcOf K C) n = some (.get (.builtin g) (.ref (pAd K C n)) .none (.ref C)) := by
  unfold getB at h
  unfold pAd
  split at h
  · rename_i g' p C' e
    obtain ⟨h1, h2⟩ := ba h
    rw [e, beq_iff_eq.mp h1, beq_iff_eq.mp h2]
  · cases h
def recB (K : PySem.W.Frag) (p : Addr) (T : String) : Bool := match PySem.W.recIn K p T with
  | some (.ref _ :: _) => true
  | _ => false
theorem recB_ok {K : PySem.W.Frag} {p : Addr} {T : String} (h : recB K p T = true) : ∃ rs, PySem.W.recIn K p T = some (.ref (rAd K p T) :: rs) := by
  unfold recB at h
  unfold rAd
  split at h
  · rename_i f rs e
    rw [e]
    exact ⟨rs, rfl⟩
  · cases h
def intB (K : PySem.W.Frag) (x : Str) (i : Int) : Bool := match PySem.W.nsIn K mainGlobals x with
  | some (some (.int j _)) => decide (j = i)
  | _ => false
theorem intB_ok {K : PySem.W.Frag} {x : Str} {i : Int} (h : intB K x i = true) : ∃ t, PySem.W.nsIn K mainGlobals x = some (some (.int i t)) := by
  unfold intB at h
  split at h
  · rename_i j t e
    rw [← of_decide_eq_true h]
    exact ⟨t, e⟩
  · cases h
def clsB (K : PySem.W.Frag) (C : Addr) (n : Str) (i : Int) : Bool := match PySem.W.findCls K (.ref C) (mcOf K C) n with
  | some (.val (.int j _)) => decide (j = i)
  | _ => false
theorem clsB_ok {K : PySem.W.Frag} {C : Addr} {n : Str} {i : Int} (h : clsB K C n i = true) : ∃ t, PySem.W.findCls K (.ref C) (mcOf K C) n = some (.val (.int i t)) := by
  unfold clsB at h
  split at h
  · rename_i j t e
    rw [← of_decide_eq_true h]
    exact ⟨t, e⟩
  · cases h
def strB (K : PySem.W.Frag) (x z : Str) : Bool := match PySem.W.nsIn K mainGlobals x with
  | some (some (.str y _)) => decide (y = z)
  | _ => false
theorem strB_ok {K : PySem.W.Frag} {x z : Str} (h : strB K x z = true) : ∃ t, PySem.W.nsIn K mainGlobals x = some (some (.str z t)) := by
  unfold strB at h
  split at h
  · rename_i y t e
    rw [← of_decide_eq_true h]
    exact ⟨t, e⟩
  · cases h
def tupB (K : PySem.W.Frag) (a : Addr) (vs : List V) : Bool := match K.lookup a with
  | some ⟨.type c, _, .seq its _, _⟩ => c == "tuple" && relAll vs its.toList
  | _ => false
theorem tupB_ok {K : PySem.W.Frag} {a : Addr} {vs : List V} (h : tupB K a vs = true) : ∃ od ws n sl, K.lookup a = some ⟨.type "tuple", od, .seq ws n, sl⟩ ∧ Vals vs ws.toList ∧ ws.size = vs.length := by
  unfold tupB at h
  split at h
  · rename_i c od its n sl e
    obtain ⟨h1, h2⟩ := ba h
    rw [beq_iff_eq.mp h1] at e
    exact ⟨od, its, n, sl, e, relAll_ok h2, (relAll_ok h2).length.symm⟩
  · cases h
def exB (K : PySem.W.Frag) (C : Addr) (own : String) : Bool := match K.lookup C with
  | some ⟨.type "type", _, .cls cd, sl⟩ => (match cd.mro, sl.toList with
    | .ref C' :: bm, [_, _, _, _, some (.builtin n), _] => C' == C && n == own && !cd.hasDel && cd.hasDict && PySem.HandSPX.refsVE bm
    | _, _ => false)
  | _ => false
theorem exB_ok {K : PySem.W.Frag} {C : Addr} {own : String} (q : exB K C own = true) : ∃ nm qn N bs bm sn sub ab col dd k0 k1 k2 k3 k5, K.lookup C = some (excClassObj nm qn C N bs bm true sn sub ab col dd k0 k1 k2 k3 k5 own) ∧ PySem.HandSPX.refsVE bm = true := by
  unfold exB at q
  split at q
  · rename_i dd cd sl ho
    split at q
    · rename_i C' bm k0 k1 k2 k3 n k5 hm hs
      simp only [Bool.and_eq_true, beq_iff_eq, Bool.not_eq_true'] at q
      obtain ⟨⟨⟨⟨rfl, rfl⟩, hdel⟩, hd⟩, ht⟩ := q
      obtain ⟨nm, bs, mro, ns, qn, hd', sn, sub, ab, col, del⟩ := cd
      dsimp only at hm hdel hd
      subst hm hdel hd
      have hsl : sl = #[k0, k1, k2, k3, some (.builtin n), k5] := by
        obtain ⟨l⟩ := sl
        simp only at hs
        rw [hs]
      subst hsl
      exact ⟨nm, qn, ns, bs, bm, sn, sub, ab, col, dd, k0, k1, k2, k3, k5, ho, ht⟩
    · cases q
  · cases q
/-- a def: where it stands, its name, qualified name, statement, defaults -/
structure DefA where
  adr : PySem.W.Frag → Addr
  name : Str
  qual : Str
  st : Stmt
  dfl : List V := []
def DefA.val (d : DefA) : FnW := some (d.name, d.qual, C8.fnArgs d.st, .stmts (C8.fnBody d.st), C8.fnScope d.st, mainGlobals, [], builtinsNs)
def fnAt (K : PySem.W.Frag) (a : Addr) : FnW := match K.lookup a with
  | some ⟨_, _, .func fd, _⟩ => some (fd.name, fd.qualname, fd.params, fd.body, fd.scope, fd.globals, fd.closure, fd.builtins)
  | _ => none
def DefA.ok (K : PySem.W.Frag) (d : DefA) : Bool := match K.lookup (d.adr K) with
  | some ⟨_, _, .func fd, _⟩ => PySem.W.codeIn K fd.code d.qual && dflB K fd.defaults d.dfl
  | _ => false
theorem DefA.get {K : PySem.W.Frag} {d : DefA} (e : fnAt K (d.adr K) = d.val) (c : d.ok K = true) : ∃ oc od dV kV doc pm an cdv ct osl,
    K.lookup (d.adr K) = some ⟨oc, od, .func (PySem.W.fnOf d.name d.qual (C8.fnArgs d.st) (C8.fnBody d.st) (C8.fnScope d.st) dV kV doc pm an cdv ct), osl⟩ ∧ PySem.W.codeIn K cdv d.qual = true ∧ DflV K dV d.dfl := by
  unfold DefA.ok at c
  unfold fnAt at e
  cases q : K.lookup (d.adr K) with
  | none =>
    rw [q] at c
    cases c
  | some o =>
    obtain ⟨oc, od, dt, osl⟩ := o
    rw [q] at c e
    cases dt with
    | func fd =>
      obtain ⟨n1, n2, n3, n4, n5, n6, n7, n8, n9, n10, n11, n12, n13, n14, n15⟩ := fd
      have e2 : (some (n1, n2, n3, n4, n5, n6, n7, n15) : FnW) = some (d.name, d.qual, C8.fnArgs d.st, .stmts (C8.fnBody d.st), C8.fnScope d.st, mainGlobals, [], builtinsNs) := e
      simp only [Option.some.injEq, Prod.mk.injEq] at e2
      obtain ⟨h1, h2, h3, h4, h5, h6, h7, h8⟩ := e2
      subst h1 h2 h3 h4 h5 h6 h7 h8
      obtain ⟨k1, k2⟩ := ba (show (PySem.W.codeIn K n13 d.qual && dflB K n8 d.dfl) = true from c)
      exact ⟨oc, od, n8, n9, n10, n11, n12, n13, n14, osl, rfl, k1, dflB_ok k2⟩
    | _ => cases c
structure SaysZ (fn : List DefA) (tf : List Defn) (ex : PySem.W.Frag → List (List Bool)) (h : Heap) (K : PySem.W.Frag) : Prop where
  d1 : fn.all (fun d => d.ok K) = true
  d2 : fn.map (fun d => fnAt K (d.adr K)) = fn.map DefA.val
  more : (ex K).all (fun l => l.all id) = true
  hd : ∀ p ∈ tf, PySem.W.codeHdIn K (cT K p).1 (cT K p).2 = true
  out : ∀ p ∈ tf, K.lookup (cT K p).2 = none
  empty : ∀ p ∈ tf, h.get? (cT K p).2 = some { cls := .none, data := .fields #[] }
theorem SaysZ.get {fn : List DefA} {tf : List Defn} {ex : PySem.W.Frag → List (List Bool)} {h : Heap} {K : PySem.W.Frag} (c : SaysZ fn tf ex h K) (i : Nat) {d : DefA} (hi : fn[i]? = some d) : ∃ oc od dV kV doc pm an cdv ct osl,
    K.lookup (d.adr K) = some ⟨oc, od, .func (PySem.W.fnOf d.name d.qual (C8.fnArgs d.st) (C8.fnBody d.st) (C8.fnScope d.st) dV kV doc pm an cdv ct), osl⟩ ∧ PySem.W.codeIn K cdv d.qual = true ∧ DflV K dV d.dfl := by
  have e2 : (fn.map fun d => fnAt K (d.adr K))[i]? = (fn.map DefA.val)[i]? := by rw [c.d2]
  rw [List.getElem?_map, List.getElem?_map, hi] at e2
  exact DefA.get (Option.some.inj e2) (List.all_eq_true.mp c.d1 d (List.mem_of_getElem? hi))
theorem SaysZ.get0 {fn : List DefA} {tf : List Defn} {ex : PySem.W.Frag → List (List Bool)} {h : Heap} {K : PySem.W.Frag} (c : SaysZ fn tf ex h K) (i : Nat) {d : DefA} (hi : fn[i]? = some d) (h0 : d.dfl = []) : ∃ oc od kV doc pm an cdv ct osl,
    K.lookup (d.adr K) = some ⟨oc, od, .func (PySem.W.fnOf d.name d.qual (C8.fnArgs d.st) (C8.fnBody d.st) (C8.fnScope d.st) .none kV doc pm an cdv ct), osl⟩ ∧ PySem.W.codeIn K cdv d.qual = true := by
  obtain ⟨oc, od, dV, kV, doc, pm, an, cdv, ct, osl, lk, hc, hd⟩ := c.get i hi
  have e : dV = .none := by
    rcases hd with ⟨_, e⟩ | ⟨n, _⟩
    · exact e
    · exact absurd h0 n
  subst e
  exact ⟨oc, od, kV, doc, pm, an, cdv, ct, osl, lk, hc⟩
theorem SaysZ.getD {fn : List DefA} {tf : List Defn} {ex : PySem.W.Frag → List (List Bool)} {h : Heap} {K : PySem.W.Frag} (c : SaysZ fn tf ex h K) (i : Nat) {d : DefA} (hi : fn[i]? = some d) (h0 : d.dfl ≠ []) : ∃ oc od T kV doc pm an cdv ct osl oT odT its n slT,
    K.lookup (d.adr K) = some ⟨oc, od, .func (PySem.W.fnOf d.name d.qual (C8.fnArgs d.st) (C8.fnBody d.st) (C8.fnScope d.st) (.ref T) kV doc pm an cdv ct), osl⟩ ∧ PySem.W.codeIn K cdv d.qual = true ∧ K.lookup T = some ⟨oT, odT, .seq (List.toArray its) n, slT⟩ ∧ Vals d.dfl its := by
  obtain ⟨oc, od, dV, kV, doc, pm, an, cdv, ct, osl, lk, hc, hd⟩ := c.get i hi
  rcases hd with ⟨e, _⟩ | ⟨_, T, o, its, m, rfl, lT, oT, rT⟩
  · exact absurd e h0
  · obtain ⟨a1, a2, a3, a4⟩ := o
    dsimp only at oT
    subst oT
    exact ⟨oc, od, T, kV, doc, pm, an, cdv, ct, osl, a1, a2, its, m, a4, lk, hc, lT, rT⟩
theorem ints1 {i : Int} {its : List Value} (h : Vals [V.int i] its) : ∃ t, its = [.int i t] := by
  cases h with
  | cons r0 r1 =>
    cases r1
    obtain ⟨t, rfl⟩ := (show ∃ t, _ = Value.int i t from r0)
    exact ⟨t, rfl⟩
theorem ints3 {i j k : Int} {its : List Value} (h : Vals [V.int i, V.int j, V.int k] its) : ∃ t u v, its = [.int i t, .int j u, .int k v] := by
  cases h with
  | cons r0 r1 =>
    cases r1 with
    | cons r2 r3 =>
      cases r3 with
      | cons r4 r5 =>
        cases r5
        obtain ⟨t, rfl⟩ := (show ∃ t, _ = Value.int i t from r0)
        obtain ⟨u, rfl⟩ := (show ∃ t, _ = Value.int j t from r2)
        obtain ⟨v, rfl⟩ := (show ∃ t, _ = Value.int k t from r4)
        exact ⟨t, u, v, rfl⟩
theorem nons1 {its : List Value} (h : Vals [V.non] its) : its = [.none] := by
  cases h with
  | cons r0 r1 =>
    cases r1
    rw [show _ = Value.none from r0]
theorem at_ {ls : List (List Bool)} (h : ls.all (fun l => l.all id) = true) (i j : Nat) {l : List Bool} {b : Bool} (hi : ls[i]? = some l) (hj : l[j]? = some b) : b = true :=
  List.all_eq_true.mp (List.all_eq_true.mp h l (List.mem_of_getElem? hi)) b (List.mem_of_getElem? hj)
/-- what several runs tell, together -/
theorem comb {α β γ : Type} {R : Option α} {A1 : α → Bool} {A2 : α → β} {Dm : α → γ} {c e : α → Bool} {g : β} {d : γ} (h1 : R.map (fun x => (A1 x, A2 x, Dm x)) = some (true, g, d)) (h2 : R.map (fun x => c x) = some true) (h3 : R.map (fun x => e x) = some true) : R.map (fun x => (A1 x, A2 x, (Dm x, c x && e x))) = some (true, g, (d, true)) := by
  cases R with
  | none => cases h1
  | some x =>
    have e1 := Option.some.inj (show some (A1 x, A2 x, Dm x) = some (true, g, d) from h1)
    have e2 : c x = true := Option.some.inj (show some (c x) = some true from h2)
    have e3 : e x = true := Option.some.inj (show some (e x) = some true from h3)
    obtain ⟨q1, q2⟩ := Prod.mk.inj e1
    obtain ⟨q3, q4⟩ := Prod.mk.inj q2
    show some (A1 x, A2 x, (Dm x, c x && e x)) = _
    rw [q1, q3, q4, e2, e3]
    rfl
def obsZ (as : List Addr) (fn : List DefA) (tf : List Defn) (ex : PySem.W.Frag → List (List Bool)) (g : Addr → Option Obj) : List FnW × Bool := (fn.map fun d => fnAt (frT g as) (d.adr (frT g as)), (fn.all fun d => d.ok (frT g as)) && ((ex (frT g as)).all (fun l => l.all id) && tabsB g tf (frT g as)))
theorem saysZ_of {as : List Addr} {fn : List DefA} {tf : List Defn} {ex : PySem.W.Frag → List (List Bool)} {h : Heap} (e : obsZ as fn tf ex h.get? = (fn.map DefA.val, true)) : SaysZ fn tf ex h (frT h.get? as) := by
  have e1 : fn.map (fun d => fnAt (frT h.get? as) (d.adr (frT h.get? as))) = fn.map DefA.val := congrArg (fun z : List FnW × Bool => z.1) e
  have e2 : ((fn.all fun d => d.ok (frT h.get? as)) && ((ex (frT h.get? as)).all (fun l => l.all id) && tabsB h.get? tf (frT h.get? as))) = true := congrArg (fun z : List FnW × Bool => z.2) e
  obtain ⟨h0, e3⟩ := ba e2
  obtain ⟨h1, h2⟩ := ba e3
  have key : ∀ p ∈ tf, PySem.W.codeHdIn (frT h.get? as) (cT (frT h.get? as) p).1 (cT (frT h.get? as) p).2 = true ∧ ∃ o, h.get? (cT (frT h.get? as) p).2 = some o ∧ emptyTab o = true := fun p hp => by
    obtain ⟨h3, h4⟩ := ba (List.all_eq_true.mp h2 p hp)
    refine ⟨h3, ?_⟩
    cases q : h.get? (cT (frT h.get? as) p).2 with
    | none =>
      rw [q] at h4
      cases h4
    | some o =>
      rw [q] at h4
      exact ⟨o, rfl, h4⟩
  exact ⟨h0, e1, h1, fun p hp => (key p hp).1, fun p hp => by
    obtain ⟨_, o, q, z⟩ := key p hp
    exact frT_none q z, fun p hp => by
    obtain ⟨_, o, q, z⟩ := key p hp
    rw [q, emptyTab_eq z]⟩
def hookZ (as : List Addr) (fn : List DefA) (tf : List Defn) (ex : PySem.W.Frag → List (List Bool)) : PySem.W.Hook where
  α := List FnW × Bool
  obs := fun s => obsZ as fn tf ex s.heap.get?
  val := fun _ => (fn.map DefA.val, true)
  says := fun _ h => ∃ K : PySem.W.Frag, K.In h ∧ SaysZ fn tf ex h K
  of := fun _ _ e => ⟨_, frT_in, saysZ_of e⟩
  keeps := fun _ _ _ ⟨K, hK, c⟩ k => ⟨K, PySem.W.Frag.In.keeps hK k, ⟨c.d1, c.d2, c.more, c.hd, c.out, fun p hp => k _ _ (c.empty p hp)⟩⟩
theorem obsZ_eq {as : List Addr} {fn : List DefA} {tf : List Defn} {ex : PySem.W.Frag → List (List Bool)} {g : Addr → Option Obj} {s : Shared} (h : ∀ a, g a = s.heap.get? a) : obsZ as fn tf ex g = (hookZ as fn tf ex).obs s := by
  have e : g = s.heap.get? := funext h
  rw [e] <;> rfl
end Hz
abbrev hd0 : Hz.DefA := ⟨fun K => (He.ga K "is_integer"), "is_integer", "is_integer", (tq 4), []⟩
abbrev hd1 : Hz.DefA := ⟨fun K => (He.ga K "is_within"), "is_within", "is_within", (tq 5), []⟩
abbrev hd2 : Hz.DefA := ⟨fun K => (He.ga K "is_size"), "is_size", "is_size", (tq 6), []⟩
abbrev hd3 : Hz.DefA := ⟨fun K => (He.ga K "is_factor"), "is_factor", "is_factor", (tq 25), []⟩
abbrev hd4 : Hz.DefA := ⟨fun K => (He.ga K "is_start"), "is_start", "is_start", (tq 26), []⟩
abbrev hd5 : Hz.DefA := ⟨fun K => (He.ga K "integer_of"), "integer_of", "integer_of", (tq 17), []⟩
abbrev hd6 : Hz.DefA := ⟨fun K => (He.ga K "number_of"), "number_of", "number_of", (tq 18), []⟩
abbrev hd7 : Hz.DefA := ⟨fun K => (He.ga K "read_rule"), "read_rule", "read_rule", (tq 27), []⟩
abbrev hd8 : Hz.DefA := ⟨fun K => (He.ga K "read_part"), "read_part", "read_part", (tq 28), []⟩
abbrev hd9 : Hz.DefA := ⟨fun K => (He.ga K "read_sign"), "read_sign", "read_sign", (tq 29), []⟩
abbrev hd10 : Hz.DefA := ⟨fun K => (He.ga K "rule_of"), "rule_of", "rule_of", (tq 42), []⟩
abbrev hd11 : Hz.DefA := ⟨fun K => (He.ga K "check_modulus"), "check_modulus", "check_modulus", (tq 40), []⟩
abbrev hd12 : Hz.DefA := ⟨fun K => (He.ga K "check_joined"), "check_joined", "check_joined", (tq 39), []⟩
abbrev hd13 : Hz.DefA := ⟨fun K => (He.ga K "_law_pen"), "_law_pen", "_law_pen", (tq 44), []⟩
abbrev hd14 : Hz.DefA := ⟨fun K => (He.ga K "_law_draw"), "_law_draw", "_law_draw", (tq 45), []⟩
abbrev hd15 : Hz.DefA := ⟨fun K => (He.ga K "_law_pick"), "_law_pick", "_law_pick", (tq 46), []⟩
abbrev hd16 : Hz.DefA := ⟨fun K => (He.ga K "_law_leaf"), "_law_leaf", "_law_leaf", (tq 47), []⟩
abbrev hd17 : Hz.DefA := ⟨fun K => (He.ga K "_law_plain"), "_law_plain", "_law_plain", (tq 48), []⟩
abbrev hd18 : Hz.DefA := ⟨fun K => (He.ga K "_law_made"), "_law_made", "_law_made", (tq 49), []⟩
abbrev hd19 : Hz.DefA := ⟨fun K => (He.ga K "_law_leaves"), "_law_leaves", "_law_leaves", (tq 53), []⟩
abbrev hd20 : Hz.DefA := ⟨fun K => (He.ga K "_law_modulus"), "_law_modulus", "_law_modulus", (tq 54), []⟩
abbrev hd21 : Hz.DefA := ⟨fun K => (He.ga K "_law_fitting"), "_law_fitting", "_law_fitting", (tq 55), []⟩
abbrev hd22 : Hz.DefA := ⟨fun K => (He.ga K "_law_text"), "_law_text", "_law_text", (tq 52), []⟩
abbrev hd23 : Hz.DefA := ⟨fun K => (He.ga K "_law_other"), "_law_other", "_law_other", (tq 56), []⟩
abbrev hd24 : Hz.DefA := ⟨fun K => (He.ga K "_law_right"), "_law_right", "_law_right", (tq 57), []⟩
abbrev hd25 : Hz.DefA := ⟨fun K => (He.ga K "law"), "law", "law", (tq 58), []⟩
abbrev hd26 : Hz.DefA := ⟨fun K => (Hz.rAd K (Hz.pAd K (He.ga K "Rule") "read") "staticmethod"), "read", "Rule.read", (inClass (tq 32) 0), []⟩
abbrev hd27 : Hz.DefA := ⟨fun K => (He.ma K (He.ga K "Fixed") "__init__"), "__init__", "Fixed.__init__", (inClass (tq 33) 0), []⟩
abbrev hd28 : Hz.DefA := ⟨fun K => (He.ma K (He.ga K "Divided") "__init__"), "__init__", "Divided.__init__", (inClass (tq 34) 0), []⟩
abbrev hd29 : Hz.DefA := ⟨fun K => (He.ma K (He.ga K "Lesser") "__init__"), "__init__", "Lesser.__init__", (inClass (tq 35) 0), []⟩
abbrev hd30 : Hz.DefA := ⟨fun K => (He.ma K (He.ga K "Greater") "__init__"), "__init__", "Greater.__init__", (inClass (tq 36) 0), []⟩
abbrev hd31 : Hz.DefA := ⟨fun K => (He.ma K (He.ga K "By") "__init__"), "__init__", "By.__init__", (inClass (tq 37) 0), []⟩
abbrev hd32 : Hz.DefA := ⟨fun K => (He.ma K (He.ga K "Fixed") "__str__"), "__str__", "Fixed.__str__", (inClass (tq 33) 8), []⟩
abbrev hd33 : Hz.DefA := ⟨fun K => (He.ma K (He.ga K "Fixed") "__and__"), "__and__", "Fixed.__and__", (inClass (tq 33) 5), []⟩
abbrev hd34 : Hz.DefA := ⟨fun K => (He.ma K (He.ga K "Fixed") "__or__"), "__or__", "Fixed.__or__", (inClass (tq 33) 6), []⟩
abbrev hd35 : Hz.DefA := ⟨fun K => (He.ma K (He.ga K "Fixed") "__eq__"), "__eq__", "Fixed.__eq__", (inClass (tq 33) 7), []⟩
abbrev hd36 : Hz.DefA := ⟨fun K => (He.ma K (He.ga K "Divided") "__str__"), "__str__", "Divided.__str__", (inClass (tq 34) 9), []⟩
abbrev hd37 : Hz.DefA := ⟨fun K => (He.ma K (He.ga K "Divided") "__and__"), "__and__", "Divided.__and__", (inClass (tq 34) 6), []⟩
abbrev hd38 : Hz.DefA := ⟨fun K => (He.ma K (He.ga K "Divided") "__or__"), "__or__", "Divided.__or__", (inClass (tq 34) 7), []⟩
abbrev hd39 : Hz.DefA := ⟨fun K => (He.ma K (He.ga K "Divided") "__eq__"), "__eq__", "Divided.__eq__", (inClass (tq 34) 8), []⟩
abbrev hd40 : Hz.DefA := ⟨fun K => (He.ma K (He.ga K "Lesser") "__str__"), "__str__", "Lesser.__str__", (inClass (tq 35) 8), []⟩
abbrev hd41 : Hz.DefA := ⟨fun K => (He.ma K (He.ga K "Lesser") "__and__"), "__and__", "Lesser.__and__", (inClass (tq 35) 5), []⟩
abbrev hd42 : Hz.DefA := ⟨fun K => (He.ma K (He.ga K "Lesser") "__or__"), "__or__", "Lesser.__or__", (inClass (tq 35) 6), []⟩
abbrev hd43 : Hz.DefA := ⟨fun K => (He.ma K (He.ga K "Lesser") "__eq__"), "__eq__", "Lesser.__eq__", (inClass (tq 35) 7), []⟩
abbrev hd44 : Hz.DefA := ⟨fun K => (He.ma K (He.ga K "Greater") "__str__"), "__str__", "Greater.__str__", (inClass (tq 36) 8), []⟩
abbrev hd45 : Hz.DefA := ⟨fun K => (He.ma K (He.ga K "Greater") "__and__"), "__and__", "Greater.__and__", (inClass (tq 36) 5), []⟩
abbrev hd46 : Hz.DefA := ⟨fun K => (He.ma K (He.ga K "Greater") "__or__"), "__or__", "Greater.__or__", (inClass (tq 36) 6), []⟩
abbrev hd47 : Hz.DefA := ⟨fun K => (He.ma K (He.ga K "Greater") "__eq__"), "__eq__", "Greater.__eq__", (inClass (tq 36) 7), []⟩
abbrev hd48 : Hz.DefA := ⟨fun K => (He.ma K (He.ga K "By") "__str__"), "__str__", "By.__str__", (inClass (tq 37) 8), []⟩
abbrev hd49 : Hz.DefA := ⟨fun K => (He.ma K (He.ga K "Reader") "__init__"), "__init__", "Reader.__init__", (inClass (tq 19) 0), [.int 0]⟩
abbrev hd50 : Hz.DefA := ⟨fun K => (He.ma K (He.ga K "Reader") "at_hand"), "at_hand", "Reader.at_hand", (inClass (tq 19) 1), []⟩
abbrev hd51 : Hz.DefA := ⟨fun K => (He.ma K (He.ga K "Reader") "refuse"), "refuse", "Reader.refuse", (inClass (tq 19) 2), []⟩
abbrev hd52 : Hz.DefA := ⟨fun K => (He.ma K (He.ga K "Reader") "take"), "take", "Reader.take", (inClass (tq 19) 3), []⟩
abbrev hd53 : Hz.DefA := ⟨fun K => (He.ma K (He.ga K "Reader") "expect"), "expect", "Reader.expect", (inClass (tq 19) 5), []⟩
abbrev hd54 : Hz.DefA := ⟨fun K => (He.ma K (He.ga K "Reader") "finish"), "finish", "Reader.finish", (inClass (tq 19) 7), []⟩
abbrev hd55 : Hz.DefA := ⟨fun K => (He.ma K (He.ga K "Reader") "integer"), "integer", "Reader.integer", (inClass (tq 19) 4), []⟩
abbrev hd56 : Hz.DefA := ⟨fun K => (He.ma K (He.ga K "BadRule") "__init__"), "__init__", "BadRule.__init__", (inClass (tq 11) 0), []⟩
abbrev hd57 : Hz.DefA := ⟨fun K => (He.ma K (He.ga K "BadSize") "__init__"), "__init__", "BadSize.__init__", (inClass (tq 9) 0), []⟩
abbrev hd58 : Hz.DefA := ⟨fun K => (He.ma K (He.ga K "BadText") "__init__"), "__init__", "BadText.__init__", (inClass (tq 12) 0), []⟩
abbrev hd59 : Hz.DefA := ⟨fun K => (He.ma K (He.ga K "TooMany") "__init__"), "__init__", "TooMany.__init__", (inClass (tq 13) 0), []⟩
def hfn : List Hz.DefA := ([hd0, hd1, hd2, hd3, hd4, hd5, hd6, hd7, hd8, hd9, hd10, hd11, hd12, hd13, hd14, hd15, hd16, hd17, hd18, hd19, hd20, hd21, hd22, hd23, hd24, hd25, hd26, hd27, hd28, hd29] : List Hz.DefA) ++ ([hd30, hd31, hd32, hd33, hd34, hd35, hd36, hd37, hd38, hd39, hd40, hd41, hd42, hd43, hd44, hd45, hd46, hd47, hd48, hd49, hd50, hd51, hd52, hd53, hd54, hd55, hd56, hd57, hd58, hd59] : List Hz.DefA)
def htf : List He.Defn := [("law", none)]
def ex0 (K : PySem.W.Frag) : List Bool := [
  decide (PySem.W.nsIn K mainGlobals "is_integer" = some (some (.ref (He.ga K "is_integer")))),
  PySem.W.keepIn K (.ref (He.ga K "is_integer")),
  decide (PySem.W.nsIn K mainGlobals "is_within" = some (some (.ref (He.ga K "is_within")))),
  PySem.W.keepIn K (.ref (He.ga K "is_within")),
  decide (PySem.W.nsIn K mainGlobals "is_size" = some (some (.ref (He.ga K "is_size")))),
  PySem.W.keepIn K (.ref (He.ga K "is_size")),
  decide (PySem.W.nsIn K mainGlobals "is_factor" = some (some (.ref (He.ga K "is_factor")))),
  PySem.W.keepIn K (.ref (He.ga K "is_factor")),
  decide (PySem.W.nsIn K mainGlobals "is_start" = some (some (.ref (He.ga K "is_start")))),
  PySem.W.keepIn K (.ref (He.ga K "is_start")),
  decide (PySem.W.nsIn K mainGlobals "integer_of" = some (some (.ref (He.ga K "integer_of")))),
  PySem.W.keepIn K (.ref (He.ga K "integer_of")),
  decide (PySem.W.nsIn K mainGlobals "number_of" = some (some (.ref (He.ga K "number_of")))),
  PySem.W.keepIn K (.ref (He.ga K "number_of")),
  decide (PySem.W.nsIn K mainGlobals "read_rule" = some (some (.ref (He.ga K "read_rule")))),
  PySem.W.keepIn K (.ref (He.ga K "read_rule")),
  decide (PySem.W.nsIn K mainGlobals "read_part" = some (some (.ref (He.ga K "read_part")))),
  PySem.W.keepIn K (.ref (He.ga K "read_part")),
  decide (PySem.W.nsIn K mainGlobals "read_sign" = some (some (.ref (He.ga K "read_sign")))),
  PySem.W.keepIn K (.ref (He.ga K "read_sign")),
  decide (PySem.W.nsIn K mainGlobals "rule_of" = some (some (.ref (He.ga K "rule_of")))),
  PySem.W.keepIn K (.ref (He.ga K "rule_of")),
  decide (PySem.W.nsIn K mainGlobals "check_modulus" = some (some (.ref (He.ga K "check_modulus")))),
  PySem.W.keepIn K (.ref (He.ga K "check_modulus")),
  decide (PySem.W.nsIn K mainGlobals "check_joined" = some (some (.ref (He.ga K "check_joined")))),
  PySem.W.keepIn K (.ref (He.ga K "check_joined")),
  decide (PySem.W.nsIn K mainGlobals "_law_pen" = some (some (.ref (He.ga K "_law_pen")))),
  PySem.W.keepIn K (.ref (He.ga K "_law_pen")),
  decide (PySem.W.nsIn K mainGlobals "_law_draw" = some (some (.ref (He.ga K "_law_draw")))),
  PySem.W.keepIn K (.ref (He.ga K "_law_draw")),
  decide (PySem.W.nsIn K mainGlobals "_law_pick" = some (some (.ref (He.ga K "_law_pick")))),
  PySem.W.keepIn K (.ref (He.ga K "_law_pick")),
  decide (PySem.W.nsIn K mainGlobals "_law_leaf" = some (some (.ref (He.ga K "_law_leaf")))),
  PySem.W.keepIn K (.ref (He.ga K "_law_leaf")),
  decide (PySem.W.nsIn K mainGlobals "_law_plain" = some (some (.ref (He.ga K "_law_plain")))),
  PySem.W.keepIn K (.ref (He.ga K "_law_plain")),
  decide (PySem.W.nsIn K mainGlobals "_law_made" = some (some (.ref (He.ga K "_law_made")))),
  PySem.W.keepIn K (.ref (He.ga K "_law_made")),
  decide (PySem.W.nsIn K mainGlobals "_law_leaves" = some (some (.ref (He.ga K "_law_leaves")))),
  PySem.W.keepIn K (.ref (He.ga K "_law_leaves"))]
def ex1 (K : PySem.W.Frag) : List Bool := [
  decide (PySem.W.nsIn K mainGlobals "_law_modulus" = some (some (.ref (He.ga K "_law_modulus")))),
  PySem.W.keepIn K (.ref (He.ga K "_law_modulus")),
  decide (PySem.W.nsIn K mainGlobals "_law_fitting" = some (some (.ref (He.ga K "_law_fitting")))),
  PySem.W.keepIn K (.ref (He.ga K "_law_fitting")),
  decide (PySem.W.nsIn K mainGlobals "_law_text" = some (some (.ref (He.ga K "_law_text")))),
  PySem.W.keepIn K (.ref (He.ga K "_law_text")),
  decide (PySem.W.nsIn K mainGlobals "_law_other" = some (some (.ref (He.ga K "_law_other")))),
  PySem.W.keepIn K (.ref (He.ga K "_law_other")),
  decide (PySem.W.nsIn K mainGlobals "_law_right" = some (some (.ref (He.ga K "_law_right")))),
  PySem.W.keepIn K (.ref (He.ga K "_law_right")),
  decide (PySem.W.nsIn K mainGlobals "law" = some (some (.ref (He.ga K "law")))),
  PySem.W.keepIn K (.ref (He.ga K "law")),
  decide (PySem.W.nsIn K mainGlobals "Fixed" = some (some (.ref (He.ga K "Fixed")))),
  PySem.W.plainGet K (He.ga K "Fixed") Str.empty,
  PySem.W.hasDictIn K (He.ga K "Fixed"),
  PySem.W.plainOver K (He.ga K "Fixed"),
  decide (PySem.W.findIn K (.ref (He.ga K "Fixed")) "__setattr__" = some (some (.builtin "object.__setattr__"))),
  PySem.W.makesIn K (He.ga K "Fixed"),
  PySem.W.keepIn K (.ref (He.ga K "Fixed")),
  decide (PySem.W.findIn K (.ref (He.ga K "Fixed")) "size" = some none),
  decide (PySem.W.findIn K (.ref (He.ga K "Fixed")) "parts" = some none),
  decide (PySem.W.findIn K (.ref (He.ga K "Fixed")) "modulus" = some none),
  decide (PySem.W.findIn K (.ref (He.ga K "Fixed")) "__class__" = some (some (.builtin "object.__class__"))),
  decide (PySem.W.mroIn K (He.ga K "Fixed") (.type "object") = some true),
  decide (PySem.W.specialIn K (.builtin "object.__class__") "__get__" = some (some (.builtin "getset_descriptor.__get__"))),
  decide (PySem.W.takesIn K (.builtin "object.__class__") = some true),
  decide (PySem.W.findIn K (.ref (He.ga K "Fixed")) "__ne__" = some (some (.builtin "object.__ne__"))),
  decide (PySem.W.nsIn K mainGlobals "Divided" = some (some (.ref (He.ga K "Divided")))),
  PySem.W.plainGet K (He.ga K "Divided") Str.empty,
  PySem.W.hasDictIn K (He.ga K "Divided"),
  PySem.W.plainOver K (He.ga K "Divided"),
  decide (PySem.W.findIn K (.ref (He.ga K "Divided")) "__setattr__" = some (some (.builtin "object.__setattr__"))),
  PySem.W.makesIn K (He.ga K "Divided"),
  PySem.W.keepIn K (.ref (He.ga K "Divided")),
  decide (PySem.W.findIn K (.ref (He.ga K "Divided")) "x" = some none),
  decide (PySem.W.findIn K (.ref (He.ga K "Divided")) "y" = some none),
  decide (PySem.W.findIn K (.ref (He.ga K "Divided")) "w" = some none),
  decide (PySem.W.findIn K (.ref (He.ga K "Divided")) "parts" = some none),
  decide (PySem.W.findIn K (.ref (He.ga K "Divided")) "modulus" = some none),
  decide (PySem.W.findIn K (.ref (He.ga K "Divided")) "__class__" = some (some (.builtin "object.__class__")))]
def ex2 (K : PySem.W.Frag) : List Bool := [
  decide (PySem.W.mroIn K (He.ga K "Divided") (.type "object") = some true),
  decide (PySem.W.findIn K (.ref (He.ga K "Divided")) "__ne__" = some (some (.builtin "object.__ne__"))),
  decide (PySem.W.nsIn K mainGlobals "Lesser" = some (some (.ref (He.ga K "Lesser")))),
  PySem.W.plainGet K (He.ga K "Lesser") Str.empty,
  PySem.W.hasDictIn K (He.ga K "Lesser"),
  PySem.W.plainOver K (He.ga K "Lesser"),
  decide (PySem.W.findIn K (.ref (He.ga K "Lesser")) "__setattr__" = some (some (.builtin "object.__setattr__"))),
  PySem.W.makesIn K (He.ga K "Lesser"),
  PySem.W.keepIn K (.ref (He.ga K "Lesser")),
  decide (PySem.W.findIn K (.ref (He.ga K "Lesser")) "one" = some none),
  decide (PySem.W.findIn K (.ref (He.ga K "Lesser")) "other" = some none),
  decide (PySem.W.findIn K (.ref (He.ga K "Lesser")) "parts" = some none),
  decide (PySem.W.findIn K (.ref (He.ga K "Lesser")) "modulus" = some none),
  decide (PySem.W.findIn K (.ref (He.ga K "Lesser")) "__class__" = some (some (.builtin "object.__class__"))),
  decide (PySem.W.mroIn K (He.ga K "Lesser") (.type "object") = some true),
  decide (PySem.W.findIn K (.ref (He.ga K "Lesser")) "__ne__" = some (some (.builtin "object.__ne__"))),
  decide (PySem.W.nsIn K mainGlobals "Greater" = some (some (.ref (He.ga K "Greater")))),
  PySem.W.plainGet K (He.ga K "Greater") Str.empty,
  PySem.W.hasDictIn K (He.ga K "Greater"),
  PySem.W.plainOver K (He.ga K "Greater"),
  decide (PySem.W.findIn K (.ref (He.ga K "Greater")) "__setattr__" = some (some (.builtin "object.__setattr__"))),
  PySem.W.makesIn K (He.ga K "Greater"),
  PySem.W.keepIn K (.ref (He.ga K "Greater")),
  decide (PySem.W.findIn K (.ref (He.ga K "Greater")) "one" = some none),
  decide (PySem.W.findIn K (.ref (He.ga K "Greater")) "other" = some none),
  decide (PySem.W.findIn K (.ref (He.ga K "Greater")) "parts" = some none),
  decide (PySem.W.findIn K (.ref (He.ga K "Greater")) "modulus" = some none),
  decide (PySem.W.findIn K (.ref (He.ga K "Greater")) "__class__" = some (some (.builtin "object.__class__"))),
  decide (PySem.W.mroIn K (He.ga K "Greater") (.type "object") = some true),
  decide (PySem.W.findIn K (.ref (He.ga K "Greater")) "__ne__" = some (some (.builtin "object.__ne__"))),
  decide (PySem.W.nsIn K mainGlobals "By" = some (some (.ref (He.ga K "By")))),
  PySem.W.plainGet K (He.ga K "By") Str.empty,
  PySem.W.hasDictIn K (He.ga K "By"),
  PySem.W.plainOver K (He.ga K "By"),
  decide (PySem.W.findIn K (.ref (He.ga K "By")) "__setattr__" = some (some (.builtin "object.__setattr__"))),
  PySem.W.makesIn K (He.ga K "By"),
  PySem.W.keepIn K (.ref (He.ga K "By")),
  decide (PySem.W.findIn K (.ref (He.ga K "By")) "function" = some none),
  decide (PySem.W.findIn K (.ref (He.ga K "By")) "parts" = some none),
  decide (PySem.W.findIn K (.ref (He.ga K "By")) "modulus" = some none)]
def ex3 (K : PySem.W.Frag) : List Bool := [
  decide (PySem.W.nsIn K mainGlobals "Rule" = some (some (.ref (He.ga K "Rule")))),
  Hz.typB K (He.ga K "Rule"),
  PySem.W.readsIn K (He.ga K "Rule") (Hz.mcOf K (He.ga K "Rule")),
  decide (PySem.W.specialIn K (.ref (He.ga K "Rule")) "__getattribute__" = some (some (.builtin "type.__getattribute__"))),
  PySem.W.plainGet K (He.ga K "Rule") Str.empty,
  PySem.W.hasDictIn K (He.ga K "Rule"),
  PySem.W.plainOver K (He.ga K "Rule"),
  decide (PySem.W.findIn K (.ref (He.ga K "Rule")) "__setattr__" = some (some (.builtin "object.__setattr__"))),
  PySem.W.makesIn K (He.ga K "Rule"),
  PySem.W.keepIn K (.ref (He.ga K "Rule")),
  PySem.W.keepIn K (.ref (Hz.rAd K (Hz.pAd K (He.ga K "Rule") "read") "staticmethod")),
  Hz.getB K (He.ga K "Rule") "read" "staticmethod.__get__",
  Hz.recB K (Hz.pAd K (He.ga K "Rule") "read") "staticmethod",
  decide (PySem.W.findIn K (.ref (He.ga K "Fixed")) "__init__" = some (some (.ref (He.ma K (He.ga K "Fixed") "__init__")))),
  PySem.W.isFn K (.ref (He.ma K (He.ga K "Fixed") "__init__")),
  PySem.W.keepIn K (.ref (He.ma K (He.ga K "Fixed") "__init__")),
  decide (PySem.W.findIn K (.ref (He.ga K "Divided")) "__init__" = some (some (.ref (He.ma K (He.ga K "Divided") "__init__")))),
  PySem.W.isFn K (.ref (He.ma K (He.ga K "Divided") "__init__")),
  PySem.W.keepIn K (.ref (He.ma K (He.ga K "Divided") "__init__")),
  decide (PySem.W.findIn K (.ref (He.ga K "Lesser")) "__init__" = some (some (.ref (He.ma K (He.ga K "Lesser") "__init__")))),
  PySem.W.isFn K (.ref (He.ma K (He.ga K "Lesser") "__init__")),
  PySem.W.keepIn K (.ref (He.ma K (He.ga K "Lesser") "__init__")),
  decide (PySem.W.findIn K (.ref (He.ga K "Greater")) "__init__" = some (some (.ref (He.ma K (He.ga K "Greater") "__init__")))),
  PySem.W.isFn K (.ref (He.ma K (He.ga K "Greater") "__init__")),
  PySem.W.keepIn K (.ref (He.ma K (He.ga K "Greater") "__init__")),
  decide (PySem.W.findIn K (.ref (He.ga K "By")) "__init__" = some (some (.ref (He.ma K (He.ga K "By") "__init__")))),
  PySem.W.isFn K (.ref (He.ma K (He.ga K "By") "__init__")),
  PySem.W.keepIn K (.ref (He.ma K (He.ga K "By") "__init__")),
  decide (PySem.W.findIn K (.ref (He.ga K "Fixed")) "__str__" = some (some (.ref (He.ma K (He.ga K "Fixed") "__str__")))),
  PySem.W.isFn K (.ref (He.ma K (He.ga K "Fixed") "__str__")),
  PySem.W.keepIn K (.ref (He.ma K (He.ga K "Fixed") "__str__")),
  decide (PySem.W.findIn K (.ref (He.ga K "Fixed")) "__and__" = some (some (.ref (He.ma K (He.ga K "Fixed") "__and__")))),
  PySem.W.isFn K (.ref (He.ma K (He.ga K "Fixed") "__and__")),
  PySem.W.keepIn K (.ref (He.ma K (He.ga K "Fixed") "__and__")),
  decide (PySem.W.findIn K (.ref (He.ga K "Fixed")) "__or__" = some (some (.ref (He.ma K (He.ga K "Fixed") "__or__")))),
  PySem.W.isFn K (.ref (He.ma K (He.ga K "Fixed") "__or__")),
  PySem.W.keepIn K (.ref (He.ma K (He.ga K "Fixed") "__or__")),
  decide (PySem.W.findIn K (.ref (He.ga K "Fixed")) "__eq__" = some (some (.ref (He.ma K (He.ga K "Fixed") "__eq__")))),
  PySem.W.isFn K (.ref (He.ma K (He.ga K "Fixed") "__eq__")),
  PySem.W.keepIn K (.ref (He.ma K (He.ga K "Fixed") "__eq__"))]
def ex4 (K : PySem.W.Frag) : List Bool := [
  decide (PySem.W.findIn K (.ref (He.ga K "Divided")) "__str__" = some (some (.ref (He.ma K (He.ga K "Divided") "__str__")))),
  PySem.W.isFn K (.ref (He.ma K (He.ga K "Divided") "__str__")),
  PySem.W.keepIn K (.ref (He.ma K (He.ga K "Divided") "__str__")),
  decide (PySem.W.findIn K (.ref (He.ga K "Divided")) "__and__" = some (some (.ref (He.ma K (He.ga K "Divided") "__and__")))),
  PySem.W.isFn K (.ref (He.ma K (He.ga K "Divided") "__and__")),
  PySem.W.keepIn K (.ref (He.ma K (He.ga K "Divided") "__and__")),
  decide (PySem.W.findIn K (.ref (He.ga K "Divided")) "__or__" = some (some (.ref (He.ma K (He.ga K "Divided") "__or__")))),
  PySem.W.isFn K (.ref (He.ma K (He.ga K "Divided") "__or__")),
  PySem.W.keepIn K (.ref (He.ma K (He.ga K "Divided") "__or__")),
  decide (PySem.W.findIn K (.ref (He.ga K "Divided")) "__eq__" = some (some (.ref (He.ma K (He.ga K "Divided") "__eq__")))),
  PySem.W.isFn K (.ref (He.ma K (He.ga K "Divided") "__eq__")),
  PySem.W.keepIn K (.ref (He.ma K (He.ga K "Divided") "__eq__")),
  decide (PySem.W.findIn K (.ref (He.ga K "Lesser")) "__str__" = some (some (.ref (He.ma K (He.ga K "Lesser") "__str__")))),
  PySem.W.isFn K (.ref (He.ma K (He.ga K "Lesser") "__str__")),
  PySem.W.keepIn K (.ref (He.ma K (He.ga K "Lesser") "__str__")),
  decide (PySem.W.findIn K (.ref (He.ga K "Lesser")) "__and__" = some (some (.ref (He.ma K (He.ga K "Lesser") "__and__")))),
  PySem.W.isFn K (.ref (He.ma K (He.ga K "Lesser") "__and__")),
  PySem.W.keepIn K (.ref (He.ma K (He.ga K "Lesser") "__and__")),
  decide (PySem.W.findIn K (.ref (He.ga K "Lesser")) "__or__" = some (some (.ref (He.ma K (He.ga K "Lesser") "__or__")))),
  PySem.W.isFn K (.ref (He.ma K (He.ga K "Lesser") "__or__")),
  PySem.W.keepIn K (.ref (He.ma K (He.ga K "Lesser") "__or__")),
  decide (PySem.W.findIn K (.ref (He.ga K "Lesser")) "__eq__" = some (some (.ref (He.ma K (He.ga K "Lesser") "__eq__")))),
  PySem.W.isFn K (.ref (He.ma K (He.ga K "Lesser") "__eq__")),
  PySem.W.keepIn K (.ref (He.ma K (He.ga K "Lesser") "__eq__")),
  decide (PySem.W.findIn K (.ref (He.ga K "Greater")) "__str__" = some (some (.ref (He.ma K (He.ga K "Greater") "__str__")))),
  PySem.W.isFn K (.ref (He.ma K (He.ga K "Greater") "__str__")),
  PySem.W.keepIn K (.ref (He.ma K (He.ga K "Greater") "__str__")),
  decide (PySem.W.findIn K (.ref (He.ga K "Greater")) "__and__" = some (some (.ref (He.ma K (He.ga K "Greater") "__and__")))),
  PySem.W.isFn K (.ref (He.ma K (He.ga K "Greater") "__and__")),
  PySem.W.keepIn K (.ref (He.ma K (He.ga K "Greater") "__and__")),
  decide (PySem.W.findIn K (.ref (He.ga K "Greater")) "__or__" = some (some (.ref (He.ma K (He.ga K "Greater") "__or__")))),
  PySem.W.isFn K (.ref (He.ma K (He.ga K "Greater") "__or__")),
  PySem.W.keepIn K (.ref (He.ma K (He.ga K "Greater") "__or__")),
  decide (PySem.W.findIn K (.ref (He.ga K "Greater")) "__eq__" = some (some (.ref (He.ma K (He.ga K "Greater") "__eq__")))),
  PySem.W.isFn K (.ref (He.ma K (He.ga K "Greater") "__eq__")),
  PySem.W.keepIn K (.ref (He.ma K (He.ga K "Greater") "__eq__")),
  decide (PySem.W.findIn K (.ref (He.ga K "By")) "__str__" = some (some (.ref (He.ma K (He.ga K "By") "__str__")))),
  PySem.W.isFn K (.ref (He.ma K (He.ga K "By") "__str__")),
  PySem.W.keepIn K (.ref (He.ma K (He.ga K "By") "__str__")),
  decide (PySem.W.nsIn K mainGlobals "Reader" = some (some (.ref (He.ga K "Reader"))))]
def ex5 (K : PySem.W.Frag) : List Bool := [
  PySem.W.plainGet K (He.ga K "Reader") Str.empty,
  PySem.W.hasDictIn K (He.ga K "Reader"),
  PySem.W.plainOver K (He.ga K "Reader"),
  decide (PySem.W.findIn K (.ref (He.ga K "Reader")) "__setattr__" = some (some (.builtin "object.__setattr__"))),
  PySem.W.makesIn K (He.ga K "Reader"),
  PySem.W.keepIn K (.ref (He.ga K "Reader")),
  decide (PySem.W.findIn K (.ref (He.ga K "Reader")) "_words" = some none),
  decide (PySem.W.findIn K (.ref (He.ga K "Reader")) "_row" = some none),
  decide (PySem.W.findIn K (.ref (He.ga K "Reader")) "_at" = some none),
  decide (PySem.W.findIn K (.ref (He.ga K "Reader")) "__init__" = some (some (.ref (He.ma K (He.ga K "Reader") "__init__")))),
  PySem.W.isFn K (.ref (He.ma K (He.ga K "Reader") "__init__")),
  PySem.W.keepIn K (.ref (He.ma K (He.ga K "Reader") "__init__")),
  decide (PySem.W.findIn K (.ref (He.ga K "Reader")) "at_hand" = some (some (.ref (He.ma K (He.ga K "Reader") "at_hand")))),
  PySem.W.isFn K (.ref (He.ma K (He.ga K "Reader") "at_hand")),
  PySem.W.keepIn K (.ref (He.ma K (He.ga K "Reader") "at_hand")),
  decide (PySem.W.findIn K (.ref (He.ga K "Reader")) "refuse" = some (some (.ref (He.ma K (He.ga K "Reader") "refuse")))),
  PySem.W.isFn K (.ref (He.ma K (He.ga K "Reader") "refuse")),
  PySem.W.keepIn K (.ref (He.ma K (He.ga K "Reader") "refuse")),
  decide (PySem.W.findIn K (.ref (He.ga K "Reader")) "take" = some (some (.ref (He.ma K (He.ga K "Reader") "take")))),
  PySem.W.isFn K (.ref (He.ma K (He.ga K "Reader") "take")),
  PySem.W.keepIn K (.ref (He.ma K (He.ga K "Reader") "take")),
  decide (PySem.W.findIn K (.ref (He.ga K "Reader")) "expect" = some (some (.ref (He.ma K (He.ga K "Reader") "expect")))),
  PySem.W.isFn K (.ref (He.ma K (He.ga K "Reader") "expect")),
  PySem.W.keepIn K (.ref (He.ma K (He.ga K "Reader") "expect")),
  decide (PySem.W.findIn K (.ref (He.ga K "Reader")) "finish" = some (some (.ref (He.ma K (He.ga K "Reader") "finish")))),
  PySem.W.isFn K (.ref (He.ma K (He.ga K "Reader") "finish")),
  PySem.W.keepIn K (.ref (He.ma K (He.ga K "Reader") "finish")),
  decide (PySem.W.findIn K (.ref (He.ga K "Reader")) "integer" = some (some (.ref (He.ma K (He.ga K "Reader") "integer")))),
  PySem.W.isFn K (.ref (He.ma K (He.ga K "Reader") "integer")),
  PySem.W.keepIn K (.ref (He.ma K (He.ga K "Reader") "integer")),
  PySem.W.selfFirst K (He.ga K "Fixed"),
  decide (PySem.W.findIn K (.ref (He.ga K "Fixed")) "__rand__" = some none),
  decide (PySem.W.findIn K (.ref (He.ga K "Fixed")) "__ror__" = some none),
  decide (PySem.W.findIn K (.ref (He.ga K "Fixed")) "__format__" = some (some (.builtin "object.__format__"))),
  decide (PySem.W.subIn K (.ref (He.ga K "Divided")) (.ref (He.ga K "Fixed")) = some false),
  decide (PySem.W.subIn K (.ref (He.ga K "Lesser")) (.ref (He.ga K "Fixed")) = some false),
  decide (PySem.W.subIn K (.ref (He.ga K "Greater")) (.ref (He.ga K "Fixed")) = some false),
  decide ((He.ga K "Fixed") ≠ (He.ga K "Divided")),
  decide ((He.ga K "Fixed") ≠ (He.ga K "Lesser")),
  decide ((He.ga K "Fixed") ≠ (He.ga K "Greater"))]
def ex6 (K : PySem.W.Frag) : List Bool := [
  PySem.W.selfFirst K (He.ga K "Divided"),
  decide (PySem.W.findIn K (.ref (He.ga K "Divided")) "__rand__" = some none),
  decide (PySem.W.findIn K (.ref (He.ga K "Divided")) "__ror__" = some none),
  decide (PySem.W.findIn K (.ref (He.ga K "Divided")) "__format__" = some (some (.builtin "object.__format__"))),
  decide (PySem.W.subIn K (.ref (He.ga K "Fixed")) (.ref (He.ga K "Divided")) = some false),
  decide (PySem.W.subIn K (.ref (He.ga K "Lesser")) (.ref (He.ga K "Divided")) = some false),
  decide (PySem.W.subIn K (.ref (He.ga K "Greater")) (.ref (He.ga K "Divided")) = some false),
  decide ((He.ga K "Divided") ≠ (He.ga K "Lesser")),
  decide ((He.ga K "Divided") ≠ (He.ga K "Greater")),
  PySem.W.selfFirst K (He.ga K "Lesser"),
  decide (PySem.W.findIn K (.ref (He.ga K "Lesser")) "__rand__" = some none),
  decide (PySem.W.findIn K (.ref (He.ga K "Lesser")) "__ror__" = some none),
  decide (PySem.W.findIn K (.ref (He.ga K "Lesser")) "__format__" = some (some (.builtin "object.__format__"))),
  decide (PySem.W.subIn K (.ref (He.ga K "Fixed")) (.ref (He.ga K "Lesser")) = some false),
  decide (PySem.W.subIn K (.ref (He.ga K "Divided")) (.ref (He.ga K "Lesser")) = some false),
  decide (PySem.W.subIn K (.ref (He.ga K "Greater")) (.ref (He.ga K "Lesser")) = some false),
  decide ((He.ga K "Lesser") ≠ (He.ga K "Greater")),
  PySem.W.selfFirst K (He.ga K "Greater"),
  decide (PySem.W.findIn K (.ref (He.ga K "Greater")) "__rand__" = some none),
  decide (PySem.W.findIn K (.ref (He.ga K "Greater")) "__ror__" = some none),
  decide (PySem.W.findIn K (.ref (He.ga K "Greater")) "__format__" = some (some (.builtin "object.__format__"))),
  decide (PySem.W.subIn K (.ref (He.ga K "Fixed")) (.ref (He.ga K "Greater")) = some false),
  decide (PySem.W.subIn K (.ref (He.ga K "Divided")) (.ref (He.ga K "Greater")) = some false),
  decide (PySem.W.subIn K (.ref (He.ga K "Lesser")) (.ref (He.ga K "Greater")) = some false),
  decide (PySem.W.kitOne K (.ref (He.ga K "Fixed")) (.ref (He.ga K "Divided")) = some false),
  PySem.W.notFirst K (He.ga K "Fixed") (.ref (He.ga K "Divided")),
  decide (PySem.W.kitOne K (.ref (He.ga K "Fixed")) (.ref (He.ga K "Lesser")) = some false),
  PySem.W.notFirst K (He.ga K "Fixed") (.ref (He.ga K "Lesser")),
  decide (PySem.W.kitOne K (.ref (He.ga K "Fixed")) (.ref (He.ga K "Greater")) = some false),
  PySem.W.notFirst K (He.ga K "Fixed") (.ref (He.ga K "Greater")),
  decide (PySem.W.kitOne K (.type "str") (.ref (He.ga K "Fixed")) = some false),
  PySem.W.notFirst K (He.ga K "Fixed") (.type "str"),
  decide (PySem.W.kitOne K (.type "tuple") (.ref (He.ga K "Fixed")) = some false),
  PySem.W.notFirst K (He.ga K "Fixed") (.type "tuple"),
  decide (PySem.W.kitOne K (.ref (He.ga K "Divided")) (.ref (He.ga K "Fixed")) = some false),
  PySem.W.notFirst K (He.ga K "Divided") (.ref (He.ga K "Fixed")),
  decide (PySem.W.kitOne K (.ref (He.ga K "Divided")) (.ref (He.ga K "Lesser")) = some false),
  PySem.W.notFirst K (He.ga K "Divided") (.ref (He.ga K "Lesser")),
  decide (PySem.W.kitOne K (.ref (He.ga K "Divided")) (.ref (He.ga K "Greater")) = some false),
  PySem.W.notFirst K (He.ga K "Divided") (.ref (He.ga K "Greater"))]
def ex7 (K : PySem.W.Frag) : List Bool := [
  decide (PySem.W.kitOne K (.type "str") (.ref (He.ga K "Divided")) = some false),
  PySem.W.notFirst K (He.ga K "Divided") (.type "str"),
  decide (PySem.W.kitOne K (.type "tuple") (.ref (He.ga K "Divided")) = some false),
  PySem.W.notFirst K (He.ga K "Divided") (.type "tuple"),
  decide (PySem.W.kitOne K (.ref (He.ga K "Lesser")) (.ref (He.ga K "Fixed")) = some false),
  PySem.W.notFirst K (He.ga K "Lesser") (.ref (He.ga K "Fixed")),
  decide (PySem.W.kitOne K (.ref (He.ga K "Lesser")) (.ref (He.ga K "Divided")) = some false),
  PySem.W.notFirst K (He.ga K "Lesser") (.ref (He.ga K "Divided")),
  decide (PySem.W.kitOne K (.ref (He.ga K "Lesser")) (.ref (He.ga K "Greater")) = some false),
  PySem.W.notFirst K (He.ga K "Lesser") (.ref (He.ga K "Greater")),
  decide (PySem.W.kitOne K (.type "str") (.ref (He.ga K "Lesser")) = some false),
  PySem.W.notFirst K (He.ga K "Lesser") (.type "str"),
  decide (PySem.W.kitOne K (.type "tuple") (.ref (He.ga K "Lesser")) = some false),
  PySem.W.notFirst K (He.ga K "Lesser") (.type "tuple"),
  decide (PySem.W.kitOne K (.ref (He.ga K "Greater")) (.ref (He.ga K "Fixed")) = some false),
  PySem.W.notFirst K (He.ga K "Greater") (.ref (He.ga K "Fixed")),
  decide (PySem.W.kitOne K (.ref (He.ga K "Greater")) (.ref (He.ga K "Divided")) = some false),
  PySem.W.notFirst K (He.ga K "Greater") (.ref (He.ga K "Divided")),
  decide (PySem.W.kitOne K (.ref (He.ga K "Greater")) (.ref (He.ga K "Lesser")) = some false),
  PySem.W.notFirst K (He.ga K "Greater") (.ref (He.ga K "Lesser")),
  decide (PySem.W.kitOne K (.type "str") (.ref (He.ga K "Greater")) = some false),
  PySem.W.notFirst K (He.ga K "Greater") (.type "str"),
  decide (PySem.W.kitOne K (.type "tuple") (.ref (He.ga K "Greater")) = some false),
  PySem.W.notFirst K (He.ga K "Greater") (.type "tuple"),
  decide (PySem.W.nsIn K mainGlobals "lcm" = some (some (.builtin "math.lcm"))),
  decide (PySem.W.nsIn K mainGlobals "BadRule" = some (some (.ref (He.ga K "BadRule")))),
  Hz.exB K (He.ga K "BadRule") "ValueError.__new__",
  decide (PySem.W.findIn K (.ref (He.ga K "BadRule")) "__setattr__" = some (some (.builtin "object.__setattr__"))),
  decide (PySem.W.subIn K (.ref (He.ga K "BadRule")) (.type "BaseException") = some true),
  decide (PySem.W.typeIn K (.ref (He.ga K "BadRule")) = some (.type "type")),
  PySem.W.keepIn K (.ref (He.ga K "BadRule")),
  decide (PySem.W.findIn K (.ref (He.ga K "BadRule")) "__init__" = some (some (.ref (He.ma K (He.ga K "BadRule") "__init__")))),
  decide (PySem.W.typeIn K (.ref (He.ma K (He.ga K "BadRule") "__init__")) = some (.type "function")),
  decide (PySem.W.findIn K (.ref (He.ga K "BadRule")) "part" = some none),
  decide (PySem.W.nsIn K mainGlobals "BadSize" = some (some (.ref (He.ga K "BadSize")))),
  Hz.exB K (He.ga K "BadSize") "ValueError.__new__",
  decide (PySem.W.findIn K (.ref (He.ga K "BadSize")) "__setattr__" = some (some (.builtin "object.__setattr__"))),
  decide (PySem.W.subIn K (.ref (He.ga K "BadSize")) (.type "BaseException") = some true),
  decide (PySem.W.typeIn K (.ref (He.ga K "BadSize")) = some (.type "type")),
  PySem.W.keepIn K (.ref (He.ga K "BadSize"))]
def ex8 (K : PySem.W.Frag) : List Bool := [
  decide (PySem.W.findIn K (.ref (He.ga K "BadSize")) "__init__" = some (some (.ref (He.ma K (He.ga K "BadSize") "__init__")))),
  decide (PySem.W.typeIn K (.ref (He.ma K (He.ga K "BadSize") "__init__")) = some (.type "function")),
  decide (PySem.W.findIn K (.ref (He.ga K "BadSize")) "value" = some none),
  decide (PySem.W.nsIn K mainGlobals "BadText" = some (some (.ref (He.ga K "BadText")))),
  Hz.exB K (He.ga K "BadText") "ValueError.__new__",
  decide (PySem.W.findIn K (.ref (He.ga K "BadText")) "__setattr__" = some (some (.builtin "object.__setattr__"))),
  decide (PySem.W.subIn K (.ref (He.ga K "BadText")) (.type "BaseException") = some true),
  decide (PySem.W.typeIn K (.ref (He.ga K "BadText")) = some (.type "type")),
  PySem.W.keepIn K (.ref (He.ga K "BadText")),
  decide (PySem.W.findIn K (.ref (He.ga K "BadText")) "__init__" = some (some (.ref (He.ma K (He.ga K "BadText") "__init__")))),
  decide (PySem.W.typeIn K (.ref (He.ma K (He.ga K "BadText") "__init__")) = some (.type "function")),
  decide (PySem.W.findIn K (.ref (He.ga K "BadText")) "line" = some none),
  decide (PySem.W.findIn K (.ref (He.ga K "BadText")) "word" = some none),
  decide (PySem.W.nsIn K mainGlobals "TooMany" = some (some (.ref (He.ga K "TooMany")))),
  Hz.exB K (He.ga K "TooMany") "ValueError.__new__",
  decide (PySem.W.findIn K (.ref (He.ga K "TooMany")) "__setattr__" = some (some (.builtin "object.__setattr__"))),
  decide (PySem.W.subIn K (.ref (He.ga K "TooMany")) (.type "BaseException") = some true),
  decide (PySem.W.typeIn K (.ref (He.ga K "TooMany")) = some (.type "type")),
  PySem.W.keepIn K (.ref (He.ga K "TooMany")),
  decide (PySem.W.findIn K (.ref (He.ga K "TooMany")) "__init__" = some (some (.ref (He.ma K (He.ga K "TooMany") "__init__")))),
  decide (PySem.W.typeIn K (.ref (He.ma K (He.ga K "TooMany") "__init__")) = some (.type "function")),
  decide (PySem.W.findIn K (.ref (He.ga K "TooMany")) "what" = some none),
  decide (PySem.W.findIn K (.ref (He.ga K "TooMany")) "most" = some none),
  Hz.intB K "MOST_FACTOR" (24),
  Hz.intB K "MOST_START" (1000),
  Hz.intB K "GREATEST_SIZE" (10 ^ 30),
  Hz.intB K "MOST_PARTS" (6),
  Hz.intB K "MOST_RESIDUES" (5000),
  Hz.intB K "PIECE_FIGURES" (60),
  Hz.intB K "PIECE_WORTH" (10 ^ 60),
  decide (PySem.W.nsIn K mainGlobals "SIGNS" = some (some (.ref (He.ga K "SIGNS")))),
  Hz.tupB K (He.ga K "SIGNS") [.str "&", .str "|"],
  decide (PySem.W.nsIn K mainGlobals "int" = some none),
  decide (PySem.W.nsIn K mainGlobals "list" = some none),
  decide (PySem.W.nsIn K mainGlobals "len" = some none),
  decide (PySem.W.nsIn K mainGlobals "abs" = some none),
  decide (PySem.W.nsIn K mainGlobals "bool" = some none),
  decide (PySem.W.nsIn K mainGlobals "str" = some none),
  decide (PySem.W.nsIn K mainGlobals "isinstance" = some none),
  decide (PySem.W.nsIn K mainGlobals "range" = some none)]
def ex9 (K : PySem.W.Frag) : List Bool := [
  decide (PySem.W.nsIn K mainGlobals "repr" = some none),
  decide (PySem.W.nsIn K mainGlobals "all" = some none),
  decide (PySem.W.tabIn K "law" = some (He.cT K ("law", none)))]
def exK (K : PySem.W.Frag) : List (List Bool) := [ex0 K, ex1 K, ex2 K, ex3 K, ex4 K, ex5 K, ex6 K, ex7 K, ex8 K, ex9 K]
def hAS : List Addr := (mainGlobals :: (List.range 1200).reverse)
abbrev hR : PySem.W.OpenRow := PySem.W.OpenLaw.row PySem.Challenge.rw_latechunks_k48_texts_of_rules
abbrev hkZ : PySem.W.Hook := Hz.hookZ hAS hfn htf exK
def hob (s : PySem.W.SharedT) : List He.FnW × Bool := Hz.obsZ hAS hfn htf exK (HandSHeadRun.getT s)
theorem hob_eq (s : PySem.W.SharedT) : hob s = hkZ.obs s.abs := Hz.obsZ_eq (HandSHeadRun.getT_eq s)
set_option maxHeartbeats 0
theorem map3 {α β γ δ : Type _} {o : Option α} {f : α → β} {g : α → γ} {k : α → δ} {b : β} {c : γ} {d : δ} (h1 : o.map (fun x => (f x, g x)) = some (b, c)) (h2 : o.map k = some d) : o.map (fun x => (f x, g x, k x)) = some (b, c, d) := by
  cases o with
  | none => cases h1
  | some x =>
    have e1 : (f x, g x) = (b, c) := Option.some.inj h1
    have e2 : k x = d := Option.some.inj h2
    exact congrArg some (Prod.ext (Prod.mk.inj e1).1 (Prod.ext (Prod.mk.inj e1).2 e2))
theorem run_1a (w : World) : (HandSHeadRun.wholeF (fun p => HandSHeadRun.stepQ (HandSHeadRun.denQ HandSHeadRun.tabQ) p w) HandSHeadRun.fenceQ 12000 hR.prog).map (fun x => (HandSHeadRun.looksF hR.prog x.1.heap x.2.abs, HandSHeadRun.seenQ (PySem.W.view hR.prog [0, 58]) ((["_wall", "GREATEST_SIZE", "is_integer", "is_within", "is_size", "LateError", "BadSize", "BadRest", "BadRule", "BadText", "TooMany", "PIECE_FIGURES", "PIECE_WORTH", "integer_of", "number_of", "Reader", "MOST_PARTS", "MOST_FACTOR", "MOST_START", "SIGNS", "is_factor", "is_start", "read_rule", "read_part", "read_sign", "MOST_RESIDUES", "Rule", "Fixed", "Divided", "Lesser"] : List PySem.Str) ++ (["Greater", "By", "check_rest", "check_joined", "check_modulus", "chunk_for", "rule_of", "_law_pen", "_law_draw", "_law_pick", "_law_leaf", "_law_plain", "_law_made", "_law_wish", "_law_chunk", "_law_text", "_law_leaves", "_law_modulus", "_law_fitting", "_law_other", "_law_right"] : List PySem.Str)) (PySem.importedModules hR.prog.main.body) (fun s => PySem.W.xlAt (PySem.W.view hR.prog [0, 58]) [] s && PySem.W.recOk hR.toRowW.records s) x.2.abs)) = some (true, (PySem.W.openGood (PySem.W.view hR.prog [0, 58]) ((["_wall", "GREATEST_SIZE", "is_integer", "is_within", "is_size", "LateError", "BadSize", "BadRest", "BadRule", "BadText", "TooMany", "PIECE_FIGURES", "PIECE_WORTH", "integer_of", "number_of", "Reader", "MOST_PARTS", "MOST_FACTOR", "MOST_START", "SIGNS", "is_factor", "is_start", "read_rule", "read_part", "read_sign", "MOST_RESIDUES", "Rule", "Fixed", "Divided", "Lesser"] : List PySem.Str) ++ (["Greater", "By", "check_rest", "check_joined", "check_modulus", "chunk_for", "rule_of", "_law_pen", "_law_draw", "_law_pick", "_law_leaf", "_law_plain", "_law_made", "_law_wish", "_law_chunk", "_law_text", "_law_leaves", "_law_modulus", "_law_fitting", "_law_other", "_law_right"] : List PySem.Str)))) := by
  kernel_rfl
theorem run_1b (w : World) : (HandSHeadRun.wholeF (fun p => HandSHeadRun.stepQ (HandSHeadRun.denQ HandSHeadRun.tabQ) p w) HandSHeadRun.fenceQ 12000 hR.prog).map (fun x => hfn.map fun d => Hz.fnAt (He.frT (HandSHeadRun.getT x.2) hAS) (d.adr (He.frT (HandSHeadRun.getT x.2) hAS))) = some (hfn.map Hz.DefA.val) := by
  kernel_rfl
theorem run_1 (w : World) : (HandSHeadRun.wholeF (fun p => HandSHeadRun.stepQ (HandSHeadRun.denQ HandSHeadRun.tabQ) p w) HandSHeadRun.fenceQ 12000 hR.prog).map (fun x => (HandSHeadRun.looksF hR.prog x.1.heap x.2.abs, HandSHeadRun.seenQ (PySem.W.view hR.prog [0, 58]) ((["_wall", "GREATEST_SIZE", "is_integer", "is_within", "is_size", "LateError", "BadSize", "BadRest", "BadRule", "BadText", "TooMany", "PIECE_FIGURES", "PIECE_WORTH", "integer_of", "number_of", "Reader", "MOST_PARTS", "MOST_FACTOR", "MOST_START", "SIGNS", "is_factor", "is_start", "read_rule", "read_part", "read_sign", "MOST_RESIDUES", "Rule", "Fixed", "Divided", "Lesser"] : List PySem.Str) ++ (["Greater", "By", "check_rest", "check_joined", "check_modulus", "chunk_for", "rule_of", "_law_pen", "_law_draw", "_law_pick", "_law_leaf", "_law_plain", "_law_made", "_law_wish", "_law_chunk", "_law_text", "_law_leaves", "_law_modulus", "_law_fitting", "_law_other", "_law_right"] : List PySem.Str)) (PySem.importedModules hR.prog.main.body) (fun s => PySem.W.xlAt (PySem.W.view hR.prog [0, 58]) [] s && PySem.W.recOk hR.toRowW.records s) x.2.abs, hfn.map fun d => Hz.fnAt (He.frT (HandSHeadRun.getT x.2) hAS) (d.adr (He.frT (HandSHeadRun.getT x.2) hAS)))) = some (true, (PySem.W.openGood (PySem.W.view hR.prog [0, 58]) ((["_wall", "GREATEST_SIZE", "is_integer", "is_within", "is_size", "LateError", "BadSize", "BadRest", "BadRule", "BadText", "TooMany", "PIECE_FIGURES", "PIECE_WORTH", "integer_of", "number_of", "Reader", "MOST_PARTS", "MOST_FACTOR", "MOST_START", "SIGNS", "is_factor", "is_start", "read_rule", "read_part", "read_sign", "MOST_RESIDUES", "Rule", "Fixed", "Divided", "Lesser"] : List PySem.Str) ++ (["Greater", "By", "check_rest", "check_joined", "check_modulus", "chunk_for", "rule_of", "_law_pen", "_law_draw", "_law_pick", "_law_leaf", "_law_plain", "_law_made", "_law_wish", "_law_chunk", "_law_text", "_law_leaves", "_law_modulus", "_law_fitting", "_law_other", "_law_right"] : List PySem.Str))), hfn.map Hz.DefA.val) := map3 (run_1a w) (run_1b w)
theorem all2 {α β : Type _} {o : Option α} {l : List β} {p : α → β → Bool} (n : Nat) (h1 : o.map (fun x => (l.take n).all (p x)) = some true) (h2 : o.map (fun x => (l.drop n).all (p x)) = some true) : o.map (fun x => l.all (p x)) = some true := by
  cases o with
  | none => cases h1
  | some x =>
    have e1 : (l.take n).all (p x) = true := Option.some.inj h1
    have e2 : (l.drop n).all (p x) = true := Option.some.inj h2
    show some (l.all (p x)) = some true
    have e := List.take_append_drop n l
    rw [← e, List.all_append, e1, e2]; rfl
theorem run_2a (w : World) : (HandSHeadRun.wholeF (fun p => HandSHeadRun.stepQ (HandSHeadRun.denQ HandSHeadRun.tabQ) p w) HandSHeadRun.fenceQ 12000 hR.prog).map (fun x => (hfn.take 30).all fun d => d.ok (He.frT (HandSHeadRun.getT x.2) hAS)) = some true := by
  kernel_rfl
theorem run_2b (w : World) : (HandSHeadRun.wholeF (fun p => HandSHeadRun.stepQ (HandSHeadRun.denQ HandSHeadRun.tabQ) p w) HandSHeadRun.fenceQ 12000 hR.prog).map (fun x => (hfn.drop 30).all fun d => d.ok (He.frT (HandSHeadRun.getT x.2) hAS)) = some true := by
  kernel_rfl
theorem run_2 (w : World) : (HandSHeadRun.wholeF (fun p => HandSHeadRun.stepQ (HandSHeadRun.denQ HandSHeadRun.tabQ) p w) HandSHeadRun.fenceQ 12000 hR.prog).map (fun x => hfn.all fun d => d.ok (He.frT (HandSHeadRun.getT x.2) hAS)) = some true := all2 30 (run_2a w) (run_2b w)
theorem run_3 (w : World) : (HandSHeadRun.wholeF (fun p => HandSHeadRun.stepQ (HandSHeadRun.denQ HandSHeadRun.tabQ) p w) HandSHeadRun.fenceQ 12000 hR.prog).map (fun x => (exK (He.frT (HandSHeadRun.getT x.2) hAS)).all (fun l => l.all id) && He.tabsB (HandSHeadRun.getT x.2) htf (He.frT (HandSHeadRun.getT x.2) hAS)) = some true := by
  kernel_rfl
theorem head_run (w : World) : HandSHeadRun.RunEqI hR (PySem.W.view hR.prog [0, 58]) hkZ hob 12000 ((["_wall", "GREATEST_SIZE", "is_integer", "is_within", "is_size", "LateError", "BadSize", "BadRest", "BadRule", "BadText", "TooMany", "PIECE_FIGURES", "PIECE_WORTH", "integer_of", "number_of", "Reader", "MOST_PARTS", "MOST_FACTOR", "MOST_START", "SIGNS", "is_factor", "is_start", "read_rule", "read_part", "read_sign", "MOST_RESIDUES", "Rule", "Fixed", "Divided", "Lesser"] : List PySem.Str) ++ (["Greater", "By", "check_rest", "check_joined", "check_modulus", "chunk_for", "rule_of", "_law_pen", "_law_draw", "_law_pick", "_law_leaf", "_law_plain", "_law_made", "_law_wish", "_law_chunk", "_law_text", "_law_leaves", "_law_modulus", "_law_fitting", "_law_other", "_law_right"] : List PySem.Str)) w := by
  unfold HandSHeadRun.RunEqI
  exact Hz.comb (run_1 w) (run_2 w) (run_3 w)
end Lw
namespace Lw
open PySem PySem.Spec PyProof.Rows L2
def top (i : Nat) : Stmt := PySem.Challenge.pw_latechunks_k48_texts_of_rules.main.body.getD i (.Pass ⟨0, 0, 0, 0⟩)

theorem stir {x s : Int} (hx0 : 0 ≤ x) (hx : x < 2147483648) (hs0 : 0 ≤ s) (hs : s ≤ 1000000) (e f g : Int) (he0 : 0 ≤ e) (he : e ≤ 1000) (hf0 : 0 ≤ f) (hf : f ≤ 1000000) (hg0 : 0 ≤ g) (hg : g ≤ 1000000) :
    (x * (2 * s + e) + f * s * s + g).natAbs < 2 ^ 64 := by
  have a0 : 0 ≤ x * (2 * s + e) := Int.mul_nonneg hx0 (by omega)
  have a1 : x * (2 * s + e) ≤ 2147483648 * 2001000 := Int.mul_le_mul (by omega) (by omega) (by omega) (by omega)
  have b0 : 0 ≤ f * s := Int.mul_nonneg hf0 hs0
  have b1 : f * s ≤ 1000000 * 1000000 := Int.mul_le_mul hf hs hs0 (by omega)
  have c0 : 0 ≤ f * s * s := Int.mul_nonneg b0 hs0
  have c1 : f * s * s ≤ 1000000 * 1000000 * 1000000 := Int.mul_le_mul b1 hs hs0 (by omega)
  omega
theorem fsmall {f s : Int} (hf0 : 0 ≤ f) (hf : f ≤ 1000000) (hs0 : 0 ≤ s) (hs : s ≤ 1000000) : -(2 ^ 64) < f * s ∧ f * s < 2 ^ 64 := by
  have b0 : 0 ≤ f * s := Int.mul_nonneg hf0 hs0
  have b1 : f * s ≤ 1000000 * 1000000 := Int.mul_le_mul hf hs hs0 (by omega)
  omega
theorem fm0 {a d : Int} (hd : 0 < d) : 0 ≤ Int.fmod a d := Int.fmod_nonneg_of_pos _ hd
theorem fm1 {a d : Int} (hd : 0 < d) (h : d ≤ 2147483648) : Int.fmod a d < 2147483648 := Int.lt_of_lt_of_le (Int.fmod_lt_of_pos _ hd) h
theorem fm64 {a d : Int} (hd : 0 < d) (h : d ≤ 2147483648) : -(2 ^ 64) < Int.fmod a d ∧ Int.fmod a d < 2 ^ 64 := by
  have h0 := fm0 (a := a) hd
  have h1 := fm1 (a := a) hd h
  omega
theorem ite_false_of {c : Bool} {A B : Prop} (h : ¬ c = true) (hb : B) : if c = true then A else B := by rw [if_neg h]; exact hb
/-- behind an if: what both ways end in -/
theorem join_if {t u : TS} {D : Ends} {b : Bool} {σ : L2.St} {H : Hp} (Pj : L2.St → Hp → Prop) (hr : ∀ σ' H', Pj σ' H' → D.nx σ' H') (h : (∀ σ' H', Pj σ' H' → D.nx σ' H') → if b = true then t D σ H else u D σ H) : if b = true then t D σ H else u D σ H := h hr
theorem lay_ints : ∀ xs : List Int, PyData.canLayAll0 (xs.map PyData.int) = true
  | [] => rfl
  | x :: r => by
    show (PyData.canLay0 (.int x) && PyData.canLayAll0 (r.map PyData.int)) = true
    rw [lay_ints r]; rfl
theorem depth_ints : ∀ xs : List Int, PyData.depthAll (xs.map PyData.int) = 0
  | [] => rfl
  | x :: r => by
    show max (PyData.depth (.int x)) (PyData.depthAll (r.map PyData.int)) = 0
    rw [depth_ints r]; rfl
theorem shaped_ints (xs : List Int) : SeqAt.shaped (.list (xs.map PyData.int)) = true := by
  unfold SeqAt.shaped
  have h1 : PyData.canLay0 (.list (xs.map PyData.int)) = true := lay_ints xs
  have h2 : PyData.depth (.list (xs.map PyData.int)) = 1 := by
    show PyData.depthAll (xs.map PyData.int) + 1 = 1
    rw [depth_ints]
  rw [h1, h2]; rfl
theorem dp_ints {K : PySem.W.Frag} {H : Hp} : ∀ xs : List Int, DpAll K H (xs.map V.int) (xs.map PyData.int)
  | [] => .nil
  | x :: r => .cons (.int x) (dp_ints r)
theorem eqv_nil (xs : List Int) : PyData.eqv (.list (xs.map PyData.int)) (.list []) = decide (xs = []) := by
  cases xs <;> rfl
abbrev sPen : Stmt := top 44
abbrev sDraw : Stmt := top 45
abbrev sPick : Stmt := top 46
/-- all but what stands at p is as it was -/
def Kp (p : Addr) (H H' : Hp) : Prop := ∀ b o, b ≠ p → H b = some o → H' b = some o
/-- a pen at p: its numbers at l, its place, its rest -/
structure PenAt (H : Hp) (p l : Addr) (xs : List Int) (s g : Int) : Prop where
  at_ : H p = some (.lst [.ref l, .int s, .int g])
  ls : H l = some (.lst (xs.map V.int))
  ne : p ≠ l
  s0 : 0 ≤ s
  g0 : 0 ≤ g
def Pen (H : Hp) (p l : Addr) (n : Nat) : Prop := ∃ xs s g, PenAt H p l xs s g ∧ s ≤ n
def spDraw : Sp := fun vs H Q _ => ∃ (p l : Addr) (n : Nat) (m : Int), vs = [.ref p, .int m] ∧ 0 < m ∧ m < 2 ^ 200 ∧ Pen H p l n ∧ n ≤ 1000000 ∧
  ∀ (r : Int) (H' : Hp), 0 ≤ r → r < m → Pen H' p l (n + 1) → Kp p H H' → Q (.int r) H'
structure Txt0 (mg : Str → Option Value) : Prop where
  n_int : mg "int" = none
  n_list : mg "list" = none
  n_len : mg "len" = none
  n_abs : mg "abs" = none
section
variable {P : Program} {w : World} {K : PySem.W.Frag} {mg : Str → Option Value} {base : Heap}
theorem scDraw : FnScope ["_law_pen_here", "_law_many", "_law_digit", "_law_spot", "_law_cell", "_law_great", "_law_stirred"] ["_law_pen_here", "_law_many"] (C8.fnScope sDraw) := C8.fnScope_by (by decide +kernel)
theorem cal_draw {f : Addr} {fd : FuncData} (F : C8.Def K mg "_law_draw" sDraw f fd) (b : Binds K fd ["_law_pen_here", "_law_many"] []) (T : Txt0 mg) : C8.Cal P w K mg base 1 "_law_draw" spDraw [] := by
  refine C8.cal0 F b .nil scDraw (fun vs H Q E h => ?_) (fun cdv A outer st H vs Q E hr h => ?_)
  · obtain ⟨p, l, n, m, rfl, _⟩ := h
    rfl
  · obtain ⟨p, l, n, m, rfl, hm, hm2, ⟨xs, s, g, ⟨hp, hl, ne, s0, g0⟩, hs⟩, hn, k⟩ := h
    refine ⟨_, (pss_cons (ps_if (pt_cmpR op_gt (pe_ix ix_list (pv 0) pe_int (fun _ _ => rfl)) pe_int (nomark _)) (pss_cons (ps_set (i := 2) scDraw.nd rfl (Or.inl rfl) (pe_op op_modN (pe_callTy call_int1 (by rfl) T.n_int (by decide +kernel) (pa_cons (pe_ix ix_list (pv 0) pe_int (fun _ _ => rfl)) pa_nil)) (pv 1)))
  (pss_cons (ps_asg (pe_op op_fdivW (pe_callTy call_int1 (by rfl) T.n_int (by decide +kernel) (pa_cons (pe_ix ix_list (pv 0) pe_int (fun _ _ => rfl)) pa_nil)) (pv 1)) (pg_sub (pv 0) pe_int set_list))
  (pss_one (ps_ret (pv 2))))) pss_nil)
  (pss_cons (ps_set (i := 3) scDraw.nd rfl (Or.inl rfl) (pe_ix ix_list (pv 0) pe_int (fun _ _ => rfl)))
  (pss_cons (ps_asg (pe_op op_add (pv 3) pe_int) (pg_sub (pv 0) pe_int set_list))
  (pss_cons (ps_set (i := 4) scDraw.nd rfl (Or.inl rfl) (pe_op op_add (pe_op op_mul pe_int (pv 3)) pe_int))
  (pss_cons (ps_if (pt_cmpR (op_neD hr.units) (pe_ix ix_list (pv 0) pe_int (fun _ _ => rfl)) (pe_lst pa_nil) (nomark _)) (pss_one (ps_set (i := 4) scDraw.nd rfl (Or.inl rfl) (pe_ix ix_list (pe_ix ix_list (pv 0) pe_int (fun _ _ => rfl)) (pe_op op_modN (pe_callTy call_int1 (by rfl) T.n_int (by decide +kernel) (pa_cons (pv 3) pa_nil)) (pe_callB call_len_seq (by rfl) T.n_len (by decide +kernel) (pa_cons (pe_ix ix_list (pv 0) pe_int (fun _ _ => rfl)) pa_nil))) (fun _ _ => rfl)))) pss_nil)
  (pss_cons (ps_if (PW.pt (pw_and (pt_cmpR op_lt (pv 3) (pe_callB call_len_seq (by rfl) T.n_len (by decide +kernel) (pa_cons (pe_ix ix_list (pv 0) pe_int (fun _ _ => rfl)) pa_nil)) (nomark _)) (pw_and1 (pt_cmpR op_ge (pe_callB call_abs (by rfl) T.n_abs (by decide +kernel) (pa_cons (pv 4) pa_nil)) (pe_op op_pow pe_int pe_int) (nomark _))))) (pss_cons (ps_set (i := 5) scDraw.nd rfl (Or.inl rfl) (pe_op op_add (pe_op op_mul pe_int (pe_op op_sub (pe_callB call_abs (by rfl) T.n_abs (by decide +kernel) (pa_cons (pv 4) pa_nil)) (pe_op op_pow pe_int pe_int))) (pe_callTy call_int1 (by rfl) T.n_int (by decide +kernel) (pa_cons (pe_cmpR op_lt (pv 4) pe_int (nomark _)) pa_nil))))
  (pss_cons (ps_asg (pe_op op_fdivW (pe_callTy call_int1 (by rfl) T.n_int (by decide +kernel) (pa_cons (pv 5) pa_nil)) (pv 1)) (pg_sub (pv 0) pe_int set_list))
  (pss_one (ps_ret (pe_op op_modN (pe_callTy call_int1 (by rfl) T.n_int (by decide +kernel) (pa_cons (pv 5) pa_nil)) (pv 1)))))) pss_nil)
  (pss_cons (ps_set (i := 6) scDraw.nd rfl (Or.inl rfl) (pe_op op_modN (pe_callTy call_int1 (by rfl) T.n_int (by decide +kernel) (pa_cons (pe_op op_pow (pe_op op_add (pe_op op_add (pe_op op_modN (pe_callTy call_int1 (by rfl) T.n_int (by decide +kernel) (pa_cons (pv 4) pa_nil)) pe_int) (pe_op op_mul pe_int (pv 3))) pe_int) pe_int) pa_nil)) pe_int))
  (pss_cons (ps_set (i := 6) scDraw.nd rfl (Or.inl rfl) (pe_op op_modN (pe_callTy call_int1 (by rfl) T.n_int (by decide +kernel) (pa_cons (pe_op op_pow (pe_op op_add (pe_op op_add (pe_op op_mul (pv 6) (pe_op op_add (pe_op op_mul pe_int (pv 3)) pe_int)) (pe_op op_mul (pe_op op_mul pe_int (pv 3)) (pv 3))) pe_int) pe_int) pa_nil)) pe_int))
  (pss_one (ps_ret (pe_op op_modN (pe_callTy call_int1 (by rfl) T.n_int (by decide +kernel) (pa_cons (pe_op op_fdivW (pv 6) pe_int) pa_nil)) (pv 1)))))))))))), ?_⟩
    have hmb : CDivW 0 m := wide_div (b := 200) hm (by omega) (by decide) (by decide)
    refine ⟨_, rfl, p, _, _, _, rfl, rfl, SqL.of hp, rfl, _, _, rfl, rfl, _, rfl, ite2 (fun c => ?_) (fun c => ?_)⟩
    · -- the rest is above 0: a digit of it
      refine ⟨_, rfl, p, _, _, _, rfl, rfl, SqL.of hp, rfl, Or.inl ⟨_, rfl, ?_⟩⟩
      refine ⟨_, rfl, _, _, rfl, rfl, (by omega), ?_⟩
      refine ⟨_, rfl, p, _, _, _, rfl, rfl, SqL.of hp, rfl, Or.inl ⟨_, rfl, ?_⟩⟩
      refine ⟨_, rfl, _, _, rfl, rfl, hmb, ?_⟩
      refine ⟨_, rfl, p, _, _, _, rfl, rfl, hp, rfl, ?_⟩
      refine ⟨_, rfl, ?_⟩
      refine k _ _ (Int.fmod_nonneg_of_pos _ hm) (Int.fmod_lt_of_pos _ hm) ⟨xs, s, g / m, ⟨?_, ?_, ne, s0, Int.ediv_nonneg g0 (Int.le_of_lt hm)⟩, by omega⟩ fun b o hb e => ?_
      · rw [upd_same]; rfl
      · rw [upd_ne (Ne.symm ne)]; exact hl
      · rw [upd_ne hb]; exact e
    · -- the next place
      refine ⟨_, rfl, p, _, _, _, rfl, rfl, SqL.of hp, rfl, ?_⟩
      refine ⟨_, rfl, _, _, rfl, rfl, _, rfl, p, _, _, _, rfl, rfl, hp, rfl, ?_⟩
      have hp1 : upd H p (.lst [V.ref l, V.int (s + 1), V.int g]) p = some (.lst [V.ref l, V.int (s + 1), V.int g]) := upd_same
      have hl1 : upd H p (.lst [V.ref l, V.int (s + 1), V.int g]) l = some (.lst (xs.map V.int)) := by rw [upd_ne (Ne.symm ne)]; exact hl
      have k1 : Kp p H (upd H p (.lst [V.ref l, V.int (s + 1), V.int g])) := fun b o hb e => by rw [upd_ne hb]; exact e
      show tSeq _ _ _ _ (upd H p (.lst [V.ref l, V.int (s + 1), V.int g]))
      generalize upd H p (.lst [V.ref l, V.int (s + 1), V.int g]) = H1 at hp1 hl1 k1 ⊢
      have fin : ∀ (r g' : Int) (H' : Hp), 0 ≤ r → r < m → 0 ≤ g' → H' p = some (.lst [V.ref l, V.int (s + 1), V.int g']) → Kp p H1 H' → Q (.int r) H' := fun r g' H' h0 h1 h2 h3 h4 =>
        k r H' h0 h1 ⟨xs, s + 1, g', ⟨h3, h4 _ _ (Ne.symm ne) hl1, ne, by omega, h2⟩, by omega⟩ fun b o hb e => h4 b o hb (k1 b o hb e)
      refine ⟨_, rfl, _, _, rfl, rfl, Or.inl (by decide), _, _, rfl, rfl, ?_⟩
      refine ⟨_, rfl, p, _, _, _, rfl, rfl, SqL.of hp1, rfl, (by show 0 ≤ sizeLine; decide), fun q hq => ?_⟩
      have lq : l ≠ q := ne_of_none hl1 hq
      have pq : p ≠ q := ne_of_none hp1 hq
      have hl2 : upd H1 q (.lst []) l = some (.lst (xs.map V.int)) := by rw [upd_ne lq]; exact hl1
      have hp2 : upd H1 q (.lst []) p = some (.lst [V.ref l, V.int (s + 1), V.int g]) := by rw [upd_ne pq]; exact hp1
      have k2 : Kp p H1 (upd H1 q (.lst [])) := fun b o hb e => by rw [upd_ne (ne_of_none e hq)]; exact e
      refine ⟨.list (xs.map PyData.int), .list [], .lst (SqL.of hl2) (dp_ints xs), .lst (SqL.of upd_same) .nil, shaped_ints xs, rfl, _, rfl, ?_⟩
      generalize upd H1 q (.lst []) = H2 at hl2 hp2 k2 ⊢
      refine join_if (fun σ' H' => ∃ cell : Int, σ' = [some (V.ref p), some (V.int m), none, some (V.int s), some (V.int cell), none, none] ∧ H' = H2) ?rest (fun go => ?_)
      case rest =>
        rintro σ' H' ⟨cell, rfl, rfl⟩
        refine ⟨_, rfl, _, rfl, p, _, _, _, rfl, rfl, SqL.of hp2, rfl, l, xs.map V.int, rfl, .inl (SqL.of hl2), _, _, rfl, rfl, _, rfl, ?_⟩
        refine ite2 (fun c2 => ?_) (fun c2 => ?_)
        · refine ⟨_, rfl, _, rfl, _, _, rfl, rfl, ⟨by decide, by decide, by decide⟩, _, _, rfl, rfl, _, rfl, ?_⟩
          refine ite2 (fun c3 => ?_) (fun c3 => ?_)
          · refine ⟨_, rfl, _, rfl, _, _, rfl, rfl, ⟨by decide, by decide, by decide⟩, _, _, rfl, rfl, _, _, rfl, rfl, Or.inl (by decide), _, rfl, _, _, rfl, rfl, Or.inr ⟨_, rfl, _, _, rfl, rfl, ?_⟩⟩
            have hge : (10 : Int) ^ (18 : Int).toNat ≤ (if cell < 0 then -cell else cell) := of_decide_eq_true c3
            generalize hG : 2 * ((if cell < 0 then -cell else cell) - 10 ^ (18 : Int).toNat) + (if decide (cell < 0) = true then (1 : Int) else 0) = G
            have hG0 : 0 ≤ G := by
              rw [← hG]
              have h1 : 0 ≤ (if decide (cell < 0) = true then (1 : Int) else 0) := by split <;> decide
              omega
            refine ⟨_, rfl, Or.inl ⟨_, rfl, _, rfl, _, _, rfl, rfl, (by exact hmb), _, rfl, p, _, _, _, rfl, rfl, hp2, rfl, ?_⟩⟩
            refine ⟨_, rfl, Or.inl ⟨_, rfl, _, rfl, _, _, rfl, rfl, (by show ¬ (_ = _); omega), ?_⟩⟩
            refine fin _ (G / m) _ (fm0 hm) (Int.fmod_lt_of_pos _ hm) (Int.ediv_nonneg hG0 (Int.le_of_lt hm)) ?_ fun b o hb e => ?_
            · rw [upd_same, ← hG]; rfl
            · rw [upd_ne hb]; exact k2 b o hb e
          · refine ⟨_, rfl, Or.inl ⟨_, rfl, ?_⟩⟩
            refine ⟨_, _, rfl, rfl, (by show ¬ (_ = _); decide), _, rfl, _, _, rfl, rfl, Or.inl (by decide), _, _, rfl, rfl, _, _, rfl, rfl, ?_⟩
            generalize hz : Int.fmod cell _ = z
            have hz0 : 0 ≤ z := by rw [← hz]; exact fm0 (by decide)
            have hz1 : z < 2147483648 := by rw [← hz]; exact fm1 (by decide) (by decide)
            refine ⟨_, _, rfl, rfl, ⟨by decide, by decide, by omega⟩, Or.inl ⟨_, rfl, ?_⟩⟩
            refine ⟨_, _, rfl, rfl, (by show ¬ (_ = _); decide), ?_⟩
            refine ⟨_, rfl, _, rfl, _, _, rfl, rfl, Or.inl (by decide), _, _, rfl, rfl, _, _, rfl, rfl, Or.inl (by exact fm64 (by decide) (by decide)), ?_⟩
            refine ⟨_, rfl, _, _, rfl, rfl, Or.inl (by decide), _, rfl, _, _, rfl, rfl, Or.inl (by exact fsmall (by decide) (by decide) s0 (by omega)), _, _, rfl, rfl, _, _, rfl, rfl, ?_⟩
            refine ⟨_, _, rfl, rfl, ⟨by decide, by decide, by exact stir (fm0 (by decide)) (fm1 (by decide) (by decide)) s0 (by omega) _ _ _ (by decide) (by decide) (by decide) (by decide) (by decide) (by decide)⟩, Or.inl ⟨_, rfl, ?_⟩⟩
            refine ⟨_, _, rfl, rfl, (by show ¬ (_ = _); decide), ?_⟩
            refine ⟨_, rfl, _, _, rfl, rfl, ⟨by decide, by decide⟩, Or.inl ⟨_, rfl, _, rfl, _, _, rfl, rfl, (by show ¬ (_ = _); omega), ?_⟩⟩
            exact fin _ g _ (fm0 hm) (Int.fmod_lt_of_pos _ hm) g0 hp2 k2
        · refine iteF ?_
          refine ⟨_, rfl, Or.inl ⟨_, rfl, ?_⟩⟩
          refine ⟨_, _, rfl, rfl, (by show ¬ (_ = _); decide), _, rfl, _, _, rfl, rfl, Or.inl (by decide), _, _, rfl, rfl, _, _, rfl, rfl, ?_⟩
          generalize hz : Int.fmod cell _ = z
          have hz0 : 0 ≤ z := by rw [← hz]; exact fm0 (by decide)
          have hz1 : z < 2147483648 := by rw [← hz]; exact fm1 (by decide) (by decide)
          refine ⟨_, _, rfl, rfl, ⟨by decide, by decide, by omega⟩, Or.inl ⟨_, rfl, ?_⟩⟩
          refine ⟨_, _, rfl, rfl, (by show ¬ (_ = _); decide), ?_⟩
          refine ⟨_, rfl, _, rfl, _, _, rfl, rfl, Or.inl (by decide), _, _, rfl, rfl, _, _, rfl, rfl, Or.inl (by exact fm64 (by decide) (by decide)), ?_⟩
          refine ⟨_, rfl, _, _, rfl, rfl, Or.inl (by decide), _, rfl, _, _, rfl, rfl, Or.inl (by exact fsmall (by decide) (by decide) s0 (by omega)), _, _, rfl, rfl, _, _, rfl, rfl, ?_⟩
          refine ⟨_, _, rfl, rfl, ⟨by decide, by decide, by exact stir (fm0 (by decide)) (fm1 (by decide) (by decide)) s0 (by omega) _ _ _ (by decide) (by decide) (by decide) (by decide) (by decide) (by decide)⟩, Or.inl ⟨_, rfl, ?_⟩⟩
          refine ⟨_, _, rfl, rfl, (by show ¬ (_ = _); decide), ?_⟩
          refine ⟨_, rfl, _, _, rfl, rfl, ⟨by decide, by decide⟩, Or.inl ⟨_, rfl, _, rfl, _, _, rfl, rfl, (by show ¬ (_ = _); omega), ?_⟩⟩
          exact fin _ g _ (fm0 hm) (Int.fmod_lt_of_pos _ hm) g0 hp2 k2
      refine ite2 (fun c1 => ?_) (fun c1 => ?_)
      · rw [eqv_nil] at c1
        have hx : xs ≠ [] := by simpa using c1
        have hlen : 0 < xs.length := List.length_pos_iff.mpr hx
        refine ⟨_, rfl, p, _, _, _, rfl, rfl, SqL.of hp2, rfl, ?_⟩
        refine ⟨_, rfl, Or.inl ⟨_, rfl, ?_⟩⟩
        refine ⟨_, rfl, p, _, _, _, rfl, rfl, SqL.of hp2, rfl, l, xs.map V.int, rfl, .inl (SqL.of hl2), ?_⟩
        have hL : ((xs.map V.int).length : Int) = (xs.length : Int) := by rw [List.length_map]
        have hb1 : 0 ≤ s.fmod ((xs.map V.int).length : Int) := Int.fmod_nonneg_of_pos _ (by omega)
        have hb2 : s.fmod ((xs.map V.int).length : Int) < ((xs.map V.int).length : Int) := Int.fmod_lt_of_pos _ (by omega)
        obtain ⟨j, hj⟩ : ∃ j : Nat, s.fmod ((xs.map V.int).length : Int) = (j : Int) := ⟨(s.fmod ((xs.map V.int).length : Int)).toNat, by omega⟩
        have hjl : j < xs.length := by omega
        have hat : atI (xs.map V.int) (s.fmod ((xs.map V.int).length : Int)) = some (V.int xs[j]) := by
          rw [hj]; exact atI_nat (by simp [hjl])
        refine ⟨_, _, rfl, rfl, (by omega), ?_⟩
        refine ⟨l, _, _, V.int xs[j], rfl, rfl, SqL.of hl2, hat, ?_⟩
        exact go _ _ ⟨xs[j], rfl, rfl⟩
      · exact go _ _ ⟨_, rfl, rfl⟩
end
end Lw
namespace Lw
open PySem PySem.Spec PyProof.Rows L2

theorem Kp.refl (p : Addr) (H : Hp) : Kp p H H := fun _ _ _ e => e
theorem Kp.trans {p : Addr} {H H1 H2 : Hp} (a : Kp p H H1) (b : Kp p H1 H2) : Kp p H H2 := fun c o hc e => b c o hc (a c o hc e)
theorem Kp.of {p : Addr} {H H' : Hp} (s : Same H H') : Kp p H H' := fun b o _ e => s b o e
theorem Kp.seq {K : PySem.W.Frag} {p a : Addr} {H H' : Hp} {ys : List V} (k : Kp p H H') (ne : a ≠ p) (h : SqL K H a ys) : SqL K H' a ys := by
  rcases h with (h | ⟨o, h⟩) | h
  · exact .inl (.inl (k _ _ ne h))
  · exact .inl (.inr ⟨o, k _ _ ne h⟩)
  · exact .inr h
theorem same_new {H : Hp} {q : Addr} {o : HO} (hq : H q = none) : Same H (upd H q o) := fun b u e => by rw [upd_ne (ne_of_none e hq)]; exact e
theorem Pen.keep {H H' : Hp} {p l : Addr} {n : Nat} (h : Pen H p l n) (s : Same H H') : Pen H' p l n := by
  obtain ⟨xs, a, g, ⟨h1, h2, h3, h4, h5⟩, h6⟩ := h
  exact ⟨xs, a, g, ⟨s _ _ h1, s _ _ h2, h3, h4, h5⟩, h6⟩
theorem Pen.at {H : Hp} {p l : Addr} {n : Nat} (h : Pen H p l n) : ∃ o, H p = some o := by
  obtain ⟨xs, a, g, h, _⟩ := h
  exact ⟨_, h.at_⟩
theorem Pen.ne_new {H : Hp} {p l q : Addr} {n : Nat} (h : Pen H p l n) (hq : H q = none) : q ≠ p := by
  obtain ⟨o, h1⟩ := h.at
  exact (ne_of_none h1 hq).symm
theorem Pen.more {H : Hp} {p l : Addr} {n m : Nat} (h : Pen H p l n) (hm : n ≤ m) : Pen H p l m := by
  obtain ⟨xs, a, g, h1, h2⟩ := h
  exact ⟨xs, a, g, h1, by omega⟩
def spPick (K : PySem.W.Frag) : Sp := fun vs H Q _ => ∃ (p l a : Addr) (n : Nat) (ys : List V), vs = [.ref p, .ref a] ∧ Pen H p l n ∧ n ≤ 1000000 ∧ SqL K H a ys ∧ a ≠ p ∧ 0 < ys.length ∧ ys.length < 1000000 ∧
  ∀ (j : Nat) (v : V) (H' : Hp), ys[j]? = some v → Pen H' p l (n + 1) → Kp p H H' → Q v H'
def spPen (K : PySem.W.Frag) : Sp := fun vs H Q _ => ∃ (a : Addr) (ns : List Int), vs = [.ref a] ∧ SqL K H a (ns.map V.int) ∧ ns.length ≤ 63 ∧ ∀ (p l : Addr) (H' : Hp), Pen H' p l 0 → Same H H' → H p = none → Q (.ref p) H'
theorem Pen.over {H : Hp} {p l q : Addr} {n : Nat} {o : HO} (h : Pen H p l n) (h1 : q ≠ p) (h2 : q ≠ l) : Pen (upd H q o) p l n := by
  obtain ⟨xs, a, g, ⟨e1, e2, e3, e4, e5⟩, h6⟩ := h
  exact ⟨xs, a, g, ⟨by rw [upd_ne h1.symm]; exact e1, by rw [upd_ne h2.symm]; exact e2, e3, e4, e5⟩, h6⟩
theorem Pen.ne_new2 {H : Hp} {p l q : Addr} {n : Nat} (h : Pen H p l n) (hq : H q = none) : q ≠ l := by
  obtain ⟨xs, a, g, h, _⟩ := h
  exact (ne_of_none h.ls hq).symm
section
variable {P : Program} {w : World} {K : PySem.W.Frag} {mg : Str → Option Value} {base : Heap}
theorem scPick : FnScope ["_law_pen_here", "_law_some"] ["_law_pen_here", "_law_some"] (C8.fnScope sPick) := C8.fnScope_by (by decide +kernel)
theorem cal_pick {f : Addr} {fd : FuncData} (F : C8.Def K mg "_law_pick" sPick f fd) (b : Binds K fd ["_law_pen_here", "_law_some"] []) (T : Txt0 mg) (D : C8.Cal P w K mg base 1 "_law_draw" spDraw []) : C8.Cal P w K mg base 2 "_law_pick" (spPick K) [] := by
  refine C8.cal0 F b .nil scPick (fun vs H Q E h => ?_) (fun cdv A outer st H vs Q E hr h => ?_)
  · obtain ⟨p, l, a, n, ys, rfl, _⟩ := h
    rfl
  · obtain ⟨p, l, a, n, ys, rfl, hp, hn, hs, ne, h0, h1, k⟩ := h
    refine ⟨_, (pss_one (ps_ret (pe_ix ix_list (pv 1) (C8.pe_c D hr (by decide) (by rfl) (pa_cons (pv 0) (pa_cons (pe_callB call_len_seq (by rfl) T.n_len (by decide +kernel) (pa_cons (pv 1) pa_nil)) pa_nil))) (fun _ _ => rfl)))), ?_⟩
    refine ⟨_, rfl, _, rfl, _, rfl, a, ys, rfl, .inl hs, ?_⟩
    refine ⟨p, l, n, _, rfl, (by omega), (by omega), hp, hn, fun r H' r0 r1 hp' k' => ?_⟩
    obtain ⟨j, hj⟩ : ∃ j : Nat, r = (j : Int) := ⟨r.toNat, by omega⟩
    subst hj
    have hjl : j < ys.length := by omega
    refine ⟨a, ys, _, ys[j], rfl, rfl, k'.seq ne hs, atI_nat (by simp [hjl]), ?_⟩
    exact k j _ H' (by simp [hjl]) hp' k'
theorem scPen : FnScope ["_law_script"] ["_law_script"] (C8.fnScope sPen) := C8.fnScope_by (by decide +kernel)
theorem cut_ints (xs : List Int) (lo hi : Option Int) : cutV (xs.map V.int) lo hi = ((xs.drop (HT.sIx xs.length 0 lo)).take (HT.sIx xs.length xs.length hi - HT.sIx xs.length 0 lo)).map V.int := by
  unfold cutV
  rw [List.length_map, List.map_take, List.map_drop]
theorem cal_pen {f : Addr} {fd : FuncData} (F : C8.Def K mg "_law_pen" sPen f fd) (b : Binds K fd ["_law_script"] []) (T : Txt0 mg) : C8.Cal P w K mg base 1 "_law_pen" (spPen K) [] := by
  refine C8.cal0 F b .nil scPen (fun vs H Q E h => ?_) (fun cdv A outer st H vs Q E hr h => ?_)
  · obtain ⟨a, ns, rfl, _⟩ := h
    rfl
  · obtain ⟨a, ns, rfl, hs, hl, k⟩ := h
    refine ⟨_, (pss_one (ps_ret (pe_lst (pa_cons (pe_callTy call_list_of (by rfl) T.n_list (by decide +kernel) (pa_cons (pe_slice sl_list (pv 0) po_none (po_some pe_int)) pa_nil)) (pa_cons pe_int (pa_cons pe_int pa_nil)))))), ?_⟩
    refine ⟨_, rfl, _, rfl, a, _, rfl, hs, fun c hc => ?_⟩
    refine ⟨c, _, rfl, .inl (SqL.of upd_same), fun l hl2 => ?_⟩
    refine ⟨(by show 3 ≤ sizeLine; decide), fun p hp => ?_⟩
    have s1 := same_new (o := HO.lst (cutV (ns.map V.int) none (some 63))) hc
    have s2 := same_new (o := HO.lst (cutV (ns.map V.int) none (some 63))) hl2
    have s3 := same_new (o := HO.lst [V.ref l, V.int 0, V.int 0]) hp
    have pl : p ≠ l := fun e => by rw [e, upd_same] at hp; cases hp
    refine k p l _ ⟨((ns.drop (HT.sIx ns.length 0 none)).take (HT.sIx ns.length ns.length (some 63) - HT.sIx ns.length 0 none)), 0, 0, ⟨upd_same, ?_, pl, by omega, by omega⟩, by omega⟩ ((s1.trans s2).trans s3) ((s1.trans s2).free hp)
    rw [upd_ne pl.symm, upd_same, cut_ints]
end
end Lw
namespace Lw
open PySem PySem.Spec PyProof.Rows L2

/-! ### C.m(e, ..), m a static method -/
structure SMet (K : PySem.W.Frag) (C : Addr) (m : Str) (p g : Addr) : Prop where
  mc : ∃ mc, PySem.W.typeIn K (.ref C) = some mc ∧ PySem.W.readsIn K C mc = true ∧ PySem.W.findCls K (.ref C) mc m = some (.get (.builtin "staticmethod.__get__") (.ref p) .none (.ref C))
  ga : PySem.W.specialIn K (.ref C) "__getattribute__" = some (some (.builtin "type.__getattribute__"))
  rc : ∃ rest, PySem.W.recIn K p "staticmethod" = some (.ref g :: rest)
  kp : PySem.W.keepIn K (.ref g) = true
def tStatic (C : Addr) (sp : Sp) (dvs : List V) (E : XK) (ta : TE) (t : TA) : TE := fun σ H Q => ta σ H fun x H1 => x = .ref C ∧ t σ H1 fun vs H2 => sp (vs ++ dvs) H2 Q E
section
variable {X : Cx} {CX : CXT} {C p g : Addr} {k : Nat} {fd : FuncData} {ps : List Str} {sp : Sp} {E : XK} {ds : List Value} {dvs : List V} {o e : Expr} {es : List Expr} {m : Str} {pos apos : Pos} {ta : TE} {t : TA} {pl : Sem Bool}
theorem pe_static (he : PE X o ta) (c : SMet X.K C m p g) (F : FnOk X.prog X.w X.K X.mg X.base CX k g fd ps sp) (hr : Room k X.A) (b : Binds X.K fd ps ds) (d : Vals dvs ds) (hx : Passes CX X E) (ha : PA X (e :: es) t)
    (hst : starEach (e :: es) X.env = (false, eval e X.env) :: starEach es X.env := by rfl) (hpl : (backTo pos (starEach es X.env)).any (·.1) = false := by rfl)
    (ht : eval (.Call (.Attribute o m apos) (e :: es) [] pos) X.env = (do
      let ov ← eval o X.env
      standAt apos.atName
      let (f, first) ← holding [ov] (getMethod ov m pl)
      callWith pos f first (backTo pos (starEach (e :: es) X.env)) (backToKw pos (keywordEach [] X.env))) := by rfl) :
    PE X (.Call (.Attribute o m apos) (e :: es) [] pos) (tStatic C sp dvs E ta t) := by
  refine ⟨fun pins s σ H Q I h => ?_⟩
  refine PySem.W.methodCall_KW (pl := pl) (thn (he.run pins s σ H _ I h) fun u s1 ⟨x, H1, I1, rx, ex, q⟩ => ?_) ht
  subst ex
  obtain rfl : u = Value.ref C := rx
  obtain ⟨mc, h1, h2, h3⟩ := c.mc
  obtain ⟨rest, h4⟩ := c.rc
  obtain ⟨fm, hF⟩ := I1.fr
  refine PySem.W.method_cls I1.kIn c.ga (PySem.W.cls_sm hF I1.ok.mod.kin h1 h2 h3 h4 rfl ?_)
  have I2 : Inv X pins σ H1 { s1 with toks := s1.toks + 1 } := I1.tok _
  refine PySem.W.callWith_K (h₀ := X.base) I2.ok.mod.kin c.kp (thn (ha.run pos pins _ σ H1 _ I2 q) fun us s3 ⟨vs, H2, I3, rv, q2⟩ => ⟨I3.kIn, ?_⟩) hst hpl
  exact run_fn F hr b d hx I3 rv q2
end
end Lw
namespace Lw
open PySem PySem.Spec PyProof.Rows L2

/-! ### own operators: + - * // % and the sign, of instances of one class and of a built-in value beside -/
section
variable {X : Cx} {C : Addr} {k j : Nat} {sp : Sp} {pins : List (Addr × Obj)} {σ : L2.St} {H : Hp} {s : Shared}
theorem ins_at {a dx : Addr} {fs : List (Str × V)} (I : Inv X pins σ H s) (h : H a = some (.ins C dx fs)) : ∃ ox od, PySem.W.InstAt s.heap a ox C (some od) := by
  obtain ⟨mA, O, _⟩ := ins_get I.hok h
  obtain ⟨od, J, _⟩ := O.look
  exact ⟨_, od, J⟩
/-- a method of the class, called with an instance and another value -/
theorem run_two {m : Str} {us : List Value} {vs : List V} {Q : VK} (M : C8.Met X.prog X.w X.K X.mg X.base k C m sp []) (hr : Room j X.A) (hk : k ≤ j) (I : Inv X pins σ H s) (r : Vals vs us) (q : sp vs H Q C8.E0) :
    ∃ g : Addr, Meth X.K C m g ∧ wpAny (model X.prog X.w) X.A (call (.ref g) us) (PySem.W.CmpBack (EP X pins σ Q)) X.xe s := by
  obtain ⟨g, fd, ps, ds, hC, hm, F, b, d⟩ := M.ex
  have q' : sp (vs ++ []) H Q C8.E0 := by rw [List.append_nil]; exact q
  refine ⟨g, hm, wpAny_mono (run_fn F (hr.mono hk) b d C8.pass0 I r q') (fun w s' z => ?_) fun _ _ x => x⟩
  obtain ⟨z', H', I', rz, qz⟩ := z
  exact SlX.cmpback rz ⟨z', H', I', rz, qz⟩
def rSame (C : Addr) (sp : Sp) : R2 := fun x y H Q => ∃ a dx fs b dy gs, x = .ref a ∧ y = .ref b ∧ H a = some (.ins C dx fs) ∧ H b = some (.ins C dy gs) ∧ sp [x, y] H Q C8.E0
theorem op_same {op : Operator} (M : C8.Met X.prog X.w X.K X.mg X.base k C (PySem.dunder op.info.2) sp []) (hc : PySem.W.selfFirst X.K C = true) (hr : Room j X.A) (hk : k ≤ j) : OpR X (binaryOp op) (rSame C sp) := by
  intro pins s σ H x y v u Q I rx ry h
  obtain ⟨a, dx, fs, b, dy, gs, rfl, rfl, ha, hb, q⟩ := h
  cases (show v = Value.ref a from rx)
  cases (show u = Value.ref b from ry)
  obtain ⟨_, _, J⟩ := ins_at I ha
  obtain ⟨_, _, J'⟩ := ins_at I hb
  obtain ⟨g, hm, w⟩ := run_two (us := [.ref a, .ref b]) (vs := [.ref a, .ref b]) M hr hk I (.cons rfl (.cons rfl .nil)) q
  obtain ⟨m, hF⟩ := I.fr
  exact PySem.W.binop_K hF I.ok.mod.kin J J'.type hc hm.at_ hm.fn w
/-- what the operator asks of the class and of a built-in type beside it -/
structure Beside (K : PySem.W.Frag) (C : Addr) (op : Operator) (T : String) : Prop where
  first : PySem.W.selfFirst K C = true
  back : ∃ rc, PySem.W.findIn K (.ref C) (dunderR op.info.2) = some rc ∧ (rc = none ∨ ∃ g : Addr, rc = some (.ref g))
  ahead : ∃ fo, PySem.W.findIn K (.type T) (PySem.dunder op.info.2) = some fo
  behind : ∃ ro, PySem.W.findIn K (.type T) (dunderR op.info.2) = some ro
  sub : PySem.W.subIn K (.type T) (.ref C) = some false
/-- a built-in value's kind, as typeOf tells it -/
inductive Kind : V → String → Prop where
  | int (i : Int) : Kind (.int i) "int"
  | bl (b : Bool) : Kind (.bl b) "bool"
  | non : Kind .non "NoneType"
  | str (z : Str) : Kind (.str z) "str"
theorem Kind.type {y : V} {T : String} {u : Value} (h : Kind y T) (r : RelV y u) : typeOf u = pure (.type T) := by
  cases h with
  | int i => obtain ⟨t, e⟩ := (show ∃ t, u = Value.int i t from r); subst e; rfl
  | bl b => cases (show u = Value.bool b from r); rfl
  | non => cases (show u = Value.none from r); rfl
  | str z => obtain ⟨t, e⟩ := (show ∃ t, u = Value.str z t from r); subst e; rfl
def rBeside (K : PySem.W.Frag) (C : Addr) (op : Operator) (sp : Sp) : R2 := fun x y H Q => ∃ a dx fs T, x = .ref a ∧ H a = some (.ins C dx fs) ∧ Kind y T ∧ Beside K C op T ∧ sp [x, y] H Q C8.E0
theorem op_beside {op : Operator} (M : C8.Met X.prog X.w X.K X.mg X.base k C (PySem.dunder op.info.2) sp []) (hr : Room j X.A) (hk : k ≤ j) : OpR X (binaryOp op) (rBeside X.K C op sp) := by
  intro pins s σ H x y v u Q I rx ry h
  obtain ⟨a, dx, fs, T, rfl, ha, hT, hB, q⟩ := h
  cases (show v = Value.ref a from rx)
  obtain ⟨_, _, J⟩ := ins_at I ha
  obtain ⟨g, hm, w⟩ := run_two (us := [.ref a, u]) (vs := [.ref a, y]) M hr hk I (.cons rfl (.cons ry .nil)) q
  obtain ⟨m, hF⟩ := I.fr
  obtain ⟨rc, r1, r2⟩ := hB.back
  obtain ⟨fo, f1⟩ := hB.ahead
  obtain ⟨ro, o1⟩ := hB.behind
  exact PySem.W.ksp_binT hF I.ok.mod.kin J (hT.type ry) hB.first hm.at_ hm.fn r1 r2 f1 o1 hB.sub w
def rSign (C : Addr) (sp : Sp) : V → Hp → VK → Prop := fun x H Q => ∃ a dx fs, x = .ref a ∧ H a = some (.ins C dx fs) ∧ sp [x] H Q C8.E0
theorem un_sign (M : C8.Met X.prog X.w X.K X.mg X.base k C "__neg__" sp []) (hr : Room j X.A) (hk : k ≤ j) : UnR X (unaryOp .USub) (rSign C sp) := by
  intro pins s σ H x v Q I rx h
  obtain ⟨a, dx, fs, rfl, ha, q⟩ := h
  cases (show v = Value.ref a from rx)
  obtain ⟨_, _, J⟩ := ins_at I ha
  obtain ⟨g, fd, ps, ds, hC, hm, F, b, d⟩ := M.ex
  obtain ⟨m, hF⟩ := I.fr
  have q' : sp ([V.ref a] ++ []) H Q C8.E0 := q
  exact PySem.W.ksp_neg hF I.ok.mod.kin J hm.at_ hm.fn (run_fn (us := [.ref a]) (vs := [.ref a]) F (hr.mono hk) b d C8.pass0 I (.cons rfl .nil) q')
end
end Lw
namespace Lw.Ow
open PySem PySem.Spec PyProof.Rows PySem.W PySem.Calls

/-! ### own operators, the instance on the right -/
section
variable {prog : Program} {w : World} {A : Around} {E : Value → Shared → Prop} {s : Shared} {K : Frag} {x C f g : Addr} {ox : Obj} {od : Option Obj}
theorem right_bare {op : Operator} {a : Value} {T : String} {Q : Value → Shared → Prop} (X : K.In s.heap) (I : InstAt s.heap x ox C od) (ht : Looks (model prog w) s.heap (typeOf a) (.type T)) (hc : selfFirst K C = true) (hs : findIn K (.ref C) (PySem.dunder op.info.2) = some (some (.ref f))) (hr : findIn K (.ref C) (dunderR op.info.2) = some (some (.ref g)))
    (hg : isFn K (.ref g) = true) (hL : fillsNumberSlot (.type T) op.info.2 = pure false) (h : wpAny (model prog w) A (call (.ref g) [.ref x, a]) (PySem.W.CmpBack Q) E s) : wpAny (model prog w) A (binaryOp op a (.ref x)) Q E s := by
  obtain ⟨cd, rest, hcd, hm⟩ := ksp_first hc
  rcases hi : op.info with ⟨sym, nm⟩
  rw [hi] at hs hr hL
  dsimp only at hs hr hL
  have one := ksp_try X I hr hg h
  obtain ⟨hh, gg, d, tt, os⟩ := s
  have L2 : Looks (model prog w) hh (typeOf (.ref x)) (.ref C) := I.type
  have L3 : Looks (model prog w) hh (fillsNumberSlot (.ref C) nm) true := fills_K X hcd hm hs
  have hne : (Value.type T == Value.ref C) = false := Bool.eq_false_iff.mpr fun q => by cases beq_iff_eq.mp q
  simp only [binaryOp, hi]
  refine wpAny_holding (wpAny_bind ?_)
  unfold binaryOp1
  refine wpAny_bind (ht.at (wpAny_bind (L2.at (wpAny_bind (wpAny_of_eq hL ?_)))))
  simp only [hne, Bool.false_eq_true, if_false]
  refine wpAny_bind (L3.at ?_)
  simp only [Bool.false_and, Bool.false_eq_true, if_false, pure_bind, Bool.not_false, Bool.and_true, if_true]
  refine wpAny_bind (wpAny_mono one (fun r s' hr' => ?_) fun _ _ e => e)
  obtain ⟨v, rfl, hq⟩ := hr'
  exact wpAny_bind (wpAny_rule (wpAny_pure (wpAny_pure hq)))
theorem right_number {op : Operator} {a : Value} {T id : String} {Q : Value → Shared → Prop} (X : K.In s.heap) (I : InstAt s.heap x ox C od) (ht : typeOf a = pure (.type T)) (hT : s.TypeIs a T) (hc : selfFirst K C = true) (hs : findIn K (.ref C) (PySem.dunder op.info.2) = some (some (.ref f))) (hr : findIn K (.ref C) (dunderR op.info.2) = some (some (.ref g)))
    (hg : isFn K (.ref g) = true) (hL : fillsNumberSlot (.type T) op.info.2 = pure true) (hsub : subIn K (.ref C) (.type T) = some false) (sl : Slot T (PySem.dunder op.info.2) id) (hd : ∀ Q' : Value → Shared → Prop, Q' .notImplemented s → wpAny (model prog w) A (call (.builtin id) [a, .ref x]) Q' E s)
    (h : wpAny (model prog w) A (call (.ref g) [.ref x, a]) (PySem.W.CmpBack Q) E s) : wpAny (model prog w) A (binaryOp op a (.ref x)) Q E s := by
  obtain ⟨cd, rest, hcd, hm⟩ := ksp_first hc
  rcases hi : op.info with ⟨sym, nm⟩
  rw [hi] at hs hr hL sl
  dsimp only at hs hr hL sl
  have one := ksp_try X I hr hg h
  have two := wpAny_tryMethod_declines (Q := fun r s' => r = none ∧ s' = s) hT sl (hd _ ⟨rfl, rfl, rfl⟩)
  obtain ⟨hh, gg, d, tt, os⟩ := s
  have L2 : Looks (model prog w) hh (typeOf (.ref x)) (.ref C) := I.type
  have L3 : Looks (model prog w) hh (fillsNumberSlot (.ref C) nm) true := fills_K X hcd hm hs
  have L4 : Looks (model prog w) hh (isSubtype (.ref C) (.type T)) false := looks_subIn X hsub
  have hpy : numberSlotInPython (.type T) nm = pure false := rfl
  have hne : (Value.type T == Value.ref C) = false := Bool.eq_false_iff.mpr fun q => by cases beq_iff_eq.mp q
  simp only [binaryOp, hi]
  refine wpAny_holding (wpAny_bind ?_)
  unfold binaryOp1
  refine wpAny_bind (wpAny_of_eq ht (wpAny_bind (L2.at (wpAny_bind (wpAny_of_eq hL ?_)))))
  simp only [hne, Bool.false_eq_true, if_false]
  refine wpAny_bind (L3.at ?_)
  simp only [Bool.and_self, if_true]
  refine wpAny_bind (L4.at ?_)
  simp only [Bool.false_eq_true, if_false, pure_bind, Bool.not_false, Bool.and_self, if_true, hpy]
  refine wpAny_bind (wpAny_mono two (fun r s' z => ?_) fun _ _ e => e)
  obtain ⟨rfl, rfl⟩ := z
  refine wpAny_bind (wpAny_mono one (fun r s' hr' => ?_) fun _ _ e => e)
  obtain ⟨v, rfl, hq⟩ := hr'
  exact wpAny_bind (wpAny_rule (wpAny_pure (wpAny_pure hq)))
end
end Lw.Ow
namespace Lw.Ow
open PySem PySem.Spec PyProof.Rows

section
variable {prog : Program} {w : World} {A : Around} {E : Value → Shared → Prop} {s : Shared}
theorem binary_no {nm : String} {f : Int → Int → Sem Fin} {i : Int} {t : Tok} {x : Addr} {o : Obj} {Q : Value → Shared → Prop} (ho : s.heap.get? x = some o) (hp : o.data = .plain) (h : Q .notImplemented s) :
    wpAny (model prog w) A (Builtin.Int.intBinary nm f false ⟨[.int i t, .ref x], []⟩) (fun fin s' => ∃ v, fin = .done (.ret v) ∧ Q v s') E s := by
  unfold Builtin.Int.intBinary
  refine wpAny_bind (wpAny_of_eq (a := (Value.int i t, [Value.ref x])) rfl ?_)
  refine wpAny_bind (wpAny_of_eq (a := i) rfl ?_)
  refine wpAny_bind ?_
  show wpAny _ _ (load x >>= fun ob => match ob.data with | .prim (.int i _) => pure (some i) | _ => pure none) _ _ _
  refine wpAny_bind (wpAny_load ho ?_)
  rw [hp]
  exact wpAny_pure (wpAny_bind (wpAny_rule (wpAny_pure ⟨_, rfl, h⟩)))
theorem no_add {i : Int} {t : Tok} {x : Addr} {o : Obj} {Q : Value → Shared → Prop} (ho : s.heap.get? x = some o) (hp : o.data = .plain) (h : Q .notImplemented s) : wpAny (model prog w) A (call (.builtin "int.__add__") [.int i t, .ref x]) Q E s :=
  wpAny_call_entry F.slot_int_add (typeIs_int s i t) F.entry_int_add (binary_no ho hp h) (F.args_int_add_2 _ _)
theorem no_sub {i : Int} {t : Tok} {x : Addr} {o : Obj} {Q : Value → Shared → Prop} (ho : s.heap.get? x = some o) (hp : o.data = .plain) (h : Q .notImplemented s) : wpAny (model prog w) A (call (.builtin "int.__sub__") [.int i t, .ref x]) Q E s :=
  wpAny_call_entry F.slot_int_sub (typeIs_int s i t) F.entry_int_sub (binary_no ho hp h) (F.args_int_sub_2 _ _)
theorem no_mul {i : Int} {t : Tok} {x : Addr} {o : Obj} {Q : Value → Shared → Prop} (ho : s.heap.get? x = some o) (hp : o.data = .plain) (h : Q .notImplemented s) : wpAny (model prog w) A (call (.builtin "int.__mul__") [.int i t, .ref x]) Q E s :=
  wpAny_call_entry F.slot_int_mul (typeIs_int s i t) F.entry_int_mul (binary_no ho hp h) (F.args_int_mul_2 _ _)
theorem no_mod {i : Int} {t : Tok} {x : Addr} {o : Obj} {Q : Value → Shared → Prop} (ho : s.heap.get? x = some o) (hp : o.data = .plain) (h : Q .notImplemented s) : wpAny (model prog w) A (call (.builtin "int.__mod__") [.int i t, .ref x]) Q E s :=
  wpAny_call_entry F.slot_int_mod (typeIs_int s i t) F.entry_int_mod (binary_no ho hp h) (F.args_int_mod_2 _ _)
theorem no_floordiv {i : Int} {t : Tok} {x : Addr} {o : Obj} {Q : Value → Shared → Prop} (ho : s.heap.get? x = some o) (hp : o.data = .plain) (h : Q .notImplemented s) : wpAny (model prog w) A (call (.builtin "int.__floordiv__") [.int i t, .ref x]) Q E s := by
  refine wpAny_call_entry F.slot_int_floordiv (typeIs_int s i t) F.entry_int_floordiv ?_ (F.args_int_floordiv_2 _ _)
  unfold Builtin.«int.__floordiv__»
  refine wpAny_bind ?_
  unfold Builtin.exactOperandsForPylong
  rw [if_pos (by rfl)]
  dsimp only
  refine wpAny_bind (wpAny_of_eq (a := some i) rfl ?_)
  refine wpAny_bind ?_
  show wpAny _ _ (load x >>= fun ob => match ob.data with | .prim (.int i _) => pure (some i) | _ => pure none) _ _ _
  refine wpAny_bind (wpAny_load ho ?_)
  rw [hp]
  exact wpAny_pure (wpAny_pure (binary_no ho hp h))
end

end Lw.Ow
namespace Lw
open PySem PySem.Spec PyProof.Rows L2
section
variable {X : Cx} {C f : Addr} {k j : Nat} {sp : Sp}
def rRight (C : Addr) (P : V → Prop) (sp : Sp) : R2 := fun x y H Q => ∃ a dx fs, P x ∧ y = .ref a ∧ H a = some (.ins C dx fs) ∧ sp [y, x] H Q C8.E0
theorem ins_plain {pins : List (Addr × Obj)} {σ : L2.St} {H : Hp} {s : Shared} {a dx : Addr} {fs : List (Str × V)} (I : Inv X pins σ H s) (h : H a = some (.ins C dx fs)) : ∃ ox od, PySem.W.InstAt s.heap a ox C (some od) ∧ s.heap.get? a = some ox ∧ ox.data = .plain := by
  obtain ⟨mA, O, _⟩ := ins_get I.hok h
  obtain ⟨od, J, _⟩ := O.look
  exact ⟨_, od, J, J.at_, rfl⟩
/-- an int beside an instance on the right -/
theorem op_rightI {op : Operator} {id : String} (M : C8.Met X.prog X.w X.K X.mg X.base k C (dunderR op.info.2) sp []) (hc : PySem.W.selfFirst X.K C = true) (hs : PySem.W.findIn X.K (.ref C) (PySem.dunder op.info.2) = some (some (.ref f))) (hL : fillsNumberSlot (.type "int") op.info.2 = pure true)
    (hsub : PySem.W.subIn X.K (.ref C) (.type "int") = some false) (sl : Slot "int" (PySem.dunder op.info.2) id) (hd : ∀ {A : Around} {E : Value → Shared → Prop} {s : Shared} {i : Int} {t : Tok} {x : Addr} {o : Obj} {Q' : Value → Shared → Prop}, s.heap.get? x = some o → o.data = .plain → Q' .notImplemented s → wpAny (model X.prog X.w) A (call (.builtin id) [.int i t, .ref x]) Q' E s)
    (hr : Room j X.A) (hk : k ≤ j) : OpR X (binaryOp op) (rRight C (fun x => ∃ i, x = .int i) sp) := by
  intro pins s σ H x y v u Q I rx ry h
  obtain ⟨a, dx, fs, ⟨i, rfl⟩, rfl, ha, q⟩ := h
  cases (show u = Value.ref a from ry)
  obtain ⟨t, rfl⟩ := (show ∃ t, v = Value.int i t from rx)
  obtain ⟨ox, od, J, hx, hp⟩ := ins_plain I ha
  obtain ⟨g, hm, w⟩ := run_two (us := [.ref a, .int i t]) (vs := [.ref a, .int i]) M hr hk I (.cons rfl (.cons ⟨t, rfl⟩ .nil)) q
  exact Ow.right_number I.kIn J rfl (typeIs_int s i t) hc hs hm.at_ hm.fn hL hsub sl (fun Q' z => hd hx hp z) w
/-- a value whose type has no number slot for the operator -/
theorem op_rightB {op : Operator} {T : String} (M : C8.Met X.prog X.w X.K X.mg X.base k C (dunderR op.info.2) sp []) (hc : PySem.W.selfFirst X.K C = true) (hs : PySem.W.findIn X.K (.ref C) (PySem.dunder op.info.2) = some (some (.ref f))) (hL : fillsNumberSlot (.type T) op.info.2 = pure false)
    (hr : Room j X.A) (hk : k ≤ j) : OpR X (binaryOp op) (rRight C (fun x => Kind x T) sp) := by
  intro pins s σ H x y v u Q I rx ry h
  obtain ⟨a, dx, fs, hT, rfl, ha, q⟩ := h
  cases (show u = Value.ref a from ry)
  obtain ⟨ox, od, J, hx, hp⟩ := ins_plain I ha
  obtain ⟨g, hm, w⟩ := run_two (us := [.ref a, v]) (vs := [.ref a, x]) M hr hk I (.cons rfl (.cons rx .nil)) q
  exact Ow.right_bare I.kIn J (PySem.W.Looks.of_pure (hT.type rx)) hc hs hm.at_ hm.fn hL w
end
end Lw
namespace Lw.Ow
open PySem PySem.Spec PyProof.Rows PySem.W PySem.Calls

/-! ### x op= y of instances whose class has no operator of that kind -/
section
variable {prog : Program} {w : World} {A : Around} {E : Value → Shared → Prop} {s : Shared} {K : Frag} {x C f g : Addr} {ox : Obj} {od : Option Obj}
/-- the operator's first half tells a value -/
def Told (Q : Value → Shared → Prop) (r : Option Value) (s' : Shared) : Prop := ∃ v, r = some v ∧ Q v s'
theorem half_same {nm : String} {b : Value} {Q : Value → Shared → Prop} (X : K.In s.heap) (I : InstAt s.heap x ox C od) (hb : Looks (model prog w) s.heap (typeOf b) (.ref C)) (hc : selfFirst K C = true) (hs : findIn K (.ref C) (PySem.dunder nm) = some (some (.ref f))) (hf : isFn K (.ref f) = true)
    (h : wpAny (model prog w) A (call (.ref f) [.ref x, b]) (PySem.W.CmpBack Q) E s) : wpAny (model prog w) A (binaryOp1 nm (.ref x) b) (Told Q) E s := by
  obtain ⟨cd, rest, hcd, hm⟩ := ksp_first hc
  have one := ksp_try X I hs hf h
  obtain ⟨hh, gg, d, tt, os⟩ := s
  have L1 : Looks (model prog w) hh (typeOf (.ref x)) (.ref C) := I.type
  have L2 : Looks (model prog w) hh (typeOf b) (.ref C) := hb
  have L3 : Looks (model prog w) hh (fillsNumberSlot (.ref C) nm) true := fills_K X hcd hm hs
  unfold binaryOp1
  refine wpAny_bind (L1.at (wpAny_bind (L2.at (wpAny_bind (L3.at ?_)))))
  simp only [beq_self_eq_true, if_true]
  refine wpAny_bind (wpAny_pure ?_)
  simp only [Bool.and_false, Bool.false_and, Bool.false_eq_true, if_false, if_true, pure_bind]
  refine wpAny_bind (wpAny_mono one (fun r s' z => ?_) fun _ _ e => e)
  obtain ⟨v, rfl, hq⟩ := z
  exact wpAny_pure ⟨v, rfl, hq⟩
/-- no class above has the operator of that kind -/
theorem bare_inplace {nm : String} {add : Bool} {cd : ClassData} {h : Heap} {M : Model} (X : K.In h) (hc : clsIn K C = some cd) (hm : cd.mro = [.ref C, .type "object"]) (h1 : findIn K (.ref C) (dunderI nm) = some none) (h2 : findIn K (.type "object") (dunderI nm) = some none) : Looks M h (fillsInplaceSlot (.ref C) nm add) false := by
  intro A Q E s k q
  have Lm : Looks M h (mroOf (.ref C)) cd.mro := (looks_clsIn X hc).andThen (f := fun cd => pure cd.mro) .now
  have Lm2 := Lm.keeps k
  obtain ⟨hh, gg, d, tt, os⟩ := s
  have X2 : K.In hh := X.keeps k
  have L1 : Looks M hh (typeLookup (.ref C) (dunderI nm)) none := looks_findIn X2 h1
  have L2 : Looks M hh (typeLookup (.type "object") (dunderI nm)) none := looks_findIn X2 h2
  unfold fillsInplaceSlot
  refine wpAny_bind (Lm2.at ?_)
  rw [hm, List.anyM_cons]
  refine wpAny_bind (wpAny_bind (L1.at ?_))
  refine wpAny_pure ?_
  rw [List.anyM_cons]
  refine wpAny_bind (wpAny_bind (L2.at ?_))
  refine wpAny_pure ?_
  rw [List.anyM_nil]
  exact wpAny_pure q
theorem inplace_of {op : Operator} {b : Value} {cd : ClassData} {Q : Value → Shared → Prop} (X : K.In s.heap) (I : InstAt s.heap x ox C od) (hc : clsIn K C = some cd) (hm : cd.mro = [.ref C, .type "object"]) (h1 : findIn K (.ref C) (dunderI op.info.2) = some none) (h2 : findIn K (.type "object") (dunderI op.info.2) = some none)
    (h : wpAny (model prog w) A (binaryOp1 op.info.2 (.ref x) b) (Told Q) E s) : wpAny (model prog w) A (inplaceOp op (.ref x) b) Q E s := by
  have L1 : Looks (model prog w) s.heap (typeOf (.ref x)) (.ref C) := I.type
  have L2 : Looks (model prog w) s.heap (fillsInplaceSlot (.ref C) op.info.2 (op == .Add)) false := bare_inplace X hc hm h1 h2
  unfold inplaceOp
  refine wpAny_holding ?_
  refine wpAny_bind (L1.here (wpAny_bind (L2.here ?_)))
  simp only [Bool.false_eq_true, if_false, pure_bind]
  refine wpAny_bind (wpAny_mono h (fun r s' z => ?_) fun _ _ e => e)
  obtain ⟨v, rfl, hq⟩ := z
  exact wpAny_pure hq
end
end Lw.Ow
namespace Lw.Ow
open PySem PySem.Spec PyProof.Rows PySem.W PySem.Calls

section
variable {prog : Program} {w : World} {A : Around} {E : Value → Shared → Prop} {s : Shared} {K : Frag} {x C f g : Addr} {ox : Obj} {od : Option Obj}
theorem half_left {nm : String} {b : Value} {T : String} {fo ro rc : Option Value} {Q : Value → Shared → Prop} (X : K.In s.heap) (I : InstAt s.heap x ox C od) (hb : Looks (model prog w) s.heap (typeOf b) (.type T)) (hc : selfFirst K C = true) (hs : findIn K (.ref C) (PySem.dunder nm) = some (some (.ref f))) (hf : isFn K (.ref f) = true)
    (hr : findIn K (.ref C) (dunderR nm) = some rc) (hp : rc = none ∨ ∃ g : Addr, rc = some (.ref g)) (h1 : findIn K (.type T) (PySem.dunder nm) = some fo) (h2 : findIn K (.type T) (dunderR nm) = some ro) (hsub : subIn K (.type T) (.ref C) = some false)
    (h : wpAny (model prog w) A (call (.ref f) [.ref x, b]) (PySem.W.CmpBack Q) E s) : wpAny (model prog w) A (binaryOp1 nm (.ref x) b) (Told Q) E s := by
  obtain ⟨cd, rest, hcd, hm⟩ := ksp_first hc
  have one := ksp_try X I hs hf h
  obtain ⟨hh, gg, d, tt, os⟩ := s
  have L1 : Looks (model prog w) hh (typeOf (.ref x)) (.ref C) := I.type
  have L3 : Looks (model prog w) hh (fillsNumberSlot (.ref C) nm) true := fills_K X hcd hm hs
  have L4 : Looks (model prog w) hh (fillsNumberSlot (.type T) nm) ((fo.isSome && !isSeqSlot fo) || (ro.isSome && !isSeqSlot ro)) := ksp_fillsT X h1 h2
  have L5 : Looks (model prog w) hh (isSubtype (.type T) (.ref C)) false := looks_subIn X hsub
  have L6 : Looks (model prog w) hh (numberSlotInPython (.ref C) nm) true := ksp_inPy X hs hr hp
  have L7 : Looks (model prog w) hh (numberSlotInPython (.type T) nm) false := Looks.of_pure rfl
  have L8 : Looks (model prog w) hh (typeLookup (.type T) (dunderR nm)) ro := looks_findIn X h2
  have hne : (Value.ref C == Value.type T) = false := Bool.eq_false_iff.mpr fun q => by cases beq_iff_eq.mp q
  have done : ∀ {r : Option Value} {s' : Shared}, (∃ v, r = some v ∧ Q v s') → ∃ v, r = some v ∧ Told Q r s' := fun ⟨v, e, q⟩ => ⟨v, e, v, e, q⟩
  generalize ((fo.isSome && !isSeqSlot fo) || (ro.isSome && !isSeqSlot ro)) = right at L4
  unfold binaryOp1
  refine wpAny_bind (L1.at (wpAny_bind (hb.at (wpAny_bind (L3.at ?_)))))
  simp only [hne, Bool.false_eq_true, if_false]
  refine wpAny_bind (L4.at ?_)
  cases right with
  | false =>
    simp only [Bool.and_false, Bool.false_and, Bool.false_eq_true, if_false, if_true, pure_bind]
    refine wpAny_bind (wpAny_mono one (fun r s' z => ?_) fun _ _ e => e)
    obtain ⟨v, rfl, hq⟩ := z
    exact wpAny_pure ⟨v, rfl, hq⟩
  | true =>
    simp only [Bool.and_self, if_true]
    refine wpAny_bind (L5.at ?_)
    simp only [Bool.false_eq_true, if_false, if_true, Bool.not_false, Bool.and_self]
    refine wpAny_bind (L6.at ?_)
    simp only [if_true]
    refine wpAny_bind (L7.at ?_)
    simp only [Bool.not_false, if_true]
    refine wpAny_bind (L8.at ?_)
    refine wpAny_bind (wpAny_mono one (fun r s' z => ?_) fun _ _ e => e)
    obtain ⟨v, rfl, hq⟩ := z
    exact wpAny_pure ⟨v, rfl, hq⟩
theorem half_number {nm : String} {a : Value} {T id : String} {Q : Value → Shared → Prop} (X : K.In s.heap) (I : InstAt s.heap x ox C od) (ht : typeOf a = pure (.type T)) (hT : s.TypeIs a T) (hc : selfFirst K C = true) (hs : findIn K (.ref C) (PySem.dunder nm) = some (some (.ref f))) (hr : findIn K (.ref C) (dunderR nm) = some (some (.ref g)))
    (hg : isFn K (.ref g) = true) (hL : fillsNumberSlot (.type T) nm = pure true) (hsub : subIn K (.ref C) (.type T) = some false) (sl : Slot T (PySem.dunder nm) id) (hd : ∀ Q' : Value → Shared → Prop, Q' .notImplemented s → wpAny (model prog w) A (call (.builtin id) [a, .ref x]) Q' E s)
    (h : wpAny (model prog w) A (call (.ref g) [.ref x, a]) (PySem.W.CmpBack Q) E s) : wpAny (model prog w) A (binaryOp1 nm a (.ref x)) (Told Q) E s := by
  obtain ⟨cd, rest, hcd, hm⟩ := ksp_first hc
  have one := ksp_try X I hr hg h
  have two := wpAny_tryMethod_declines (Q := fun r s' => r = none ∧ s' = s) hT sl (hd _ ⟨rfl, rfl, rfl⟩)
  obtain ⟨hh, gg, d, tt, os⟩ := s
  have L2 : Looks (model prog w) hh (typeOf (.ref x)) (.ref C) := I.type
  have L3 : Looks (model prog w) hh (fillsNumberSlot (.ref C) nm) true := fills_K X hcd hm hs
  have L4 : Looks (model prog w) hh (isSubtype (.ref C) (.type T)) false := looks_subIn X hsub
  have hpy : numberSlotInPython (.type T) nm = pure false := rfl
  have hne : (Value.type T == Value.ref C) = false := Bool.eq_false_iff.mpr fun q => by cases beq_iff_eq.mp q
  unfold binaryOp1
  refine wpAny_bind (wpAny_of_eq ht (wpAny_bind (L2.at (wpAny_bind (wpAny_of_eq hL ?_)))))
  simp only [hne, Bool.false_eq_true, if_false]
  refine wpAny_bind (L3.at ?_)
  simp only [Bool.and_self, if_true]
  refine wpAny_bind (L4.at ?_)
  simp only [Bool.false_eq_true, if_false, pure_bind, Bool.not_false, Bool.and_self, if_true, hpy]
  refine wpAny_bind (wpAny_mono two (fun r s' z => ?_) fun _ _ e => e)
  obtain ⟨rfl, rfl⟩ := z
  refine wpAny_bind (wpAny_mono one (fun r s' z => ?_) fun _ _ e => e)
  obtain ⟨v, rfl, hq⟩ := z
  exact wpAny_bind (wpAny_rule (wpAny_pure ⟨v, rfl, hq⟩))
end
end Lw.Ow
namespace Lw
open PySem PySem.Spec PyProof.Rows L2

/-- a class right below object that has no operator of the kind op= -/
structure NoInplace (K : PySem.W.Frag) (C : Addr) (op : Operator) : Prop where
  mro : ∃ cd, PySem.W.clsIn K C = some cd ∧ cd.mro = [.ref C, .type "object"]
  own : PySem.W.findIn K (.ref C) (dunderI op.info.2) = some none
  obj : PySem.W.findIn K (.type "object") (dunderI op.info.2) = some none
section
variable {X : Cx} {C f : Addr} {k j : Nat} {sp : Sp}
theorem iop_same {op : Operator} (M : C8.Met X.prog X.w X.K X.mg X.base k C (PySem.dunder op.info.2) sp []) (hc : PySem.W.selfFirst X.K C = true) (ni : NoInplace X.K C op) (hr : Room j X.A) (hk : k ≤ j) : OpR X (inplaceOp op) (rSame C sp) := by
  intro pins s σ H x y v u Q I rx ry h
  obtain ⟨a, dx, fs, b, dy, gs, rfl, rfl, ha, hb, q⟩ := h
  cases (show v = Value.ref a from rx)
  cases (show u = Value.ref b from ry)
  obtain ⟨_, _, J⟩ := ins_at I ha
  obtain ⟨_, _, J'⟩ := ins_at I hb
  obtain ⟨g, hm, w⟩ := run_two (us := [.ref a, .ref b]) (vs := [.ref a, .ref b]) M hr hk I (.cons rfl (.cons rfl .nil)) q
  obtain ⟨cd, h1, h2⟩ := ni.mro
  exact Ow.inplace_of I.kIn J h1 h2 ni.own ni.obj (Ow.half_same I.kIn J J'.type hc hm.at_ hm.fn w)
theorem iop_beside {op : Operator} (M : C8.Met X.prog X.w X.K X.mg X.base k C (PySem.dunder op.info.2) sp []) (ni : NoInplace X.K C op) (hr : Room j X.A) (hk : k ≤ j) : OpR X (inplaceOp op) (rBeside X.K C op sp) := by
  intro pins s σ H x y v u Q I rx ry h
  obtain ⟨a, dx, fs, T, rfl, ha, hT, hB, q⟩ := h
  cases (show v = Value.ref a from rx)
  obtain ⟨_, _, J⟩ := ins_at I ha
  obtain ⟨g, hm, w⟩ := run_two (us := [.ref a, u]) (vs := [.ref a, y]) M hr hk I (.cons rfl (.cons ry .nil)) q
  obtain ⟨cd, h1, h2⟩ := ni.mro
  obtain ⟨rc, r1, r2⟩ := hB.back
  obtain ⟨fo, f1⟩ := hB.ahead
  obtain ⟨ro, o1⟩ := hB.behind
  exact Ow.inplace_of I.kIn J h1 h2 ni.own ni.obj (Ow.half_left I.kIn J (PySem.W.Looks.of_pure (hT.type ry)) hB.first hm.at_ hm.fn r1 r2 f1 o1 hB.sub w)
/-- i op= x, i an int, x an instance -/
theorem iop_rightI {op : Operator} {id : String} (M : C8.Met X.prog X.w X.K X.mg X.base k C (dunderR op.info.2) sp []) (hc : PySem.W.selfFirst X.K C = true) (hs : PySem.W.findIn X.K (.ref C) (PySem.dunder op.info.2) = some (some (.ref f))) (hL : fillsNumberSlot (.type "int") op.info.2 = pure true) (hI : fillsInplaceSlot (.type "int") op.info.2 (op == .Add) = pure false)
    (hsub : PySem.W.subIn X.K (.ref C) (.type "int") = some false) (sl : Slot "int" (PySem.dunder op.info.2) id) (hd : ∀ {A : Around} {E : Value → Shared → Prop} {s : Shared} {i : Int} {t : Tok} {x : Addr} {o : Obj} {Q' : Value → Shared → Prop}, s.heap.get? x = some o → o.data = .plain → Q' .notImplemented s → wpAny (model X.prog X.w) A (call (.builtin id) [.int i t, .ref x]) Q' E s)
    (hr : Room j X.A) (hk : k ≤ j) : OpR X (inplaceOp op) (rRight C (fun x => ∃ i, x = .int i) sp) := by
  intro pins s σ H x y v u Q I rx ry h
  obtain ⟨a, dx, fs, ⟨i, rfl⟩, rfl, ha, q⟩ := h
  cases (show u = Value.ref a from ry)
  obtain ⟨t, rfl⟩ := (show ∃ t, v = Value.int i t from rx)
  obtain ⟨ox, od, J, hx, hp⟩ := ins_plain I ha
  obtain ⟨g, hm, w⟩ := run_two (us := [.ref a, .int i t]) (vs := [.ref a, .int i]) M hr hk I (.cons rfl (.cons ⟨t, rfl⟩ .nil)) q
  have half := Ow.half_number I.kIn J rfl (typeIs_int s i t) hc hs hm.at_ hm.fn hL hsub sl (fun Q' z => hd hx hp z) w
  unfold inplaceOp
  refine wpAny_holding ?_
  refine wpAny_bind (wpAny_of_eq (a := Value.type "int") rfl (wpAny_bind (wpAny_of_eq hI ?_)))
  simp only [Bool.false_eq_true, if_false, pure_bind]
  refine wpAny_bind (wpAny_mono half (fun r s' z => ?_) fun _ _ e => e)
  obtain ⟨v, rfl, hq⟩ := z
  exact wpAny_pure hq
theorem int_no_inplace : fillsInplaceSlot (.type "int") "add" true = pure false ∧ fillsInplaceSlot (.type "int") "sub" false = pure false ∧ fillsInplaceSlot (.type "int") "mul" false = pure false := by
  refine ⟨?_, ?_, ?_⟩ <;> · simp only [fillsInplaceSlot, typeLookup_type]; rfl
end
end Lw
namespace Lw
open PySem PySem.Spec PyProof.Rows L2

/-! ### the same operators, their methods may raise -/
/-- a method of the class that may raise what E tells -/
structure MetX (P : Program) (w : World) (K : PySem.W.Frag) (mg : Str → Option Value) (base : Heap) (k : Nat) (C : Addr) (m : Str) (sp : Sp) : Prop where
  ex : ∃ (g : Addr) (fd : FuncData) (ps : List Str), Meth K C m g ∧ FnOk P w K mg base (L2.CX P w) k g fd ps sp ∧ Binds K fd ps []
section
variable {X : Cx} {C f : Addr} {k j : Nat} {sp : Sp} {E : XK} {pins : List (Addr × Obj)} {σ : L2.St} {H : Hp} {s : Shared}
theorem run_met {m : Str} {us : List Value} {vs : List V} {Q : VK} (M : MetX X.prog X.w X.K X.mg X.base k C m sp) (hx : Passes (L2.CX X.prog X.w) X E) (hr : Room j X.A) (hk : k ≤ j) (I : Inv X pins σ H s) (r : Vals vs us) (q : sp vs H Q E) :
    ∃ g : Addr, Meth X.K C m g ∧ wpAny (model X.prog X.w) X.A (call (.ref g) us) (PySem.W.CmpBack (EP X pins σ Q)) X.xe s ∧ wpAny (model X.prog X.w) X.A (call (.ref g) us) (EP X pins σ Q) X.xe s := by
  obtain ⟨g, fd, ps, hm, F, b⟩ := M.ex
  have q' : sp (vs ++ []) H Q E := by rw [List.append_nil]; exact q
  have ran := run_fn F (hr.mono hk) b .nil hx I r q'
  refine ⟨g, hm, wpAny_mono ran (fun w s' z => ?_) (fun _ _ x => x), ran⟩
  obtain ⟨z', H', I', rz, qz⟩ := z
  exact SlX.cmpback rz ⟨z', H', I', rz, qz⟩
def rSameX (C : Addr) (sp : Sp) (E : XK) : R2 := fun x y H Q => ∃ a dx fs b dy gs, x = .ref a ∧ y = .ref b ∧ H a = some (.ins C dx fs) ∧ H b = some (.ins C dy gs) ∧ sp [x, y] H Q E
theorem op_sameX {op : Operator} (M : MetX X.prog X.w X.K X.mg X.base k C (PySem.dunder op.info.2) sp) (hx : Passes (L2.CX X.prog X.w) X E) (hc : PySem.W.selfFirst X.K C = true) (hr : Room j X.A) (hk : k ≤ j) : OpR X (binaryOp op) (rSameX C sp E) := by
  intro pins s σ H x y v u Q I rx ry h
  obtain ⟨a, dx, fs, b, dy, gs, rfl, rfl, ha, hb, q⟩ := h
  cases (show v = Value.ref a from rx)
  cases (show u = Value.ref b from ry)
  obtain ⟨_, _, J⟩ := ins_at I ha
  obtain ⟨_, _, J'⟩ := ins_at I hb
  obtain ⟨g, hm, w, _⟩ := run_met (us := [.ref a, .ref b]) (vs := [.ref a, .ref b]) M hx hr hk I (.cons rfl (.cons rfl .nil)) q
  obtain ⟨m, hF⟩ := I.fr
  exact PySem.W.binop_K hF I.ok.mod.kin J J'.type hc hm.at_ hm.fn w
def rBesideX (K : PySem.W.Frag) (C : Addr) (op : Operator) (sp : Sp) (E : XK) : R2 := fun x y H Q => ∃ a dx fs T, x = .ref a ∧ H a = some (.ins C dx fs) ∧ Kind y T ∧ Beside K C op T ∧ sp [x, y] H Q E
theorem op_besideX {op : Operator} (M : MetX X.prog X.w X.K X.mg X.base k C (PySem.dunder op.info.2) sp) (hx : Passes (L2.CX X.prog X.w) X E) (hr : Room j X.A) (hk : k ≤ j) : OpR X (binaryOp op) (rBesideX X.K C op sp E) := by
  intro pins s σ H x y v u Q I rx ry h
  obtain ⟨a, dx, fs, T, rfl, ha, hT, hB, q⟩ := h
  cases (show v = Value.ref a from rx)
  obtain ⟨_, _, J⟩ := ins_at I ha
  obtain ⟨g, hm, w, _⟩ := run_met (us := [.ref a, u]) (vs := [.ref a, y]) M hx hr hk I (.cons rfl (.cons ry .nil)) q
  obtain ⟨m, hF⟩ := I.fr
  obtain ⟨rc, r1, r2⟩ := hB.back
  obtain ⟨fo, f1⟩ := hB.ahead
  obtain ⟨ro, o1⟩ := hB.behind
  exact PySem.W.ksp_binT hF I.ok.mod.kin J (hT.type ry) hB.first hm.at_ hm.fn r1 r2 f1 o1 hB.sub w
def rSignX (C : Addr) (sp : Sp) (E : XK) : V → Hp → VK → Prop := fun x H Q => ∃ a dx fs, x = .ref a ∧ H a = some (.ins C dx fs) ∧ sp [x] H Q E
theorem un_signX (M : MetX X.prog X.w X.K X.mg X.base k C "__neg__" sp) (hx : Passes (L2.CX X.prog X.w) X E) (hr : Room j X.A) (hk : k ≤ j) : UnR X (unaryOp .USub) (rSignX C sp E) := by
  intro pins s σ H x v Q I rx h
  obtain ⟨a, dx, fs, rfl, ha, q⟩ := h
  cases (show v = Value.ref a from rx)
  obtain ⟨_, _, J⟩ := ins_at I ha
  obtain ⟨g, hm, _, w⟩ := run_met (us := [.ref a]) (vs := [.ref a]) M hx hr hk I (.cons rfl .nil) q
  obtain ⟨m, hF⟩ := I.fr
  exact PySem.W.ksp_neg hF I.ok.mod.kin J hm.at_ hm.fn w
end
end Lw
namespace Lw
open PySem PySem.Spec PyProof.Rows L2

/-! ### defs that are called where no repr runs -/
/-- a def's promise where nothing is being shown -/
structure FnG (P : Program) (w : World) (K : PySem.W.Frag) (mg : Str → Option Value) (base : Heap) (k : Nat) (f : Addr) (fd : FuncData) (ps : List Str) (sp : Sp) : Prop where
  len : ∀ vs H Q E, sp vs H Q E → vs.length = ps.length
  run : ∀ (A : Around) (outer : List Env) (s : Shared) (H : Hp) (args : Args) (us : List Value) (vs : List V) (Q : VK) (E : XK), A.guards = some [] → Room k A → Env0 P w K mg base A outer s H →
    BindsTo s fd args (ps.zip us) → Vals vs us → sp vs H Q E → codeAny (model P w) A (.call (.ref f) args) (CR C8.CX0 outer P w H s Q E) s
structure CalG (P : Program) (w : World) (K : PySem.W.Frag) (mg : Str → Option Value) (base : Heap) (k : Nat) (x : Str) (sp : Sp) (dvs : List V) : Prop where
  ex : ∃ (f : Addr) (fd : FuncData) (ps : List Str) (ds : List Value), FnG P w K mg base k f fd ps sp ∧ mg x = some (.ref f) ∧ PySem.W.keepIn K (.ref f) = true ∧ Binds K fd ps ds ∧ Vals dvs ds
section
variable {P : Program} {w : World} {K : PySem.W.Frag} {mg : Str → Option Value} {base : Heap}
theorem calG {x : Str} {st : Stmt} {f : Addr} {fd : FuncData} {N ps : List Str} {ds : List Value} {dvs : List V} {k : Nat} {sp : Sp} (F : C8.Def K mg x st f fd) (b : Binds K fd ps ds) (d : Vals dvs ds) (S : FnScope N ps (C8.fnScope st))
    (len : ∀ vs H Q E, sp vs H Q E → vs.length = ps.length)
    (body : ∀ (cdv : Value) (A : Around) (outer : List Env) (s : Shared) (H : Hp) (vs : List V) (Q : VK) (E : XK), (A.deeper (envOfC x (C8.fnScope st) s.heap.objs.size f cdv)).guards = some [] → Room k (A.deeper (envOfC x (C8.fnScope st) s.heap.objs.size f cdv)) → sp vs H Q E →
      ∃ t, PSs (cxOf C8.CX0 P w K mg base N x (C8.fnScope st) f cdv A outer s H E).nox (C8.fnBody st) t ∧ t { nx := fun _ H' => Q .non H', rt := Q } (start N vs) H) : CalG P w K mg base (k + 1) x sp dvs := by
  refine ⟨f, fd, ps, ds, ⟨len, ?_⟩, F.mgf, F.kp, b, d⟩
  intro A outer s H args us vs Q E hg hr e0 hb r hs
  obtain ⟨oc, od, dV, kV, doc, pm, an, cdv, ct, osl, rfl, lk, hcd⟩ := F.fn.ex
  refine LamX.run_ofS lk hcd S hr e0 hb r (len _ _ _ _ hs) fun hr' => ?_
  obtain ⟨t, h1, h2⟩ := body cdv A outer s H vs Q E hg hr' hs
  exact ⟨t, h1.nox, h2⟩
end
section
variable {X : Cx} {k j : Nat} {x : Str} {sp : Sp} {dvs : List V} {p pos : Pos} {e : Expr} {es : List Expr} {t : TA}
theorem pe_g (c : CalG X.prog X.w X.K X.mg X.base k x sp dvs) (hG : X.A.guards = some []) (hr : Room j X.A) (hk : k ≤ j) (hg : Gl X x) (ha : PA X (e :: es) t)
    (hdb : (x == ("__debug__" : Str)) = false := by decide) (he : starEach (e :: es) X.env = (false, eval e X.env) :: starEach es X.env := by rfl) (hpl : (backTo pos (starEach es X.env)).any (·.1) = false := by rfl) :
    PE X (.Call (.Name x p) (e :: es) [] pos) (tCall sp dvs C8.E0 t) := by
  obtain ⟨f, fd, ps, ds, F, hm, kp, b, d⟩ := c.ex
  refine ⟨fun pins s σ H Q I h => ?_⟩
  refine wpAny_Call_Name_kw (ld_glob I hg hm ?_ hdb)
  refine PySem.W.callWith_K (h₀ := X.base) I.ok.mod.kin kp (thn (ha.run pos pins s σ H _ I h) fun us s1 g => ?_) he hpl
  obtain ⟨vs, H1, I1, r, q⟩ := g
  refine ⟨I1.kIn, ?_⟩
  have r2 := r.append d
  have hl : (us ++ ds).length = ps.length := r2.length.symm.trans (F.len _ _ _ _ q)
  refine wpAny_call (codeAny_mono (F.run X.A X.stack s1 H1 ⟨us, []⟩ (us ++ ds) (vs ++ dvs) Q C8.E0 hG (hr.mono hk) I1.env0 (b s1 us I1.kIn hl) r2 q) fun r s' hq => ?_)
  match r, hq with
  | .error e, hq => exact hq.elim
  | .ok (.ret u), hq => exact I1.after hq
  | .ok .next, hq => exact hq.elim
  | .ok .brk, hq => exact hq.elim
  | .ok .cont, hq => exact hq.elim
/-! ### repr of data -/
def rRepr (K : PySem.W.Frag) : List V → Hp → VK → Prop := fun xs H Q => ∃ (a : Addr) (d : PyData), xs = [.ref a] ∧ Dp K H (.ref a) d ∧ d.showable = true ∧ d.hasDict = false ∧ d.depth ≤ 100 ∧ d.shown.length ≤ sizeLine ∧ Q (.str d.shown) H
theorem call_reprD (hG : X.A.guards = some []) (hr : Room 0 X.A) : CallR X (.builtin "repr") (rRepr X.K) := by
  intro pins s σ H xs us Q I r h
  obtain ⟨a, d, rfl, hd, h1, h2, h3, h4, q⟩ := h
  obtain ⟨u, rfl, ru⟩ := vals1 r
  have e : u = Value.ref a := ru
  subst e
  obtain ⟨as, rd⟩ := Dp.reads I d _ _ hd rfl
  have hun := hr.un
  exact repr_of_reads' rd h1 (fun z => by rw [h2] at z; cases z) hG (by omega) (fun _ _ e => e) (fun h' u' tk kp => ⟨.str d.shown, H, I.kept kp, ⟨u', rfl⟩, q⟩) h4
end
end Lw
namespace Lw
open PySem PySem.Spec PyProof.Rows L2

open LamX
/-! ### a lambda as a value -/
def FnO (f : Addr) : HO := .ext fun h => ∃ o : Obj, h.get? f = some o ∧ o.cls = .type "function"
section
variable {X : Cx} {pins : List (Addr × Obj)} {σ : L2.St} {H : Hp} {s : Shared}
theorem lay_fn {h' : Heap} {t' : Nat} {o : Obj} (I : Inv X pins σ H { s with heap := h', toks := t' }) (ho : o.cls = .type "function") (hs : o.isFreed = false) :
    Inv X pins σ (upd H h'.objs.size (FnO h'.objs.size)) { s with heap := h'.push o, toks := t' } := by
  refine I.laid (h' := h'.push o) (t' := t') (fun b u e => Heap.get?_push_of_some _ e) (Nat.le_refl _) ?_
  have g : (h'.push o).get? h'.objs.size = some o := Heap.get?_push_size _ hs
  refine ⟨⟨o, g, ho⟩, ⟨o, g⟩, ?_⟩
  rintro h1 h2 ⟨u, e1, e2⟩ st
  exact ⟨u, st u e1, e2⟩
theorem lam_val {T : List (Addr × Str)} {c B : Addr} {params : Arguments} {body : Expr} {scope : Scope} {pos : Pos} {E Q : Value → Shared → Prop} (I : Inv X pins σ H s) (TB : TabB X.base X.mg c B) (hcode : X.env.code = .ref c)
    (hm : (B, X.env.qual ++ "<lambda>") ∈ T) (hu : ∀ p ∈ T, p.1 = B → p.2 = X.env.qual ++ "<lambda>") (hT : Tabs T H) (hdef : defaultsOf params X.env = ([], []))
    (hfree : ∀ y ∈ scope.names, y.2 = .free → ∃ c, X.env.cells.lookup y.1 = some c)
    (h : ∀ (f : Addr) (H1 : Hp) (s' : Shared), Inv X pins σ (upd H1 f (FnO f)) s' → ExtN H H1 → Tabs T H1 → H1 f = none → Q (.ref f) s') :
    wpAny (model X.prog X.w) X.A (eval (.Lambda params body scope pos) X.env) Q E s := by
  have known := hT _ hm
  obtain ⟨ps, hB, trip, amg⟩ := known
  refine PySem.W.kla_eval hdef ?_
  have hat : s.heap.get? B = some { cls := .none, data := .fields ps } := I.hok B _ hB
  have blt := TB.bm.keeps I.bk
  have hdc := TB.code.keeps I.bk
  have glb := I.mod.glob.keeps I.bk
  rcases hc : codeAmong pos ps.toList with _ | cv
  · refine PySem.W.kla_makeFunction (mg := X.mg) (c := c) (P := B) (ps := ps) (closure_ok hfree) I.ok.glob glb hcode hdc hat trip hc TB.gP blt ?_
    intro c2 ctv h' tk hx hge hlt hrec htb
    obtain ⟨c3, oc, vs, t, e3, g1, g2, g3⟩ := hrec
    cases e3
    have nC : H c2 = none := I.hok.fresh hge
    have I0 := inv_table (t' := tk) (more := #[rawInt pos.line, rawInt pos.col, .ref c2]) (h' := h') I hB hx htb hge ⟨oc, vs, t, g1, g2, g3⟩
    have stays : ExtN H (upd (upd H B (.tbl (ps ++ #[rawInt pos.line, rawInt pos.col, .ref c2]))) c2 (CodeO c2 (X.env.qual ++ "<lambda>"))) := by
      intro b o e n
      rw [upd_ne (ne_of_none e nC)]
      by_cases hb : b = B
      · subst hb
        rw [hB] at e
        exact absurd (Option.some.inj e).symm (n ps)
      · rw [upd_ne hb]; exact e
    refine h h'.objs.size _ _ (lay_fn (t' := tk) I0 rfl rfl) stays ?_ ?_
    · intro p hp
      by_cases hb : p.1 = B
      · rw [hu p hp hb, hb]
        refine ⟨ps ++ #[rawInt pos.line, rawInt pos.col, .ref c2], ?_, ?_, ?_⟩
        · rw [upd_ne (ne_of_none hB nC), upd_same]
        · rw [show (ps ++ #[rawInt pos.line, rawInt pos.col, .ref c2]).toList = ps.toList ++ [rawInt pos.line, rawInt pos.col, .ref c2] by simp]
          exact PySem.TriplesOk_snoc _ _ _ _ trip
        · intro p' cv' hcv
          rw [show (ps ++ #[rawInt pos.line, rawInt pos.col, .ref c2]).toList = ps.toList ++ [rawInt pos.line, rawInt pos.col, .ref c2] by simp] at hcv
          rcases among_app _ trip hcv with z | z
          · obtain ⟨c0, a1, a2⟩ := amg p' cv' z
            exact ⟨c0, a1, stays _ _ a2 codeO_ne⟩
          · exact ⟨c2, z, upd_same⟩
      · obtain ⟨qs, a1, a2, a3⟩ := hT p hp
        refine ⟨qs, ?_, a2, ?_⟩
        · rw [upd_ne (ne_of_none a1 nC), upd_ne hb]; exact a1
        · intro p' cv' hcv
          obtain ⟨c0, b1, b2⟩ := a3 p' cv' hcv
          exact ⟨c0, b1, stays _ _ b2 codeO_ne⟩
    · have n1 : h'.objs.size ≠ c2 := Nat.ne_of_gt hlt
      have n2 : h'.objs.size ≠ B := Nat.ne_of_gt (Nat.lt_of_lt_of_le (Heap.lt_size hat) (Nat.le_trans hge (Nat.le_of_lt hlt)))
      rw [upd_ne n1, upd_ne n2]
      exact I.hok.fresh (Nat.le_trans hge (Nat.le_of_lt hlt))
  · obtain ⟨c2, e, hco⟩ := amg pos cv hc
    subst e
    refine PySem.W.kla_makeFunctionHit (mg := X.mg) (c := c) (P := B) (ps := ps) (closure_ok hfree) I.ok.glob glb hcode hdc hat trip hc blt ?_
    intro ctv h' tk hx hsz
    have I0 : Inv X pins σ H { s with heap := h', toks := tk } := I.kept hx
    exact h h'.objs.size H _ (lay_fn (t' := tk) I0 rfl rfl) (ExtN.refl H) hT (I.hok.fresh hsz)
end
def tLamV (T : List (Addr × Str)) : TE := fun _ H Q => Tabs T H ∧ ∀ (f : Addr) (H1 : Hp), ExtN H H1 → Tabs T H1 → H1 f = none → Q (.ref f) (upd H1 f (FnO f))
section
variable {X : Cx}
theorem pe_lamV {T : List (Addr × Str)} {c B : Addr} {params : Arguments} {body : Expr} {scope : Scope} {pos : Pos} (TB : TabB X.base X.mg c B) (hcode : X.env.code = .ref c)
    (hm : (B, X.env.qual ++ "<lambda>") ∈ T) (hu : ∀ p ∈ T, p.1 = B → p.2 = X.env.qual ++ "<lambda>") (hdef : defaultsOf params X.env = ([], [])) (L : ∀ y ∈ scope.names, y.2 ≠ .free) :
    PE X (.Lambda params body scope pos) (tLamV T) := by
  refine ⟨fun pins s σ H Q I h => ?_⟩
  refine lam_val I TB hcode hm hu h.1 hdef (fun y hy e => absurd e (L y hy)) fun f H1 s' I1 eN T1 nf => ?_
  exact ⟨.ref f, _, I1, rfl, h.2 f H1 eN T1 nf⟩
end
end Lw
namespace Lf
open PySem
open Sem (wp)

theorem ga : Slot "function" "__getattribute__" "object.__getattribute__" := by
  refine .of (owner := "object") (n := "__getattribute__") ?_ (by decide +kernel) (by decide +kernel) (by decide +kernel) ?_ ?_
  · rw [typeLookup_type, builtinLookup_eq_fast]
    kernel_rfl
  · first
      | exact .inl (by decide +kernel)
      | exact .inr (by decide +kernel)
  · rw [isSubtype_type]
    kernel_rfl
theorem lkc : typeLookup (.type "function") "__class__" = pure (some (.builtin "object.__class__")) := by
  rw [typeLookup_type, builtinLookup_eq_fast]
  kernel_rfl
theorem sub_own : isSubtype (.type "function") (.type (".".intercalate ("object.__class__".cutAt '.').dropLast)) = pure true := by
  rw [F.owner_object_class]
  rw [isSubtype_type]
  kernel_rfl
section
variable {prog : Program} {w : World} {A : Around} {E : Value → Shared → Prop} {h : Heap} {g : Array GenState} {d : Drawn} {t : Nat} {os : OsState} {a : Addr} {o : Obj}
theorem fn_get {R : Result → Shared → Prop} (hx : h.get? a = some o) (hc : o.cls = .type "function")
    (hq : R (.ok (.ret (.type "function"))) ⟨h, g, d, t, os⟩) :
    codeAny (model prog w) A (.call (.builtin "getset_descriptor.__get__") ⟨[.builtin "object.__class__", .ref a, .type "function"], []⟩) R ⟨h, g, d, t, os⟩ := by
  have i1 : (⟨h, g, d, t, os⟩ : Shared).TypeIs (.ref a) "function" := ⟨o, hx, hc⟩
  have i2 : (⟨h, g, d, t, os⟩ : Shared).TypeIs (.builtin "object.__class__") "getset_descriptor" := F.typeOf_object_class
  have i3 := sub_own
  refine codeAny_call_builtin F.slot_gs_get.plain F.entry_gs_get ?_
  refine F.slot_gs_get.check _ _ _ _ _ _ _ _ i2 (F.args_gs_get _ _ _) ?_
  repeat (any_goals (first | assumption | wp_step))
  refine ⟨Code.quiet_builtin _ (by decide +kernel), ?_⟩
  refine codeAny_builtin F.entry_object_class ?_
  repeat (any_goals (first | assumption | wp_step))
theorem fn_ga {tk : Tok} {Q : Fin → Shared → Prop} (hx : h.get? a = some o) (hc : o.cls = .type "function")
    (hq : Q (.done (.ret (.type "function"))) ⟨h, g, d, t, os⟩) :
    wpAny (model prog w) A (Builtin.«object.__getattribute__» ⟨[.ref a, .str "__class__" tk], []⟩) Q E ⟨h, g, d, t, os⟩ := by
  have i1 : (⟨h, g, d, t, os⟩ : Shared).TypeIs (.ref a) "function" := ⟨o, hx, hc⟩
  have i2 : (⟨h, g, d, t, os⟩ : Shared).TypeIs (.builtin "object.__class__") "getset_descriptor" := F.typeOf_object_class
  have i3 := lkc
  have i4 := F.typeOf_object_class
  have i5 := F.slot_gs_get.lookup
  have i6 := F.slot_gs_set.lookup
  repeat (any_goals (first | assumption | wp_step))
  refine fn_get hx hc ?_
  repeat (any_goals (first | assumption | wp_step))
theorem fn_call {tk : Tok} {R : Result → Shared → Prop} (hx : h.get? a = some o) (hc : o.cls = .type "function")
    (hq : R (.ok (.ret (.type "function"))) ⟨h, g, d, t, os⟩) :
    codeAny (model prog w) A (.call (.builtin "object.__getattribute__") ⟨[.ref a, .str "__class__" tk], []⟩) R ⟨h, g, d, t, os⟩ := by
  refine codeAny_call_builtin ga.plain F.entry_object_getattribute ?_
  exact ga.check _ _ _ _ _ _ _ _ (show (⟨h, g, d, t, os⟩ : Shared).TypeIs (.ref a) "function" from ⟨o, hx, hc⟩) (F.args_object_getattribute_2 _ _) (fn_ga hx hc hq)
theorem fn_by {tk : Tok} {Q : Value → Shared → Prop} (hx : h.get? a = some o) (hc : o.cls = .type "function") (hq : Q (.type "function") ⟨h, g, d, t, os⟩) :
    wpAny (model prog w) A (getAttrBy (.ref a) (.str "__class__" tk) false) Q E ⟨h, g, d, t, os⟩ := by
  have i1 : (⟨h, g, d, t, os⟩ : Shared).TypeIs (.ref a) "function" := ⟨o, hx, hc⟩
  have i2 := ga.lookup
  have i3 := ga.bind (.ref a)
  repeat (any_goals (first | assumption | wp_step))
  refine fn_call hx hc ?_
  repeat (any_goals (first | assumption | wp_step))
theorem fn_attr {Q : Option Value → Shared → Prop} (hx : h.get? a = some o) (hc : o.cls = .type "function") (hq : Q (some (.type "function")) ⟨h, g, d, t + 1, os⟩) :
    wpAny (model prog w) A (getAttr? (.ref a) "__class__") Q E ⟨h, g, d, t, os⟩ := by
  unfold getAttr? getAttrBy?
  repeat (any_goals (first | assumption | with_reducible apply fn_by hx hc | wp_step))
end
end Lf
namespace Lw
open PySem PySem.Spec PyProof.Rows L2

open LamX
theorem kitx_fn {K : PySem.W.Frag} {a : Addr} : PySem.W.KitX K (.ref a) (.type "function") (PySem.W.KitAt a "function") := PySem.W.kitx_of PySem.W.kitAt_ty (fun {_ _ _ _ _ s} p k => by
  obtain ⟨h, g, d, t, os⟩ := s
  obtain ⟨o, h1, h2⟩ := p
  exact Lf.fn_attr h1 h2 k)
/-- a value's type: a def's, too -/
inductive TyZ (K : PySem.W.Frag) (H : Hp) : V → Value → Prop where
  | x {v : V} {t : Value} (h : TyX K H v t) : TyZ K H v t
  | fn {a : Addr} (e : H a = some (FnO a)) : TyZ K H (.ref a) (.type "function")
def rIsz (K : PySem.W.Frag) : List V → Hp → VK → Prop := fun xs H Q => ∃ (x c : V) (t u : Value) (b : Bool), xs = [x, c] ∧ ClsV c u ∧ TyZ K H x t ∧ PySem.W.kitOne K t u = some b ∧ Q (.bl b) H
theorem call_isz {X : Cx} : CallR X (.builtin "isinstance") (rIsz X.K) := by
  intro pins s σ H xs us Q I r h
  obtain ⟨x, c, t, u, b, rfl, k, ty, e, q⟩ := h
  obtain ⟨u1, u2, rfl, r1, r2⟩ := vals2 r
  have e2 := k.eq r2
  subst e2
  cases ty with
  | x ty =>
    obtain ⟨W, Z, p, hx⟩ := kit_of I r1 ty
    exact PySem.W.kia_one Z I.kIn p e hx fun tk => ⟨.bl b, H, I.tok tk, rfl, q⟩
  | @fn a ea =>
    have e3 : u1 = Value.ref a := r1
    subst e3
    obtain ⟨⟨o, h1, h2⟩, _⟩ := I.hok a _ ea
    exact PySem.W.kia_one kitx_fn I.kIn ⟨o, h1, h2⟩ e (fun z => by cases z) fun tk => ⟨.bl b, H, I.tok tk, rfl, q⟩
end Lw
namespace Lw
open PySem PySem.Spec PyProof.Rows L2

open LamX
abbrev sIsInt : Stmt := top 4
abbrev sWithin : Stmt := top 5
/-- what the top has told of the module's names -/
structure Txt (mg : Str → Option Value) : Prop extends Txt0 mg where
  n_bool : mg "bool" = none
  n_str : mg "str" = none
  n_isinstance : mg "isinstance" = none
  n_range : mg "range" = none
  n_repr : mg "repr" = none
  n_all : mg "all" = none
/-- any value that a caller may pass here -/
inductive Anyv (K : PySem.W.Frag) (H : Hp) : V → Prop where
  | int (i : Int) : Anyv K H (.int i)
  | non : Anyv K H .non
  | bl (b : Bool) : Anyv K H (.bl b)
  | str (z : Str) : Anyv K H (.str z)
  | obj {a : Addr} {t : Value} (h : TyZ K H (.ref a) t) (h1 : PySem.W.kitOne K t (.type "int") = some false) (h2 : PySem.W.kitOne K t (.type "bool") = some false) (h3 : PySem.W.kitOne K t (.type "str") = some false) : Anyv K H (.ref a)
def isI : V → Bool
  | .int _ => true
  | _ => false
def clsI : V → Bool
  | .int _ => true
  | .bl _ => true
  | _ => false
def clsB : V → Bool
  | .bl _ => true
  | _ => false
def isS : V → Bool
  | .str _ => true
  | _ => false
def inB (x : V) (lo hi : Int) : Bool := match x with
  | .int i => decide (lo ≤ i) && decide (i ≤ hi)
  | _ => false
def spIsInt (K : PySem.W.Frag) : Sp := fun vs H Q _ => ∃ x, vs = [x] ∧ Anyv K H x ∧ Q (.bl (isI x)) H
def spWithin (K : PySem.W.Frag) : Sp := fun vs H Q _ => ∃ x lo hi, vs = [x, .int lo, .int hi] ∧ Anyv K H x ∧ Q (.bl (inB x lo hi)) H
def spSize (K : PySem.W.Frag) : Sp := fun vs H Q _ => ∃ x, vs = [x] ∧ Anyv K H x ∧ Q (.bl (inB x 1 (10 ^ 30))) H
section
variable {P : Program} {w : World} {K : PySem.W.Frag} {mg : Str → Option Value} {base : Heap}
theorem isz_int {H : Hp} {x : V} {Q : V → Hp → Prop} (a : Anyv K H x) (q : Q (.bl (clsI x)) H) : rIsz K [x, .ty "int"] H Q := by
  cases a with
  | int i => exact ⟨_, _, .type "int", .type "int", true, rfl, .ty "int", .x (.base (.int i)), kit_ty (r := true) (by decide +kernel), q⟩
  | non => exact ⟨_, _, .type "NoneType", .type "int", false, rfl, .ty "int", .x (.base .non), kit_ty (r := false) (by decide +kernel), q⟩
  | bl b => exact ⟨_, _, .type "bool", .type "int", true, rfl, .ty "int", .x (.base (.bl b)), kit_ty (r := true) (by decide +kernel), q⟩
  | str z => exact ⟨_, _, .type "str", .type "int", false, rfl, .ty "int", .x (.base (.str z)), kit_ty (r := false) (by decide +kernel), q⟩
  | obj h h1 h2 h3 => exact ⟨_, _, _, .type "int", _, rfl, .ty "int", h, h1, q⟩
theorem isz_bool {H : Hp} {x : V} {Q : V → Hp → Prop} (a : Anyv K H x) (q : Q (.bl (clsB x)) H) : rIsz K [x, .ty "bool"] H Q := by
  cases a with
  | int i => exact ⟨_, _, .type "int", .type "bool", false, rfl, .ty "bool", .x (.base (.int i)), kit_ty (r := false) (by decide +kernel), q⟩
  | non => exact ⟨_, _, .type "NoneType", .type "bool", false, rfl, .ty "bool", .x (.base .non), kit_ty (r := false) (by decide +kernel), q⟩
  | bl b => exact ⟨_, _, .type "bool", .type "bool", true, rfl, .ty "bool", .x (.base (.bl b)), kit_ty (r := true) (by decide +kernel), q⟩
  | str z => exact ⟨_, _, .type "str", .type "bool", false, rfl, .ty "bool", .x (.base (.str z)), kit_ty (r := false) (by decide +kernel), q⟩
  | obj h h1 h2 h3 => exact ⟨_, _, _, .type "bool", _, rfl, .ty "bool", h, h2, q⟩
theorem isz_str {H : Hp} {x : V} {Q : V → Hp → Prop} (a : Anyv K H x) (q : Q (.bl (isS x)) H) : rIsz K [x, .ty "str"] H Q := by
  cases a with
  | int i => exact ⟨_, _, .type "int", .type "str", false, rfl, .ty "str", .x (.base (.int i)), kit_ty (r := false) (by decide +kernel), q⟩
  | non => exact ⟨_, _, .type "NoneType", .type "str", false, rfl, .ty "str", .x (.base .non), kit_ty (r := false) (by decide +kernel), q⟩
  | bl b => exact ⟨_, _, .type "bool", .type "str", false, rfl, .ty "str", .x (.base (.bl b)), kit_ty (r := false) (by decide +kernel), q⟩
  | str z => exact ⟨_, _, .type "str", .type "str", true, rfl, .ty "str", .x (.base (.str z)), kit_ty (r := true) (by decide +kernel), q⟩
  | obj h h1 h2 h3 => exact ⟨_, _, _, .type "str", _, rfl, .ty "str", h, h3, q⟩
theorem scIsInt : FnScope ["value"] ["value"] (C8.fnScope sIsInt) := C8.fnScope_by (by decide +kernel)
theorem fn_isint {f : Addr} {fd : FuncData} (F : C8.Def K mg "is_integer" sIsInt f fd) (T : Txt mg) : FnOk P w K mg base C8.CX0 1 f fd ["value"] (spIsInt K) := by
  refine C8.fn0 F.fn scIsInt (fun vs H Q E h => ?_) (fun cdv A outer st H vs Q E hr h => ?_)
  · obtain ⟨x, rfl, _⟩ := h
    rfl
  · obtain ⟨x, rfl, a, k⟩ := h
    refine ⟨_, (pss_one (ps_ret (pe_and (pe_callB call_isz (by rfl) T.n_isinstance (by decide +kernel) (pa_cons (pv 0) (pa_cons (pe_bltn (v := .ty "int") (by rfl) T.n_int (by decide +kernel) rfl) pa_nil))) (pe_one (pe_not (pe_callB call_isz (by rfl) T.n_isinstance (by decide +kernel) (pa_cons (pv 0) (pa_cons (pe_bltn (v := .ty "bool") (by rfl) T.n_bool (by decide +kernel) rfl) pa_nil)))))))), ?_⟩
    refine ⟨_, rfl, ?_⟩
    dsimp only [tCons, tC, tNil]
    refine isz_int a ⟨_, rfl, ?_⟩
    cases a with
    | int i =>
      refine iteT ⟨_, rfl, ?_⟩
      dsimp only [tCons, tC, tNil]
      exact isz_bool (.int i) ⟨_, rfl, k⟩
    | bl b =>
      refine iteT ⟨_, rfl, ?_⟩
      dsimp only [tCons, tC, tNil]
      exact isz_bool (.bl b) ⟨_, rfl, k⟩
    | non => exact iteF k
    | str z => exact iteF k
    | obj h h1 h2 h3 => exact iteF k
theorem cal_isint {f : Addr} {fd : FuncData} (F : C8.Def K mg "is_integer" sIsInt f fd) (b : Binds K fd ["value"] []) (T : Txt mg) : C8.Cal P w K mg base 1 "is_integer" (spIsInt K) [] :=
  ⟨f, fd, _, [], fn_isint F T, F.mgf, F.kp, b, .nil⟩
theorem scWithin : FnScope ["value", "least", "most"] ["value", "least", "most"] (C8.fnScope sWithin) := C8.fnScope_by (by decide +kernel)
theorem fn_within {f : Addr} {fd : FuncData} (F : C8.Def K mg "is_within" sWithin f fd) (T : Txt mg) (D : C8.Cal P w K mg base 1 "is_integer" (spIsInt K) []) : FnOk P w K mg base C8.CX0 2 f fd ["value", "least", "most"] (spWithin K) := by
  refine C8.fn0 F.fn scWithin (fun vs H Q E h => ?_) (fun cdv A outer st H vs Q E hr h => ?_)
  · obtain ⟨x, lo, hi, rfl, _⟩ := h
    rfl
  · obtain ⟨x, lo, hi, rfl, a, k⟩ := h
    refine ⟨_, (pss_one (ps_ret (pe_and (C8.pe_c D hr (by decide) (by rfl) (pa_cons (pv 0) pa_nil)) (pe_one (pe_chain op_le op_le (pv 1) (pv 0) (pv 2)))))), ?_⟩
    refine ⟨_, rfl, x, rfl, a, _, rfl, ?_⟩
    cases a with
    | int i =>
      refine iteT ⟨_, rfl, _, rfl, _, _, rfl, rfl, _, rfl, ite2 (fun c => ?_) (fun c => ?_)⟩
      · refine ⟨_, rfl, _, _, rfl, rfl, ?_⟩
        rw [show inB (.int i) lo hi = decide (i ≤ hi) by simp [inB, of_decide_eq_true c]] at k
        exact k
      · rw [show inB (.int i) lo hi = false by simp [inB, of_decide_eq_false (Bool.eq_false_iff.mpr c)]] at k
        exact k
    | bl b => exact iteF k
    | non => exact iteF k
    | str z => exact iteF k
    | obj h h1 h2 h3 => exact iteF k
theorem cal_within {f : Addr} {fd : FuncData} (F : C8.Def K mg "is_within" sWithin f fd) (b : Binds K fd ["value", "least", "most"] []) (T : Txt mg) (D : C8.Cal P w K mg base 1 "is_integer" (spIsInt K) []) : C8.Cal P w K mg base 2 "is_within" (spWithin K) [] :=
  ⟨f, fd, _, [], fn_within F T D, F.mgf, F.kp, b, .nil⟩
end
end Lw
namespace Lw
open PySem PySem.Spec PyProof.Rows L2

open LamX
/-- a comprehension over a text, whose tests and element leave the heap as it is -/
theorem lc_text {z : Str} {g : TG} {tt : TT} {te : TE} {vs : List Nat} {σ : L2.St} {H1 : Hp} {D : Addr} {Qd : Hp → Prop} (σc : Nat → L2.St) (flt : Nat → Bool) (f : Nat → V)
    (hg : ∀ c H (R : L2.St → Hp → Prop), R (σc c) H → g (.str ⟨#[c]⟩) (wipe σ vs) H R) (hw : ∀ c, wipe (σc c) vs = wipe σ vs) (ht : ∀ c H (R : Bool → Hp → Prop), R (flt c) H → tt (σc c) H R)
    (he : ∀ c H (R : V → Hp → Prop), flt c = true → R (f c) H → te (σc c) H R) (hz : z.cps.size ≤ 1000000) (hd : Qd (upd H1 D (.lst ((z.cps.toList.filter flt).map f)))) :
    ∃ W : Nat → Nat → Hp → Prop, (∃ m, W 0 m (upd H1 D (.lst []))) ∧ ∀ i m H, W i m H →
      ((Its z).stop i H ∧ Qd H) ∨ ((Its z).go i H ∧ ∃ Nx : Hp → Prop, (∀ H', Nx H' → ∃ m', m' < m ∧ W (i + 1) m' H') ∧ ∀ x H', (Its z).yld i H x H' → g x (wipe σ vs) H' fun σ2 H2 => wipe σ2 vs = wipe σ vs ∧ tt σ2 H2 fun b H3 =>
        if b = true then te σ2 H3 fun y H4 => ∃ acc, H4 D = some (.lst acc) ∧ acc.length < sizeLine ∧ Nx (upd H4 D (.lst (acc ++ [y]))) else Nx H3) := by
  refine lc_it (walk_str (z := z)) (fun i H => H = upd H1 D (.lst (((z.cps.toList.take i).filter flt).map f))) (by simp) (fun _ _ _ _ => trivial) ?_ ?_
  · intro i x H H' hi hP hY
    obtain ⟨rfl, c, hc, rfl⟩ := hY
    have hc' : z.cps.toList[i]? = some c := by rw [Array.getElem?_toList]; exact hc
    have htake : z.cps.toList.take (i + 1) = z.cps.toList.take i ++ [c] := by
      rw [List.take_add_one, hc']; rfl
    refine hg c _ _ ⟨hw c, ht c _ _ ?_⟩
    rw [hP]
    cases hf : flt c with
    | true =>
      refine iteT (he c _ _ hf ⟨_, upd_same, ?_, ?_⟩)
      · have h1 : (((z.cps.toList.take i).filter flt).map f).length ≤ z.cps.toList.length := by
          rw [List.length_map]
          exact Nat.le_trans (List.length_filter_le _ _) (List.length_take_le' _ _)
        rw [Array.length_toList] at h1
        exact Nat.lt_of_le_of_lt (Nat.le_trans h1 hz) (by show 1000000 < sizeLine; decide)
      · rw [upd_upd, htake, List.filter_append, List.map_append]
        simp [hf]
    | false =>
      refine iteF ?_
      rw [htake, List.filter_append, List.map_append]
      simp [hf]
  · rintro H rfl
    have e : z.cps.toList.take z.cps.size = z.cps.toList := List.take_of_length_le (by rw [Array.length_toList]; exact Nat.le_refl _)
    rw [e]
    exact hd
theorem inV_str (z : Str) : ∀ ws : List Str, inV (.str z) (ws.map V.str) = decide (z ∈ ws)
  | [] => rfl
  | x :: r => by
    show (eqV (.str x) (.str z) || inV (.str z) (r.map V.str)) = decide (z ∈ x :: r)
    rw [inV_str z r]
    show ((x == z) || decide (z ∈ r)) = _
    by_cases h : z = x
    · subst h; simp
    · have h2 : ¬ x = z := fun e => h e.symm
      simp [h, h2]
theorem flat_strs (ws : List Str) : (ws.map V.str).all flatV = true := by
  induction ws with
  | nil => rfl
  | cons x r ih => show (true && (r.map V.str).all flatV) = true; rw [ih]; rfl
theorem dp_signs {K : PySem.W.Frag} {H : Hp} : ∀ cs : List Nat, DpAll K H (cs.map fun c => V.str ⟨#[c]⟩) (cs.map fun c => PyData.str ⟨#[c]⟩)
  | [] => .nil
  | c :: r => .cons (.str _) (dp_signs r)
theorem lay_signs : ∀ cs : List Nat, (∀ c ∈ cs, c < 1114112) → PyData.canLayAll0 (cs.map fun c => PyData.str ⟨#[c]⟩) = true
  | [], _ => rfl
  | c :: r, h => by
    have h1 : PyData.canLay0 (.str ⟨#[c]⟩) = true := by
      show (#[c] : Array Nat).all (· < 1114112) = true
      simp [h c List.mem_cons_self]
    show (PyData.canLay0 (.str ⟨#[c]⟩) && PyData.canLayAll0 (r.map fun c => PyData.str ⟨#[c]⟩)) = true
    rw [h1, lay_signs r fun d hd => h d (List.mem_cons_of_mem _ hd)]; rfl
theorem depth_signs : ∀ cs : List Nat, PyData.depthAll (cs.map fun c => PyData.str ⟨#[c]⟩) = 0
  | [] => rfl
  | c :: r => by
    show max 0 (PyData.depthAll (r.map fun c => PyData.str ⟨#[c]⟩)) = 0
    rw [depth_signs r]; rfl
theorem shaped_signs (cs : List Nat) (h : ∀ c ∈ cs, c < 1114112) : SeqAt.shaped (.list (cs.map fun c => PyData.str ⟨#[c]⟩)) = true := by
  unfold SeqAt.shaped
  have h1 : PyData.canLay0 (.list (cs.map fun c => PyData.str ⟨#[c]⟩)) = true := lay_signs cs h
  have h2 : PyData.depth (.list (cs.map fun c => PyData.str ⟨#[c]⟩)) = 1 := by
    show PyData.depthAll (cs.map fun c => PyData.str ⟨#[c]⟩) + 1 = 1
    rw [depth_signs]
  rw [h1, h2]; rfl
theorem eqv_signs (cs : List Nat) : PyData.eqv (.list (cs.map fun c => PyData.str ⟨#[c]⟩)) (.list []) = cs.isEmpty := by
  cases cs <;> rfl
theorem filt_nil (p : Nat → Bool) : ∀ l : List Nat, (l.filter fun c => !p c).isEmpty = l.all p
  | [] => rfl
  | c :: r => by
    have ih := filt_nil p r
    cases h : p c with
    | true => simp only [List.filter_cons, h, Bool.not_true, List.all_cons, Bool.true_and]; exact ih
    | false => simp [h]
end Lw
namespace Lw
open PySem PySem.Spec PyProof.Rows L2

open SX PySem.NumText
/-! ### texts as lists of signs -/
def figs : List Nat → List Nat
  | 45 :: r => r
  | cs => cs
theorem figs_minus (r : List Nat) : figs (45 :: r) = r := rfl
theorem figs_other {c : Nat} (r : List Nat) (h : c ≠ 45) : figs (c :: r) = c :: r := by
  unfold figs
  split
  · rename_i e
    exact absurd (List.cons.inj e).1 h
  · rfl
theorem len1 : Str.length (S [45]) = 1 := rfl
theorem sub_head (c d : Nat) (r : List Nat) : Builtin.Str.subAt (S (c :: r)) (S [d]) 0 = decide (c = d) := by
  unfold Builtin.Str.subAt
  show ((c :: r).toArray.extract 0 (0 + 1) == #[d]) = _
  simp
  by_cases h : c = d <;> simp [h]
theorem rm_minus (cs : List Nat) : Txt.removeprefix (S cs) (S [45]) = S (figs cs) := by
  unfold Txt.removeprefix
  cases cs with
  | nil => rfl
  | cons c r =>
    rw [sub_head]
    by_cases h : c = 45
    · subst h
      rw [figs_minus]
      simp only [decide_true, if_true]
      show (if (((45 :: r).toArray.size - 1) == (45 :: r).toArray.size) = true then S (45 :: r) else Builtin.Str.strSub (S (45 :: r)) 1 ((45 :: r).toArray.size)) = S r
      have e : ((45 :: r).toArray.size - 1 == (45 :: r).toArray.size) = false := by simp
      rw [e]
      simp [Builtin.Str.strSub, S]
    · rw [figs_other r h]
      simp only [decide_eq_false h, Bool.false_eq_true, if_false]
      rfl
theorem sw_head (c d : Nat) (r : List Nat) : Txt.startswith (S (c :: r)) (S [d]) = decide (c = d) := by
  unfold Txt.startswith
  rw [sub_head]
  have e : decide (0 + (S [d]).length ≤ (S (c :: r)).length) = true := decide_eq_true (by rw [S_len, S_len]; simp)
  rw [e, Bool.true_and]
theorem sw_nil (d : Nat) : Txt.startswith (S []) (S [d]) = false := by
  unfold Txt.startswith
  have e : decide (0 + (S [d]).length ≤ (S []).length) = false := decide_eq_false (by rw [S_len, S_len]; simp)
  rw [e, Bool.false_and]
theorem ascii_S {cs : List Nat} (h : ∀ c ∈ cs, c < 128) : Txt.isascii (S cs) = true := by
  unfold Txt.isascii
  show cs.toArray.all (· < 128) = true
  simp only [List.all_toArray, List.all_eq_true, decide_eq_true_eq]
  exact h
theorem dig128 : ∀ c, c < 128 → Unicode.isDigit c = (decide (48 ≤ c) && decide (c ≤ 57)) := by decide +kernel
/-- all are figures, and there is one -/
def digB (cs : List Nat) : Bool := !cs.isEmpty && cs.all fun c => decide (48 ≤ c) && decide (c ≤ 57)
theorem isdigit_S {cs : List Nat} (h : ∀ c ∈ cs, c < 128) : Txt.isdigit (S cs) = digB cs := by
  unfold Txt.isdigit digB
  have e1 : decide ((S cs).length > 0) = !cs.isEmpty := by
    rw [S_len]
    cases cs <;> simp
  have e2 : (S cs).cps.all Unicode.isDigit = cs.all fun c => decide (48 ≤ c) && decide (c ≤ 57) := by
    show cs.toArray.all Unicode.isDigit = _
    rw [List.all_toArray]
    induction cs with
    | nil => rfl
    | cons c r ih =>
      rw [List.all_cons, List.all_cons, dig128 c (h c List.mem_cons_self), ih (fun d hd => h d (List.mem_cons_of_mem _ hd)) (by rw [S_len]; cases r <;> simp)]
  rw [e1, e2]
theorem digB_all {cs : List Nat} (h : digB cs = true) : AllDigits cs ∧ cs ≠ [] := by
  unfold digB at h
  rw [Bool.and_eq_true] at h
  refine ⟨fun c hc => ?_, fun e => by rw [e] at h; exact absurd h.1 (by decide)⟩
  have := List.all_eq_true.mp h.2 c hc
  rw [Bool.and_eq_true, decide_eq_true_eq, decide_eq_true_eq] at this
  exact this
theorem figs_sub {cs : List Nat} {c : Nat} (h : c ∈ figs cs) : c ∈ cs := by
  unfold figs at h
  split at h
  · exact List.mem_cons_of_mem _ h
  · exact h
theorem figs_len (cs : List Nat) : (figs cs).length ≤ cs.length := by
  unfold figs
  split
  · simp
  · exact Nat.le_refl _
/-! ### what figures are worth -/
theorem fold_app (a b : List Nat) (x : Nat) : (a ++ b).foldl (fun acc c => acc * 10 + (c - 48)) x = b.foldl (fun acc c => acc * 10 + (c - 48)) (a.foldl (fun acc c => acc * 10 + (c - 48)) x) := List.foldl_append
theorem fold_from : ∀ (b : List Nat) (x : Nat), b.foldl (fun acc c => acc * 10 + (c - 48)) x = x * 10 ^ b.length + digitsVal b
  | [], x => by simp [digitsVal]
  | c :: r, x => by
    show r.foldl _ (x * 10 + (c - 48)) = x * 10 ^ (r.length + 1) + r.foldl _ (0 * 10 + (c - 48))
    rw [fold_from r, fold_from r (0 * 10 + (c - 48)), Nat.pow_succ, Nat.zero_mul, Nat.zero_add, Nat.add_mul, Nat.mul_assoc, Nat.mul_comm 10 (10 ^ r.length), Nat.add_assoc]
theorem val_app (a b : List Nat) : digitsVal (a ++ b) = digitsVal a * 10 ^ b.length + digitsVal b := by
  show (a ++ b).foldl _ 0 = _
  rw [fold_app, fold_from b]; rfl
theorem val_zeros : ∀ k : Nat, digitsVal (List.replicate k 48) = 0
  | 0 => rfl
  | k + 1 => val_zeros k
theorem val_lt : ∀ cs : List Nat, AllDigits cs → digitsVal cs < 10 ^ cs.length
  | [], _ => by decide
  | c :: r, h => by
    have h1 := h c List.mem_cons_self
    have ih := val_lt r fun d hd => h d (List.mem_cons_of_mem _ hd)
    have e : digitsVal (c :: r) = (c - 48) * 10 ^ r.length + digitsVal r := by
      rw [show c :: r = [c] ++ r from rfl, val_app]
      show (0 * 10 + (c - 48)) * _ + _ = _
      rw [Nat.zero_mul, Nat.zero_add]
    rw [e, List.length_cons, Nat.pow_succ]
    have h2 : (c - 48) * 10 ^ r.length ≤ 9 * 10 ^ r.length := Nat.mul_le_mul_right _ (by omega)
    omega
theorem ten_two (n : Nat) : 10 ^ n ≤ 2 ^ (4 * n) := by
  rw [Nat.pow_mul]
  exact Nat.pow_le_pow_left (by decide) n
theorem all_zeros (k : Nat) : AllDigits (List.replicate k 48) := fun c hc => by
  rw [List.eq_of_mem_replicate hc]
  decide
theorem AllDigits.app {a b : List Nat} (ha : AllDigits a) (hb : AllDigits b) : AllDigits (a ++ b) := fun c hc => (List.mem_append.mp hc).elim (ha c) (hb c)
/-- the integer that a text writes just as str does -/
def intOf (cs : List Nat) : Option Int :=
  if digB (figs cs) = true then
    if (figs cs).head? = some 48 ∧ cs ≠ [48] then none
    else if cs.head? = some 45 then some (-((digitsVal (figs cs) : Nat) : Int)) else some ((digitsVal (figs cs) : Nat) : Int)
  else none
def optV : Option Int → V
  | none => .non
  | some i => .int i
end Lw
namespace Lw
open PySem PySem.Spec PyProof.Rows L2

open SX PySem.NumText
abbrev sIntOf : Stmt := top 17
theorem rep_list (z : Array Nat) : ∀ n : Nat, ∀ acc : Array Nat, ((List.replicate n z).foldl (· ++ ·) acc).toList = acc.toList ++ (List.replicate n z.toList).flatten
  | 0, acc => by simp
  | n + 1, acc => by
    rw [List.replicate_succ, List.foldl_cons, rep_list z n, List.replicate_succ, List.flatten_cons, Array.toList_append, List.append_assoc]
/-- a text, so many times -/
theorem op_mulS {X : Cx} : OpR X (binaryOp .Mult) (fun x y H Q => ∃ (cs : List Nat) (n : Int), x = .str (S cs) ∧ y = .int n ∧ 0 ≤ n ∧ n ≤ 10000 ∧ cs.length ≤ 1000 ∧ Q (.str (S (List.replicate n.toNat cs).flatten)) H) := by
  intro pins s σ H x y v u Q I rx ry h
  obtain ⟨cs, n, rfl, rfl, h0, h1, h2, q⟩ := h
  obtain ⟨t, rfl⟩ := rx
  obtain ⟨t2, rfl⟩ := ry
  refine PySem.P.mul_str ?_ ?_ ?_ ?_
  · rw [decide_eq_false (show ¬ n < -(2 ^ 63 : Int) by omega), decide_eq_false (show ¬ n ≥ 2 ^ 63 by omega)]; rfl
  · intro hn _ hz
    rw [S_len] at hz
    have : (9223372036854775807 : Int) / n ≥ 922337203685477 := by
      rw [ge_iff_le, Int.le_ediv_iff_mul_le (by omega)]
      omega
    have e : ((2 : Int) ^ 63 - 1) = 9223372036854775807 := by decide
    rw [e] at hz
    omega
  · intro hn _
    rw [S_len]
    have : cs.length * n.toNat ≤ 1000 * 10000 := Nat.mul_le_mul h2 (by omega)
    refine decide_eq_false ?_
    exact Nat.not_lt.mpr (Nat.le_trans this (by rw [sizeLine_eq]; decide))
  · by_cases hn : n < 1
    · rw [if_pos hn]
      have e : n.toNat = 0 := by omega
      rw [e] at q
      exact ⟨by decide, ⟨.str (S []), H, I.tok _, ⟨_, rfl⟩, q⟩⟩
    · rw [if_neg hn]
      by_cases hc : (n == 1 || (S cs).length == 0) = true
      · rw [if_pos hc]
        have e : (List.replicate n.toNat cs).flatten = cs := by
          rw [Bool.or_eq_true, beq_iff_eq, beq_iff_eq, S_len] at hc
          rcases hc with e | e
          · subst e; simp
          · rw [List.length_eq_zero_iff.mp e]; simp
        rw [e] at q
        exact ⟨.str (S cs), H, I, ⟨t, rfl⟩, q⟩
      · rw [if_neg hc]
        have e : (⟨(List.replicate n.toNat (S cs).cps).foldl (· ++ ·) #[]⟩ : Str) = S (List.replicate n.toNat cs).flatten := by
          refine congrArg Str.mk ?_
          refine Array.toList_inj.mp ?_
          rw [rep_list]; simp [S]
        rw [e]
        refine ⟨?_, ⟨.str _, H, I.tok _, ⟨_, rfl⟩, q⟩⟩
        rw [S_len, List.length_flatten, List.map_replicate, List.sum_replicate_nat]
        exact Nat.le_trans (Nat.mul_le_mul (show n.toNat ≤ 10000 by omega) h2) (by rw [sizeLine_eq]; decide)
theorem join_ifS {c : TT} {t u : TS} {D : Ends} {σ : L2.St} {H : Hp} (Pj : L2.St → Hp → Prop) (hr : ∀ σ' H', Pj σ' H' → D.nx σ' H') (h : (∀ σ' H', Pj σ' H' → D.nx σ' H') → tIfS c t u D σ H) : tIfS c t u D σ H := h hr
theorem nxt {t u : TS} {D D' : Ends} {σ : L2.St} {H : Hp} (e : D'.nx = tSeq t u D) (h : t { D with nx := u D } σ H) : tNext D' σ H := by
  show D'.nx σ H
  rw [e]; exact h
theorem slice_mid {a : List Nat} {i j : Int} (h0 : 0 ≤ i) (h1 : i ≤ j) (h2 : j ≤ (a.length : Int)) : Txt.slice (S a) (some i) (some j) = S ((a.drop i.toNat).take (j - i).toNat) :=
  beq_iff_eq.mp (PyProof.Rows.slice_closesL (x := S a) h0 h1 (by rw [S_len]; exact h2))
theorem rg60 (m : Nat) (hm : m ≤ 1000) : RgC 0 ((60 * m : Nat) : Int) 60 m := by
  refine ⟨by decide, by decide, ?_, ?_⟩
  · have key : ∀ x : Int, 0 ≤ x → x ≤ 100000 → Builtin.Range.rangeFitsLong x = true := fun x h0 h1 => by
      unfold Builtin.Range.rangeFitsLong
      rw [decide_eq_true (show -(2 ^ 63) ≤ x by omega), decide_eq_true (show x < 2 ^ 63 by omega)]; rfl
    have size : Builtin.Range.rangeSize 0 ((60 * m : Nat) : Int) 60 = (m : Int) := by
      unfold Builtin.Range.rangeSize
      rw [if_pos (show (60 : Int) > 0 by decide)]
      split <;> omega
    unfold Builtin.Range.small
    rw [size, if_pos (show (60 : Int) > 0 by decide), key 0 (by omega) (by omega), key _ (by omega) (by omega), key 60 (by omega) (by omega), key _ (by omega) (by omega), key _ (by omega) (by omega)]
    simp
  · unfold Builtin.Range.rangeSize
    rw [if_pos (show (60 : Int) > 0 by decide)]
    split <;> omega
structure TxtN (mg : Str → Option Value) : Prop extends Txt mg where
  c_PF : ∃ t, mg "PIECE_FIGURES" = some (.int 60 t)
  c_PW : ∃ t, mg "PIECE_WORTH" = some (.int (10 ^ 60) t)
def TextOk (x : V) : Prop := ∀ z, x = .str z → ∃ cs, z = S cs ∧ (∀ c ∈ cs, c < 128) ∧ cs.length ≤ 5000
def intV : V → Option Int
  | .str z => intOf z.cps.toList
  | _ => none
def spIntOf (K : PySem.W.Frag) : Sp := fun vs H Q _ => ∃ x, vs = [x] ∧ Anyv K H x ∧ TextOk x ∧ Q (optV (intV x)) H
section
variable {P : Program} {w : World} {K : PySem.W.Frag} {mg : Str → Option Value} {base : Heap}
theorem scIntOf : FnScope ["word", "figures", "filled", "worth", "at"] ["word"] (C8.fnScope sIntOf) := C8.fnScope_by (by decide +kernel)
theorem cal_intof {f : Addr} {fd : FuncData} (F : C8.Def K mg "integer_of" sIntOf f fd) (b : Binds K fd ["word"] []) (T : TxtN mg) : C8.Cal P w K mg base 1 "integer_of" (spIntOf K) [] := by
  refine C8.cal0 F b .nil scIntOf (fun vs H Q E h => ?_) (fun cdv A outer st H vs Q E hr h => ?_)
  · obtain ⟨x, rfl, _⟩ := h
    rfl
  · obtain ⟨x, rfl, a, ok, k⟩ := h
    obtain ⟨t1, hPF⟩ := T.c_PF
    obtain ⟨t2, hPW⟩ := T.c_PW
    refine ⟨_, (pss_cons (ps_if (pt_not (pt_val (pe_callB call_isz (by rfl) T.n_isinstance (by decide +kernel) (pa_cons (pv 0) (pa_cons (pe_bltn (v := .ty "str") (by rfl) T.n_str (by decide +kernel) rfl) pa_nil))))) (pss_one (ps_ret pe_non)) pss_nil)
  (pss_cons (ps_set (i := 1) scIntOf.nd rfl (Or.inl rfl) (pe_m1 PySem.F.slot_str_removeprefix PySem.F.type_str_removeprefix mt_removeprefix (pv 0) pe_str))
  (pss_cons (ps_if (PW.pt (pw_or (pt_not (pt_val (pe_m0 PySem.F.slot_str_isascii PySem.F.type_str_isascii mt_isascii (pv 1)))) (pw_or1 (pt_not (pt_val (pe_m0 PySem.F.slot_str_isdigit PySem.F.type_str_isdigit mt_isdigit (pv 1))))))) (pss_one (ps_ret pe_non)) pss_nil)
  (pss_cons (ps_if (PW.pt (pw_and (pt_val (pe_m1 PySem.F.slot_str_startswith PySem.F.type_str_startswith mt_startswith (pv 1) pe_str)) (pw_and1 (pt_cmpR op_ne (pv 0) pe_str (nomark _))))) (pss_one (ps_ret pe_non)) pss_nil)
  (pss_cons (ps_set (i := 2) scIntOf.nd rfl (Or.inl rfl) (pe_op op_add_str (pe_op op_mulS pe_str (pe_op op_modN (pe_un un_neg (pe_callB call_len_str (by rfl) T.n_len (by decide +kernel) (pa_cons (pv 1) pa_nil))) (pe_glob (v := .int 60) rfl hPF ⟨_, rfl⟩))) (pv 1)))
  (pss_cons (ps_set (i := 3) scIntOf.nd rfl (Or.inl rfl) pe_int)
  (pss_cons (ps_for PassesOwn.never rfl (pi_range3 (by rfl) T.n_range (pa_cons pe_int (pa_cons (pe_callB call_len_str (by rfl) T.n_len (by decide +kernel) (pa_cons (pv 2) pa_nil)) (pa_cons (pe_glob (v := .int 60) rfl hPF ⟨_, rfl⟩) pa_nil)))) (pg_name (i := 4) scIntOf.nd rfl (Or.inl rfl)) (pss_one (ps_set (i := 3) scIntOf.nd rfl (Or.inl rfl) (pe_op op_add (pe_op op_mulW (pv 3) (pe_glob (v := .int (10 ^ 60)) rfl hPW ⟨_, rfl⟩)) (pe_callTy call_int_str (by rfl) T.n_int (by decide +kernel) (pa_cons (pe_slice C8.sl_txt (pv 2) (po_some (pv 4)) (po_some (pe_op op_add (pv 4) (pe_glob (v := .int 60) rfl hPF ⟨_, rfl⟩)))) pa_nil))))))
  (pss_one (ps_ret (pe_ifExp (pt_val (pe_m1 PySem.F.slot_str_startswith PySem.F.type_str_startswith mt_startswith (pv 0) pe_str)) (pe_un un_neg (pv 3)) (pv 3))))))))))), ?_⟩
    refine ⟨_, rfl, ?_⟩
    dsimp only [tCons, tC, tNil]
    refine isz_str a ⟨_, rfl, ?_⟩
    cases a with
    | str z =>
      obtain ⟨cs, rfl, h128, hlen⟩ := ok z rfl
      refine iteF ?_
      have hl : (S cs).length ≤ sizeLine := by rw [S_len]; exact Nat.le_trans hlen (by decide)
      have f128 : ∀ c ∈ figs cs, c < 128 := fun c hc => h128 c (figs_sub hc)
      have flen : (figs cs).length ≤ 5000 := Nat.le_trans (figs_len cs) hlen
      refine ⟨_, rfl, ⟨_, rfl⟩, _, _, rfl, rfl, hl, ?_⟩
      rw [show (Str.ofString "-") = S [45] from rfl, rm_minus]
      refine ⟨_, rfl, ⟨_, rfl⟩, _, rfl, rfl, trivial, _, rfl, ?_⟩
      rw [ascii_S f128]
      refine iteF ⟨_, rfl, ⟨_, rfl⟩, _, rfl, rfl, trivial, _, rfl, ?_⟩
      rw [isdigit_S f128]
      have kk : ∀ o : Option Int, o = intOf cs → Q (optV o) H := fun o e => by rw [e]; exact k
      cases hd : digB (figs cs) with
      | false =>
        refine iteT (kk none ?_)
        unfold intOf
        rw [hd]; rfl
      | true =>
        refine iteF ?_
        obtain ⟨hall, hne⟩ := digB_all hd
        obtain ⟨f, fr, hfig⟩ : ∃ f fr, figs cs = f :: fr := by
          cases e : figs cs with
          | nil => exact absurd e hne
          | cons f fr => exact ⟨f, fr, rfl⟩
        have bad : ¬ ((figs cs).head? = some 48 ∧ cs ≠ [48]) → ∀ o : Option Int, (o = if cs.head? = some 45 then some (-((digitsVal (figs cs) : Nat) : Int)) else some ((digitsVal (figs cs) : Nat) : Int)) → Q (optV o) H := fun hb o e => by
          refine kk o ?_
          unfold intOf
          rw [if_pos hd, if_neg hb]; exact e
        have s0 : Str.ofString "0" = S [48] := rfl
        dsimp only [tNext, tSeq]
        refine join_ifS (fun σ' H' => σ' = [some (.str (S cs)), some (.str (S (figs cs))), none, none, none] ∧ H' = H ∧ ¬ ((figs cs).head? = some 48 ∧ cs ≠ [48])) ?rest (fun go => ?_)
        case rest =>
          rintro σ' H' ⟨rfl, rfl, hb⟩
          have fl : ((S (figs cs)).length : Int) = ((figs cs).length : Int) := by rw [S_len]
          obtain ⟨pad, hpad⟩ : ∃ pad : Nat, Int.fmod (-((S (figs cs)).length : Int)) 60 = (pad : Int) := ⟨(Int.fmod (-((S (figs cs)).length : Int)) 60).toNat, by have := fm0 (a := -((S (figs cs)).length : Int)) (d := 60) (by decide); omega⟩
          have hpad' : (-((figs cs).length : Int)) % 60 = (pad : Int) := by rw [← fl, ← hpad, Int.fmod_eq_emod_of_nonneg _ (by decide)]
          obtain ⟨m, hm⟩ : ∃ m : Nat, pad + (figs cs).length = 60 * m := ⟨(pad + (figs cs).length) / 60, by omega⟩
          have hfl : (S (figs cs)).length ≤ sizeLine := by rw [S_len]; exact Nat.le_trans flen (by decide)
          refine ⟨_, rfl, _, rfl, hfl, _, rfl, _, _, rfl, rfl, (by show ¬ (_ = _); decide), [48], _, s0 ▸ rfl, rfl, ?_⟩
          rw [hpad]
          have pl : pad < 60 := by omega
          have ez : (List.replicate ((pad : Int).toNat) [48]).flatten = List.replicate pad 48 := by
            rw [Int.toNat_natCast]
            induction pad with
            | zero => rfl
            | succ p ih => rw [List.replicate_succ, List.flatten_cons, List.replicate_succ]; simp
          rw [ez]
          obtain ⟨fill, hfill⟩ : ∃ fill, fill = List.replicate pad 48 ++ figs cs := ⟨_, rfl⟩
          have flenF : fill.length = 60 * m := by rw [hfill, List.length_append, List.length_replicate]; exact hm
          have allF : AllDigits fill := by rw [hfill]; exact AllDigits.app (all_zeros pad) hall
          have valF : digitsVal fill = digitsVal (figs cs) := by rw [hfill, val_app, val_zeros, Nat.zero_mul, Nat.zero_add]
          have hm60 : m ≤ 90 := by omega
          have lF : (S fill).length ≤ sizeLine := by rw [S_len, flenF]; exact Nat.le_trans (show 60 * m ≤ 5400 by omega) (by decide)
          refine ⟨by omega, by omega, by decide, _, rfl, _, _, rfl, rfl, ?_, ?_⟩
          · rw [S_len, S_len, List.length_replicate]; exact Nat.le_trans (show pad + (figs cs).length ≤ 5400 by omega) (by decide)
          rw [S_cat, ← hfill]
          refine ⟨_, rfl, _, rfl, lF, 0, _, 60, m, rfl, ?_, for_rangeC (fun i σ' H2 => ∃ at_, σ' = [some (V.str (S cs)), some (V.str (S (figs cs))), some (V.str (S fill)), some (V.int ((digitsVal (fill.take (60 * i)) : Nat) : Int)), at_] ∧ H2 = H') ⟨none, rfl, rfl⟩ ?_ ?_⟩
          · rw [show ((S fill).length : Int) = ((60 * m : Nat) : Int) by rw [S_len, flenF]]
            exact rg60 m (by omega)
          · rintro i σ' H2 hi ⟨at_, rfl, rfl⟩
            have h60 : 60 * i + 60 ≤ 60 * m := by omega
            have sl : Txt.slice (S fill) (some (0 + ((i : Nat) : Int) * 60)) (some (0 + ((i : Nat) : Int) * 60 + 60)) = S ((fill.drop (60 * i)).take 60) := by
              rw [slice_mid (by omega) (by omega) (by rw [flenF]; omega)]
              rw [show (0 + ((i : Nat) : Int) * 60).toNat = 60 * i by omega, show (0 + ((i : Nat) : Int) * 60 + 60 - (0 + ((i : Nat) : Int) * 60)).toNat = 60 by omega]
            have cl : ((fill.drop (60 * i)).take 60).length = 60 := by rw [List.length_take, List.length_drop, flenF]; omega
            have cd : AllDigits ((fill.drop (60 * i)).take 60) := fun c hc => allF c (List.mem_of_mem_drop (List.mem_of_mem_take hc))
            have tk : fill.take (60 * (i + 1)) = fill.take (60 * i) ++ (fill.drop (60 * i)).take 60 := by rw [Nat.mul_succ, List.take_add]
            have td : AllDigits (fill.take (60 * i)) := fun c hc => allF c (List.mem_of_mem_take hc)
            have tl : (fill.take (60 * i)).length = 60 * i := by rw [List.length_take, flenF]; omega
            have big : (((digitsVal (fill.take (60 * i)) : Nat) : Int)).natAbs < 2 ^ (4 * (60 * i) + 1) := by
              have h1 := val_lt _ td
              rw [tl] at h1
              have h2 := ten_two (60 * i)
              have h3 : (2 : Nat) ^ (4 * (60 * i)) < 2 ^ (4 * (60 * i) + 1) := Nat.pow_lt_pow_right (by decide) (by omega)
              rw [Int.natAbs_natCast]
              omega
            refine ⟨_, rfl, _, _, rfl, rfl, wide_mul big (show ((10 : Int) ^ 60).natAbs < 2 ^ 240 by decide) (by omega) (by decide) (by omega), ?_⟩
            have hint : intText? (Txt.slice (S fill) (some (0 + ((i : Nat) : Int) * 60)) (some (0 + ((i : Nat) : Int) * 60 + 60))) = some ((digitsVal ((fill.drop (60 * i)).take 60) : Nat) : Int) := by
              rw [sl]
              exact intText_digits (x := S ((fill.drop (60 * i)).take 60)) cd (fun e => by rw [show (fill.drop (60 * i)).take 60 = [] from e] at cl; exact absurd cl (by decide)) (by rw [S_len, cl]; decide)
            have hsl : (Txt.slice (S fill) (some (0 + ((i : Nat) : Int) * 60)) (some (0 + ((i : Nat) : Int) * 60 + 60))).length ≤ 640 := by rw [sl, S_len, cl]; decide
            have val : ((digitsVal (fill.take (60 * i)) : Nat) : Int) * 10 ^ 60 + ((digitsVal ((fill.drop (60 * i)).take 60) : Nat) : Int) = ((digitsVal (fill.take (60 * (i + 1))) : Nat) : Int) := by
              rw [tk, val_app, cl]
              rw [Int.natCast_add, Int.natCast_mul, Int.natCast_pow]; rfl
            refine ⟨_, rfl, ⟨_, rfl, _, rfl, ⟨_, rfl, _, _, rfl, rfl, _, rfl, _, rfl, lF, _, _, rfl, hint, hsl, _, _, rfl, rfl, some (V.int (0 + ((i : Nat) : Int) * 60)), ?_, rfl⟩⟩⟩
            rw [← val]; rfl
          · rintro σ' H2 ⟨at_, rfl, rfl⟩
            have full : fill.take (60 * m) = fill := List.take_of_length_le (by omega)
            rw [full, valF]
            refine ⟨_, rfl, ⟨_, rfl⟩, _, _, rfl, rfl, _, rfl, ?_⟩
            obtain ⟨c, r, hcs⟩ : ∃ c r, cs = c :: r := by
              cases e : cs with
              | nil => rw [e] at hfig; cases hfig
              | cons c r => exact ⟨c, r, rfl⟩
            have esw : Txt.startswith (S cs) (S [45]) = decide (c = 45) := by rw [hcs]; exact sw_head c 45 r
            rw [esw]
            refine ite2 (fun c2 => ?_) (fun c2 => ?_)
            · have e2 : c = 45 := of_decide_eq_true c2
              refine ⟨_, rfl, _, rfl, bad hb (some (-((digitsVal (figs cs) : Nat) : Int))) ?_⟩
              rw [if_pos (show cs.head? = some 45 by rw [hcs, e2]; rfl)]
            · have e2 : c ≠ 45 := of_decide_eq_false (Bool.eq_false_iff.mpr c2)
              refine ⟨_, rfl, bad hb (some ((digitsVal (figs cs) : Nat) : Int)) ?_⟩
              rw [if_neg (show ¬ cs.head? = some 45 by rw [hcs]; exact fun z => e2 (Option.some.inj z))]
        refine ⟨_, rfl, ⟨_, rfl⟩, _, _, rfl, rfl, _, rfl, ?_⟩
        rw [hfig, s0, sw_head]
        refine ite2 (fun c0 => ?_) (fun c0 => ?_)
        · refine ⟨_, rfl, rfl, _, rfl, ite2 (fun c1 => ?_) (fun c1 => ?_)⟩
          · refine kk none ?_
            unfold intOf
            rw [if_pos hd, if_pos]
            refine ⟨by rw [hfig, of_decide_eq_true c0]; rfl, fun e => ?_⟩
            rw [e] at c1
            exact absurd c1 (by decide)
          · refine go _ _ ⟨by rw [hfig]; rfl, rfl, fun hb => hb.2 ?_⟩
            have e : V.str (S cs) = V.str (S [48]) := by simpa using c1
            exact S_inj (V.str.inj e)
        · refine iteF (go _ _ ⟨by rw [hfig]; rfl, rfl, fun hb => ?_⟩)
          rw [hfig] at hb
          have e : f = 48 := Option.some.inj hb.1
          exact c0 (decide_eq_true e)
    | int i => exact iteT k
    | bl b => exact iteT k
    | non => exact iteT k
    | obj h h1 h2 h3 => exact iteT k
end
end Lw
namespace Lw
open PySem PySem.Spec PyProof.Rows L2
open SX PySem.NumText TL
abbrev sNumOf : Stmt := top 18
theorem dig_back : ∀ cs : List Nat, AllDigits cs → (cs.map Char.ofNat).map Char.toNat = cs
  | [], _ => rfl
  | c :: r, h => by
    have h1 := h c List.mem_cons_self
    have e : (Char.ofNat c).toNat = c := by
      have k : ∀ d : Nat, d < 58 → (Char.ofNat d).toNat = d := by decide
      exact k c (by omega)
    rw [List.map_cons, List.map_cons, e, dig_back r fun d hd => h d (List.mem_cons_of_mem _ hd)]
theorem num_back {c : Nat} {r : List Nat} (h : AllDigits (c :: r)) (hc : 49 ≤ c ∨ r = []) : numL (digitsVal (c :: r)) = c :: r := by
  unfold numL
  rw [toDigits_digitsVal r.length (c :: r) rfl h (hc.elim (fun h => .inr ⟨c, r, rfl, h⟩) fun e => .inl (by rw [e]; rfl)), dig_back _ h]
theorem num_head : ∀ n : Nat, 0 < n → ∃ c r, numL n = c :: r ∧ 49 ≤ c := by
  intro n
  induction n using Nat.strongRecOn with
  | _ n ih =>
    intro h0
    by_cases h : n < 10
    · exact ⟨48 + n, [], numL_lt h, by omega⟩
    · obtain ⟨c, r, e, hc⟩ := ih (n / 10) (by omega) (by omega)
      exact ⟨c, r ++ [48 + n % 10], by rw [numL_step (by omega), e]; rfl, hc⟩
def numV (x : V) (lo hi : Int) : Option Int := match intV x with
  | some i => if lo ≤ i ∧ i ≤ hi then some i else none
  | none => none
theorem join_any {t : TS} {D : Ends} {σ : L2.St} {H : Hp} (Pj : L2.St → Hp → Prop) (hr : ∀ σ' H', Pj σ' H' → D.nx σ' H') (h : (∀ σ' H', Pj σ' H' → D.nx σ' H') → t D σ H) : t D σ H := h hr
def spNumOf (K : PySem.W.Frag) : Sp := fun vs H Q _ => ∃ x lo hi, vs = [x, .int lo, .int hi] ∧ Anyv K H x ∧ TextOk x ∧ Q (optV (numV x lo hi)) H
section
variable {P : Program} {w : World} {K : PySem.W.Frag} {mg : Str → Option Value} {base : Heap}
theorem scNumOf : FnScope ["word", "least", "most", "value"] ["word", "least", "most"] (C8.fnScope sNumOf) := C8.fnScope_by (by decide +kernel)
theorem fn_numof {f : Addr} {fd : FuncData} (F : C8.Def K mg "number_of" sNumOf f fd) (DI : C8.Cal P w K mg base 1 "integer_of" (spIntOf K) []) (DW : C8.Cal P w K mg base 2 "is_within" (spWithin K) []) :
    FnOk P w K mg base C8.CX0 3 f fd ["word", "least", "most"] (spNumOf K) := by
  refine C8.fn0 F.fn scNumOf (fun vs H Q E h => ?_) (fun cdv A outer st H vs Q E hr h => ?_)
  · obtain ⟨x, lo, hi, rfl, _⟩ := h
    rfl
  · obtain ⟨x, lo, hi, rfl, a, ok, k⟩ := h
    refine ⟨_, (pss_cons (ps_set (i := 3) scNumOf.nd rfl (Or.inl rfl) (C8.pe_c DI hr (by decide) (by rfl) (pa_cons (pv 0) pa_nil)))
  (pss_one (ps_ret (pe_ifExp (pt_val (C8.pe_c DW hr (by decide) (by rfl) (pa_cons (pv 3) (pa_cons (pv 1) (pa_cons (pv 2) pa_nil))))) (pv 3) pe_non)))), ?_⟩
    refine ⟨_, rfl, x, rfl, a, ok, ?_⟩
    have av : Anyv K H (optV (intV x)) := by cases intV x with | none => exact .non | some i => exact .int i
    refine ⟨_, rfl, _, rfl, _, rfl, _, _, _, rfl, av, _, rfl, ?_⟩
    unfold numV at k
    cases e : intV x with
    | none =>
      rw [e] at k
      exact iteF k
    | some i =>
      rw [e] at k
      refine ite2 (fun c => ?_) (fun c => ?_)
      · have h2 : lo ≤ i ∧ i ≤ hi := by
          have c' : (decide (lo ≤ i) && decide (i ≤ hi)) = true := c
          rw [Bool.and_eq_true, decide_eq_true_eq, decide_eq_true_eq] at c'
          exact c'
        refine ⟨_, rfl, ?_⟩
        simp only [h2, and_self, if_true] at k
        exact k
      · have h2 : ¬ (lo ≤ i ∧ i ≤ hi) := fun z => c (by
          show (decide (lo ≤ i) && decide (i ≤ hi)) = true
          rw [decide_eq_true z.1, decide_eq_true z.2]; rfl)
        simp only [h2, if_false] at k
        exact k
theorem cal_numof {f : Addr} {fd : FuncData} (F : C8.Def K mg "number_of" sNumOf f fd) (b : Binds K fd ["word", "least", "most"] []) (DI : C8.Cal P w K mg base 1 "integer_of" (spIntOf K) []) (DW : C8.Cal P w K mg base 2 "is_within" (spWithin K) []) :
    C8.Cal P w K mg base 3 "number_of" (spNumOf K) [] :=
  ⟨f, fd, _, [], fn_numof F DI DW, F.mgf, F.kp, b, .nil⟩
end
end Lw
namespace Lw
open PySem PySem.Spec PyProof.Rows L2
open LamX ClX
/-! ### errors of two fields, raised -/
abbrev sTxE : Stmt := inClass (top 12) 0
abbrev sMnE : Stmt := inClass (top 13) 0
/-- what an __init__ that keeps its two arguments promises -/
def spE2 (C : Addr) (f1 f2 : Str) : Sp := fun vs H Q _ => ∃ (a : Addr) (v1 v2 : V), vs = [.ref a, v1, v2] ∧ H a = some (exo a C none) ∧ ∀ dx, H dx = none → dx ≠ a → ∀ fs, fs.lookup f1 = some v1 → fs.lookup f2 = some v2 → Q .non (upd (upd H dx (exd dx fs)) a (exo a C (some dx)))
theorem two_fields {H : Hp} {a C dx : Addr} {f1 f2 : Str} {v1 v2 : V} (ne : dx ≠ a) : upd (upd (upd H dx (exd dx [(f1, v1)])) a (exo a C (some dx))) dx (exd dx [(f2, v2), (f1, v1)]) = upd (upd H dx (exd dx [(f2, v2), (f1, v1)])) a (exo a C (some dx)) := by
  funext b
  by_cases h1 : b = a
  · rw [h1, upd_ne ne.symm, upd_same, upd_same]
  · by_cases h2 : b = dx
    · rw [h2, upd_same, upd_ne ne, upd_same]
    · rw [upd_ne h2, upd_ne h1, upd_ne h2, upd_ne h1, upd_ne h2]
section
variable {P : Program} {w : World} {K : PySem.W.Frag} {mg : Str → Option Value} {base : Heap}
theorem sctxE : FnScope ["self", "line", "word"] ["self", "line", "word"] (C8.fnScope sTxE) := C8.fnScope_by (by decide +kernel)
theorem fn_txE {C f : Addr} {fd : FuncData} (F : C8.Fun K "__init__" "BadText.__init__" sTxE f fd) (T : OexC K C) (no1 : PySem.W.findIn K (.ref C) "line" = some none) (no2 : PySem.W.findIn K (.ref C) "word" = some none) : FnOk P w K mg base C8.CX0 1 f fd ["self", "line", "word"] (spE2 C "line" "word") := by
  refine C8.fn0 F sctxE (fun vs H Q E h => ?_) (fun cdv A outer st H vs Q E hr h => ?_)
  · obtain ⟨a, v1, v2, rfl, _⟩ := h
    rfl
  · obtain ⟨a, v1, v2, rfl, ha, k⟩ := h
    refine ⟨_, pss_cons (ps_ost (pv 0) (pv 1)) (pss_one (ps_ost (pv 0) (pv 2))), ?_⟩
    refine ⟨_, rfl, _, rfl, a, C, rfl, T, no1, .inl ⟨ha, fun dx h1 h2 => ?_⟩⟩
    refine ⟨_, rfl, _, rfl, a, C, rfl, T, no2, .inr ⟨dx, [("line", v1)], upd_same, (by rw [upd_ne h2]; exact upd_same), (by show 1 ≤ 900; decide), ?_⟩⟩
    rw [two_fields h2]
    exact k dx h1 h2 _ (by rw [lookup_put, if_neg (by decide +kernel), lookup_put, if_pos rfl]) (by rw [lookup_put, if_pos rfl])
theorem scmnE : FnScope ["self", "what", "most"] ["self", "what", "most"] (C8.fnScope sMnE) := C8.fnScope_by (by decide +kernel)
theorem fn_mnE {C f : Addr} {fd : FuncData} (F : C8.Fun K "__init__" "TooMany.__init__" sMnE f fd) (T : OexC K C) (no1 : PySem.W.findIn K (.ref C) "what" = some none) (no2 : PySem.W.findIn K (.ref C) "most" = some none) : FnOk P w K mg base C8.CX0 1 f fd ["self", "what", "most"] (spE2 C "what" "most") := by
  refine C8.fn0 F scmnE (fun vs H Q E h => ?_) (fun cdv A outer st H vs Q E hr h => ?_)
  · obtain ⟨a, v1, v2, rfl, _⟩ := h
    rfl
  · obtain ⟨a, v1, v2, rfl, ha, k⟩ := h
    refine ⟨_, pss_cons (ps_ost (pv 0) (pv 1)) (pss_one (ps_ost (pv 0) (pv 2))), ?_⟩
    refine ⟨_, rfl, _, rfl, a, C, rfl, T, no1, .inl ⟨ha, fun dx h1 h2 => ?_⟩⟩
    refine ⟨_, rfl, _, rfl, a, C, rfl, T, no2, .inr ⟨dx, [("what", v1)], upd_same, (by rw [upd_ne h2]; exact upd_same), (by show 1 ≤ 900; decide), ?_⟩⟩
    rw [two_fields h2]
    exact k dx h1 h2 _ (by rw [lookup_put, if_neg (by decide +kernel), lookup_put, if_pos rfl]) (by rw [lookup_put, if_pos rfl])
end
/-- the error's class, ready to be raised -/
structure Err2 (nm f1 f2 : Str) (P : Program) (w : World) (K : PySem.W.Frag) (mg : Str → Option Value) (base : Heap) (D fE : Addr) (fdE : FuncData) : Prop where
  T : OexC K D
  iC : PySem.W.findIn K (.ref D) "__init__" = some (some (.ref fE))
  tI : PySem.W.typeIn K (.ref fE) = some (.type "function")
  F : FnOk P w K mg base C8.CX0 1 fE fdE ["self", f1, f2] (spE2 D f1 f2)
  b : Binds K fdE ["self", f1, f2] []
  hm : mg nm = some (.ref D)
section
variable {X : Cx} {f1 f2 : Str} {C fI : Addr} {fd : FuncData} {W : WX} {j : Nat} {e1 e2 : Expr} {te1 te2 : TE} {p pos pos2 : Pos}
/-- raise X(e1, e2), X such a class -/
def tBad2 (f1 f2 : Str) (C : Addr) (W : WX) (te1 te2 : TE) : TS := fun _ σ H => tMkO C (spE2 C f1 f2) [] (tCons te1 (tCons te2 tNil)) σ H fun cls d H' => W cls d σ H'
theorem ps_bad2 {x : Str} (hc : X.calm = true) (tk : Takes X W) (T : OexC X.K C) (iC : PySem.W.findIn X.K (.ref C) "__init__" = some (some (.ref fI))) (tI : PySem.W.typeIn X.K (.ref fI) = some (.type "function")) (F : FnOk X.prog X.w X.K X.mg X.base C8.CX0 1 fI fd ["self", f1, f2] (spE2 C f1 f2)) (hr : Room (j + 2) X.A) (hb : Binds X.K fd ["self", f1, f2] [])
    (hg : Gl X x) (hm : X.mg x = some (.ref C)) (he1 : PE X e1 te1) (he2 : PE X e2 te2) (hst2 : starEach [e2] X.env = [(false, eval e2 X.env)] := by rfl) (hst : starEach [e1, e2] X.env = (false, eval e1 X.env) :: starEach [e2] X.env := by rfl) (hdb : (x == ("__debug__" : Str)) = false := by decide) (hpl : (backTo pos (starEach [e2] X.env)).any (·.1) = false := by rfl) :
    PS X (.Raise (some (.Call (.Name x p) [e1, e2] [] pos)) none pos2) (tBad2 f1 f2 C W te1 te2) :=
  ps_raise hc tk (pmk_oex T iC tI F (hr.mono (by omega)) hb .nil C8.pass0 hg hm (pa_cons he1 (pa_cons he2 pa_nil hst2) hst) hdb hst hpl)
theorem bad_leaf2 {H1 : Hp} {v1 v2 : V} {Q : XK} (k : ∀ d fs, H1 d = none → fs.lookup f1 = some v1 → fs.lookup f2 = some v2 → Q (.ref C) (some d) (upd H1 d (.xd fs))) :
    ([v1, v2] : List V).length ≤ 1000 ∧ ∀ a, H1 a = none → spE2 C f1 f2 (.ref a :: ([v1, v2] ++ [])) (upd H1 a (exo a C none)) (fun z H2 => z = .non ∧ ∃ (d : Addr) (fs : List (Str × V)), H2 a = some (exo a C (some d)) ∧ H2 d = some (exd d fs) ∧ H1 d = none ∧ Q (.ref C) (some d) (upd (del H2 a) d (.xd fs))) (fun _ _ _ => False) := by
  refine ⟨(by show 2 ≤ 1000; decide), fun a ha => ⟨a, v1, v2, rfl, upd_same, fun dx h1 h2 fs e1 e2 => ?_⟩⟩
  rw [upd_ne h2] at h1
  refine ⟨rfl, dx, fs, upd_same, by rw [upd_ne h2]; exact upd_same, h1, ?_⟩
  have e : upd (del (upd (upd (upd H1 a (exo a C none)) dx (exd dx fs)) a (exo a C (some dx))) a) dx (.xd fs) = upd H1 dx (.xd fs) := by
    funext b
    by_cases q : b = dx
    · rw [q, upd_same, upd_same]
    · rw [upd_ne q, upd_ne q]
      by_cases q2 : b = a
      · rw [q2, del_same, ha]
      · rw [del_ne q2, upd_ne q2, upd_ne q, upd_ne q2]
  rw [e]
  exact k dx fs h1 e1 e2
end
/-! ### a classmethod by keywords -/
section
variable {X : Cx} {CX : CXT} {C p g : Addr} {mc : Value} {k : Nat} {fd : FuncData} {ps ks : List Str} {sp : Sp} {E : XK} {o : Expr} {kws : List Keyword} {m : Str} {pos apos : Pos} {ta : TE} {tkw : TA} {gU : List Value → List Value → List Value} {gV : List V → List V → List V} {pl : Sem Bool}
theorem pe_cmethK (he : PE X o ta) (r : CRead X.K C mc) (c : CMet X.K C mc m p g) (F : FnOk X.prog X.w X.K X.mg X.base CX k g fd ps sp) (hr : Room k X.A) (hb : KBn X.K fd ps 1 ks gU gV) (hx : Passes CX X E) (hkw : PK X kws tkw)
    (hall : (backToKw pos (keywordEach kws X.env)).all (·.1.isSome) = true := by rfl) (hks : (backToKw pos (keywordEach kws X.env)).filterMap (·.1) = ks := by rfl)
    (hpl : ((backTo pos (starEach [] X.env)).any (·.1) || (backToKw pos (keywordEach kws X.env)).any (·.1.isNone)) = false := by rfl)
    (ht : eval (.Call (.Attribute o m apos) [] kws pos) X.env = (do
      let ov ← eval o X.env
      standAt apos.atName
      let (f, first) ← holding [ov] (getMethod ov m pl)
      callWith pos f first (backTo pos (starEach [] X.env)) (backToKw pos (keywordEach kws X.env))) := by rfl) :
    PE X (.Call (.Attribute o m apos) [] kws pos) (fun σ H Q => ta σ H fun x H1 => x = .ref C ∧ tkw σ H1 fun zs H2 => zs.length = ks.length ∧ sp (gV [.ref C] zs) H2 Q E) := by
  refine ⟨fun pins s σ H Q I h => ?_⟩
  refine PySem.W.methodCall_KW (pl := pl) (thn (he.run pins s σ H _ I h) fun u s1 ⟨x, H1, I1, rx, ex, q⟩ => ?_) ht
  subst ex
  obtain rfl : u = Value.ref C := rx
  refine getmethcm_ok I1 r c fun s2 I2 => ?_
  refine PySem.W.callWith_of (P := PySem.W.MethP X.K s1.heap.objs.size g (.ref C)) hpl (PySem.W.keeps_M c.fi) (evalArgs_kw2_nil hall ?_)
  refine thn (hkw.run pos _ s2 σ H1 _ I2 q) fun ws s3 ⟨zs, H2, I3, rz, l2, q2⟩ => ⟨⟨pin_at I3, I3.kIn⟩, ?_⟩
  rw [hks]
  have hl : ws.length = ks.length := rz.length.symm.trans l2
  have z : wpAny (model X.prog X.w) X.A (call (.ref s1.heap.objs.size) [] (ks.zip ws)) (EP X ((s1.heap.objs.size, PySem.W.methodObj (.ref g) (.ref C)) :: pins) σ Q) X.xe s3 := by
    refine wpAny_call (PySem.W.method_call (pin_at I3) ?_)
    have r2 : Vals (gV [.ref C] zs) (gU [.ref C] ws) := hb.rel (.cons rfl .nil) rz
    refine codeAny_mono (F.run X.A X.stack s3 H2 ⟨[.ref C], ks.zip ws⟩ (gU [.ref C] ws) (gV [.ref C] zs) Q E hr I3.env0 (hb.to s3 [.ref C] ws I3.kIn rfl hl) r2 q2) fun r s' hq => ?_
    cases r with
    | error e => exact hx _ σ H2 s3 e s' I3 hq
    | ok fl =>
      cases fl with
      | ret u => exact I3.after hq
      | next => exact False.elim hq
      | brk => exact False.elim hq
      | cont => exact False.elim hq
  exact thn z fun _ _ y => unpinE y
end
end Lw
namespace Lw
open PySem PySem.Spec PyProof.Rows L2
/-! ### str(x) of an own class -/
section
variable {X : Cx} {C f : Addr} {k j : Nat} {sp : Sp} {E : XK} {pins : List (Addr × Obj)} {σ : L2.St} {H : Hp} {s : Shared}
/-- a method that runs one or two levels further in -/
theorem run_metA {A : Around} {m : Str} {us : List Value} {vs : List V} {Q : VK} (M : MetX X.prog X.w X.K X.mg X.base k C m sp) (hx : Passes (L2.CX X.prog X.w) X E) (hr : Room k A) (e0 : Env0 X.prog X.w X.K X.mg X.base A X.stack s H) (I : Inv X pins σ H s) (r : Vals vs us) (q : sp vs H Q E) :
    ∃ g : Addr, Meth X.K C m g ∧ wpAny (model X.prog X.w) A (call (.ref g) us) (EP X pins σ Q) X.xe s := by
  obtain ⟨g, fd, ps, hm, F, b⟩ := M.ex
  have l : us.length = ps.length := r.length.symm.trans (F.len _ _ _ _ q)
  have b' := b s us I.kIn (by rw [List.append_nil]; exact l)
  rw [List.append_nil] at b'
  refine ⟨g, hm, wpAny_call (codeAny_mono (F.run A X.stack s H ⟨us, []⟩ us vs Q E hr e0 b' r q) fun r s' hq => ?_)⟩
  cases r with
  | error e => exact hx pins σ H s e s' I hq
  | ok fl =>
    cases fl with
    | ret u => exact I.after hq
    | next => exact False.elim hq
    | brk => exact False.elim hq
    | cont => exact False.elim hq
/-- str(x) of an instance -/
def rStrOwn (C : Addr) (sp : Sp) (E : XK) : List V → Hp → VK → Prop := fun xs H Q => ∃ a dx fs, xs = [V.ref a] ∧ H a = some (.ins C dx fs) ∧ sp [.ref a] H (fun z H' => ∃ y, z = .str y ∧ Q z H') E
theorem call_strOwn (M : MetX X.prog X.w X.K X.mg X.base k C "__str__" sp) (hx : Passes (L2.CX X.prog X.w) X E) (hr : Room j X.A) (hk : k + 2 ≤ j) : CallR X (.type "str") (rStrOwn C sp E) := by
  intro pins s σ H xs us Q I r h
  obtain ⟨a, dx, fs, rfl, ha, q⟩ := h
  obtain ⟨u, rfl, ru⟩ := r.one
  cases (show u = Value.ref a from ru)
  obtain ⟨_, _, J⟩ := ins_at I ha
  have hr2 : Room k X.A.in1.in1 := (show Room (k + 1) X.A.in1 from Room.in1 (hr.mono hk)).in1
  obtain ⟨g, hm, w⟩ := run_metA (us := [.ref a]) (vs := [.ref a]) M hx hr2 I.env0.in1.in1 I (.cons rfl .nil) q
  refine PySem.W.kso_call hr2.units0 I.kIn J hm.at_ hm.fn (wpAny_mono w (fun v s' z => ?_) fun _ _ x => x)
  obtain ⟨z', H', I', rz, y, rfl, qz⟩ := z
  obtain ⟨t, rfl⟩ := rz
  exact ⟨.str y, H', I', ⟨t, rfl⟩, qz⟩
end
end Lw
namespace Lw.Ow
open PySem PySem.Spec PyProof.Rows PySem.W PySem.Calls
/-! ### != by the own == -/
theorem sl_obj_ne : Slot "object" "__ne__" "object.__ne__" :=
  .of (owner := "object") (n := "__ne__") (by rw [typeLookup_type, builtinLookup_eq_fast]; kernel_rfl) (by decide +kernel) (by decide +kernel) (by decide +kernel)
    (by first | exact .inl (by decide +kernel) | exact .inr (by decide +kernel)) (by rw [isSubtype_type]; kernel_rfl)
section
variable {prog : Program} {w : World} {A : Around} {E : Value → Shared → Prop} {s : Shared} {K : Frag} {x C f : Addr} {ox : Obj} {od : Option Obj}
theorem ifBound_S {M : Model} {name : Str} {id : String} {args : List Value} {Q : Option Value → Shared → Prop} (X : K.In s.heap) (I : InstAt s.heap x ox C od) (hs : findIn K (.ref C) name = some (some (.builtin id))) (hb : ∀ self, bindSpecial (.builtin id) self = pure (.builtin id, [self]))
    (h : wpAny M A (call (.builtin id) (.ref x :: args)) (fun v => Q (some v)) E s) : wpAny M A (callSpecialIfBound? (.ref x) name args) Q E s := by
  simp only [callSpecialIfBound?, bindSpecialIfBound?]
  refine wpAny_holding (wpAny_bind (wpAny_bind (wpAny_bind (I.type.here ((looks_findIn X hs).here ?_)))))
  refine wpAny_bind (wpAny_askSetting (wpAny_ite ?_))
  have fin : wpAny M A (call (.builtin id) ([.ref x] ++ args) >>= fun v => pure (some v)) Q E s := wpAny_bind (wpAny_mono h (fun v s' h' => wpAny_pure h') fun _ _ h' => h')
  split
  · exact wpAny_bind ((Looks.of_pure (hb _)).here (wpAny_pure (by exact fin)))
  · exact wpAny_tryCatch (wpAny_bind ((Looks.of_pure (hb _)).here (wpAny_pure (by exact fin))))
theorem try_ne {b : Value} {Q : Value → Shared → Prop} (hu : A.in1.units < cLine) (X : K.In s.heap) (I : InstAt s.heap x ox C od) (hm : mroIn K C (.type "object") = some true) (hn : findIn K (.ref C) "__ne__" = some (some (.builtin "object.__ne__"))) (he : findIn K (.ref C) "__eq__" = some (some (.ref f))) (hf : isFn K (.ref f) = true)
    (h : wpAny (model prog w) A.in1 (call (.ref f) [.ref x, b]) (fun v s' => ∃ c, v = .bool c ∧ Q (.bool (!c)) s') E s) : wpAny (model prog w) A (tryCompare (.ref x) "__ne__" b) (fun r s' => ∃ v, r = some v ∧ Q v s') E s := by
  unfold tryCompare
  refine wpAny_bind (ifBound_S X I hn sl_obj_ne.bind (wpAny_call (codeAny_call_builtin sl_obj_ne.plain F.cmpEntry_ne (check_slot (i := "object.__ne__") (owner := "object") (n := "__ne__") F.cmpKind_ne F.cmpSplit_ne (I.type.andThen (looks_mroIn X hm)) (F.cmpArgs_ne _ _) ?_))))
  unfold Builtin.«object.__ne__»
  refine wpAny_bind (wpAny_of_eq (a := (Value.ref x, [b])) rfl ?_)
  refine wpAny_bind (m := cRoomFor _ _) (wpAny_cRoomFor hu ?_)
  refine wpAny_bind (m := callSpecialIfBound? (.ref x) (Str.ofString "__eq__") _) (ifBound_K X I he hf (wpAny_mono h (fun r s' hq => ?_) fun _ _ y => y))
  obtain ⟨c, rfl, q⟩ := hq
  refine wpAny_bind (m := truthy (.bool c)) (wpAny_truthy_bool ?_)
  first | exact wpAny_pure (wpAny_pure ⟨_, rfl, q⟩) | exact wpAny_pure ⟨_, rfl, q⟩ | exact ⟨_, rfl, wpAny_pure ⟨_, rfl, q⟩⟩
theorem cmp_ne {b tb : Value} {Q : Value → Shared → Prop} (hu : A.units < cLine) (X : K.In s.heap) (I : InstAt s.heap x ox C od) (hb : Looks (model prog w) s.heap (typeOf b) tb) (hn : notFirst K C tb = true)
    (one : wpAny (model prog w) A (tryCompare (.ref x) "__ne__" b) (fun r s' => ∃ v, r = some v ∧ Q v s') E s) : wpAny (model prog w) A (richCompare .NotEq (.ref x) b) Q E s := by
  unfold richCompare
  simp only [oneThing_ref]
  refine wpAny_holding (wpAny_bind (wpAny_cRoomFor hu ?_))
  refine wpAny_bind (I.type.here (wpAny_bind (hb.here ?_)))
  split
  · rename_i q
    have e : subIn K tb (.ref C) = some false := by
      rcases Bool.or_eq_true_iff.mp hn with e | e
      · rw [beq_iff_eq.mp e] at q; simp at q
      · exact beq_iff_eq.mp e
    refine wpAny_bind ((looks_subIn X e).here ?_)
    simp only [Bool.false_eq_true, if_false]
    refine wpAny_bind (wpAny_mono one (fun r s' z => ?_) fun _ _ e => e)
    obtain ⟨v, rfl, hq⟩ := z
    exact wpAny_pure hq
  · refine wpAny_bind (wpAny_pure ?_)
    simp only [Bool.false_eq_true, if_false]
    refine wpAny_bind (wpAny_mono one (fun r s' z => ?_) fun _ _ e => e)
    obtain ⟨v, rfl, hq⟩ := z
    exact wpAny_pure hq
end
end Lw.Ow
namespace Lw
open PySem PySem.Spec PyProof.Rows L2 LamX
section
variable {X : Cx} {C f : Addr} {k j : Nat} {sp : Sp} {E : XK} {pins : List (Addr × Obj)} {σ : L2.St} {H : Hp} {s : Shared}
structure NeC (K : PySem.W.Frag) (C : Addr) : Prop where
  m : PySem.W.mroIn K C (.type "object") = some true
  n : PySem.W.findIn K (.ref C) "__ne__" = some (some (.builtin "object.__ne__"))
def Nb (Q : VK) : VK := fun v H => ∃ c, v = .bl c ∧ Q (.bl (!c)) H
def rNR (C : Addr) (sp : Sp) (E : XK) : R2 := fun x y H Q => ∃ a dx fs b dy gs, x = .ref a ∧ H a = some (.ins C dx fs) ∧ y = .ref b ∧ H b = some (.ins C dy gs) ∧ sp [x, y] H (Nb Q) E
theorem op_neR (nc : NeC X.K C) (M : MetX X.prog X.w X.K X.mg X.base k C "__eq__" sp) (hx : Passes (L2.CX X.prog X.w) X E) (hr : Room j X.A) (hk : k + 1 ≤ j) : OpR X (compareOp .NotEq) (rNR C sp E) := by
  intro pins s σ H x y v u Q I rx ry h
  obtain ⟨a, dx, fs, b, dy, gs, rfl, ha, rfl, hb, q⟩ := h
  cases (show v = Value.ref a from rx)
  cases (show u = Value.ref b from ry)
  obtain ⟨_, _, J⟩ := ins_at I ha
  obtain ⟨_, _, J'⟩ := ins_at I hb
  have hr1 : Room k X.A.in1 := Room.in1 (hr.mono hk)
  obtain ⟨g, hm, w⟩ := run_metA (us := [.ref a, .ref b]) (vs := [.ref a, .ref b]) M hx hr1 I.env0.in1 I (.cons rfl (.cons rfl .nil)) q
  refine Ow.cmp_ne hr.units0 I.kIn J J'.type (by simp [PySem.W.notFirst]) (Ow.try_ne hr1.units0 I.kIn J nc.m nc.n hm.at_ hm.fn (wpAny_mono w (fun v s' z => ?_) fun _ _ x => x))
  obtain ⟨z', H', I', rz, c, rfl, qz⟩ := z
  cases (show v = Value.bool c from rz)
  exact ⟨c, rfl, .bl (!c), H', I', rfl, qz⟩
end
theorem TyX.same {K : PySem.W.Frag} {H H' : Hp} {v : V} {t : Value} (s : Same H H') (h : TyX K H v t) : TyX K H' v t := by
  cases h with
  | base h =>
    refine .base ?_
    cases h with
    | non => exact .non
    | bl x => exact .bl x
    | int i => exact .int i
    | str x => exact .str x
    | flt x => exact .flt x
    | lst e => exact .lst (s _ _ e)
    | frz e => exact .frz (s _ _ e)
    | tup e => exact .tup (s _ _ e)
    | dK e => exact .dK (s _ _ e)
    | dT e => exact .dT (s _ _ e)
    | ins e cl ha hn htk hm => exact .ins (s _ _ e) cl ha hn htk hm
  | byt b => exact .byt b
  | set e => exact .set (s _ _ e)
  | kList e c => exact .kList e c
  | kTuple e c => exact .kTuple e c
  | kDict e c => exact .kDict e c
  | fTuple e => exact .fTuple (s _ _ e)
  | fDict e => exact .fDict (s _ _ e)
theorem TyZ.same {K : PySem.W.Frag} {H H' : Hp} {v : V} {t : Value} (s : Same H H') (h : TyZ K H v t) : TyZ K H' v t := by
  cases h with
  | x h => exact .x (Lw.TyX.same s h)
  | fn e => exact .fn (s _ _ e)
theorem Anyv.same {K : PySem.W.Frag} {H H' : Hp} {v : V} (s : Same H H') (h : Anyv K H v) : Anyv K H' v := by
  cases h with
  | int i => exact .int i
  | non => exact .non
  | bl b => exact .bl b
  | str z => exact .str z
  | obj h h1 h2 h3 => exact .obj (Lw.TyZ.same s h) h1 h2 h3
open SX PySem.NumText TL
theorem tl_neg {n : Nat} (h : 0 < n) : (Str.ofString (toString (-((n : Nat) : Int)))).cps.toList = 45 :: numL n := by
  obtain ⟨m, rfl⟩ : ∃ m, n = m + 1 := ⟨n - 1, by omega⟩
  rw [PyProof.Rows.signs_ofString]
  have e : toString (-(((m + 1 : Nat) : Int))) = "-" ++ Nat.repr (m + 1) := rfl
  rw [e, String.toList_append, List.map_append, Nat.toList_repr]
  rfl
theorem str_neg {n : Nat} (h : 0 < n) : Str.ofString (toString (-((n : Nat) : Int))) = S (45 :: numL n) := TL.ext_tl (tl_neg h)
/-- the figures of an integer, its sign ahead -/
def intL (i : Int) : List Nat := if i < 0 then 45 :: numL i.natAbs else numL i.natAbs
theorem str_int (i : Int) : Str.ofString (toString i) = S (intL i) := by
  unfold intL
  by_cases h : i < 0
  · rw [if_pos h]
    obtain ⟨n, rfl⟩ : ∃ n : Nat, i = -((n : Nat) : Int) := ⟨i.natAbs, by omega⟩
    rw [show (-((n : Nat) : Int)).natAbs = n by omega]
    exact str_neg (by omega)
  · rw [if_neg h]
    obtain ⟨n, rfl⟩ : ∃ n : Nat, i = ((n : Nat) : Int) := ⟨i.natAbs, by omega⟩
    rw [Int.natAbs_natCast]
    exact num_S n
open SX PySem.NumText TL LamX
structure DefC (K : PySem.W.Frag) (mg : Str → Option Value) (x : Str) (st : Stmt) (f : Addr) (fd : FuncData) (c : Addr) : Prop where
  ex : ∃ (oc : Value) (od : Option Addr) (dV kV doc pm : Value) (an : Option Addr) (ct : Value) (osl : Array (Option Value)),
    fd = PySem.W.fnOf x x (C8.fnArgs st) (C8.fnBody st) (C8.fnScope st) dV kV doc pm an (.ref c) ct ∧ K.lookup f = some ⟨oc, od, .func fd, osl⟩ ∧ PySem.W.codeIn K (.ref c) x = true
  mgf : mg x = some (.ref f)
  kp : PySem.W.keepIn K (.ref f) = true
theorem calGC {P : Program} {w : World} {K : PySem.W.Frag} {mg : Str → Option Value} {base : Heap} {x : Str} {st : Stmt} {f c : Addr} {fd : FuncData} {N ps : List Str} {ds : List Value} {dvs : List V} {k : Nat} {sp : Sp} (F : DefC K mg x st f fd c) (b : Binds K fd ps ds) (d : Vals dvs ds) (S : FnScope N ps (C8.fnScope st)) (len : ∀ vs H Q E, sp vs H Q E → vs.length = ps.length)
    (body : ∀ (A : Around) (outer : List Env) (s : Shared) (H : Hp) (vs : List V) (Q : VK) (E : XK), (A.deeper (envOfC x (C8.fnScope st) s.heap.objs.size f (.ref c))).guards = some [] → Room k (A.deeper (envOfC x (C8.fnScope st) s.heap.objs.size f (.ref c))) → sp vs H Q E →
      ∃ t, PSs (cxOf C8.CX0 P w K mg base N x (C8.fnScope st) f (.ref c) A outer s H E).nox (C8.fnBody st) t ∧ t { nx := fun _ H' => Q .non H', rt := Q } (start N vs) H) : CalG P w K mg base (k + 1) x sp dvs := by
  refine ⟨f, fd, ps, ds, ⟨len, ?_⟩, F.mgf, F.kp, b, d⟩
  intro A outer s H args us vs Q E hg hr e0 hb r hs
  obtain ⟨oc, od, dV, kV, doc, pm, an, ct, osl, rfl, lk, hcd⟩ := F.ex
  refine LamX.run_ofS lk hcd S hr e0 hb r (len _ _ _ _ hs) fun hr' => ?_
  obtain ⟨t, h1, h2⟩ := body A outer s H vs Q E hg hr' hs
  exact ⟨t, h1.nox, h2⟩
theorem Tabs.put {T : List (Addr × Str)} {H : Hp} {l : Addr} {o : HO} {xs : List V} (t : Tabs T H) (hl : H l = some (.lst xs)) : Tabs T (upd H l o) := by
  intro q hq
  obtain ⟨ps, h1, h2, h3⟩ := t q hq
  refine ⟨ps, ?_, h2, fun pos cv hc => ?_⟩
  · rw [upd_ne (fun e => by rw [e, hl] at h1; cases h1)]; exact h1
  · obtain ⟨c, e1, e2⟩ := h3 pos cv hc
    refine ⟨c, e1, ?_⟩
    rw [upd_ne (fun e => by rw [e, hl] at e2; unfold CodeO at e2; cases e2)]; exact e2
theorem Tabs.kp {T : List (Addr × Str)} {p pl : Addr} {n : Nat} {H H' : Hp} (t : Tabs T H) (hp : Pen H p pl n) (k : Kp p H H') : Tabs T H' := by
  intro q hq
  obtain ⟨ps, h1, h2, h3⟩ := t q hq
  obtain ⟨xs, a, g, hh, _⟩ := hp
  refine ⟨ps, k _ _ (fun e => ?_) h1, h2, fun pos cv hc => ?_⟩
  · rw [e, hh.at_] at h1; cases h1
  · obtain ⟨c, e1, e2⟩ := h3 pos cv hc
    refine ⟨c, e1, k _ _ (fun e => ?_) e2⟩
    rw [e, hh.at_] at e2
    unfold CodeO at e2
    cases e2
theorem Pen.extn {H H' : Hp} {p l : Addr} {n : Nat} (h : Pen H p l n) (e : ExtN H H') : Pen H' p l n := by
  obtain ⟨xs, a, g, ⟨h1, h2, h3, h4, h5⟩, h6⟩ := h
  have nl : ∀ (ys : List V) ps, HO.lst ys ≠ .tbl ps := fun ys ps z => by cases z
  exact ⟨xs, a, g, ⟨e _ _ h1 (nl _), e _ _ h2 (nl _), h3, h4, h5⟩, h6⟩
open ClX StX
/-! ### errors of one field, raised -/
def spE1 (C : Addr) (f1 : Str) : Sp := fun vs H Q _ => ∃ (a : Addr) (v1 : V), vs = [.ref a, v1] ∧ H a = some (exo a C none) ∧ ∀ dx, H dx = none → dx ≠ a → ∀ fs, fs.lookup f1 = some v1 → Q .non (upd (upd H dx (exd dx fs)) a (exo a C (some dx)))
/-- the error's class, ready to be raised -/
structure Err1 (nm f1 : Str) (P : Program) (w : World) (K : PySem.W.Frag) (mg : Str → Option Value) (base : Heap) (D fE : Addr) (fdE : FuncData) : Prop where
  T : OexC K D
  iC : PySem.W.findIn K (.ref D) "__init__" = some (some (.ref fE))
  tI : PySem.W.typeIn K (.ref fE) = some (.type "function")
  F : FnOk P w K mg base C8.CX0 1 fE fdE ["self", f1] (spE1 D f1)
  b : Binds K fdE ["self", f1] []
  hm : mg nm = some (.ref D)
section
variable {X : Cx} {f1 : Str} {C fI : Addr} {fd : FuncData} {W : WX} {j : Nat} {e1 : Expr} {te1 : TE} {p pos pos2 : Pos}
/-- raise X(e1), X such a class -/
def tBad1 (f1 : Str) (C : Addr) (W : WX) (te1 : TE) : TS := fun _ σ H => tMkO C (spE1 C f1) [] (tCons te1 tNil) σ H fun cls d H' => W cls d σ H'
theorem ps_bad1 {x : Str} (hc : X.calm = true) (tk : Takes X W) (T : OexC X.K C) (iC : PySem.W.findIn X.K (.ref C) "__init__" = some (some (.ref fI))) (tI : PySem.W.typeIn X.K (.ref fI) = some (.type "function")) (F : FnOk X.prog X.w X.K X.mg X.base C8.CX0 1 fI fd ["self", f1] (spE1 C f1)) (hr : Room (j + 2) X.A) (hb : Binds X.K fd ["self", f1] [])
    (hg : Gl X x) (hm : X.mg x = some (.ref C)) (he1 : PE X e1 te1) (hst : starEach [e1] X.env = (false, eval e1 X.env) :: starEach [] X.env := by rfl) (hdb : (x == ("__debug__" : Str)) = false := by decide) (hpl : (backTo pos (starEach [] X.env)).any (·.1) = false := by rfl) :
    PS X (.Raise (some (.Call (.Name x p) [e1] [] pos)) none pos2) (tBad1 f1 C W te1) :=
  ps_raise hc tk (pmk_oex T iC tI F (hr.mono (by omega)) hb .nil C8.pass0 hg hm (pa_cons he1 pa_nil hst) hdb hst hpl)
theorem bad_leaf1 {H1 : Hp} {v1 : V} {Q : XK} (k : ∀ d fs, H1 d = none → fs.lookup f1 = some v1 → Q (.ref C) (some d) (upd H1 d (.xd fs))) :
    ([v1] : List V).length ≤ 1000 ∧ ∀ a, H1 a = none → spE1 C f1 (.ref a :: ([v1] ++ [])) (upd H1 a (exo a C none)) (fun z H2 => z = .non ∧ ∃ (d : Addr) (fs : List (Str × V)), H2 a = some (exo a C (some d)) ∧ H2 d = some (exd d fs) ∧ H1 d = none ∧ Q (.ref C) (some d) (upd (del H2 a) d (.xd fs))) (fun _ _ _ => False) := by
  refine ⟨(by show 1 ≤ 1000; decide), fun a ha => ⟨a, v1, rfl, upd_same, fun dx h1 h2 fs e1 => ?_⟩⟩
  rw [upd_ne h2] at h1
  refine ⟨rfl, dx, fs, upd_same, by rw [upd_ne h2]; exact upd_same, h1, ?_⟩
  have e : upd (del (upd (upd (upd H1 a (exo a C none)) dx (exd dx fs)) a (exo a C (some dx))) a) dx (.xd fs) = upd H1 dx (.xd fs) := by
    funext b
    by_cases q : b = dx
    · rw [q, upd_same, upd_same]
    · rw [upd_ne q, upd_ne q]
      by_cases q2 : b = a
      · rw [q2, del_same, ha]
      · rw [del_ne q2, upd_ne q2, upd_ne q, upd_ne q2]
  rw [e]
  exact k dx fs h1 e1
end
/-- refused: the error keeps the value -/
def Bf (D : Addr) (f : Str) (x : V) (H : Hp) (E : XK) : Prop := ∀ d fs H', Same H H' → H' d = none → fs.lookup f = some x → E (.ref D) (some d) (upd H' d (.xd fs))
theorem Bf.of {D : Addr} {f : Str} {x : V} {H H' : Hp} {E : XK} (h : Bf D f x H E) (s : Same H H') : Bf D f x H' E := fun d fs H2 s2 hd f1 => h d fs H2 (s.trans s2) hd f1
section
variable {X : Cx} {CX : CXT} {k : Nat} {f C : Addr} {sp : Sp} {E : XK} {x : Str} {p pos : Pos}
theorem pe_makeR0 (M : Mk X.K C f) (F : FnR X.prog X.w X.K X.mg X.base CX k f sp) (hr : Room (k + 1) X.A) (hg : Gl X x) (hm : X.mg x = some (.ref C)) (hx : Passes CX X E) (hdb : (x == ("__debug__" : Str)) = false := by decide) : PE X (.Call (.Name x p) [] [] pos) (tMakeR C sp E tNil) := by
  refine ⟨fun pins s σ H Q I h => ?_⟩
  refine wpAny_Call_Name_kw (ld_glob I hg hm ?_ hdb)
  exact PySem.W.callWith_K0 I.kIn M.kp (run_makeR M F hr hx I .nil h)
end
/-- neither a list nor a tuple -/
def NoSeq (K : PySem.W.Frag) (H : Hp) (v : V) : Prop := ∃ t, TyX K H v t ∧ PySem.W.kitAny K t [.type "list", .type "tuple"] = some false
theorem NoSeq.same {K : PySem.W.Frag} {H H' : Hp} {v : V} (h : NoSeq K H v) (s : Same H H') : NoSeq K H' v := by
  obtain ⟨t, h1, h2⟩ := h
  exact ⟨t, Lw.TyX.same s h1, h2⟩
end Lw
namespace Lw
open PySem PySem.Spec PyProof.Rows L2
end Lw
namespace Lw.Ow
open PySem PySem.Spec PyProof.Rows PySem.W PySem.Calls
section
variable {prog : Program} {w : World} {A : Around} {E : Value → Shared → Prop} {s : Shared} {K : Frag} {x C f : Addr} {ox : Obj} {od : Option Obj}
theorem len_own {Q : Value → Shared → Prop} (X : K.In s.heap) (I : InstAt s.heap x ox C od) (hs : findIn K (.ref C) "__len__" = some (some (.ref f))) (hf : isFn K (.ref f) = true)
    (h : wpAny (model prog w) A.in1 (call (.ref f) [.ref x]) (fun v s' => ∃ (n : Int) (t : Tok), v = .int n t ∧ 0 ≤ n ∧ n < 2 ^ 63 ∧ ∀ t' tk, Q (.int n t') { s' with toks := tk }) E s) : wpAny (model prog w) A (call (.builtin "len") [.ref x]) Q E s := by
  refine call_function_entry kind_len plain_len entry_len (args_len1 _) ?_
  unfold Builtin.«len»
  refine wpAny_bind (m := oneArg "len" _) (wpAny_pure ?_)
  refine wpAny_bind (m := callSpecial? (.ref x) (Str.ofString "__len__")) (special_fn X I hs (beq_iff_eq.mp hf) (wpAny_mono h (fun r s' hr => ?_) fun _ _ y => y))
  obtain ⟨n, t, rfl, h0, h1, q⟩ := hr
  refine wpAny_bind (wpAny_holding (wpAny_pure ?_))
  refine wpAny_bind (wpAny_letGo ?_)
  show wpAny _ _ (if n < 0 then _ else _) _ _ _
  rw [if_neg (by omega)]
  show wpAny _ _ (if n ≥ 2 ^ 63 then _ else _) _ _ _
  rw [if_neg (by omega)]
  exact wpAny_bind (wpAny_mkInt (wpAny_pure ⟨_, rfl, q _ _⟩))
theorem cmp_eq {b tb : Value} {Q : Value → Shared → Prop} (hu : A.units < cLine) (X : K.In s.heap) (I : InstAt s.heap x ox C od) (hb : Looks (model prog w) s.heap (typeOf b) tb) (hn : notFirst K C tb = true)
    (one : wpAny (model prog w) A (tryCompare (.ref x) "__eq__" b) (fun r s' => ∃ v, r = some v ∧ Q v s') E s) : wpAny (model prog w) A (richCompare .Eq (.ref x) b) Q E s := by
  unfold richCompare
  simp only [oneThing_ref]
  refine wpAny_holding (wpAny_bind (wpAny_cRoomFor hu ?_))
  refine wpAny_bind (I.type.here (wpAny_bind (hb.here ?_)))
  split
  · rename_i q
    have e : subIn K tb (.ref C) = some false := by
      rcases Bool.or_eq_true_iff.mp hn with e | e
      · rw [beq_iff_eq.mp e] at q; simp at q
      · exact beq_iff_eq.mp e
    refine wpAny_bind ((looks_subIn X e).here ?_)
    simp only [Bool.false_eq_true, if_false]
    refine wpAny_bind (wpAny_mono one (fun r s' z => ?_) fun _ _ e => e)
    obtain ⟨v, rfl, hq⟩ := z
    exact wpAny_pure hq
  · refine wpAny_bind (wpAny_pure ?_)
    simp only [Bool.false_eq_true, if_false]
    refine wpAny_bind (wpAny_mono one (fun r s' z => ?_) fun _ _ e => e)
    obtain ⟨v, rfl, hq⟩ := z
    exact wpAny_pure hq
theorem try_ownE {nm : Str} {b : Value} {Q : Value → Shared → Prop} (X : K.In s.heap) (I : InstAt s.heap x ox C od) (hs : findIn K (.ref C) nm = some (some (.ref f))) (hf : isFn K (.ref f) = true) (h : wpAny (model prog w) A (call (.ref f) [.ref x, b]) (PySem.W.CmpBack Q) E s) :
    wpAny (model prog w) A (tryCompare (.ref x) nm b) (fun r s' => ∃ v, r = some v ∧ Q v s') E s := by
  unfold tryCompare
  refine wpAny_bind (ifBound_K X I hs hf (wpAny_mono h (fun v s' hv => ?_) fun _ _ e => e))
  cases v <;> first | exact hv.elim | exact wpAny_pure ⟨_, rfl, hv⟩
end
end Lw.Ow
namespace Lw
open PySem PySem.Spec PyProof.Rows L2 LamX
section
variable {X : Cx} {C f : Addr} {k j : Nat} {sp : Sp} {E : XK} {pins : List (Addr × Obj)} {σ : L2.St} {H : Hp} {s : Shared}
/-- x == y by the own == of both -/
def rER (C : Addr) (sp : Sp) (E : XK) : R2 := fun x y H Q => ∃ a dx fs b dy gs, x = .ref a ∧ H a = some (.ins C dx fs) ∧ y = .ref b ∧ H b = some (.ins C dy gs) ∧ sp [x, y] H Q E
theorem op_eqR (M : MetX X.prog X.w X.K X.mg X.base k C "__eq__" sp) (hx : Passes (L2.CX X.prog X.w) X E) (hr : Room j X.A) (hk : k ≤ j) : OpR X (compareOp .Eq) (rER C sp E) := by
  intro pins s σ H x y v u Q I rx ry h
  obtain ⟨a, dx, fs, b, dy, gs, rfl, ha, rfl, hb, q⟩ := h
  cases (show v = Value.ref a from rx)
  cases (show u = Value.ref b from ry)
  obtain ⟨_, _, J⟩ := ins_at I ha
  obtain ⟨_, _, J'⟩ := ins_at I hb
  obtain ⟨g, hm, w, _⟩ := run_met (us := [.ref a, .ref b]) (vs := [.ref a, .ref b]) M hx hr hk I (.cons rfl (.cons rfl .nil)) q
  exact Ow.cmp_eq hr.units0 I.kIn J J'.type (by simp [PySem.W.notFirst]) (Ow.try_ownE I.kIn J hm.at_ hm.fn w)
/-- len(x) by the own __len__ -/
def rLenOwn (C : Addr) (sp : Sp) (E : XK) : List V → Hp → VK → Prop := fun xs H Q => ∃ a dx fs, xs = [V.ref a] ∧ H a = some (.ins C dx fs) ∧ sp [.ref a] H (fun z H' => ∃ n : Int, z = .int n ∧ 0 ≤ n ∧ n < 2 ^ 63 ∧ Q z H') E
theorem call_lenOwn (M : MetX X.prog X.w X.K X.mg X.base k C "__len__" sp) (hx : Passes (L2.CX X.prog X.w) X E) (hr : Room j X.A) (hk : k + 1 ≤ j) : CallR X (.builtin "len") (rLenOwn C sp E) := by
  intro pins s σ H xs us Q I r h
  obtain ⟨a, dx, fs, rfl, ha, q⟩ := h
  obtain ⟨u, rfl, ru⟩ := r.one
  cases (show u = Value.ref a from ru)
  obtain ⟨_, _, J⟩ := ins_at I ha
  have hr1 : Room k X.A.in1 := Room.in1 (hr.mono hk)
  obtain ⟨g, hm, w⟩ := run_metA (us := [.ref a]) (vs := [.ref a]) M hx hr1 I.env0.in1 I (.cons rfl .nil) q
  refine Ow.len_own I.kIn J hm.at_ hm.fn (wpAny_mono w (fun v s' z => ?_) fun _ _ x => x)
  obtain ⟨z', H', I', rz, n, rfl, h0, h1, qz⟩ := z
  obtain ⟨t, rfl⟩ := rz
  exact ⟨n, t, rfl, h0, h1, fun t' tk => ⟨.int n, H', I'.tok tk, ⟨t', rfl⟩, qz⟩⟩
end
/-! ### a static method by keywords -/
section
variable {X : Cx} {CX : CXT} {C p g : Addr} {k : Nat} {fd : FuncData} {ps ks : List Str} {sp : Sp} {E : XK} {o : Expr} {kws : List Keyword} {m : Str} {pos apos : Pos} {ta : TE} {tkw : TA} {gU : List Value → List Value → List Value} {gV : List V → List V → List V} {pl : Sem Bool}
theorem pe_staticK (he : PE X o ta) (c : SMet X.K C m p g) (F : FnOk X.prog X.w X.K X.mg X.base CX k g fd ps sp) (hr : Room k X.A) (hb : KBn X.K fd ps 0 ks gU gV) (hx : Passes CX X E) (hkw : PK X kws tkw)
    (hall : (backToKw pos (keywordEach kws X.env)).all (·.1.isSome) = true := by rfl) (hks : (backToKw pos (keywordEach kws X.env)).filterMap (·.1) = ks := by rfl)
    (hpl : ((backTo pos (starEach [] X.env)).any (·.1) || (backToKw pos (keywordEach kws X.env)).any (·.1.isNone)) = false := by rfl)
    (ht : eval (.Call (.Attribute o m apos) [] kws pos) X.env = (do
      let ov ← eval o X.env
      standAt apos.atName
      let (f, first) ← holding [ov] (getMethod ov m pl)
      callWith pos f first (backTo pos (starEach [] X.env)) (backToKw pos (keywordEach kws X.env))) := by rfl) :
    PE X (.Call (.Attribute o m apos) [] kws pos) (fun σ H Q => ta σ H fun x H1 => x = .ref C ∧ tkw σ H1 fun zs H2 => zs.length = ks.length ∧ sp (gV [] zs) H2 Q E) := by
  refine ⟨fun pins s σ H Q I h => ?_⟩
  refine PySem.W.methodCall_KW (pl := pl) (thn (he.run pins s σ H _ I h) fun u s1 ⟨x, H1, I1, rx, ex, q⟩ => ?_) ht
  subst ex
  obtain rfl : u = Value.ref C := rx
  obtain ⟨mc, h1, h2, h3⟩ := c.mc
  obtain ⟨rest, h4⟩ := c.rc
  obtain ⟨fm, hF⟩ := I1.fr
  refine PySem.W.method_cls I1.kIn c.ga (PySem.W.cls_sm hF I1.ok.mod.kin h1 h2 h3 h4 rfl ?_)
  have I2 : Inv X pins σ H1 { s1 with toks := s1.toks + 1 } := I1.tok _
  refine PySem.W.callWith_KW0 (h₀ := X.base) I2.ok.mod.kin c.kp hall ?_ hpl
  refine thn (hkw.run pos pins _ σ H1 _ I2 q) fun ws s2 ⟨zs, H2, I3, rz, l2, q2⟩ => ⟨I3.kIn, ?_⟩
  rw [hks]
  exact run_fnN (us := []) (vs := []) F hr hb hx I3 .nil rz rfl l2 q2
end

end Lw
namespace Lw
open PySem PySem.Spec PyProof.Rows L2
open SX PySem.NumText TL LamX ClX StX
set_option pp.maxSteps 900
abbrev sFac : Stmt := top 25
abbrev sSta : Stmt := top 26
abbrev sFxi : Stmt := inClass (top 33) 0
abbrev sFxe : Stmt := inClass (top 33) 7
abbrev sDvi : Stmt := inClass (top 34) 0
abbrev sDve : Stmt := inClass (top 34) 8
abbrev sDvu : Stmt := inClass (top 34) 1
abbrev sByi : Stmt := inClass (top 37) 0
abbrev sBye : Stmt := inClass (top 37) 7
/-! ### what rules are -/
def fxP (n : Int) (p : Addr) : List (Str × V) := putF "modulus" (.int 1) (putF "parts" (.ref p) (putF "size" (.int n) []))
def dvP (x y w : Int) (p : Addr) : List (Str × V) := putF "modulus" (.int w) (putF "parts" (.ref p) (putF "w" (.int w) (putF "y" (.int y) (putF "x" (.int x) []))))
def byP (v : V) (p : Addr) : List (Str × V) := putF "modulus" (.int 1) (putF "parts" (.ref p) (putF "function" v []))
theorem fxP_size (n : Int) (p : Addr) : (fxP n p).lookup ("size" : Str) = some (.int n) := by
  unfold fxP
  rw [lookup_putF, if_neg (by decide +kernel), lookup_putF, if_neg (by decide +kernel), lookup_putF, if_pos rfl]
theorem fxP_parts (n : Int) (p : Addr) : (fxP n p).lookup ("parts" : Str) = some (.ref p) := by
  unfold fxP
  rw [lookup_putF, if_neg (by decide +kernel), lookup_putF, if_pos rfl]
theorem fxP_mod (n : Int) (p : Addr) : (fxP n p).lookup ("modulus" : Str) = some (.int 1) := by
  unfold fxP
  rw [lookup_putF, if_pos rfl]
theorem dvP_x (x y w : Int) (p : Addr) : (dvP x y w p).lookup ("x" : Str) = some (.int x) := by
  unfold dvP
  rw [lookup_putF, if_neg (by decide +kernel), lookup_putF, if_neg (by decide +kernel), lookup_putF, if_neg (by decide +kernel), lookup_putF, if_neg (by decide +kernel), lookup_putF, if_pos rfl]
theorem dvP_y (x y w : Int) (p : Addr) : (dvP x y w p).lookup ("y" : Str) = some (.int y) := by
  unfold dvP
  rw [lookup_putF, if_neg (by decide +kernel), lookup_putF, if_neg (by decide +kernel), lookup_putF, if_neg (by decide +kernel), lookup_putF, if_pos rfl]
theorem dvP_w (x y w : Int) (p : Addr) : (dvP x y w p).lookup ("w" : Str) = some (.int w) := by
  unfold dvP
  rw [lookup_putF, if_neg (by decide +kernel), lookup_putF, if_neg (by decide +kernel), lookup_putF, if_pos rfl]
theorem dvP_parts (x y w : Int) (p : Addr) : (dvP x y w p).lookup ("parts" : Str) = some (.ref p) := by
  unfold dvP
  rw [lookup_putF, if_neg (by decide +kernel), lookup_putF, if_pos rfl]
theorem dvP_mod (x y w : Int) (p : Addr) : (dvP x y w p).lookup ("modulus" : Str) = some (.int w) := by
  unfold dvP
  rw [lookup_putF, if_pos rfl]
theorem byP_fn (v : V) (p : Addr) : (byP v p).lookup ("function" : Str) = some v := by
  unfold byP
  rw [lookup_putF, if_neg (by decide +kernel), lookup_putF, if_neg (by decide +kernel), lookup_putF, if_pos rfl]
theorem byP_parts (v : V) (p : Addr) : (byP v p).lookup ("parts" : Str) = some (.ref p) := by
  unfold byP
  rw [lookup_putF, if_neg (by decide +kernel), lookup_putF, if_pos rfl]
theorem byP_mod (v : V) (p : Addr) : (byP v p).lookup ("modulus" : Str) = some (.int 1) := by
  unfold byP
  rw [lookup_putF, if_pos rfl]
def FxAt (FC : Addr) (H : Hp) (a : Addr) (n : Int) : Prop := ∃ dx p, H a = some (.ins FC dx (fxP n p)) ∧ H p = some (.tup [.ref a])
def DvAt (VC : Addr) (H : Hp) (a : Addr) (x y w : Int) : Prop := ∃ dx p, H a = some (.ins VC dx (dvP x y w p)) ∧ H p = some (.tup [.ref a])
def ByAt (BC : Addr) (H : Hp) (a : Addr) (v : V) : Prop := ∃ dx p, H a = some (.ins BC dx (byP v p)) ∧ H p = some (.tup [])
theorem FxAt.on {FC : Addr} {H H' : Hp} {a : Addr} {n : Int} (h : FxAt FC H a n) (s : Same H H') : FxAt FC H' a n := by
  obtain ⟨dx, p, h1, h2⟩ := h
  exact ⟨dx, p, s _ _ h1, s _ _ h2⟩
theorem DvAt.on {VC : Addr} {H H' : Hp} {a : Addr} {x y w : Int} (h : DvAt VC H a x y w) (s : Same H H') : DvAt VC H' a x y w := by
  obtain ⟨dx, p, h1, h2⟩ := h
  exact ⟨dx, p, s _ _ h1, s _ _ h2⟩
theorem ByAt.on {BC : Addr} {H H' : Hp} {a : Addr} {v : V} (h : ByAt BC H a v) (s : Same H H') : ByAt BC H' a v := by
  obtain ⟨dx, p, h1, h2⟩ := h
  exact ⟨dx, p, s _ _ h1, s _ _ h2⟩
def spFac (K : PySem.W.Frag) : Sp := fun vs H Q _ => ∃ x lo, vs = [x, .int lo] ∧ Anyv K H x ∧ Q (.bl (inB x lo 24)) H
def spSta (K : PySem.W.Frag) : Sp := fun vs H Q _ => ∃ x, vs = [x] ∧ Anyv K H x ∧ Q (.bl (inB x (-1000) 1000)) H
def spFxi (K : PySem.W.Frag) (FC DS : Addr) : Sp := fun vs H Q E => ∃ (x dx : Addr) (v : V), vs = [.ref x, v] ∧ H x = some (.ins FC dx []) ∧ Anyv K H v ∧ (inB v 1 (10 ^ 30) = false → Bf DS "value" v H E) ∧
  ∀ n, v = .int n → 1 ≤ n → n ≤ 10 ^ 30 → ∀ p H', Kp x H H' → H' x = some (.ins FC dx (fxP n p)) → H' p = some (.tup [.ref x]) → Q .non H'
/-- what Divided(x, y, w) comes to -/
def MkD (K : PySem.W.Frag) (DU : Addr) (vx vy vw : V) (H : Hp) (E : XK) (R : Int → Int → Int → Prop) : Prop :=
  (inB vx 0 24 = false → Bf DU "part" (.str (Str.ofString "x")) H E) ∧ ∀ x, vx = .int x → 0 ≤ x → x ≤ 24 → (inB vy (-1000) 1000 = false → Bf DU "part" (.str (Str.ofString "y")) H E) ∧ ∀ y, vy = .int y → -1000 ≤ y → y ≤ 1000 →
    (inB vw 1 24 = false → Bf DU "part" (.str (Str.ofString "w")) H E) ∧ ∀ w, vw = .int w → 1 ≤ w → w ≤ 24 → R x y w
def spDvi (K : PySem.W.Frag) (VC DU : Addr) : Sp := fun vs H Q E => ∃ (a dx : Addr) (vx vy vw : V), vs = [.ref a, vx, vy, vw] ∧ H a = some (.ins VC dx []) ∧ Anyv K H vx ∧ Anyv K H vy ∧ Anyv K H vw ∧
  MkD K DU vx vy vw H E fun x y w => ∀ p H', Kp a H H' → H' a = some (.ins VC dx (dvP x y w p)) → H' p = some (.tup [.ref a]) → Q .non H'
def spByi (BC : Addr) : Sp := fun vs H Q _ => ∃ (x dx : Addr) (v : V), vs = [.ref x, v] ∧ H x = some (.ins BC dx []) ∧ ∀ p H', Kp x H H' → H' x = some (.ins BC dx (byP v p)) → H' p = some (.tup []) → Q .non H'
theorem wt_in {v : V} {lo hi : Int} (h : inB v lo hi = true) : ∃ i, v = .int i ∧ lo ≤ i ∧ i ≤ hi := by
  unfold inB at h
  split at h
  · exact ⟨_, rfl, by simpa using h⟩
  · cases h
theorem Bf.leaf {D : Addr} {f : Str} {x : V} {H : Hp} {E : XK} (h : Bf D f x H E) : ∀ d fs, H d = none → fs.lookup f = some x → E (.ref D) (some d) (upd H d (.xd fs)) := fun d fs hd e => h d fs H (Same.refl _) hd e
/-- an instance's fields set, a tuple made in between -/
theorem kp_three {H : Hp} {x p : Addr} {o0 o1 o3 tp : HO} (hx : H x = some o0) (hp : upd H x o1 p = none) : Kp x H (upd (upd (upd H x o1) p tp) x o3) ∧ upd (upd (upd H x o1) p tp) x o3 p = some tp := by
  have px : p ≠ x := fun z => by rw [z, upd_same] at hp; cases hp
  refine ⟨fun b o nb e => ?_, ?_⟩
  · rw [upd_ne nb, upd_ne (fun z => by rw [upd_ne px] at hp; rw [z, hp] at e; cases e), upd_ne nb]
    exact e
  · rw [upd_ne px]
    exact upd_same
structure FxC (K : PySem.W.Frag) (FC : Addr) : Prop where
  cl : Cls K FC
  n1 : NoAttr K FC "size"
  n2 : NoAttr K FC "parts"
  n3 : NoAttr K FC "modulus"
structure DvC (K : PySem.W.Frag) (VC : Addr) : Prop where
  cl : Cls K VC
  n1 : NoAttr K VC "x"
  n2 : NoAttr K VC "y"
  n3 : NoAttr K VC "w"
  n4 : NoAttr K VC "parts"
  n5 : NoAttr K VC "modulus"
structure ByC (K : PySem.W.Frag) (BC : Addr) : Prop where
  cl : Cls K BC
  n1 : NoAttr K BC "function"
  n2 : NoAttr K BC "parts"
  n3 : NoAttr K BC "modulus"
section
variable {P : Program} {w : World} {K : PySem.W.Frag} {mg : Str → Option Value} {base : Heap}
theorem scFac : FnScope ["value", "least"] ["value", "least"] (C8.fnScope sFac) := C8.fnScope_by (by decide +kernel)
theorem cal_fac {f : Addr} {fd : FuncData} (F : C8.Def K mg "is_factor" sFac f fd) (b : Binds K fd ["value", "least"] []) (hMF : ∃ t, mg "MOST_FACTOR" = some (.int 24 t)) (DW : C8.Cal P w K mg base 2 "is_within" (spWithin K) []) : C8.Cal P w K mg base 3 "is_factor" (spFac K) [] := by
  obtain ⟨tf, hMF⟩ := hMF
  refine C8.cal0 F b .nil scFac (fun vs H Q E h => ?_) (fun cdv A outer st H vs Q E hr h => ?_)
  · obtain ⟨x, lo, rfl, _⟩ := h
    rfl
  · obtain ⟨x, lo, rfl, ax, k⟩ := h
    refine ⟨_, (pss_one (ps_ret (C8.pe_c DW hr (by decide) (by rfl) (pa_cons (pv 0) (pa_cons (pv 1) (pa_cons (pe_glob (v := .int 24) rfl hMF ⟨_, rfl⟩) pa_nil)))))), ?_⟩
    exact ⟨_, rfl, _, rfl, x, lo, 24, rfl, ax, k⟩
theorem scSta : FnScope ["value"] ["value"] (C8.fnScope sSta) := C8.fnScope_by (by decide +kernel)
theorem cal_sta {f : Addr} {fd : FuncData} (F : C8.Def K mg "is_start" sSta f fd) (b : Binds K fd ["value"] []) (hMS : ∃ t, mg "MOST_START" = some (.int 1000 t)) (DW : C8.Cal P w K mg base 2 "is_within" (spWithin K) []) : C8.Cal P w K mg base 3 "is_start" (spSta K) [] := by
  obtain ⟨tf, hMS⟩ := hMS
  refine C8.cal0 F b .nil scSta (fun vs H Q E h => ?_) (fun cdv A outer st H vs Q E hr h => ?_)
  · obtain ⟨x, rfl, _⟩ := h
    rfl
  · obtain ⟨x, rfl, ax, k⟩ := h
    refine ⟨_, (pss_one (ps_ret (C8.pe_c DW hr (by decide) (by rfl) (pa_cons (pv 0) (pa_cons (pe_un un_neg (pe_glob (v := .int 1000) rfl hMS ⟨_, rfl⟩)) (pa_cons (pe_glob (v := .int 1000) rfl hMS ⟨_, rfl⟩) pa_nil)))))), ?_⟩
    exact ⟨_, rfl, _, rfl, x, _, _, rfl, ax, k⟩
theorem scFxi : FnScope ["self", "size"] ["self", "size"] (C8.fnScope sFxi) := C8.fnScope_by (by decide +kernel)
theorem fn_fxi {FC DS f fS : Addr} {fd fdS : FuncData} (F : C8.Fun K "__init__" "Fixed.__init__" sFxi f fd) (Z : FxC K FC) (ES : Err1 "BadSize" "value" P w K mg base DS fS fdS) (DSz : C8.Cal P w K mg base 3 "is_size" (spSize K) []) : FnOk P w K mg base (L2.CX P w) 4 f fd ["self", "size"] (spFxi K FC DS) := by
  obtain ⟨oc, od, dV, kV, doc, pm, an, cdv, ct, osl, rfl, lk, hcd⟩ := F.ex
  refine fn_of lk hcd scFxi (fun vs H Q E h => ?_) fun A outer s H vs Q E hr h => ?_
  · obtain ⟨x, dx, v, rfl, _⟩ := h
    rfl
  · obtain ⟨x, dx, v, rfl, hx, av, k1, k2⟩ := h
    have tk : Takes (cxOf (L2.CX P w) P w K mg base ["self", "size"] "Fixed.__init__" (C8.fnScope sFxi) f cdv A outer s H E) (fun cls d _ H' => E cls d H') := takes_of rfl rfl rfl rfl
    refine ⟨_, (pss_cons (ps_if (pt_not (pt_val (C8.pe_c DSz hr (by decide) (by rfl) (pa_cons (pv 1) pa_nil)))) (pss_one (ps_bad1 (x := "BadSize") rfl tk ES.T ES.iC ES.tI ES.F hr ES.b (by rfl) ES.hm (pv 1))) pss_nil)
  (pss_cons (ps_fld (pv 0) (pv 1) rfl)
  (pss_cons (ps_fld (pv 0) (pe_tup (pa_cons (pv 0) pa_nil)) rfl)
  (pss_one (ps_fld (pv 0) pe_int rfl))))), ?_⟩
    refine ⟨_, rfl, v, rfl, av, _, rfl, ?_⟩
    cases hv : inB v 1 (10 ^ 30) with
    | false => exact iteT ⟨_, rfl, bad_leaf1 (Bf.leaf (k1 hv))⟩
    | true =>
      obtain ⟨n, rfl, n1, n2⟩ := wt_in hv
      refine iteF ?_
      dsimp only [tNext, tSeq]
      refine ⟨_, rfl, _, rfl, x, FC, dx, _, rfl, hx, Z.cl, Z.n1, (by show 0 < 1000; decide), ?_⟩
      refine ⟨_, rfl, (by show 1 ≤ sizeLine; decide), fun p hp => ?_⟩
      have px : x ≠ p := fun z => by rw [← z, upd_same] at hp; cases hp
      refine ⟨_, rfl, x, FC, dx, _, rfl, by rw [upd_ne px]; exact upd_same, Z.cl, Z.n2, (by show 1 < 1000; decide), ?_⟩
      refine ⟨_, rfl, x, FC, dx, _, rfl, upd_same, Z.cl, Z.n3, (by show 2 < 1000; decide), ?_⟩
      rw [upd_upd]
      obtain ⟨a1, a2⟩ := kp_three (o3 := .ins FC dx (fxP n p)) (tp := .tup [.ref x]) hx hp
      exact k2 n rfl n1 n2 p _ a1 upd_same a2
theorem scDvi : FnScope ["self", "x", "y", "w"] ["self", "x", "y", "w"] (C8.fnScope sDvi) := C8.fnScope_by (by decide +kernel)
theorem fn_dvi {VC DU f fU : Addr} {fd fdU : FuncData} (F : C8.Fun K "__init__" "Divided.__init__" sDvi f fd) (Z : DvC K VC) (EU : Err1 "BadRule" "part" P w K mg base DU fU fdU) (DFa : C8.Cal P w K mg base 3 "is_factor" (spFac K) []) (DSt : C8.Cal P w K mg base 3 "is_start" (spSta K) []) : FnOk P w K mg base (L2.CX P w) 4 f fd ["self", "x", "y", "w"] (spDvi K VC DU) := by
  obtain ⟨oc, od, dV, kV, doc, pm, an, cdv, ct, osl, rfl, lk, hcd⟩ := F.ex
  refine fn_of lk hcd scDvi (fun vs H Q E h => ?_) fun A outer s H vs Q E hr h => ?_
  · obtain ⟨a, dx, vx, vy, vw, rfl, _⟩ := h
    rfl
  · obtain ⟨a, dx, vx, vy, vw, rfl, ha, ax, ay, aw, k1, k2⟩ := h
    have tk : Takes (cxOf (L2.CX P w) P w K mg base ["self", "x", "y", "w"] "Divided.__init__" (C8.fnScope sDvi) f cdv A outer s H E) (fun cls d _ H' => E cls d H') := takes_of rfl rfl rfl rfl
    refine ⟨_, (pss_cons (ps_if (pt_not (pt_val (C8.pe_c DFa hr (by decide) (by rfl) (pa_cons (pv 1) (pa_cons pe_int pa_nil))))) (pss_one (ps_bad1 (x := "BadRule") rfl tk EU.T EU.iC EU.tI EU.F hr EU.b (by rfl) EU.hm pe_str)) pss_nil)
  (pss_cons (ps_if (pt_not (pt_val (C8.pe_c DSt hr (by decide) (by rfl) (pa_cons (pv 2) pa_nil)))) (pss_one (ps_bad1 (x := "BadRule") rfl tk EU.T EU.iC EU.tI EU.F hr EU.b (by rfl) EU.hm pe_str)) pss_nil)
  (pss_cons (ps_if (pt_not (pt_val (C8.pe_c DFa hr (by decide) (by rfl) (pa_cons (pv 3) (pa_cons pe_int pa_nil))))) (pss_one (ps_bad1 (x := "BadRule") rfl tk EU.T EU.iC EU.tI EU.F hr EU.b (by rfl) EU.hm pe_str)) pss_nil)
  (pss_cons (ps_fld (pv 0) (pv 1) rfl)
  (pss_cons (ps_fld (pv 0) (pv 2) rfl)
  (pss_cons (ps_fld (pv 0) (pv 3) rfl)
  (pss_cons (ps_fld (pv 0) (pe_tup (pa_cons (pv 0) pa_nil)) rfl)
  (pss_one (ps_fld (pv 0) (pv 3) rfl))))))))), ?_⟩
    refine ⟨_, rfl, vx, 0, rfl, ax, _, rfl, ?_⟩
    cases hv : inB vx 0 24 with
    | false => exact iteT (bad_leaf1 (Bf.leaf (k1 hv)))
    | true =>
      obtain ⟨x, rfl, x1, x2⟩ := wt_in hv
      obtain ⟨k3, k4⟩ := k2 x rfl x1 x2
      refine iteF ?_
      dsimp only [tNext, tSeq]
      refine ⟨_, rfl, vy, rfl, ay, _, rfl, ?_⟩
      cases hy : inB vy (-1000) 1000 with
      | false => exact iteT (bad_leaf1 (Bf.leaf (k3 hy)))
      | true =>
        obtain ⟨y, rfl, y1, y2⟩ := wt_in hy
        obtain ⟨k5, k6⟩ := k4 y rfl y1 y2
        refine iteF ?_
        dsimp only [tNext, tSeq]
        refine ⟨_, rfl, vw, 1, rfl, aw, _, rfl, ?_⟩
        cases hw : inB vw 1 24 with
        | false => exact iteT (bad_leaf1 (Bf.leaf (k5 hw)))
        | true =>
          obtain ⟨w0, rfl, w1, w2⟩ := wt_in hw
          refine iteF ?_
          dsimp only [tNext, tSeq]
          refine ⟨_, rfl, _, rfl, a, VC, dx, _, rfl, ha, Z.cl, Z.n1, (by show 0 < 1000; decide), ?_⟩
          refine ⟨_, rfl, _, rfl, a, VC, dx, _, rfl, upd_same, Z.cl, Z.n2, (by show 1 < 1000; decide), ?_⟩
          refine ⟨_, rfl, _, rfl, a, VC, dx, _, rfl, upd_same, Z.cl, Z.n3, (by show 2 < 1000; decide), ?_⟩
          rw [upd_upd, upd_upd]
          refine ⟨_, rfl, (by show 1 ≤ sizeLine; decide), fun p hp => ?_⟩
          have px : a ≠ p := fun z => by rw [← z, upd_same] at hp; cases hp
          refine ⟨_, rfl, a, VC, dx, _, rfl, by rw [upd_ne px]; exact upd_same, Z.cl, Z.n4, (by show 3 < 1000; decide), ?_⟩
          refine ⟨_, rfl, _, rfl, a, VC, dx, _, rfl, upd_same, Z.cl, Z.n5, (by show 4 < 1000; decide), ?_⟩
          rw [upd_upd]
          obtain ⟨a1, a2⟩ := kp_three (o3 := .ins VC dx (dvP x y w0 p)) (tp := .tup [.ref a]) ha hp
          exact k6 w0 rfl w1 w2 p _ a1 upd_same a2
theorem scByi : FnScope ["self", "function"] ["self", "function"] (C8.fnScope sByi) := C8.fnScope_by (by decide +kernel)
theorem fn_byi {BC f : Addr} {fd : FuncData} (F : C8.Fun K "__init__" "By.__init__" sByi f fd) (Z : ByC K BC) : FnOk P w K mg base (L2.CX P w) 1 f fd ["self", "function"] (spByi BC) := by
  obtain ⟨oc, od, dV, kV, doc, pm, an, cdv, ct, osl, rfl, lk, hcd⟩ := F.ex
  refine fn_of lk hcd scByi (fun vs H Q E h => ?_) fun A outer s H vs Q E hr h => ?_
  · obtain ⟨x, dx, v, rfl, _⟩ := h
    rfl
  · obtain ⟨x, dx, v, rfl, hx, k⟩ := h
    refine ⟨_, (pss_cons (ps_fld (pv 0) (pv 1) rfl)
  (pss_cons (ps_fld (pv 0) (pe_tup pa_nil) rfl)
  (pss_one (ps_fld (pv 0) pe_int rfl)))), ?_⟩
    refine ⟨_, rfl, _, rfl, x, BC, dx, _, rfl, hx, Z.cl, Z.n1, (by show 0 < 1000; decide), ?_⟩
    refine ⟨(by show 0 ≤ sizeLine; decide), fun p hp => ?_⟩
    have px : x ≠ p := fun z => by rw [← z, upd_same] at hp; cases hp
    refine ⟨_, rfl, x, BC, dx, _, rfl, by rw [upd_ne px]; exact upd_same, Z.cl, Z.n2, (by show 1 < 1000; decide), ?_⟩
    refine ⟨_, rfl, x, BC, dx, _, rfl, upd_same, Z.cl, Z.n3, (by show 2 < 1000; decide), ?_⟩
    rw [upd_upd]
    obtain ⟨a1, a2⟩ := kp_three (o3 := .ins BC dx (byP v p)) (tp := .tup []) hx hp
    exact k p _ a1 upd_same a2
end
end Lw
namespace Lw
open PySem PySem.Spec PyProof.Rows L2
/-! ### == of functions -/
end Lw
namespace Lw.Fq
open PySem PySem.Spec PyProof.Rows PySem.SeqAt
theorem sl_fn_eq : Slot "function" "__eq__" "object.__eq__" :=
  .of (owner := "object") (n := "__eq__") (by rw [typeLookup_type, builtinLookup_eq_fast]; kernel_rfl) (by decide +kernel) (by decide +kernel) (by decide +kernel)
    (by first | exact .inl (by decide +kernel) | exact .inr (by decide +kernel)) (by rw [isSubtype_type]; kernel_rfl)
section
variable {P : Program} {w : World} {A : Around} {E : Value → Shared → Prop} {s : Shared} {x y : Addr} {o o' : Obj} {Q : Value → Shared → Prop}
theorem fn_same (hx : s.heap.get? x = some o) (hc : o.cls = .type "function") (hu : A.units < cLine) (q : Q (.bool true) s) : wpAny (model P w) A (richCompare .Eq (.ref x) (.ref x)) Q E s := by
  refine wpAny_richCompare_same_room (op := .Eq) ⟨o, hx, hc⟩ ⟨o, hx, hc⟩ sl_fn_eq (GQ.call_here sl_fn_eq ⟨o, hx, hc⟩ F.entry_object_eq (F.args_object_eq_2 _ _) ?_) hu
  exact objEq_entry_same ⟨(fun z => nomatch z), q⟩
theorem call_other (hx : s.heap.get? x = some o) (hc : o.cls = .type "function") (hy : s.heap.get? y = some o') (ne : x ≠ y) (q : Q .notImplemented s) : wpAny (model P w) A (call (.builtin "object.__eq__") [.ref x, .ref y]) Q E s :=
  GQ.call_here sl_fn_eq ⟨o, hx, hc⟩ F.entry_object_eq (F.args_object_eq_2 _ _) (objEq_entry_other ne hx hy (by rw [hc]; exact fun z => absurd (Value.type.inj z) (by decide)) q)
theorem fn_other (hx : s.heap.get? x = some o) (hc : o.cls = .type "function") (hy : s.heap.get? y = some o') (hc' : o'.cls = .type "function") (ne : x ≠ y) (hu : A.units < cLine) (q : Q (.bool false) s) : wpAny (model P w) A (richCompare .Eq (.ref x) (.ref y)) Q E s := by
  have tx : s.TypeIs (.ref x) "function" := ⟨o, hx, hc⟩
  have ty : s.TypeIs (.ref y) "function" := ⟨o', hy, hc'⟩
  simp only [richCompare, cmpInfo_Eq, oneThing_ref]
  refine wpAny_holding ?_
  refine wpAny_bind (wpAny_cRoomFor_or (.inr hu) ?_)
  refine wpAny_bind (wpAny_typeOf tx (wpAny_bind (wpAny_typeOf ty ?_)))
  simp only [bne_self_eq_false, Bool.false_eq_true, if_false, pure_bind, Bool.not_false, if_true]
  refine wpAny_bind (m := tryCompare (.ref x) _ (.ref y)) (wpAny_tryCompare_declines tx sl_fn_eq (call_other hx hc hy ne ⟨rfl, ?_⟩))
  refine wpAny_bind (m := tryCompare (.ref y) _ (.ref x)) (wpAny_tryCompare_declines ty sl_fn_eq (call_other hy hc' hx ne.symm ⟨rfl, ?_⟩))
  exact wpAny_bind (wpAny_rule (wpAny_bind (wpAny_isSame_ref_other ne hx hy (by rw [hc]; exact fun z => absurd (Value.type.inj z) (by decide)) (wpAny_pure q))))
end
end Lw.Fq
namespace Lw
open PySem PySem.Spec PyProof.Rows L2 LamX
open SX PySem.NumText TL LamX ClX StX
set_option pp.maxSteps 900
/-- two functions compared: the same one or not -/
def rEqFn : R2 := fun x y H Q => ∃ a b, x = .ref a ∧ y = .ref b ∧ H a = some (FnO a) ∧ H b = some (FnO b) ∧ Q (.bl (decide (a = b))) H
theorem op_eqFn {X : Cx} (hu : X.A.units < cLine) : OpR X (compareOp .Eq) rEqFn := by
  intro pins s σ H x y v u Q I rx ry h
  obtain ⟨a, b, rfl, rfl, ha, hb, q⟩ := h
  cases (show v = Value.ref a from rx)
  cases (show u = Value.ref b from ry)
  obtain ⟨⟨o, g1, c1⟩, _⟩ := (show ObjOk X.prog X.w H s.heap a (FnO a) from I.hok a _ ha)
  obtain ⟨⟨o2, g2, c2⟩, _⟩ := (show ObjOk X.prog X.w H s.heap b (FnO b) from I.hok b _ hb)
  show wpAny (model X.prog X.w) X.A (richCompare .Eq _ _) (EP X pins σ Q) X.xe s
  by_cases c : a = b
  · subst c
    rw [decide_eq_true rfl] at q
    exact Fq.fn_same g1 c1 hu ⟨.bl true, H, I, rfl, q⟩
  · rw [decide_eq_false c] at q
    exact Fq.fn_other g1 c1 g2 c2 c hu ⟨.bl false, H, I, rfl, q⟩
/-- what stands on the right of ==: no instance of C -/
def NoI (K : PySem.W.Frag) (C : Addr) (H : Hp) (y : V) : Prop := ∃ t, TyZ K H y t ∧ PySem.W.kitOne K t (.ref C) = some false
def spFxe (K : PySem.W.Frag) (FC : Addr) : Sp := fun vs H Q _ => ∃ a y n, vs = [.ref a, y] ∧ FxAt FC H a n ∧ ((NoI K FC H y ∧ Q (.bl false) H) ∨ ∃ b m, y = .ref b ∧ FxAt FC H b m ∧ Q (.bl (decide (n = m))) H)
def spDve (K : PySem.W.Frag) (VC : Addr) : Sp := fun vs H Q _ => ∃ a z x y w, vs = [.ref a, z] ∧ DvAt VC H a x y w ∧ ((NoI K VC H z ∧ Q (.bl false) H) ∨ ∃ b x' y' w', z = .ref b ∧ DvAt VC H b x' y' w' ∧ Q (.bl (decide (x = x') && (decide (y = y') && decide (w = w')))) H)
def spBye (K : PySem.W.Frag) (BC : Addr) : Sp := fun vs H Q _ => ∃ a b f g, vs = [.ref a, .ref b] ∧ ByAt BC H a (.ref f) ∧ ByAt BC H b (.ref g) ∧ H f = some (FnO f) ∧ H g = some (FnO g) ∧ Q (.bl (decide (f = g))) H
/-- Divided, ready to be made -/
def DivV (K : PySem.W.Frag) (VC DU : Addr) (vx vy vw : V) (H : Hp) (Q : VK) (E : XK) : Prop := Anyv K H vx ∧ Anyv K H vy ∧ Anyv K H vw ∧ MkD K DU vx vy vw H E fun x y w => ∀ a H', Same H H' → H a = none → DvAt VC H' a x y w → Q (.ref a) H'
def FixV (K : PySem.W.Frag) (FC DS : Addr) (v : V) (H : Hp) (Q : VK) (E : XK) : Prop := Anyv K H v ∧ (inB v 1 (10 ^ 30) = false → Bf DS "value" v H E) ∧ ∀ n, v = .int n → 1 ≤ n → n ≤ 10 ^ 30 → ∀ a H', Same H H' → H a = none → FxAt FC H' a n → Q (.ref a) H'
theorem MkD.of {K : PySem.W.Frag} {DU : Addr} {vx vy vw : V} {H H' : Hp} {E : XK} {R R' : Int → Int → Int → Prop} (h : MkD K DU vx vy vw H E R) (s : Same H H') (m : ∀ x y w, R x y w → R' x y w) : MkD K DU vx vy vw H' E R' := by
  have bf : ∀ {D : Addr} {f : Str} {x : V}, Bf D f x H E → Bf D f x H' E := fun b d fs H2 s2 hd e => b d fs H2 (s.trans s2) hd e
  obtain ⟨k1, k2⟩ := h
  refine ⟨fun z => bf (k1 z), fun x e x1 x2 => ?_⟩
  obtain ⟨k3, k4⟩ := k2 x e x1 x2
  refine ⟨fun z => bf (k3 z), fun y e y1 y2 => ?_⟩
  obtain ⟨k5, k6⟩ := k4 y e y1 y2
  exact ⟨fun z => bf (k5 z), fun w e w1 w2 => m x y w (k6 w e w1 w2)⟩
theorem DivV.make {K : PySem.W.Frag} {VC DU : Addr} {vx vy vw : V} {H : Hp} {Q : VK} {E : XK} (h : DivV K VC DU vx vy vw H Q E) (x dx : Addr) (hx : H x = none) (hdx : H dx = none) (ne : dx ≠ x) :
    spDvi K VC DU [.ref x, vx, vy, vw] (upd (upd H dx (.own x)) x (.ins VC dx [])) (fun v H2 => v = .non ∧ Q (.ref x) H2) E := by
  obtain ⟨h1, h2, h3, h4⟩ := h
  have s1 : Same H (upd H dx (.own x)) := same_new hdx
  have hx1 : upd H dx (.own x) x = none := by rw [upd_ne ne.symm]; exact hx
  have s2 := s1.trans (same_new (o := HO.ins VC dx []) hx1)
  exact ⟨x, dx, vx, vy, vw, rfl, upd_same, Lw.Anyv.same s2 h1, Lw.Anyv.same s2 h2, Lw.Anyv.same s2 h3, h4.of s2 fun i j k g p H' kp hx' hp => ⟨rfl, g x H' (fun b o e => kp _ _ (ne_of_none e hx) (s2 _ _ e)) hx ⟨dx, p, hx', hp⟩⟩⟩
theorem FixV.make {K : PySem.W.Frag} {FC DS : Addr} {v : V} {H : Hp} {Q : VK} {E : XK} (h : FixV K FC DS v H Q E) (x dx : Addr) (hx : H x = none) (hdx : H dx = none) (ne : dx ≠ x) :
    spFxi K FC DS [.ref x, v] (upd (upd H dx (.own x)) x (.ins FC dx [])) (fun v H2 => v = .non ∧ Q (.ref x) H2) E := by
  obtain ⟨h1, h2, h3⟩ := h
  have s1 : Same H (upd H dx (.own x)) := same_new hdx
  have hx1 : upd H dx (.own x) x = none := by rw [upd_ne ne.symm]; exact hx
  have s2 := s1.trans (same_new (o := HO.ins FC dx []) hx1)
  exact ⟨x, dx, v, rfl, upd_same, Lw.Anyv.same s2 h1, (fun z d fs H2 s3 hd e => h2 z d fs H2 (s2.trans s3) hd e), fun n e n1 n2 p H' kp hx' hp => ⟨rfl, h3 n e n1 n2 x H' (fun b o e => kp _ _ (ne_of_none e hx) (s2 _ _ e)) hx ⟨dx, p, hx', hp⟩⟩⟩
def spDvu (K : PySem.W.Frag) (VC DU : Addr) : Sp := fun vs H Q E => ∃ v, vs = [v] ∧ Anyv K H v ∧ (inB v 1 24 = false → Bf DU "part" (.str (Str.ofString "w")) H E) ∧ ∀ n, v = .int n → 1 ≤ n → n ≤ 24 → ∀ a H', Same H H' → H a = none → DvAt VC H' a 1 (n - 1) n → Q (.ref a) H'
structure DivM (P : Program) (w : World) (K : PySem.W.Frag) (mg : Str → Option Value) (base : Heap) (VC DU f : Addr) (fd : FuncData) : Prop where
  M : Mk K VC f
  F : FnOk P w K mg base (L2.CX P w) 4 f fd ["self", "x", "y", "w"] (spDvi K VC DU)
  hm : mg "Divided" = some (.ref VC)
  b : Binds K fd ["self", "x", "y", "w"] []
structure FixM (P : Program) (w : World) (K : PySem.W.Frag) (mg : Str → Option Value) (base : Heap) (FC DS f : Addr) (fd : FuncData) : Prop where
  M : Mk K FC f
  F : FnOk P w K mg base (L2.CX P w) 4 f fd ["self", "size"] (spFxi K FC DS)
  hm : mg "Fixed" = some (.ref FC)
  b : Binds K fd ["self", "size"] []
structure ByM (P : Program) (w : World) (K : PySem.W.Frag) (mg : Str → Option Value) (base : Heap) (BC f : Addr) (fd : FuncData) : Prop where
  M : Mk K BC f
  F : FnOk P w K mg base (L2.CX P w) 1 f fd ["self", "function"] (spByi BC)
  hm : mg "By" = some (.ref BC)
  b : Binds K fd ["self", "function"] []
section
variable {X : Cx}
theorem pe_fldK (K' : PySem.W.Frag) (hK : X.K = K') {e : Expr} {te : TE} {f : Str} {pos : Pos} (he : PE X e te) (hb : attributeBase e f X.env (eval e X.env) = eval e X.env) : PE X (.Attribute e f pos) (tFld K' te f) := by
  subst hK
  exact pe_fld he hb
end
section
variable {P : Program} {w : World} {K : PySem.W.Frag} {mg : Str → Option Value} {base : Heap}
theorem scFxe : FnScope ["self", "other"] ["self", "other"] (C8.fnScope sFxe) := C8.fnScope_by (by decide +kernel)
theorem fn_fxe {FC f : Addr} {fd : FuncData} (F : C8.Fun K "__eq__" "Fixed.__eq__" sFxe f fd) (T : Txt mg) (Z : FxC K FC) (hm : mg "Fixed" = some (.ref FC)) (I : C8.InsC K FC) : FnOk P w K mg base (L2.CX P w) 1 f fd ["self", "other"] (spFxe K FC) := by
  obtain ⟨oc, od, dV, kV, doc, pm, an, cdv, ct, osl, rfl, lk, hcd⟩ := F.ex
  refine fn_of lk hcd scFxe (fun vs H Q E h => ?_) fun A outer s H vs Q E hr h => ?_
  · obtain ⟨a, y, n, rfl, _⟩ := h
    rfl
  · obtain ⟨a, y, n, rfl, ⟨dx, p, ha, hp⟩, k⟩ := h
    refine ⟨_, (pss_one (ps_ret (pe_and (pe_callB call_isz (by rfl) T.n_isinstance (by decide +kernel) (pa_cons (pv 1) (pa_cons (pe_glob (v := .ref FC) (by rfl) hm rfl) pa_nil))) (pe_one (pe_cmpR op_eq (pe_fldK K rfl (pv 0) rfl) (pe_fldK K rfl (pv 1) rfl) (nomark _)))))), ?_⟩
    rcases k with ⟨⟨t, ty, hk⟩, k⟩ | ⟨b, m, rfl, ⟨dy, q, hb, hq⟩, k⟩
    · refine ⟨_, rfl, _, .ref FC, t, .ref FC, false, rfl, .own FC, ty, hk, _, rfl, iteF k⟩
    · refine ⟨_, rfl, _, .ref FC, .ref FC, .ref FC, true, rfl, .own FC, .x (.base (.ins hb I.cl I.ha I.hn I.htk I.hm)), I.me, _, rfl, iteT ?_⟩
      refine ⟨_, rfl, a, FC, dx, _, _, rfl, ha, Z.cl, Z.n1, fxP_size _ _, _, rfl, b, FC, dy, _, _, rfl, hb, Z.cl, Z.n1, fxP_size _ _, rfl, ?_⟩
      rw [show decide (V.int n = V.int m) = decide (n = m) from decide_eq_decide.mpr ⟨fun e => V.int.inj e, fun e => by rw [e]⟩]
      exact k
theorem scDve : FnScope ["self", "other"] ["self", "other"] (C8.fnScope sDve) := C8.fnScope_by (by decide +kernel)
theorem fn_dve {VC f : Addr} {fd : FuncData} (F : C8.Fun K "__eq__" "Divided.__eq__" sDve f fd) (T : Txt mg) (Z : DvC K VC) (hm : mg "Divided" = some (.ref VC)) (I : C8.InsC K VC) : FnOk P w K mg base (L2.CX P w) 1 f fd ["self", "other"] (spDve K VC) := by
  obtain ⟨oc, od, dV, kV, doc, pm, an, cdv, ct, osl, rfl, lk, hcd⟩ := F.ex
  refine fn_of lk hcd scDve (fun vs H Q E h => ?_) fun A outer s H vs Q E hr h => ?_
  · obtain ⟨a, z, x, y, w, rfl, _⟩ := h
    rfl
  · obtain ⟨a, z, x, y, w0, rfl, ⟨dx, p, ha, hp⟩, k⟩ := h
    have di : ∀ i j : Int, decide (V.int i = V.int j) = decide (i = j) := fun i j => decide_eq_decide.mpr ⟨fun e => V.int.inj e, fun e => by rw [e]⟩
    refine ⟨_, (pss_one (ps_ret (pe_and (pe_callB call_isz (by rfl) T.n_isinstance (by decide +kernel) (pa_cons (pv 1) (pa_cons (pe_glob (v := .ref VC) (by rfl) hm rfl) pa_nil))) (pe_and (pe_cmpR op_eq (pe_fldK K rfl (pv 0) rfl) (pe_fldK K rfl (pv 1) rfl) (nomark _)) (pe_and (pe_cmpR op_eq (pe_fldK K rfl (pv 0) rfl) (pe_fldK K rfl (pv 1) rfl) (nomark _)) (pe_one (pe_cmpR op_eq (pe_fldK K rfl (pv 0) rfl) (pe_fldK K rfl (pv 1) rfl) (nomark _)))))))), ?_⟩
    rcases k with ⟨⟨t, ty, hk⟩, k⟩ | ⟨b, x', y', w', rfl, ⟨dy, q, hb, hq⟩, k⟩
    · refine ⟨_, rfl, _, .ref VC, t, .ref VC, false, rfl, .own VC, ty, hk, _, rfl, iteF k⟩
    · refine ⟨_, rfl, _, .ref VC, .ref VC, .ref VC, true, rfl, .own VC, .x (.base (.ins hb I.cl I.ha I.hn I.htk I.hm)), I.me, _, rfl, iteT ?_⟩
      refine ⟨_, rfl, a, VC, dx, _, _, rfl, ha, Z.cl, Z.n1, dvP_x _ _ _ _, _, rfl, b, VC, dy, _, _, rfl, hb, Z.cl, Z.n1, dvP_x _ _ _ _, rfl, ?_⟩
      rw [di]
      cases h1 : decide (x = x') with
      | false =>
        rw [h1, Bool.false_and] at k
        exact ⟨_, rfl, iteF k⟩
      | true =>
        rw [h1, Bool.true_and] at k
        refine ⟨_, rfl, iteT ⟨_, rfl, a, VC, dx, _, _, rfl, ha, Z.cl, Z.n2, dvP_y _ _ _ _, _, rfl, b, VC, dy, _, _, rfl, hb, Z.cl, Z.n2, dvP_y _ _ _ _, rfl, ?_⟩⟩
        rw [di]
        cases h2 : decide (y = y') with
        | false =>
          rw [h2, Bool.false_and] at k
          exact ⟨_, rfl, iteF k⟩
        | true =>
          rw [h2, Bool.true_and] at k
          refine ⟨_, rfl, iteT ⟨_, rfl, a, VC, dx, _, _, rfl, ha, Z.cl, Z.n3, dvP_w _ _ _ _, _, rfl, b, VC, dy, _, _, rfl, hb, Z.cl, Z.n3, dvP_w _ _ _ _, rfl, ?_⟩⟩
          rw [di]
          exact k
theorem scBye : FnScope ["self", "other"] ["self", "other"] (C8.fnScope sBye) := C8.fnScope_by (by decide +kernel)
theorem fn_bye {BC f : Addr} {fd : FuncData} (F : C8.Fun K "__eq__" "By.__eq__" sBye f fd) (T : Txt mg) (Z : ByC K BC) (hm : mg "By" = some (.ref BC)) (I : C8.InsC K BC) : FnOk P w K mg base (L2.CX P w) 1 f fd ["self", "other"] (spBye K BC) := by
  obtain ⟨oc, od, dV, kV, doc, pm, an, cdv, ct, osl, rfl, lk, hcd⟩ := F.ex
  refine fn_of lk hcd scBye (fun vs H Q E h => ?_) fun A outer s H vs Q E hr h => ?_
  · obtain ⟨a, b, g, g', rfl, _⟩ := h
    rfl
  · obtain ⟨a, b, g, g', rfl, ⟨dx, p, ha, hp⟩, ⟨dy, q, hb, hq⟩, hg, hg', k⟩ := h
    refine ⟨_, (pss_one (ps_ret (pe_and (pe_callB call_isz (by rfl) T.n_isinstance (by decide +kernel) (pa_cons (pv 1) (pa_cons (pe_glob (v := .ref BC) (by rfl) hm rfl) pa_nil))) (pe_one (pe_cmpR (op_eqFn hr.units0) (pe_fldK K rfl (pv 0) rfl) (pe_fldK K rfl (pv 1) rfl) (nomark _)))))), ?_⟩
    refine ⟨_, rfl, _, .ref BC, .ref BC, .ref BC, true, rfl, .own BC, .x (.base (.ins hb I.cl I.ha I.hn I.htk I.hm)), I.me, _, rfl, iteT ?_⟩
    exact ⟨_, rfl, a, BC, dx, _, _, rfl, ha, Z.cl, Z.n1, byP_fn _ _, _, rfl, b, BC, dy, _, _, rfl, hb, Z.cl, Z.n1, byP_fn _ _, g, g', rfl, rfl, hg, hg', k⟩
theorem scDvu : FnScope ["w"] ["w"] (C8.fnScope sDvu) := C8.fnScope_by (by decide +kernel)
theorem fn_dvu {VC DU f fD fU : Addr} {fd fdD fdU : FuncData} (F : C8.Fun K "up" "Divided.up" sDvu f fd) (EU : Err1 "BadRule" "part" P w K mg base DU fU fdU) (DFa : C8.Cal P w K mg base 3 "is_factor" (spFac K) []) (DM : DivM P w K mg base VC DU fD fdD) : FnOk P w K mg base (L2.CX P w) 6 f fd ["w"] (spDvu K VC DU) := by
  obtain ⟨oc, od, dV, kV, doc, pm, an, cdv, ct, osl, rfl, lk, hcd⟩ := F.ex
  refine fn_of lk hcd scDvu (fun vs H Q E h => ?_) fun A outer s H vs Q E hr h => ?_
  · obtain ⟨v, rfl, _⟩ := h
    rfl
  · obtain ⟨v, rfl, av, k1, k2⟩ := h
    have tk : Takes (cxOf (L2.CX P w) P w K mg base ["w"] "Divided.up" (C8.fnScope sDvu) f cdv A outer s H E) (fun cls d _ H' => E cls d H') := takes_of rfl rfl rfl rfl
    refine ⟨_, (pss_cons (ps_if (pt_not (pt_val (C8.pe_c DFa hr (by decide) (by rfl) (pa_cons (pv 0) (pa_cons pe_int pa_nil))))) (pss_one (ps_bad1 (x := "BadRule") rfl tk EU.T EU.iC EU.tI EU.F hr EU.b (by rfl) EU.hm pe_str)) pss_nil)
  (pss_one (ps_ret (pe_make DM.M DM.F (hr.mono (by decide)) (by rfl) DM.hm DM.b .nil (passes_call (takes_of rfl rfl rfl rfl) (fun _ _ _ _ z => z)) (pa_cons pe_int (pa_cons (pe_op op_sub (pv 0) pe_int) (pa_cons (pv 0) pa_nil))))))), ?_⟩
    refine ⟨_, rfl, v, 1, rfl, av, _, rfl, ?_⟩
    cases hv : inB v 1 24 with
    | false => exact iteT (bad_leaf1 (Bf.leaf (k1 hv)))
    | true =>
      obtain ⟨n, rfl, n1, n2⟩ := wt_in hv
      refine iteF ?_
      dsimp only [tNext, tSeq]
      have no : ∀ {i lo hi : Int}, lo ≤ i → i ≤ hi → inB (.int i) lo hi = false → False := fun {i lo hi} h1 h2 e => by
        unfold inB at e
        simp only [Bool.and_eq_false_iff, decide_eq_false_iff_not] at e
        omega
      refine ⟨_, rfl, _, _, rfl, rfl, _, rfl, fun x dx hx hdx ne => DivV.make (Q := Q) ⟨.int _, .int _, .int _, fun z => (no (by decide) (by decide) z).elim, ?_⟩ x dx hx hdx ne⟩
      rintro i e1 _ _
      cases e1
      refine ⟨fun z => (no (by omega) (by omega) z).elim, ?_⟩
      rintro j e2 _ _
      cases e2
      refine ⟨fun z => (no (by omega) (by omega) z).elim, ?_⟩
      rintro l e3 _ _
      cases e3
      exact k2 n rfl n1 n2
end
end Lw
namespace Lw
open PySem PySem.Spec PyProof.Rows L2
open SX PySem.NumText TL LamX ClX StX
section
variable {prog : Program} {w : World} {A : Around} {E : Value → Shared → Prop} {s : Shared} {K : PySem.W.Frag} {x b C D L f f' : Addr} {h₀ : Heap} {m : Str → Option Value} {ox oy : Obj} {od od' : Option Obj}
open PySem.W PySem.Calls PyProof.Rows in
/-- a binary operator of two own instances, neither class derived from the other -/
theorem bin_other {op : Operator} {Q : Value → Shared → Prop} (F : Fr h₀ L s.heap m) (X₀ : K.In h₀) (I : InstAt s.heap x ox C od) (J : InstAt s.heap b oy D od') (ne : C ≠ D) (hc : selfFirst K C = true) (hd : selfFirst K D = true)
    (hs : findIn K (.ref C) (PySem.dunder op.info.2) = some (some (.ref f))) (hf : isFn K (.ref f) = true) (hr : findIn K (.ref C) (dunderR op.info.2) = some none)
    (hs' : findIn K (.ref D) (PySem.dunder op.info.2) = some (some (.ref f'))) (hr' : findIn K (.ref D) (dunderR op.info.2) = some none) (hsub : subIn K (.ref D) (.ref C) = some false)
    (h : wpAny (model prog w) A (call (.ref f) [.ref x, .ref b]) (PySem.W.CmpBack Q) E s) : wpAny (model prog w) A (binaryOp op (.ref x) (.ref b)) Q E s := by
  have X := X₀.keeps F.keep
  obtain ⟨cd, rest, hcd, hm⟩ := ksp_first hc
  obtain ⟨cd', rest', hcd', hm'⟩ := ksp_first hd
  rcases hi : op.info with ⟨sym, nm'⟩
  rw [hi] at hs hr hs' hr'
  dsimp only at hs hr hs' hr'
  have one := ksp_try X I hs hf h
  obtain ⟨hh, g, d, tt, os⟩ := s
  have L1 : Looks (model prog w) hh (typeOf (.ref x)) (.ref C) := I.type
  have L2 : Looks (model prog w) hh (typeOf (.ref b)) (.ref D) := J.type
  have L3 : Looks (model prog w) hh (fillsNumberSlot (.ref C) nm') true := fills_K X hcd hm hs
  have L4 : Looks (model prog w) hh (fillsNumberSlot (.ref D) nm') true := fills_K X hcd' hm' hs'
  have L5 : Looks (model prog w) hh (isSubtype (.ref D) (.ref C)) false := looks_subIn X hsub
  have L6 : Looks (model prog w) hh (numberSlotInPython (.ref C) nm') true := ksp_inPy X hs hr (.inl rfl)
  have L7 : Looks (model prog w) hh (numberSlotInPython (.ref D) nm') true := ksp_inPy X hs' hr' (.inl rfl)
  have hne : (Value.ref C == Value.ref D) = false := Bool.eq_false_iff.mpr fun q => by cases beq_iff_eq.mp q; exact ne rfl
  simp only [binaryOp, hi]
  refine wpAny_holding (wpAny_bind ?_)
  unfold binaryOp1
  refine wpAny_bind (L1.at (wpAny_bind (L2.at (wpAny_bind (L3.at ?_)))))
  simp only [hne, Bool.false_eq_true, if_false]
  ksp_lk
  refine wpAny_mono one (fun r s' hr' => ?_) fun _ _ e => e
  obtain ⟨v, rfl, hq⟩ := hr'
  ksp_lk
  exact hq
end
/-- a method that every class of a kind has -/
structure MetP (P : Program) (w : World) (K : PySem.W.Frag) (mg : Str → Option Value) (base : Heap) (k : Nat) (Pc : Addr → Prop) (m : Str) (sp : Addr → Sp) : Prop where
  all : ∀ C, Pc C → MetX P w K mg base k C m (sp C)
/-- ready to be called by keyword, too -/
structure MetPK (P : Program) (w : World) (K : PySem.W.Frag) (mg : Str → Option Value) (base : Heap) (k : Nat) (Pc : Addr → Prop) (m : Str) (ks : List Str) (sp : Addr → Sp) : Prop where
  all : ∀ C, Pc C → ∃ (g : Addr) (fd : FuncData) (ps : List Str) (gU : List Value → List Value → List Value), Meth K C m g ∧ FnOk P w K mg base (L2.CX P w) k g fd ps (sp C) ∧ KBn K fd ps 1 ks gU (fun a zs => a ++ zs)
/-- instances of these classes may be called -/
structure CalP (P : Program) (w : World) (K : PySem.W.Frag) (mg : Str → Option Value) (base : Heap) (k : Nat) (Pc : Addr → Prop) (ks : List Str) (sp : Addr → Sp) : Prop where
  all : ∀ C, Pc C → ∃ (g : Addr) (fd : FuncData) (ps : List Str) (gU : List Value → List Value → List Value), CallO K C g ∧ FnOk P w K mg base (L2.CX P w) k g fd ps (sp C) ∧ Binds K fd ps [] ∧ KBn K fd ps 1 ks gU (fun a zs => a ++ zs)
theorem MetP.mono {P : Program} {w : World} {K : PySem.W.Frag} {mg : Str → Option Value} {base : Heap} {k : Nat} {Pc Pd : Addr → Prop} {m : Str} {sp : Addr → Sp} (M : MetP P w K mg base k Pc m sp) (h : ∀ C, Pd C → Pc C) : MetP P w K mg base k Pd m sp := ⟨fun C c => M.all C (h C c)⟩
/-- operators of two of a kind -/
structure OpP (K : PySem.W.Frag) (Pc : Addr → Prop) (op : Operator) : Prop where
  first : ∀ C, Pc C → PySem.W.selfFirst K C = true
  back : ∀ C, Pc C → PySem.W.findIn K (.ref C) (dunderR op.info.2) = some none
  sub : ∀ C D, Pc C → Pc D → C ≠ D → PySem.W.subIn K (.ref D) (.ref C) = some false
section
variable {X : Cx} {Pc : Addr → Prop} {k j : Nat} {sp : Addr → Sp} {E : XK} {o : Expr} {m : Str} {pos apos p : Pos} {ta tf : TE} {t tkw : TA} {pl : Sem Bool} {e : Expr} {es : List Expr} {kws : List Keyword} {ks : List Str} {x : Str}
def tMp (Pc : Addr → Prop) (m : Str) (sp : Addr → Sp) (E : XK) (ta : TE) (t : TA) : TE := fun σ H Q => ta σ H fun x H1 => ∃ a C dx fs, x = .ref a ∧ Pc C ∧ H1 a = some (.ins C dx fs) ∧ fs.lookup m = none ∧ t σ H1 fun vs H2 => sp C (x :: vs) H2 Q E
def tMpK (Pc : Addr → Prop) (m : Str) (ks : List Str) (sp : Addr → Sp) (E : XK) (ta : TE) (t : TA) : TE := fun σ H Q => ta σ H fun x H1 => ∃ a C dx fs, x = .ref a ∧ Pc C ∧ H1 a = some (.ins C dx fs) ∧ fs.lookup m = none ∧ t σ H1 fun zs H2 => zs.length = ks.length ∧ sp C (x :: zs) H2 Q E
/-- o.m(e, ..), o of any class of the kind -/
theorem pe_mxP (he : PE X o ta) (c : ∀ C, Pc C → Cls X.K C) (M : MetP X.prog X.w X.K X.mg X.base k Pc m sp) (hr : Room j X.A) (hk : k ≤ j) (hx : Passes (L2.CX X.prog X.w) X E) (ha : PA X (e :: es) t)
    (hst : starEach (e :: es) X.env = (false, eval e X.env) :: starEach es X.env := by rfl) (hpl : (backTo pos (starEach es X.env)).any (·.1) = false := by rfl)
    (ht : eval (.Call (.Attribute o m apos) (e :: es) [] pos) X.env = (do
      let ov ← eval o X.env
      standAt apos.atName
      let (f, first) ← holding [ov] (getMethod ov m pl)
      callWith pos f first (backTo pos (starEach (e :: es) X.env)) (backToKw pos (keywordEach [] X.env))) := by rfl) :
    PE X (.Call (.Attribute o m apos) (e :: es) [] pos) (tMp Pc m sp E ta t) := by
  refine ⟨fun pins s σ H Q I h => ?_⟩
  refine PySem.W.methodCall_KW (pl := pl) (thn (he.run pins s σ H _ I h) fun u s1 ⟨x, H1, I1, rx, a, C, dx, fs, ex, pc, ea, l, q⟩ => ?_) ht
  subst ex
  obtain rfl : u = Value.ref a := rx
  obtain ⟨g, fd, ps, hm, F, b⟩ := (M.all C pc).ex
  refine getmeth_ok I1 ea (c C pc) hm l ?_
  refine PySem.W.callWith_K (first := [.ref a]) (h₀ := X.base) I.ok.mod.kin hm.kp (thn (ha.run pos pins s1 σ H1 _ I1 q) fun us s2 ⟨vs, H2, I2, r, q2⟩ => ⟨I2.kIn, ?_⟩) hst hpl
  exact run_fn (us := .ref a :: us) (vs := .ref a :: vs) F (hr.mono hk) b .nil hx I2 (.cons rfl r) (by rw [List.append_nil]; exact q2)
/-- o.m(k=e, ..) -/
theorem pe_mxPK (he : PE X o ta) (c : ∀ C, Pc C → Cls X.K C) (M : MetPK X.prog X.w X.K X.mg X.base k Pc m ks sp) (hr : Room j X.A) (hk : k ≤ j) (hx : Passes (L2.CX X.prog X.w) X E) (hkw : PK X kws tkw)
    (hall : (backToKw pos (keywordEach kws X.env)).all (·.1.isSome) = true := by rfl) (hks : (backToKw pos (keywordEach kws X.env)).filterMap (·.1) = ks := by rfl)
    (hpl : ((backTo pos (starEach [] X.env)).any (·.1) || (backToKw pos (keywordEach kws X.env)).any (·.1.isNone)) = false := by rfl)
    (ht : eval (.Call (.Attribute o m apos) [] kws pos) X.env = (do
      let ov ← eval o X.env
      standAt apos.atName
      let (f, first) ← holding [ov] (getMethod ov m pl)
      callWith pos f first (backTo pos (starEach [] X.env)) (backToKw pos (keywordEach kws X.env))) := by rfl) :
    PE X (.Call (.Attribute o m apos) [] kws pos) (tMpK Pc m ks sp E ta tkw) := by
  refine ⟨fun pins s σ H Q I h => ?_⟩
  refine PySem.W.methodCall_KW (pl := pl) (thn (he.run pins s σ H _ I h) fun u s1 ⟨x, H1, I1, rx, a, C, dx, fs, ex, pc, ea, l, q⟩ => ?_) ht
  subst ex
  obtain rfl : u = Value.ref a := rx
  obtain ⟨g, fd, ps, gU, hm, F, hb⟩ := M.all C pc
  refine getmeth_ok I1 ea (c C pc) hm l ?_
  refine PySem.W.callWith_KW0 (first := [.ref a]) (h₀ := X.base) I.ok.mod.kin hm.kp hall ?_ hpl
  refine thn (hkw.run pos pins _ σ H1 _ I1 q) fun ws s2 ⟨zs, H2, I3, rz, l2, q2⟩ => ⟨I3.kIn, ?_⟩
  rw [hks]
  exact run_fnN (us := [.ref a]) (vs := [.ref a]) F (hr.mono hk) hb hx I3 (.cons rfl .nil) rz rfl l2 q2
def tCp (Pc : Addr → Prop) (sp : Addr → Sp) (E : XK) (tf : TE) (t : TA) : TE := fun σ H Q => tf σ H fun y H1 => ∃ a, y = V.ref a ∧ t σ H1 fun vs H2 => ∃ C dx fs, Pc C ∧ H2 a = some (.ins C dx fs) ∧ sp C (V.ref a :: vs) H2 Q E
def tCpK (Pc : Addr → Prop) (ks : List Str) (sp : Addr → Sp) (E : XK) (tf : TE) (t : TA) : TE := fun σ H Q => tf σ H fun y H1 => ∃ a, y = V.ref a ∧ t σ H1 fun zs H2 => zs.length = ks.length ∧ ∃ C dx fs, Pc C ∧ H2 a = some (.ins C dx fs) ∧ sp C (V.ref a :: zs) H2 Q E
theorem run_instP {pins : List (Addr × Obj)} {σ : L2.St} {H : Hp} {s : Shared} {Q : VK} {a : Addr} {us : List Value} {vs : List V} (M : CalP X.prog X.w X.K X.mg X.base k Pc ks sp) (hr : Room j X.A) (hk : k ≤ j) (hx : Passes (L2.CX X.prog X.w) X E) (I : Inv X pins σ H s) (r : Vals vs us)
    (h : ∃ C dx fs, Pc C ∧ H a = some (.ins C dx fs) ∧ sp C (V.ref a :: vs) H Q E) : (∃ C ox od, PySem.W.InstAt s.heap a ox C od ∧ ox.data = .plain) ∧ wpAny (model X.prog X.w) X.A (call (.ref a) us) (EP X pins σ Q) X.xe s := by
  obtain ⟨C, dx, fs, pc, ha, h⟩ := h
  obtain ⟨mA, O, _⟩ := ins_get I.hok ha
  obtain ⟨od, J, _⟩ := O.look
  obtain ⟨g, fd, ps, gU, c, F, b, _⟩ := M.all C pc
  refine ⟨⟨C, _, _, J, rfl⟩, wpAny_call (PySem.W.kco_code I.kIn J rfl c.at_ c.fn c.fi ?_)⟩
  have r2 : Vals (V.ref a :: vs) (Value.ref a :: us) := .cons rfl r
  have hl : (Value.ref a :: us).length = ps.length := by rw [← r2.length]; exact F.len _ _ _ _ h
  have hbd := b s (.ref a :: us) I.kIn (by rw [List.append_nil]; exact hl)
  rw [List.append_nil] at hbd
  refine codeAny_mono (F.run X.A X.stack s H ⟨.ref a :: us, []⟩ (.ref a :: us) (V.ref a :: vs) Q E (hr.mono hk) I.env0 hbd r2 h) fun r s' hq => ?_
  cases r with
  | error e => exact hx pins σ H s e s' I hq
  | ok fl =>
    cases fl with
    | ret u => exact I.after hq
    | next => exact False.elim hq
    | brk => exact False.elim hq
    | cont => exact False.elim hq
theorem run_instPK {pins : List (Addr × Obj)} {σ : L2.St} {H : Hp} {s : Shared} {Q : VK} {a : Addr} {ws : List Value} {zs : List V} (M : CalP X.prog X.w X.K X.mg X.base k Pc ks sp) (hr : Room j X.A) (hk : k ≤ j) (hx : Passes (L2.CX X.prog X.w) X E) (I : Inv X pins σ H s) (r : Vals zs ws) (l2 : zs.length = ks.length)
    (h : ∃ C dx fs, Pc C ∧ H a = some (.ins C dx fs) ∧ sp C (V.ref a :: zs) H Q E) : (∃ C ox od, PySem.W.InstAt s.heap a ox C od ∧ ox.data = .plain) ∧ wpAny (model X.prog X.w) X.A (call (.ref a) [] (ks.zip ws)) (EP X pins σ Q) X.xe s := by
  obtain ⟨C, dx, fs, pc, ha, h⟩ := h
  obtain ⟨mA, O, _⟩ := ins_get I.hok ha
  obtain ⟨od, J, _⟩ := O.look
  obtain ⟨g, fd, ps, gU, c, F, _, hb⟩ := M.all C pc
  refine ⟨⟨C, _, _, J, rfl⟩, wpAny_call (PySem.W.kco_code I.kIn J rfl c.at_ c.fn c.fi ?_)⟩
  have r1 : Vals [V.ref a] [Value.ref a] := .cons rfl .nil
  refine codeAny_mono (F.run X.A X.stack s H ⟨[.ref a], ks.zip ws⟩ (gU [.ref a] ws) ([V.ref a] ++ zs) Q E (hr.mono hk) I.env0 (hb.to s [.ref a] ws I.kIn rfl (r.length.symm.trans l2)) (hb.rel r1 r) h) fun r s' hq => ?_
  cases r with
  | error e => exact hx pins σ H s e s' I hq
  | ok fl =>
    cases fl with
    | ret u => exact I.after hq
    | next => exact False.elim hq
    | brk => exact False.elim hq
    | cont => exact False.elim hq
/-- f(e, ..), f an instance of the kind (a name) -/
theorem pe_callP (hf : PE X (.Name x p) tf) (M : CalP X.prog X.w X.K X.mg X.base k Pc ks sp) (hr : Room j X.A) (hk : k ≤ j) (hx : Passes (L2.CX X.prog X.w) X E) (ha : PA X (e :: es) t)
    (he : starEach (e :: es) X.env = (false, eval e X.env) :: starEach es X.env := by rfl) (hpl : (backTo pos (starEach es X.env)).any (·.1) = false := by rfl) : PE X (.Call (.Name x p) (e :: es) [] pos) (tCp Pc sp E tf t) := by
  refine ⟨fun pins s σ H Q I h => ?_⟩
  refine wpAny_Call_Name_kw (thn (hf.run pins s σ H _ I h) fun u s1 ⟨y, H1, I1, ry, a, ey, q⟩ => ?_)
  subst ey
  obtain rfl : u = Value.ref a := ry
  exact callO_with (thn (ha.run pos pins s1 σ H1 _ I1 q) fun us s2 ⟨vs, H2, I2, r, q2⟩ => run_instP M hr hk hx I2 r q2) he hpl
/-- f(e, ..), f an expression -/
theorem pe_callPE {fe : Expr} (hf : PE X fe tf) (M : CalP X.prog X.w X.K X.mg X.base k Pc ks sp) (hr : Room j X.A) (hk : k ≤ j) (hx : Passes (L2.CX X.prog X.w) X E) (ha : PA X (e :: es) t)
    (ht : eval (.Call fe (e :: es) [] pos) X.env = (do callWith pos (← eval fe X.env) [] (backTo pos (starEach (e :: es) X.env)) (backToKw pos (keywordEach [] X.env))) := by rfl)
    (he : starEach (e :: es) X.env = (false, eval e X.env) :: starEach es X.env := by rfl) (hpl : (backTo pos (starEach es X.env)).any (·.1) = false := by rfl) : PE X (.Call fe (e :: es) [] pos) (tCp Pc sp E tf t) := by
  refine ⟨fun pins s σ H Q I h => ?_⟩
  refine Call_ (thn (hf.run pins s σ H _ I h) fun u s1 ⟨y, H1, I1, ry, a, ey, q⟩ => ?_) ht
  subst ey
  obtain rfl : u = Value.ref a := ry
  exact callO_with (thn (ha.run pos pins s1 σ H1 _ I1 q) fun us s2 ⟨vs, H2, I2, r, q2⟩ => run_instP M hr hk hx I2 r q2) he hpl
theorem callO_ofK {M : Model} {A : Around} {E : Value → Shared → Prop} {s : Shared} {a : Addr} {pos : Pos} {Q : Value → Shared → Prop} {args : List (Bool × Sem Value)} {keywords : List (Option Str × Sem Value)} (hplain : (args.any (·.1) || keywords.any (·.1.isNone)) = false)
    (h : wpAny M A (evalArgs (.ref a) true args keywords) (fun z s₁ => (∃ C ox od, PySem.W.InstAt s₁.heap a ox C od ∧ ox.data = .plain) ∧ wpAny M A (call (.ref a) ([] ++ z.pos) z.kw) Q E s₁) E s) : wpAny M A (callWith pos (.ref a) [] args keywords) Q E s := by
  unfold callWith
  refine wpAny_bind (wpAny_holding (wpAny_mono h (fun z s₁ h₁ => wpAny_bind (wpAny_standAt ?_)) fun _ _ y => y))
  obtain ⟨⟨C, ox, od, J, hd⟩, h₁⟩ := h₁
  have L := PySem.W.kco_keeper (M := M) J hd
  simp only [hplain]
  refine wpAny_bind (L.here ?_)
  have tail : ∀ {t : Sem Value}, wpAny M A t Q E s₁ → wpAny M A (t >>= fun r => holding [r] point >>= fun _ => pure r) Q E s₁ :=
    fun ht => wpAny_bind (wpAny_mono ht (fun r s₂ hr => wpAny_bind (wpAny_holding (wpAny_point (wpAny_pure hr)))) fun _ _ y => y)
  exact tail (wpAny_operateT h₁)
/-- f(k=e, ..), f an instance of the kind (a name) -/
theorem pe_callPK (hf : PE X (.Name x p) tf) (M : CalP X.prog X.w X.K X.mg X.base k Pc ks sp) (hr : Room j X.A) (hk : k ≤ j) (hx : Passes (L2.CX X.prog X.w) X E) (hkw : PK X kws tkw)
    (hall : (backToKw pos (keywordEach kws X.env)).all (·.1.isSome) = true := by rfl) (hks : (backToKw pos (keywordEach kws X.env)).filterMap (·.1) = ks := by rfl)
    (hpl : ((backTo pos (starEach [] X.env)).any (·.1) || (backToKw pos (keywordEach kws X.env)).any (·.1.isNone)) = false := by rfl) : PE X (.Call (.Name x p) [] kws pos) (tCpK Pc ks sp E tf tkw) := by
  refine ⟨fun pins s σ H Q I h => ?_⟩
  refine wpAny_Call_Name_kw (thn (hf.run pins s σ H _ I h) fun u s1 ⟨y, H1, I1, ry, a, ey, q⟩ => ?_)
  subst ey
  obtain rfl : u = Value.ref a := ry
  refine callO_ofK hpl (evalArgs_kw2_nil hall (thn (hkw.run pos pins _ σ H1 _ I1 q) fun ws s2 ⟨zs, H2, I3, rz, l2, q2⟩ => ?_))
  rw [hks]
  exact run_instPK M hr hk hx I3 rz l2 q2
def rP (Pc : Addr → Prop) (sp : Addr → Sp) (E : XK) : R2 := fun x y H Q => ∃ a C dx fs b D dy gs, x = .ref a ∧ y = .ref b ∧ Pc C ∧ Pc D ∧ H a = some (.ins C dx fs) ∧ H b = some (.ins D dy gs) ∧ sp C [x, y] H Q E
/-- a & b, both of the kind -/
theorem op_P {op : Operator} (M : MetP X.prog X.w X.K X.mg X.base k Pc (PySem.dunder op.info.2) sp) (O : OpP X.K Pc op) (hx : Passes (L2.CX X.prog X.w) X E) (hr : Room j X.A) (hk : k ≤ j) : OpR X (binaryOp op) (rP Pc sp E) := by
  intro pins s σ H x y v u Q I rx ry h
  obtain ⟨a, C, dx, fs, b, D, dy, gs, rfl, rfl, pc, pd, ha, hb, q⟩ := h
  by_cases ne : C = D
  · subst ne
    exact op_sameX (M.all C pc) hx (O.first C pc) hr hk pins s σ H _ _ v u Q I rx ry ⟨a, dx, fs, b, dy, gs, rfl, rfl, ha, hb, q⟩
  · cases (show v = Value.ref a from rx)
    cases (show u = Value.ref b from ry)
    obtain ⟨_, _, J⟩ := ins_at I ha
    obtain ⟨_, _, J'⟩ := ins_at I hb
    obtain ⟨g, hm, w, _⟩ := run_met (us := [.ref a, .ref b]) (vs := [.ref a, .ref b]) (M.all C pc) hx hr hk I (.cons rfl (.cons rfl .nil)) q
    obtain ⟨g', _, _, hm', _⟩ := (M.all D pd).ex
    obtain ⟨m, hF⟩ := I.fr
    exact bin_other hF I.ok.mod.kin J J' ne (O.first C pc) (O.first D pd) hm.at_ hm.fn (O.back C pc) hm'.at_ (O.back D pd) (O.sub C D pc pd ne) w
end
end Lw
namespace Lw
open PySem PySem.Spec PyProof.Rows L2

/-! ### try: body / except X as n: suite, the caught exception held behind the suite -/
/-- an exception's object: its class, its dict -/
def ExO (a : Addr) (cls : Value) (d : Option Addr) : HO := .ext fun h => ∃ o, h.get? a = some o ∧ Zc cls d o ∧ ∃ vs, o.data = .fields vs
section
variable {X : Cx} {pins : List (Addr × Obj)} {σ : L2.St} {H : Hp} {s : Shared}
/-- a pinned object is tracked from now on -/
theorem promote {a : Addr} {o : Obj} {cls : Value} {d : Option Addr} (I : Inv X ((a, o) :: pins) σ H s) (hz : Zc cls d o) (hf : ∃ vs, o.data = .fields vs) (new : X.s_0.heap.get? a = none) (apart : ∀ p ∈ X.pn ++ pins, p.1 ≠ a) : Inv X pins σ (upd H a (ExO a cls d)) s := by
  obtain ⟨ha, na, nL, nF, nC⟩ := I.pin (a, o) (List.mem_append_right _ List.mem_cons_self)
  have here : ∀ b, b ≠ a → upd H a (ExO a cls d) b = H b := fun b n => upd_ne n
  have known : ∀ b u, H b = some u → b ≠ a := fun b u e z => by rw [z, na] at e; cases e
  have old : ∀ b u, X.s_0.heap.get? b = some u → b ≠ a := fun b u e z => by rw [z, new] at e; cases e
  refine ⟨I.ok, I.os, I.bare, ⟨I.base.keep, I.base.slot, fun b u e n hx => ?_, I.base.there, fun b xs e => ?_, fun b u v e => ?_, fun b ps e => ?_⟩, I.loc, I.cell, ?_, fun y c e => ?_, fun p hp => ?_, fun b u e => ?_, I.len⟩
  · rw [here b (old b u e)]
    exact I.base.free b u e n hx
  · have z := I.base.tups b xs e
    rw [here b (known b _ z)]
    exact z
  · have z := I.base.frzs b u v e
    rw [here b (known b _ z)]
    exact z
  · obtain ⟨more, z⟩ := I.base.tbls b ps e
    exact ⟨more, by rw [here b (known b _ z)]; exact z⟩
  · rw [here _ nL.symm]
    exact I.free
  · have ne : c ≠ a := fun z => by
      obtain ⟨v, oc, hoc, hdc⟩ := I.cell y c e
      rw [z, ha] at hoc
      cases hoc
      exact nC v hdc
    rw [here c ne]
    exact I.freeC y c e
  · have hp2 : p ∈ X.pn ++ ((a, o) :: pins) := by
      rcases List.mem_append.mp hp with h | h
      · exact List.mem_append_left _ h
      · exact List.mem_append_right _ (List.mem_cons_of_mem _ h)
    obtain ⟨e1, e2, e3⟩ := I.pin p hp2
    exact ⟨e1, by rw [here _ (apart p hp)]; exact e2, e3⟩
  · by_cases q : b = a
    · subst q
      rw [upd_same] at e
      cases e
      refine ⟨⟨o, ha, hz, hf⟩, ⟨o, ha⟩, ?_⟩
      rintro h1 h2 ⟨u, e1, e2⟩ st
      exact ⟨u, st u e1, e2⟩
    · rw [here b q] at e
      exact (I.hok b u e).stay (fun _ _ _ z => z) (fun c z => by rw [here c (known c _ z)]; exact z) fun c xs z => by rw [here c (known c _ z)]; exact z
end
end Lw
namespace Lw
open PySem PySem.Spec PyProof.Rows L2

/-- what the body's exceptions must be: of the class that is named; the suite ends plainly, and the exception stays known behind it -/
def wHeld (K : PySem.W.Frag) (c : Value) (i n : Nat) (ts : Addr → Value → Option Addr → TS) (D : Ends) : WX := fun cls d σ H => σ.length = n →
  PySem.W.exmOne K cls c = some true ∧ ∀ a, H a = none → ts a cls d { nx := fun σ' H' => H' a = none → D.nx (σ'.set i none) (upd H' a (ExO a cls d)), rt := fun _ _ => False, bk := fun _ _ => False, ct := fun _ _ => False } (σ.set i (some (.ref a))) H
section
variable {X : Cx} {x n : Str} {c : Value} {i : Nat} {body suite : List Stmt} {b₀ : Stmt} {np pos pos' : Pos} {tb : WX → TS} {ts : Addr → Value → Option Addr → TS}
theorem ps_try_held (stk : X.stack = X.env :: X.outer) (frm : X.env.frame = some X.env.locals) (hN : X.N.Nodup) (hi : X.N[i]? = some n) (loc : X.env.kindOf n = some .local) (nm : Names X x c) (noex : X.ex = [])
    (hb : ∀ (W : WX) (pn : List (Addr × Obj)) (xe : Value → Shared → Prop), Takes (X.tr pn xe) W → PassesOwn (model X.prog X.w) X.A X.env xe → PSs (X.tr pn xe) body (tb W))
    (hsu : ∀ (a : Addr) (oe : Obj) (cls : Value) (d : Option Addr) (pn : List (Addr × Obj)), Zc cls d oe → (∃ vs, oe.data = .fields vs) → PSs (X.suite a ((a, oe) :: pn)) (b₀ :: suite) (ts a cls d)) :
    PS X (.Try body [.ExceptHandler (some (.Name x np)) (some n) (b₀ :: suite) pos'] [] [] pos) (fun D σ H => tb (wHeld X.K c i X.N.length ts D) D σ H) := by
  refine ⟨fun pins s σ H D I h => ?_⟩
  have ok := I.ok
  have frames : X.A.frames = some (X.env :: X.outer) := by rw [ok.frames, stk]
  refine wpAny_Try_except ?_
  refine wpAny_mono ((hb (wHeld X.K c i X.N.length ts D) (X.pn ++ pins) (fun e s₁ => wpAny (model X.prog X.w) X.A (noteFrame e X.env) (fun _ s₂ => wpAny (model X.prog X.w) X.A (setFlight e none) (fun _ s₃ =>
    wpAny (model X.prog X.w) X.A (handleBy e X.env [.ExceptHandler (some (.Name x np)) (some n) (b₀ :: suite) pos']) (SP X pins D) X.xe s₃) X.xe s₂) X.xe s₁) (fun u s' air => ?_) PassesOwn.looking).run [] s σ H D (I.toTry _) h) (fun f s1 q => ?_) (fun e s1 q => q)
  · obtain ⟨a, B, sI, pins', σ', H', cls, d, rfl, JT, nb, up, sky, na, os, ag, hw⟩ := air
    have J : Inv X pins σ' H' sI := JT.ofTry ok
    obtain ⟨ours, go⟩ := hw J.len
    rw [stk] at sky
    show wpAny (model X.prog X.w) X.A (noteFrame (.ref a) X.env) _ _ _
    refine Sky.land Zc.steady frames frm sky fun hA flA upA => ?_
    have JA : Inv X pins σ' H' { s' with heap := hA } := J.landed nb flA.1 (up.trans upA) os ag
    obtain ⟨oA, vsA, eA, zA, dA⟩ := flA.there
    -- the exception's object is no frame, and it is new
    have noFrame : a ∉ frs (X.env :: X.outer) := fun hm => by
      obtain ⟨_, o', e', hnf⟩ := flA.2.2.1.mem hm
      rw [eA] at e'
      cases e'
      exact hnf _ dA
    have nL : a ≠ X.env.locals := fun z => noFrame (List.mem_filterMap.mpr ⟨X.env, List.mem_cons_self, by rw [frm, z]⟩)
    have nF : a ∉ X.fs := fun hm => by
      obtain ⟨e, he, q⟩ := List.mem_filterMap.mp hm
      exact noFrame (List.mem_filterMap.mpr ⟨e, List.mem_cons_of_mem _ he, q⟩)
    have nB : B.get? a = none := flA.2.1
    have ground : ∀ b o, sI.heap.get? b = some o → b ≠ a := fun b o e z => by
      rw [z] at e
      have k := nb a o e (by rw [stk]; exact noFrame)
      rw [nB] at k
      cases k
    have fresh : X.s_0.heap.get? a = none := by
      cases e : X.s_0.heap.get? a with
      | none => rfl
      | some o =>
        obtain ⟨o', e'⟩ := J.base.there a o e (by rw [noex]; simp)
        exact absurd rfl (ground a o' e')
    have apart : ∀ p ∈ X.pn ++ pins, p.1 ≠ a := fun p hp => ground p.1 p.2 (J.pin p hp).1
    refine wpAny_handleBy_cons (codeAny_handlers_test ?_) (by intro q; cases q)
    have LT : PySem.W.Looks (model X.prog X.w) hA (typeOf (.ref a)) cls := fun A Q E s k q => wpAny_typeOf_ref (k _ _ eA) (by rw [zA.1]; exact q)
    have LM := PySem.W.exm_one (M := model X.prog X.w) JA.kIn LT ours
    have SA := JA.suite eA dA na nL nF
    have look : ∀ {Q : Value → Shared → Prop} {E : Value → Shared → Prop}, Q c { s' with heap := hA } → wpAny (model X.prog X.w) (X.A.mark (some (.ref a))) (eval (.Name x np) X.env) Q E { s' with heap := hA } := fun {Q E} q => by
      rcases nm with ⟨g1, g2, g3 | ⟨g3, g4, g5⟩⟩
      · exact ld_glob (X := X.suite a ((a, oA) :: (X.pn ++ pins))) SA g1 g3 q g2
      · exact ld_blt (X := X.suite a ((a, oA) :: (X.pn ++ pins))) SA g1 g3 g4 q g5 g2
    refine look (LM.here ?_)
    refine codeAny_handlers_suite_as ?_
    refine HandSPX.lands_againZ flA fun hB flB upB => ?_
    have JB : Inv X pins σ' H' { s' with heap := hB } := J.landed nb flB.1 ((up.trans upA).trans upB) os ag
    obtain ⟨oB, vsB, eB, zB, dB⟩ := flB.there
    refine store_ok (X := X.suite a ((a, oB) :: (X.pn ++ pins))) (v := .ref a) (JB.suite eB dB na nL nF) hN hi (.inl loc) rfl (fun s5 S5 => ?_) (.inr loc)
    refine wpAny_mono ((hsu a oB cls d (X.pn ++ pins) zB ⟨_, dB⟩).run [] s5 _ H' _ S5 (go a na)) (fun f s6 q => ?_) (fun _ _ z => False.elim z)
    cases f with
    | next =>
      obtain ⟨σ6, H6, S6, q6⟩ := q
      have held : Inv X ((a, oB) :: pins) σ6 H6 s6 := ⟨ok, S6.os, S6.bare, S6.base, S6.loc, S6.cell, S6.free, S6.freeC, fun p hp => by
        refine S6.pin p (List.mem_append_left _ ?_)
        show p ∈ (a, oB) :: (X.pn ++ pins)
        rcases List.mem_append.mp hp with h | h
        · exact List.mem_cons_of_mem _ (List.mem_append_left _ h)
        · rcases List.mem_cons.mp h with h | h
          · rw [h]; exact List.mem_cons_self
          · exact List.mem_cons_of_mem _ (List.mem_append_right _ h), S6.hok, S6.len⟩
      refine gone_ok held hN hi loc fun s7 I7 => ?_
      exact ⟨_, _, promote I7 zB ⟨_, dB⟩ fresh apart, q6 (I7.pin (a, oB) (List.mem_append_right _ List.mem_cons_self)).2.1⟩
    | brk =>
      obtain ⟨_, _, _, z⟩ := q
      exact z.elim
    | cont =>
      obtain ⟨_, _, _, z⟩ := q
      exact z.elim
    | ret u =>
      obtain ⟨_, _, _, _, _, z⟩ := q
      exact z.elim
  · cases f with
    | next =>
      obtain ⟨σ1, H1, I1, q1⟩ := q
      exact wpAny_execs_nil ⟨σ1, H1, I1.ofTry ok, q1⟩
    | brk =>
      obtain ⟨σ1, H1, I1, q1⟩ := q
      exact ⟨σ1, H1, I1.ofTry ok, q1⟩
    | cont =>
      obtain ⟨σ1, H1, I1, q1⟩ := q
      exact ⟨σ1, H1, I1.ofTry ok, q1⟩
    | ret u =>
      obtain ⟨v1, σ1, H1, I1, r1, q1⟩ := q
      exact ⟨v1, σ1, H1, I1.ofTry ok, r1, q1⟩
end
end Lw
namespace Lw
open PySem PySem.Spec PyProof.Rows L2

section
variable {X : Cx} {pins : List (Addr × Obj)} {σ : L2.St} {H : Hp} {s : Shared}
theorem held_at {a : Addr} {cls : Value} {d : Option Addr} (I : Inv X pins σ H s) (h : H a = some (ExO a cls d)) : ∃ o vs, s.heap.get? a = some o ∧ o.cls = cls ∧ o.dict = d ∧ o.data = .fields vs := by
  obtain ⟨⟨o, h1, h2, vs, h3⟩, _⟩ := (show ObjOk X.prog X.w H s.heap a (ExO a cls d) from I.hok a _ h)
  exact ⟨o, vs, h1, h2.1, h2.2, h3⟩
/-- the exception as an instance, its attributes known -/
theorem held_inst {a C dd : Addr} {fs : List (Str × V)} (I : Inv X pins σ H s) (h : H a = some (ExO a (.ref C) (some dd))) (hd : H dd = some (.xd fs)) : ∃ o od, PySem.W.InstAt s.heap a o C (some od) ∧ ∀ f v, fs.lookup f = some v → ∃ u, PySem.W.lookIn f od = some (some u) ∧ RelV v u := by
  obtain ⟨o, vs, h1, h2, h3, h4⟩ := held_at I h
  obtain ⟨mA, hns, hr⟩ := (show ObjOk X.prog X.w H s.heap dd (.xd fs) from I.hok dd _ hd)
  obtain ⟨od, ho, hl⟩ := lookIn_ns hns
  refine ⟨o, od, ⟨h1, h2, by unfold PySem.W.notCls; rw [h4] <;> rfl, by rw [h3]; exact ho⟩, fun f v e => ?_⟩
  obtain ⟨u, hu, ru⟩ := RelO.some_of (v := v) (o := mA f) (by rw [← e]; exact hr f)
  exact ⟨u, by rw [hl, hu], ru⟩
/-- e.f of an exception that is held -/
def tHeld (C : Addr) (f : Str) (te : TE) : TE := fun σ H Q => te σ H fun x H1 => ∃ (a dd : Addr) (fs : List (Str × V)) (v : V), x = .ref a ∧ H1 a = some (ExO a (.ref C) (some dd)) ∧ H1 dd = some (.xd fs) ∧ fs.lookup f = some v ∧ Q v H1
theorem pe_held {C : Addr} {e : Expr} {te : TE} {pos : Pos} {f : Str} (T : XfC X.K C) (hno : PySem.W.findIn X.K (.ref C) f = some none) (he : PE X e te) (hb : attributeBase e f X.env (eval e X.env) = eval e X.env := by rfl) : PE X (.Attribute e f pos) (tHeld C f te) := by
  refine ⟨fun pins s σ H Q I q => attr_of hb (thn (he.run pins s σ H _ I q) fun u s1 got => ?_)⟩
  obtain ⟨x, H1, I1, rx, a, dd, fs, v, rfl, ha, hd, hl, q⟩ := got
  obtain rfl : u = Value.ref a := rx
  obtain ⟨o, od, J, fld⟩ := held_inst I1 ha hd
  obtain ⟨u, hu, ru⟩ := fld f v hl
  exact HandSPX.exc_get I1.kIn J T.ga T.gg T.exC (PySem.W.findObj_own T.hdC hno rfl hu) (handed_of ru) ⟨v, H1, I1.tok _, ru, q⟩
end
end Lw
namespace Lw.Hx
open PySem PySem.Spec PySem.Calls PyProof.Rows PySem.W

/-! ### isinstance of an exception that has attributes -/
/-- what isinstance asks of the exception's class -/
structure XCls (K : Frag) (D : Addr) : Prop where
  ga : findIn K (.ref D) "__getattribute__" = some (some (.builtin "BaseException.__getattribute__"))
  gt : findIn K (.ref D) "__getattr__" = some none
  sub : subIn K (.ref D) (.type "BaseException") = some true
  dct : hasDictIn K D = true
  ca : findIn K (.ref D) "__class__" = some (some (.builtin "object.__class__"))
  cn : specialIn K (.builtin "object.__class__") "__get__" = some (some (.builtin "getset_descriptor.__get__"))
  ct : takesIn K (.builtin "object.__class__") = some true
  cm : mroIn K D (.type "object") = some true
section
variable {prog : Program} {w : World} {A : Around} {E : Value → Shared → Prop} {s : Shared} {K : Frag} {x D : Addr} {ox : Obj} {od : Option Obj}
theorem finds (c : XCls K D) : findObj K D od "__class__" = some (.bind (.builtin "getset_descriptor.__get__") (.builtin "object.__class__")) := by
  obtain ⟨cd, hc, _⟩ := any_some c.dct
  unfold findObj
  rw [hc, Option.bind_some, c.ca, Option.bind_some]
  simp only [c.cn, c.ct, Option.bind_some]
theorem class_of (c : XCls K D) {Q : Option Value → Shared → Prop} (X : K.In s.heap) (I : InstAt s.heap x ox D od) (h : Q (some (.ref D)) { s with toks := s.toks + 1 }) : wpAny (model prog w) A (getAttr? (.ref x) "__class__") Q E s := by
  have found := finds (od := od) c
  obtain ⟨hp, gs, dr, tk, os⟩ := s
  have kind := I.type (M := model prog w)
  have asks := looks_findIn (M := model prog w) X c.ga
  have more := looks_findIn (M := model prog w) X c.gt
  have seen := looks_find (M := model prog w) X I found
  have under : Looks (model prog w) hp (isInstance (.ref x) (.type "BaseException")) true := kind.andThen (looks_subIn X c.sub)
  have n2 : (Value.builtin "BaseException.__getattribute__" == Value.builtin "object.__getattribute__") = false := by decide +kernel
  have n1 : (onTheHeap (Value.ref D) && Value.builtin "BaseException.__getattribute__" == Value.builtin "object.__getattribute__") = false := by rw [n2]; rfl
  unfold getAttr? getAttrBy? getAttrBy
  refine wpAny_bind (wpAny_mkText (wpAny_bind (wpAny_attempt (wpAny_holding (wpAny_bind (kind.at (wpAny_bind (asks.at ?_))))))))
  show wpAny _ _ (ite ((onTheHeap (Value.ref D) && Value.builtin "BaseException.__getattribute__" == Value.builtin "object.__getattribute__") = true) _ _) _ _ _
  rw [n1, if_neg (by decide)]
  unfold getAttrByItsOwn hookBefore
  refine wpAny_bind ?_
  rw [if_pos (show onTheHeap (.ref D) = true from rfl)]
  refine more.at (wpAny_bind (wpAny_attempt (wpAny_holding ?_)))
  unfold callGetattribute
  rw [if_neg (show ¬ (false && onTheHeap (Value.builtin "BaseException.__getattribute__")) = true from by decide)]
  unfold boundAndCalled
  rw [PySem.F.excAttr_ValueError.ga.bind (.ref x)]
  refine wpAny_bind (wpAny_pure ?_)
  show wpAny _ _ (call (.builtin "BaseException.__getattribute__") [.ref x, .str "__class__" tk]) _ _ _
  refine wpAny_call (codeAny_call_builtin PySem.F.excAttr_ValueError.ga.plain PySem.F.entry_bexc_ga ?_)
  refine @check_slot (model prog w) _ _ ⟨hp, gs, dr, tk + 1, os⟩ "BaseException.__getattribute__" "BaseException" "__getattribute__" (.ref x) [.str "__class__" tk] [] _ (by decide +kernel) (by decide +kernel) under (PySem.F.args_bexc_ga (.ref x) (.str "__class__" tk)) ?_
  unfold Builtin.«object.__getattribute__»
  refine wpAny_bind (wpAny_of_eq (a := ((Value.ref x : Value), [Value.str "__class__" tk])) (by first | rfl | (simp only [slotArgs] <;> rfl)) ?_)
  refine wpAny_bind (wpAny_pure (wpAny_bind (kind.at (wpAny_bind (seen.at ?_)))))
  show wpAny _ _ (holding [Value.builtin "object.__class__"] (call (.builtin "getset_descriptor.__get__") [.builtin "object.__class__", .ref x, .ref D]) >>= ret) _ _ _
  refine wpAny_bind (wpAny_holding (wpAny_call (class_get (s := ⟨hp, gs, dr, tk + 1, os⟩) X I c.cm ?_)))
  refine wpAny_pure ?_
  show wpAny _ _ (handedOut (.ref D)) _ _ _
  rw [handedOut_of (v := .ref D) rfl]
  first
    | exact wpAny_pure (wpAny_pure h)
    | exact wpAny_pure h
    | exact wpAny_pure (wpAny_bind (wpAny_pure (wpAny_pure h)))
theorem no_list (c : XCls K D) : ∃ o cd, K.lookup D = some o ∧ o.data = .cls cd := by
  obtain ⟨cd, hc, _⟩ := any_some c.dct
  unfold clsIn at hc
  split at hc
  · rename_i c' d' cd' sl' ho
    exact ⟨_, _, ho, rfl⟩
  · cases hc
theorem kitx_held (c : XCls K D) : KitX K (.ref x) (.ref D) (fun h => InstAt h x ox D od) where
  ty := fun _ _ _ I => I.type
  it := fun _ _ X _ => by
    obtain ⟨o, cd, ho, hd⟩ := no_list c
    intro A' Q' E' s' k q
    unfold isType loadHead
    refine wpAny_bind (wpAny_loadPart (k _ _ (X _ _ ho)) ?_)
    rw [hd]
    exact wpAny_pure q
  ne := fun h tp dd its n sl X htp => by
    refine Bool.eq_false_iff.mpr fun q => ?_
    have e : D = tp := Value.ref.inj (beq_iff_eq.mp q)
    obtain ⟨o, cd, ho, hd⟩ := no_list c
    have z := X _ _ ho
    rw [e, htp] at z
    cases z
    cases hd
  ca := fun X I k => class_of c X I k
end
end Lw.Hx
namespace Lw
open PySem PySem.Spec PyProof.Rows L2

/-- a value's kind: an exception's that is held, too -/
inductive TyW (K : PySem.W.Frag) (H : Hp) : V → Value → Prop where
  | z {v : V} {t : Value} (h : TyZ K H v t) : TyW K H v t
  | held {a D dd : Addr} {fs : List (Str × V)} (e : H a = some (ExO a (.ref D) (some dd))) (hd : H dd = some (.xd fs)) (c : Hx.XCls K D) : TyW K H (.ref a) (.ref D)
def rIsw (K : PySem.W.Frag) : List V → Hp → VK → Prop := fun xs H Q => ∃ (x c : V) (t u : Value) (b : Bool), xs = [x, c] ∧ ClsV c u ∧ TyW K H x t ∧ PySem.W.kitOne K t u = some b ∧ Q (.bl b) H
theorem call_isw {X : Cx} : CallR X (.builtin "isinstance") (rIsw X.K) := by
  intro pins s σ H xs us Q I r h
  obtain ⟨x, c, t, u, b, rfl, k, ty, e, q⟩ := h
  cases ty with
  | z ty => exact call_isz pins s σ H _ us Q I r ⟨x, c, t, u, b, rfl, k, ty, e, q⟩
  | @held a D dd fs ea hd cl =>
    obtain ⟨w1, w2, rfl, r1, r2⟩ := vals2 r
    obtain rfl := k.eq r2
    obtain rfl : w1 = Value.ref a := r1
    obtain ⟨o, od, J, _⟩ := held_inst I ea hd
    exact PySem.W.kia_one (Hx.kitx_held cl) I.kIn J e (fun z => by cases z) fun tk => ⟨.bl b, H, I.tok tk, rfl, q⟩
end Lw
namespace Lw
open PySem PySem.Spec PyProof.Rows L2
open LamX
/-! ### repr of any value of the drawn ones -/
theorem SqL.sames {K : PySem.W.Frag} {a : Addr} {H H' : Hp} {ys : List V} (s : Same H H') (h : SqL K H a ys) : SqL K H' a ys := by
  rcases h with (h | ⟨o, h⟩) | h
  · exact .inl (.inl (s _ _ h))
  · exact .inl (.inr ⟨o, s _ _ h⟩)
  · exact .inr h
theorem SqT.sames {K : PySem.W.Frag} {a : Addr} {H H' : Hp} {ys : List V} (s : Same H H') (h : SqT K H a ys) : SqT K H' a ys := by
  rcases h with (h | ⟨o, h⟩) | h
  · exact .inl (.inl (s _ _ h))
  · exact .inl (.inr ⟨o, s _ _ h⟩)
  · exact .inr h
mutual
theorem Dp.sames {K : PySem.W.Frag} {H H' : Hp} (s : Same H H') : ∀ {v : V} {d : PyData}, Dp K H v d → Dp K H' v d
  | _, _, .non => .non
  | _, _, .bl b => .bl b
  | _, _, .int i => .int i
  | _, _, .str x => .str x
  | _, _, .lst h hs => .lst (SqL.sames s h) (DpAll.sames s hs)
  | _, _, .tup h hs => .tup (SqT.sames s h) (DpAll.sames s hs)
theorem DpAll.sames {K : PySem.W.Frag} {H H' : Hp} (s : Same H H') : ∀ {vs : List V} {ds : List PyData}, DpAll K H vs ds → DpAll K H' vs ds
  | _, _, .nil => .nil
  | _, _, .cons h hs => .cons (Dp.sames s h) (DpAll.sames s hs)
end
inductive Rp (K : PySem.W.Frag) (H : Hp) : V → Str → Prop where
  | non : Rp K H .non "None"
  | bl (b : Bool) : Rp K H (.bl b) (if b then "True" else "False")
  | str (z : Str) (h : (reprText z).length ≤ sizeLine) : Rp K H (.str z) (reprText z)
  | int (i : Int) (h : i.natAbs.log2 < 1920) : Rp K H (.int i) (toString i)
  | data {a : Addr} {d : PyData} (h : Dp K H (.ref a) d) (h1 : d.showable = true) (h2 : d.hasDict = false) (h3 : d.depth ≤ 100) (h4 : d.shown.length ≤ sizeLine) : Rp K H (.ref a) d.shown
  | dnil {a : Addr} (h : H a = some (.dK [])) : Rp K H (.ref a) (PyData.dict []).shown
theorem Rp.same {K : PySem.W.Frag} {H H' : Hp} {v : V} {r : Str} (s : Same H H') (h : Rp K H v r) : Rp K H' v r := by
  cases h with
  | non => exact .non
  | bl b => exact .bl b
  | str z h => exact .str z h
  | int i h => exact .int i h
  | data h h1 h2 h3 h4 => exact .data (Lw.Dp.sames s h) h1 h2 h3 h4
  | dnil h => exact .dnil (s _ _ h)
def rRpx (K : PySem.W.Frag) : List V → Hp → VK → Prop := fun xs H Q => ∃ (v : V) (r : Str), xs = [v] ∧ Rp K H v r ∧ Q (.str r) H
section
variable {X : Cx}
theorem call_reprX (hG : X.A.guards = some []) (hr : Room 0 X.A) : CallR X (.builtin "repr") (rRpx X.K) := by
  intro pins s σ H xs us Q I r h
  obtain ⟨v, z, rfl, hv, q⟩ := h
  obtain ⟨u, rfl, ru⟩ := vals1 r
  have hun := hr.un
  cases hv with
  | non =>
    cases (show u = Value.none from ru)
    exact PySem.P.repr_of_none ⟨.str "None", H, I.tok _, ⟨_, rfl⟩, q⟩
  | int i h =>
    obtain ⟨t, rfl⟩ := (show ∃ t, u = Value.int i t from ru)
    exact PySem.P.repr_of_int h ⟨.str (toString i), H, I.tok _, ⟨_, rfl⟩, q⟩
  | bl b =>
    cases (show u = Value.bool b from ru)
    refine PySem.P.repr_of_bool ⟨.str (if b then "True" else "False"), H, I.tok _, ⟨_, rfl⟩, ?_⟩
    cases b <;> exact q
  | str z h =>
    obtain ⟨t, rfl⟩ := (show ∃ t, u = Value.str z t from ru)
    exact PySem.P.repr_of_str ⟨.str (reprText z), H, I.tok _, ⟨_, rfl⟩, q⟩ h
  | @data a d h h1 h2 h3 h4 =>
    cases (show u = Value.ref a from ru)
    obtain ⟨as, rd⟩ := Dp.reads I d _ _ h rfl
    exact repr_of_reads' rd h1 (fun z => by rw [h2] at z; cases z) hG (by omega) (fun _ _ e => e) (fun h' u' tk kp => ⟨.str d.shown, H, I.kept kp, ⟨u', rfl⟩, q⟩) h4
  | @dnil a h =>
    cases (show u = Value.ref a from ru)
    obtain ⟨_, hm, vs, kv, o, es, ep, ho, hx, hd, _, pr, _⟩ := dk_of I.hok h
    have e0 : vs = [] := by cases kv; rfl
    subst e0
    have e1 : es.toList = [] := by
      generalize es.toList = l at pr
      cases pr
      rfl
    have rd : Reads s.heap (.ref a) (.dict []) [a] := Reads.dict (as := []) (bs := []) ho hx.1 hd (by rw [e1]; exact .nil) (by rw [e1]; exact .nil)
    refine repr_of_reads' rd rfl (fun _ z => ?_) hG (by show _ + ((PyData.dict []).depth + 1) < cLine; have : (PyData.dict []).depth ≤ 1 := by decide
                                                        omega) (fun _ _ e => e) (fun h' u' tk kp => ⟨.str _, H, I.kept kp, ⟨u', rfl⟩, q⟩) (by decide)
    rw [List.mem_singleton] at z
    rw [← z] at hm
    simp at hm
end
end Lw
namespace Lw
open PySem PySem.Spec PyProof.Rows L2
open SX PySem.NumText TL LamX ClX StX
set_option pp.maxSteps 900
abbrev sCr : Stmt := top 38
abbrev sCh : Stmt := top 41
abbrev sMo : Stmt := top 40
abbrev sJo : Stmt := top 39
abbrev sFxw : Stmt := inClass (top 33) 2
abbrev sDvw : Stmt := inClass (top 34) 3
abbrev sLow : Stmt := inClass (top 35) 2
abbrev sHiw : Stmt := inClass (top 36) 2
abbrev sFxc : Stmt := inClass (top 33) 1
abbrev sDvc : Stmt := inClass (top 34) 2
abbrev sLoc : Stmt := inClass (top 35) 1
abbrev sHic : Stmt := inClass (top 36) 1
abbrev sLoi : Stmt := inClass (top 35) 0
abbrev sHii : Stmt := inClass (top 36) 0
/-- a rule, as a tree -/
inductive Rl where
  | fx (n : Int) | dv (x y w : Int) | lo (a b : Rl) | hi (a b : Rl)
namespace Rl
def cnt : Rl → Nat
  | .fx _ => 1 | .dv _ _ _ => 1 | .lo a b => a.cnt + b.cnt | .hi a b => a.cnt + b.cnt
def mdl : Rl → Nat
  | .fx _ => 1 | .dv _ _ w => w.toNat | .lo a b => Nat.lcm a.mdl b.mdl | .hi a b => Nat.lcm a.mdl b.mdl
def wish : Rl → Int → Int
  | .fx n, _ => n | .dv x y w, r => (x * r + y) / w
  | .lo a b, r => if a.wish r < b.wish r then a.wish r else b.wish r
  | .hi a b, r => if b.wish r < a.wish r then a.wish r else b.wish r
def lvs : Rl → List Rl
  | .fx n => [.fx n] | .dv x y w => [.dv x y w] | .lo a b => a.lvs ++ b.lvs | .hi a b => a.lvs ++ b.lvs
def Ok : Rl → Prop
  | .fx n => 1 ≤ n ∧ n ≤ 10 ^ 30 | .dv x y w => 0 ≤ x ∧ x ≤ 24 ∧ -1000 ≤ y ∧ y ≤ 1000 ∧ 1 ≤ w ∧ w ≤ 24
  | .lo a b => a.Ok ∧ b.Ok ∧ a.cnt + b.cnt ≤ 6 ∧ Nat.lcm a.mdl b.mdl ≤ 5000
  | .hi a b => a.Ok ∧ b.Ok ∧ a.cnt + b.cnt ≤ 6 ∧ Nat.lcm a.mdl b.mdl ≤ 5000
def cls (FC VC LC GC : Addr) : Rl → Addr
  | .fx _ => FC | .dv _ _ _ => VC | .lo _ _ => LC | .hi _ _ => GC
theorem cnt_pos : ∀ t : Rl, 1 ≤ t.cnt
  | .fx _ => Nat.le_refl _ | .dv _ _ _ => Nat.le_refl _
  | .lo a b => Nat.le_trans (cnt_pos a) (Nat.le_add_right _ _) | .hi a b => Nat.le_trans (cnt_pos a) (Nat.le_add_right _ _)
theorem lvs_len : ∀ t : Rl, t.lvs.length = t.cnt
  | .fx _ => rfl | .dv _ _ _ => rfl
  | .lo a b => by show (a.lvs ++ b.lvs).length = _; rw [List.length_append, lvs_len a, lvs_len b]; rfl
  | .hi a b => by show (a.lvs ++ b.lvs).length = _; rw [List.length_append, lvs_len a, lvs_len b]; rfl
theorem Ok.cnt6 : ∀ {t : Rl}, t.Ok → t.cnt ≤ 6
  | .fx _, _ => by show 1 ≤ 6; decide
  | .dv _ _ _, _ => by show 1 ≤ 6; decide
  | .lo _ _, h => h.2.2.1
  | .hi _ _, h => h.2.2.1
theorem Ok.mdl1 : ∀ {t : Rl}, t.Ok → 1 ≤ t.mdl ∧ t.mdl ≤ 5000
  | .fx _, _ => by show 1 ≤ 1 ∧ 1 ≤ 5000; decide
  | .dv _ _ w, h => by
    obtain ⟨_, _, _, _, h1, h2⟩ := h
    show 1 ≤ w.toNat ∧ w.toNat ≤ 5000
    omega
  | .lo _ _, h => ⟨Nat.lcm_pos (Ok.mdl1 h.1).1 (Ok.mdl1 h.2.1).1, h.2.2.2⟩
  | .hi _ _, h => ⟨Nat.lcm_pos (Ok.mdl1 h.1).1 (Ok.mdl1 h.2.1).1, h.2.2.2⟩
/-- a bound of what it wishes -/
theorem Ok.bd : ∀ {t : Rl} {r : Int}, t.Ok → 1 ≤ r → r ≤ 10 ^ 31 → -1000 ≤ t.wish r ∧ t.wish r ≤ 10 ^ 33
  | .fx n, r, h, _, _ => by
    obtain ⟨h1, h2⟩ := h
    show -1000 ≤ n ∧ n ≤ 10 ^ 33
    omega
  | .dv x y w, r, h, r1, r2 => by
    obtain ⟨x0, x1, y0, y1, w0, w1⟩ := h
    show -1000 ≤ (x * r + y) / w ∧ (x * r + y) / w ≤ 10 ^ 33
    have p0 : 0 ≤ x * r := Int.mul_nonneg x0 (by omega)
    have p1 : x * r ≤ 24 * r := Int.mul_le_mul_of_nonneg_right x1 (by omega)
    constructor
    · exact (Int.le_ediv_iff_mul_le (by omega)).mpr (Int.le_trans (Int.mul_le_mul_of_nonpos_left (by decide : (-1000 : Int) ≤ 0) w0 : -1000 * w ≤ -1000 * 1) (by omega))
    · refine Int.ediv_le_of_le_mul (by omega) (Int.le_trans ?_ (Int.mul_le_mul_of_nonneg_left w0 (by decide) : (10 : Int) ^ 33 * 1 ≤ 10 ^ 33 * w))
      omega
  | .lo a b, r, h, r1, r2 => by
    obtain ⟨a0, a1⟩ := Ok.bd h.1 r1 r2
    obtain ⟨b0, b1⟩ := Ok.bd h.2.1 r1 r2
    show -1000 ≤ (if a.wish r < b.wish r then a.wish r else b.wish r) ∧ (if a.wish r < b.wish r then a.wish r else b.wish r) ≤ 10 ^ 33
    split <;> exact ⟨by assumption, by assumption⟩
  | .hi a b, r, h, r1, r2 => by
    obtain ⟨a0, a1⟩ := Ok.bd h.1 r1 r2
    obtain ⟨b0, b1⟩ := Ok.bd h.2.1 r1 r2
    show -1000 ≤ (if b.wish r < a.wish r then a.wish r else b.wish r) ∧ (if b.wish r < a.wish r then a.wish r else b.wish r) ≤ 10 ^ 33
    split <;> exact ⟨by assumption, by assumption⟩
end Rl
def jnP (u v : V) (m : Int) (p : Addr) : List (Str × V) := putF "modulus" (.int m) (putF "parts" (.ref p) (putF "other" v (putF "one" u [])))
theorem jnP_one (u v : V) (m : Int) (p : Addr) : (jnP u v m p).lookup ("one" : Str) = some u := by
  unfold jnP
  rw [lookup_putF, if_neg (by decide +kernel), lookup_putF, if_neg (by decide +kernel), lookup_putF, if_neg (by decide +kernel), lookup_putF, if_pos rfl]
theorem jnP_other (u v : V) (m : Int) (p : Addr) : (jnP u v m p).lookup ("other" : Str) = some v := by
  unfold jnP
  rw [lookup_putF, if_neg (by decide +kernel), lookup_putF, if_neg (by decide +kernel), lookup_putF, if_pos rfl]
theorem jnP_parts (u v : V) (m : Int) (p : Addr) : (jnP u v m p).lookup ("parts" : Str) = some (.ref p) := by
  unfold jnP
  rw [lookup_putF, if_neg (by decide +kernel), lookup_putF, if_pos rfl]
theorem jnP_mod (u v : V) (m : Int) (p : Addr) : (jnP u v m p).lookup ("modulus" : Str) = some (.int m) := by
  unfold jnP
  rw [lookup_putF, if_pos rfl]
theorem jnP_no {n : Str} (u v : V) (m : Int) (p : Addr) (h1 : n ≠ "one") (h2 : n ≠ "other") (h3 : n ≠ "parts") (h4 : n ≠ "modulus") : (jnP u v m p).lookup n = none := by
  unfold jnP
  rw [lookup_putF, if_neg h4, lookup_putF, if_neg h3, lookup_putF, if_neg h2, lookup_putF, if_neg h1]; rfl
theorem fxP_no {m : Str} (n : Int) (p : Addr) (h1 : m ≠ "size") (h2 : m ≠ "parts") (h3 : m ≠ "modulus") : (fxP n p).lookup m = none := by
  unfold fxP
  rw [lookup_putF, if_neg h3, lookup_putF, if_neg h2, lookup_putF, if_neg h1]; rfl
theorem dvP_no {m : Str} (x y w : Int) (p : Addr) (h1 : m ≠ "x") (h2 : m ≠ "y") (h3 : m ≠ "w") (h4 : m ≠ "parts") (h5 : m ≠ "modulus") : (dvP x y w p).lookup m = none := by
  unfold dvP
  rw [lookup_putF, if_neg h5, lookup_putF, if_neg h4, lookup_putF, if_neg h3, lookup_putF, if_neg h2, lookup_putF, if_neg h1]; rfl
section
variable (FC VC LC GC : Addr)
def LfAt (H : Hp) (a : Addr) : Rl → Prop
  | .fx n => FxAt FC H a n | .dv x y w => DvAt VC H a x y w | _ => False
def PsAt (H : Hp) : List V → List Rl → Prop
  | [], [] => True
  | v :: vs, l :: ls => (∃ a, v = .ref a ∧ LfAt FC VC H a l) ∧ PsAt H vs ls
  | _, _ => False
/-- a rule in the heap -/
def RlAt (H : Hp) : Rl → Addr → Prop
  | .fx n, a => FxAt FC H a n
  | .dv x y w, a => DvAt VC H a x y w
  | .lo s t, a => ∃ dx p b c ps, H a = some (.ins LC dx (jnP (.ref b) (.ref c) (Nat.lcm s.mdl t.mdl) p)) ∧ H p = some (.tup ps) ∧ PsAt FC VC H ps (s.lvs ++ t.lvs) ∧ RlAt H s b ∧ RlAt H t c
  | .hi s t, a => ∃ dx p b c ps, H a = some (.ins GC dx (jnP (.ref b) (.ref c) (Nat.lcm s.mdl t.mdl) p)) ∧ H p = some (.tup ps) ∧ PsAt FC VC H ps (s.lvs ++ t.lvs) ∧ RlAt H s b ∧ RlAt H t c
def Rk (C : Addr) : Prop := C = FC ∨ C = VC ∨ C = LC ∨ C = GC
end
section
variable {FC VC LC GC : Addr} {H H' : Hp}
theorem LfAt.on {a : Addr} : ∀ {l : Rl}, LfAt FC VC H a l → Same H H' → LfAt FC VC H' a l
  | .fx _, h, s => FxAt.on h s
  | .dv _ _ _, h, s => DvAt.on h s
  | .lo _ _, h, _ => h
  | .hi _ _, h, _ => h
theorem PsAt.on (s : Same H H') : ∀ {vs : List V} {ls : List Rl}, PsAt FC VC H vs ls → PsAt FC VC H' vs ls
  | [], [], _ => trivial
  | _ :: _, _ :: _, ⟨⟨a, e, h⟩, r⟩ => ⟨⟨a, e, h.on s⟩, PsAt.on s r⟩
  | [], _ :: _, h => h
  | _ :: _, [], h => h
theorem PsAt.len : ∀ {vs : List V} {ls : List Rl}, PsAt FC VC H vs ls → vs.length = ls.length
  | [], [], _ => rfl
  | _ :: _, _ :: _, ⟨_, r⟩ => congrArg (· + 1) (PsAt.len r)
  | [], _ :: _, h => h.elim
  | _ :: _, [], h => h.elim
theorem PsAt.app : ∀ {vs us : List V} {ls ms : List Rl}, PsAt FC VC H vs ls → PsAt FC VC H us ms → PsAt FC VC H (vs ++ us) (ls ++ ms)
  | [], _, [], _, _, h => h
  | _ :: _, _, _ :: _, _, ⟨e, r⟩, h => ⟨e, PsAt.app r h⟩
  | [], _, _ :: _, _, h, _ => h.elim
  | _ :: _, _, [], _, h, _ => h.elim
theorem RlAt.on (s : Same H H') : ∀ {t : Rl} {a : Addr}, RlAt FC VC LC GC H t a → RlAt FC VC LC GC H' t a
  | .fx _, _, h => FxAt.on h s
  | .dv _ _ _, _, h => DvAt.on h s
  | .lo _ _, _, ⟨dx, p, b, c, ps, h1, h2, h3, h4, h5⟩ => ⟨dx, p, b, c, ps, s _ _ h1, s _ _ h2, h3.on s, RlAt.on s h4, RlAt.on s h5⟩
  | .hi _ _, _, ⟨dx, p, b, c, ps, h1, h2, h3, h4, h5⟩ => ⟨dx, p, b, c, ps, s _ _ h1, s _ _ h2, h3.on s, RlAt.on s h4, RlAt.on s h5⟩
theorem Rk.of (t : Rl) : Rk FC VC LC GC (t.cls FC VC LC GC) := by
  cases t
  · exact .inl rfl
  · exact .inr (.inl rfl)
  · exact .inr (.inr (.inl rfl))
  · exact .inr (.inr (.inr rfl))
/-- names that no rule keeps anything by -/
def NoF (m : Str) : Prop := m ≠ "one" ∧ m ≠ "other" ∧ m ≠ "parts" ∧ m ≠ "modulus" ∧ m ≠ "size" ∧ m ≠ "x" ∧ m ≠ "y" ∧ m ≠ "w"
/-- what every rule has -/
theorem RlAt.has : ∀ {t : Rl} {a : Addr}, t.Ok → RlAt FC VC LC GC H t a → ∃ dx fs p ps, H a = some (.ins (t.cls FC VC LC GC) dx fs) ∧ fs.lookup ("parts" : Str) = some (.ref p) ∧ H p = some (.tup ps) ∧ PsAt FC VC H ps t.lvs ∧ fs.lookup ("modulus" : Str) = some (.int t.mdl) ∧ ∀ m, NoF m → fs.lookup m = none
  | .fx n, a, _, h => by
    obtain ⟨dx, p, h1, h2⟩ := id h
    exact ⟨dx, _, p, _, h1, fxP_parts _ _, h2, ⟨⟨a, rfl, h⟩, trivial⟩, fxP_mod _ _, fun m ⟨_, _, n3, n4, n5, _⟩ => fxP_no _ _ n5 n3 n4⟩
  | .dv x y w, a, k, h => by
    obtain ⟨dx, p, h1, h2⟩ := id h
    refine ⟨dx, _, p, _, h1, dvP_parts _ _ _ _, h2, ⟨⟨a, rfl, h⟩, trivial⟩, ?_, fun m ⟨_, _, n3, n4, _, n6, n7, n8⟩ => dvP_no _ _ _ _ n6 n7 n8 n3 n4⟩
    rw [dvP_mod, show (((Rl.dv x y w).mdl : Nat) : Int) = w from Int.toNat_of_nonneg (by obtain ⟨_, _, _, _, h1, _⟩ := k; omega)]
  | .lo s t, a, _, h => by
    obtain ⟨dx, p, b, c, ps, h1, h2, h3, _⟩ := h
    exact ⟨dx, _, p, ps, h1, jnP_parts _ _ _ _, h2, h3, jnP_mod _ _ _ _, fun m ⟨n1, n2, n3, n4, _⟩ => jnP_no _ _ _ _ n1 n2 n3 n4⟩
  | .hi s t, a, _, h => by
    obtain ⟨dx, p, b, c, ps, h1, h2, h3, _⟩ := h
    exact ⟨dx, _, p, ps, h1, jnP_parts _ _ _ _, h2, h3, jnP_mod _ _ _ _, fun m ⟨n1, n2, n3, n4, _⟩ => jnP_no _ _ _ _ n1 n2 n3 n4⟩
end
/-- lcm(a, b) -/
def rLcm : List V → Hp → VK → Prop := fun vs H Q => ∃ a b : Int, vs = [.int a, .int b] ∧ a.natAbs < 2 ^ 64 ∧ b.natAbs < 2 ^ 64 ∧ Q (.int ((a.natAbs.lcm b.natAbs : Nat) : Int)) H
theorem cr_lcm {X : Cx} : CallR X (.builtin "math.lcm") rLcm := by
  intro pins s σ H vs us Q I r h
  obtain ⟨a, b, rfl, ha, hb, q⟩ := h
  obtain ⟨t, u, rfl⟩ := Vals.int2 r
  exact PySem.W.mc_lcm ha hb fun _ => ⟨.int _, H, I.tok _, ⟨_, rfl⟩, q⟩
/-- a def of the module that may raise -/
structure CalX (P : Program) (w : World) (K : PySem.W.Frag) (mg : Str → Option Value) (base : Heap) (k : Nat) (x : Str) (sp : Sp) : Prop where
  ex : ∃ (f : Addr) (fd : FuncData) (ps : List Str), FnOk P w K mg base (L2.CX P w) k f fd ps sp ∧ mg x = some (.ref f) ∧ PySem.W.keepIn K (.ref f) = true ∧ Binds K fd ps []
section
variable {X : Cx} {x : Str} {k j : Nat} {sp : Sp} {E : XK} {p pos : Pos} {e : Expr} {es : List Expr} {t : TA}
theorem pe_cX (c : CalX X.prog X.w X.K X.mg X.base k x sp) (hr : Room j X.A) (hk : k ≤ j) (hg : Gl X x) (hx : Passes (L2.CX X.prog X.w) X E) (ha : PA X (e :: es) t)
    (hdb : (x == ("__debug__" : Str)) = false := by decide) (he : starEach (e :: es) X.env = (false, eval e X.env) :: starEach es X.env := by rfl) (hpl : (backTo pos (starEach es X.env)).any (·.1) = false := by rfl) :
    PE X (.Call (.Name x p) (e :: es) [] pos) (tCall sp [] E t) := by
  obtain ⟨f, fd, ps, F, hm, kp, b⟩ := c.ex
  exact pe_call F (hr.mono hk) hg hm kp b .nil hx ha hdb he hpl
end
end Lw
namespace Lw
open PySem PySem.Spec PyProof.Rows L2
open SX PySem.NumText TL LamX ClX StX
set_option pp.maxSteps 900
structure JnC (K : PySem.W.Frag) (C : Addr) : Prop where
  cl : Cls K C
  n1 : NoAttr K C "one"
  n2 : NoAttr K C "other"
  n3 : NoAttr K C "parts"
  n4 : NoAttr K C "modulus"
/-- the four classes of rules -/
structure RlZ (K : PySem.W.Frag) (mg : Str → Option Value) (FC VC LC GC : Addr) : Prop where
  F : FxC K FC
  V : DvC K VC
  L : JnC K LC
  G : JnC K GC
  hF : mg "Fixed" = some (.ref FC)
  hV : mg "Divided" = some (.ref VC)
  hL : mg "Lesser" = some (.ref LC)
  hG : mg "Greater" = some (.ref GC)
  d1 : FC ≠ VC
  d2 : FC ≠ LC
  d3 : FC ≠ GC
  d4 : VC ≠ LC
  d5 : VC ≠ GC
  d6 : LC ≠ GC
  ins : ∀ C, Rk FC VC LC GC C → C8.InsC K C
  kit : ∀ C D, Rk FC VC LC GC C → Rk FC VC LC GC D → PySem.W.kitOne K (.ref C) (.ref D) = some (decide (C = D))
theorem RlZ.cls {K : PySem.W.Frag} {mg : Str → Option Value} {FC VC LC GC : Addr} (Z : RlZ K mg FC VC LC GC) : ∀ C, Rk FC VC LC GC C → Cls K C := fun C h => (Z.ins C h).cl
theorem RlZ.parts {K : PySem.W.Frag} {mg : Str → Option Value} {FC VC LC GC : Addr} (Z : RlZ K mg FC VC LC GC) : ∀ t : Rl, NoAttr K (t.cls FC VC LC GC) "parts" ∧ NoAttr K (t.cls FC VC LC GC) "modulus"
  | .fx _ => ⟨Z.F.n2, Z.F.n3⟩ | .dv _ _ _ => ⟨Z.V.n4, Z.V.n5⟩ | .lo _ _ => ⟨Z.L.n3, Z.L.n4⟩ | .hi _ _ => ⟨Z.G.n3, Z.G.n4⟩
/-- one of the four: isinstance says so -/
theorem RlZ.any {K : PySem.W.Frag} {mg : Str → Option Value} {FC VC LC GC : Addr} (Z : RlZ K mg FC VC LC GC) : ∀ t : Rl, PySem.W.kitAny K (.ref (t.cls FC VC LC GC)) [.ref FC, .ref VC, .ref LC, .ref GC] = some true := fun t => by
  have k : ∀ u v : Rl, PySem.W.kitOne K (.ref (u.cls FC VC LC GC)) (.ref (v.cls FC VC LC GC)) = some (decide (u.cls FC VC LC GC = v.cls FC VC LC GC)) := fun u v => Z.kit _ _ (Rk.of u) (Rk.of v)
  have kF := k t (.fx 0)
  have kV := k t (.dv 0 0 0)
  have kL := k t (.lo (.fx 0) (.fx 0))
  have kG := k t (.hi (.fx 0) (.fx 0))
  cases t with
  | fx n => exact L2.kitAny_cons kF (fun e => absurd e (by simp [Rl.cls])) (fun _ => rfl)
  | dv x y w => exact L2.kitAny_cons kF (fun _ => L2.kitAny_cons kV (fun e => absurd e (by simp [Rl.cls])) (fun _ => rfl)) (fun _ => rfl)
  | lo a b => exact L2.kitAny_cons kF (fun _ => L2.kitAny_cons kV (fun _ => L2.kitAny_cons kL (fun e => absurd e (by simp [Rl.cls])) (fun _ => rfl)) (fun _ => rfl)) (fun _ => rfl)
  | hi a b => exact L2.kitAny_cons kF (fun _ => L2.kitAny_cons kV (fun _ => L2.kitAny_cons kL (fun _ => L2.kitAny_cons kG (fun e => absurd e (by simp [Rl.cls])) (fun _ => rfl)) (fun _ => rfl)) (fun _ => rfl)) (fun _ => rfl)
theorem iteT' {c : Bool} {p q : Prop} (h : c = true) (hp : p) : if c = true then p else q := by
  rw [if_pos h]; exact hp
theorem iteF' {c : Bool} {p q : Prop} (h : c = false) (hq : q) : if c = true then p else q := by
  rw [if_neg (by rw [h]; decide)]; exact hq
theorem isI_of {v : V} (e : isI v = true) : ∃ i, v = .int i := by cases v <;> first | exact ⟨_, rfl⟩ | (cases e)
def goodR : V → Bool
  | .int i => decide (1 ≤ i)
  | _ => false
def chk (r w : Int) : Int := if w < 1 then 1 else if r < w then r else w
def spCr (K : PySem.W.Frag) (DR : Addr) : Sp := fun vs H Q E => ∃ v, vs = [v] ∧ Anyv K H v ∧ (goodR v = false → Bf DR "value" v H E) ∧ (goodR v = true → Q .non H)
def spCh : Sp := fun vs H Q _ => ∃ r w : Int, vs = [.int r, .int w] ∧ Q (.int (chk r w)) H
/-- what a rule's wish asks and gives -/
def spWi (K : PySem.W.Frag) (FC VC LC GC DR : Addr) (n : Nat) (C : Addr) : Sp := fun vs H Q E => ∃ a t v, vs = [.ref a, v] ∧ t.cls FC VC LC GC = C ∧ RlAt FC VC LC GC H t a ∧ t.Ok ∧ t.cnt ≤ n ∧ Anyv K H v ∧ (goodR v = false → Bf DR "value" v H E) ∧ (∀ r, v = .int r → 1 ≤ r → r ≤ 10 ^ 31 ∧ Q (.int (t.wish r)) H)
/-- what a rule's call asks and gives -/
def spCa (K : PySem.W.Frag) (FC VC LC GC DR : Addr) (C : Addr) : Sp := fun vs H Q E => ∃ a t v, vs = [.ref a, v] ∧ t.cls FC VC LC GC = C ∧ RlAt FC VC LC GC H t a ∧ t.Ok ∧ Anyv K H v ∧ (goodR v = false → Bf DR "value" v H E) ∧ (∀ r, v = .int r → 1 ≤ r → r ≤ 10 ^ 31 ∧ Q (.int (chk r (t.wish r))) H)
def Mf2 (DM : Addr) (what : String) (most : Int) (H : Hp) (E : XK) : Prop := ∀ d fs, H d = none → fs.lookup ("what" : Str) = some (.str (Str.ofString what)) → fs.lookup ("most" : Str) = some (.int most) → E (.ref DM) (some d) (upd H d (.xd fs))
def spMo (DM : Addr) : Sp := fun vs H Q E => ∃ m : Int, vs = [.int m] ∧ (5000 < m → Mf2 DM "residues" 5000 H E) ∧ (m ≤ 5000 → Q .non H)
section
variable {P : Program} {w : World} {K : PySem.W.Frag} {mg : Str → Option Value} {base : Heap} {FC VC LC GC DR DM DU : Addr}
theorem scCr : FnScope ["rest"] ["rest"] (C8.fnScope sCr) := C8.fnScope_by (by decide +kernel)
theorem fn_cr {f fE : Addr} {fd fdE : FuncData} (F : C8.Def K mg "check_rest" sCr f fd) (ER : Err1 "BadRest" "value" P w K mg base DR fE fdE) (DI : C8.Cal P w K mg base 1 "is_integer" (spIsInt K) []) : FnOk P w K mg base (L2.CX P w) 3 f fd ["rest"] (spCr K DR) := by
  obtain ⟨oc, od, dV, kV, doc, pm, an, cdv, ct, osl, rfl, lk, hcd⟩ := F.fn.ex
  refine fn_of lk hcd scCr (fun vs H Q E h => ?_) fun A outer s H vs Q E hr h => ?_
  · obtain ⟨v, rfl, _⟩ := h
    rfl
  · obtain ⟨v, rfl, av, k1, k2⟩ := h
    have tk : Takes (cxOf (L2.CX P w) P w K mg base ["rest"] "check_rest" (C8.fnScope sCr) f cdv A outer s H E) (fun cls d _ H' => E cls d H') := takes_of rfl rfl rfl rfl
    refine ⟨_, (pss_one (ps_if (PW.pt (pw_or (pt_not (pt_val (C8.pe_c DI hr (by decide) (by rfl) (pa_cons (pv 0) pa_nil)))) (pw_or1 (pt_cmpR op_lt (pv 0) pe_int (nomark _))))) (pss_one (ps_bad1 (x := "BadRest") rfl tk ER.T ER.iC ER.tI ER.F hr ER.b (by rfl) ER.hm (pv 0))) pss_nil)), ?_⟩
    refine ⟨_, rfl, v, rfl, av, _, rfl, ?_⟩
    cases hx : isI v with
    | false => exact iteT ⟨_, rfl, bad_leaf1 (Bf.leaf (k1 (by cases v <;> first | rfl | (cases hx))))⟩
    | true =>
      obtain ⟨i, rfl⟩ := isI_of hx
      refine iteF ⟨_, rfl, _, _, rfl, rfl, _, rfl, ?_⟩
      by_cases ci : i < 1
      · exact iteT' (decide_eq_true ci) ⟨_, rfl, bad_leaf1 (Bf.leaf (k1 (decide_eq_false (by omega))))⟩
      · exact iteF' (decide_eq_false ci) (k2 (decide_eq_true (by omega)))
theorem scCh : FnScope ["rest", "wish"] ["rest", "wish"] (C8.fnScope sCh) := C8.fnScope_by (by decide +kernel)
theorem cal_ch {f : Addr} {fd : FuncData} (F : C8.Def K mg "chunk_for" sCh f fd) (b : Binds K fd ["rest", "wish"] []) : C8.Cal P w K mg base 1 "chunk_for" spCh [] := by
  refine C8.cal0 F b .nil scCh (fun vs H Q E h => ?_) (fun cdv A outer st H vs Q E hr h => ?_)
  · obtain ⟨r, w, rfl, _⟩ := h
    rfl
  · obtain ⟨r, w, rfl, k⟩ := h
    refine ⟨_, (pss_cons (ps_if (pt_cmpR op_lt (pv 1) pe_int (nomark _)) (pss_one (ps_ret pe_int)) pss_nil)
  (pss_one (ps_ret (pe_ifExp (pt_cmpR op_gt (pv 1) (pv 0) (nomark _)) (pv 0) (pv 1))))), ?_⟩
    refine ⟨_, rfl, _, _, rfl, rfl, _, rfl, ?_⟩
    by_cases c1 : w < 1
    · rw [show chk r w = 1 from if_pos c1] at k
      exact iteT' (decide_eq_true c1) k
    refine iteF' (decide_eq_false c1) ?_
    dsimp only [tNext]
    by_cases c2 : r < w
    · rw [show chk r w = r by unfold chk; rw [if_neg c1, if_pos c2]] at k
      exact ⟨_, rfl, _, rfl, _, _, rfl, rfl, _, rfl, iteT' (decide_eq_true c2) ⟨_, rfl, k⟩⟩
    · rw [show chk r w = w by unfold chk; rw [if_neg c1, if_neg c2]] at k
      exact ⟨_, rfl, _, rfl, _, _, rfl, rfl, _, rfl, iteF' (decide_eq_false c2) ⟨_, rfl, k⟩⟩
theorem scMo : FnScope ["modulus"] ["modulus"] (C8.fnScope sMo) := C8.fnScope_by (by decide +kernel)
theorem fn_mo {f fE : Addr} {fd fdE : FuncData} (F : C8.Def K mg "check_modulus" sMo f fd) (EM : Err2 "TooMany" "what" "most" P w K mg base DM fE fdE) (hMR : ∃ t, mg "MOST_RESIDUES" = some (.int 5000 t)) : FnOk P w K mg base (L2.CX P w) 3 f fd ["modulus"] (spMo DM) := by
  obtain ⟨tf, hMR⟩ := hMR
  obtain ⟨oc, od, dV, kV, doc, pm, an, cdv, ct, osl, rfl, lk, hcd⟩ := F.fn.ex
  refine fn_of lk hcd scMo (fun vs H Q E h => ?_) fun A outer s H vs Q E hr h => ?_
  · obtain ⟨v, rfl, _⟩ := h
    rfl
  · obtain ⟨v, rfl, k1, k2⟩ := h
    have tk : Takes (cxOf (L2.CX P w) P w K mg base ["modulus"] "check_modulus" (C8.fnScope sMo) f cdv A outer s H E) (fun cls d _ H' => E cls d H') := takes_of rfl rfl rfl rfl
    refine ⟨_, (pss_one (ps_if (pt_cmpR op_gt (pv 0) (pe_glob (v := .int 5000) rfl hMR ⟨_, rfl⟩) (nomark _)) (pss_one (ps_bad2 (x := "TooMany") rfl tk EM.T EM.iC EM.tI EM.F hr EM.b (by rfl) EM.hm pe_str (pe_glob (v := .int 5000) rfl hMR ⟨_, rfl⟩))) pss_nil)), ?_⟩
    refine ⟨_, rfl, _, _, rfl, rfl, _, rfl, ?_⟩
    by_cases c1 : 5000 < v
    · exact iteT' (decide_eq_true c1) (bad_leaf2 fun d fs hd e1 e2 => k1 c1 d fs hd e1 e2)
    · exact iteF' (decide_eq_false c1) (k2 (by omega))
theorem scFxw : FnScope ["self", "rest"] ["self", "rest"] (C8.fnScope sFxw) := C8.fnScope_by (by decide +kernel)
theorem fn_fxw {f : Addr} {fd : FuncData} (F : C8.Fun K "wish" "Fixed.wish" sFxw f fd) (Z : RlZ K mg FC VC LC GC) (DCr : CalX P w K mg base 3 "check_rest" (spCr K DR)) (n : Nat) : FnOk P w K mg base (L2.CX P w) 4 f fd ["self", "rest"] (spWi K FC VC LC GC DR n FC) := by
  obtain ⟨oc, od, dV, kV, doc, pm, an, cdv, ct, osl, rfl, lk, hcd⟩ := F.ex
  refine fn_of lk hcd scFxw (fun vs H Q E h => ?_) fun A outer s H vs Q E hr h => ?_
  · obtain ⟨a, t, v, rfl, _⟩ := h
    rfl
  · obtain ⟨a, t, v, rfl, hc, ht, ok, hn, av, k1, k2⟩ := h
    refine ⟨_, (pss_cons (ps_expr (pe_cX DCr hr (by decide) (by rfl) (passes_call (takes_of rfl rfl rfl rfl) (fun _ _ _ _ z => z)) (pa_cons (pv 1) pa_nil)))
  (pss_one (ps_ret (pe_fldK K rfl (pv 0) rfl)))), ?_⟩
    obtain ⟨m, rfl⟩ : ∃ m, t = .fx m := by
      cases t with
      | fx m => exact ⟨m, rfl⟩
      | dv x y w => exact absurd hc.symm Z.d1
      | lo x y => exact absurd hc.symm Z.d2
      | hi x y => exact absurd hc.symm Z.d3
    obtain ⟨dx, p, h1, h2⟩ := id ht
    refine ⟨_, rfl, v, rfl, av, k1, fun g => ?_⟩
    obtain ⟨r, rfl, r1⟩ : ∃ r, v = .int r ∧ 1 ≤ r := by
      cases v <;> first | exact ⟨_, rfl, of_decide_eq_true g⟩ | (cases g)
    exact ⟨_, rfl, a, FC, dx, _, _, rfl, h1, Z.F.cl, Z.F.n1, fxP_size _ _, (k2 r rfl r1).2⟩
theorem nof_wish : NoF "wish" := by unfold NoF; decide +kernel
theorem goodR_of {v : V} (g : goodR v = true) : ∃ r, v = .int r ∧ 1 ≤ r := by
  cases v <;> first | exact ⟨_, rfl, of_decide_eq_true g⟩ | (cases g)
theorem scDvw : FnScope ["self", "rest"] ["self", "rest"] (C8.fnScope sDvw) := C8.fnScope_by (by decide +kernel)
theorem fn_dvw {f : Addr} {fd : FuncData} (F : C8.Fun K "wish" "Divided.wish" sDvw f fd) (Z : RlZ K mg FC VC LC GC) (DCr : CalX P w K mg base 3 "check_rest" (spCr K DR)) (n : Nat) : FnOk P w K mg base (L2.CX P w) 4 f fd ["self", "rest"] (spWi K FC VC LC GC DR n VC) := by
  obtain ⟨oc, od, dV, kV, doc, pm, an, cdv, ct, osl, rfl, lk, hcd⟩ := F.ex
  refine fn_of lk hcd scDvw (fun vs H Q E h => ?_) fun A outer s H vs Q E hr h => ?_
  · obtain ⟨a, t, v, rfl, _⟩ := h
    rfl
  · obtain ⟨a, t, v, rfl, hc, ht, ok, hn, av, k1, k2⟩ := h
    refine ⟨_, (pss_cons (ps_expr (pe_cX DCr hr (by decide) (by rfl) (passes_call (takes_of rfl rfl rfl rfl) (fun _ _ _ _ z => z)) (pa_cons (pv 1) pa_nil)))
  (pss_one (ps_ret (pe_op op_fdivW (pe_op op_add (pe_op op_mulW (pe_fldK K rfl (pv 0) rfl) (pv 1)) (pe_fldK K rfl (pv 0) rfl)) (pe_fldK K rfl (pv 0) rfl))))), ?_⟩
    obtain ⟨x, y, q, rfl⟩ : ∃ x y q, t = .dv x y q := by
      cases t with
      | fx m => exact absurd hc Z.d1
      | dv x y w => exact ⟨x, y, w, rfl⟩
      | lo x y => exact absurd hc.symm Z.d4
      | hi x y => exact absurd hc.symm Z.d5
    obtain ⟨dx, p, h1, h2⟩ := id ht
    obtain ⟨x0, x1, y0, y1, q0, q1⟩ := id ok
    refine ⟨_, rfl, v, rfl, av, k1, fun g => ?_⟩
    obtain ⟨r, rfl, r1⟩ := goodR_of g
    obtain ⟨r2, k3⟩ := k2 r rfl r1
    exact ⟨_, rfl, a, VC, dx, _, _, rfl, h1, Z.V.cl, Z.V.n1, dvP_x _ _ _ _, _, rfl, x, r, rfl, rfl, L2.wide_mul (a := 5) (b := 103) (by omega) (by omega) (by decide) (by decide) (by decide),
      _, rfl, a, VC, dx, _, _, rfl, h1, Z.V.cl, Z.V.n2, dvP_y _ _ _ _, _, _, rfl, rfl, _, rfl, a, VC, dx, _, _, rfl, h1, Z.V.cl, Z.V.n3, dvP_w _ _ _ _, _, _, rfl, rfl, L2.wide_div (b := 5) (by omega) (by omega) (by decide) (by decide), k3⟩
theorem scLow : FnScope ["self", "rest", "one", "other"] ["self", "rest"] (C8.fnScope sLow) := C8.fnScope_by (by decide +kernel)
theorem fn_low {f : Addr} {fd : FuncData} (F : C8.Fun K "wish" "Lesser.wish" sLow f fd) (Z : RlZ K mg FC VC LC GC) {n : Nat} (W : MetP P w K mg base (3 + n) (Rk FC VC LC GC) "wish" (spWi K FC VC LC GC DR n)) : FnOk P w K mg base (L2.CX P w) (4 + n) f fd ["self", "rest"] (spWi K FC VC LC GC DR (n + 1) LC) := by
  obtain ⟨oc, od, dV, kV, doc, pm, an, cdv, ct, osl, rfl, lk, hcd⟩ := F.ex
  rw [show 4 + n = (3 + n) + 1 by omega]
  refine fn_of lk hcd scLow (fun vs H Q E h => ?_) fun A outer s H vs Q E hr h => ?_
  · obtain ⟨a, t, v, rfl, _⟩ := h
    rfl
  · obtain ⟨a, t, v, rfl, hc, ht, ok, hn, av, k1, k2⟩ := h
    refine ⟨_, (pss_cons (ps_set (i := 2) scLow.nd rfl (Or.inl rfl) (pe_mxP (pe_fldK K rfl (pv 0) rfl) Z.cls W hr (Nat.le_refl _) (passes_call (takes_of rfl rfl rfl rfl) (fun _ _ _ _ z => z)) (pa_cons (pv 1) pa_nil)))
  (pss_cons (ps_set (i := 3) scLow.nd rfl (Or.inl rfl) (pe_mxP (pe_fldK K rfl (pv 0) rfl) Z.cls W hr (Nat.le_refl _) (passes_call (takes_of rfl rfl rfl rfl) (fun _ _ _ _ z => z)) (pa_cons (pv 1) pa_nil)))
  (pss_one (ps_ret (pe_ifExp (pt_cmpR op_lt (pv 2) (pv 3) (nomark _)) (pv 2) (pv 3)))))), ?_⟩
    obtain ⟨s1, s2, rfl⟩ : ∃ s1 s2, t = .lo s1 s2 := by
      cases t with
      | fx m => exact absurd hc Z.d2
      | dv x y w => exact absurd hc Z.d4
      | lo x y => exact ⟨x, y, rfl⟩
      | hi x y => exact absurd hc.symm Z.d6
    obtain ⟨dx, p, b, c, ps, h1, h2, h3, h4, h5⟩ := id ht
    obtain ⟨o1, o2, _, _⟩ := id ok
    have n1 : s1.cnt + s2.cnt ≤ n + 1 := hn
    have p1 := Rl.cnt_pos s1
    have p2 := Rl.cnt_pos s2
    obtain ⟨db, fb, _, _, hb, _, _, _, _, nb⟩ := h4.has o1
    obtain ⟨dc, fc, _, _, hc, _, _, _, _, nc⟩ := h5.has o2
    dsimp only [tSeq]
    refine ⟨_, rfl, a, LC, dx, _, _, rfl, h1, Z.L.cl, Z.L.n1, jnP_one _ _ _ _, b, _, db, fb, rfl, Rk.of s1, hb, nb _ nof_wish, _, rfl, b, s1, v, rfl, rfl, h4, o1, by omega, av, k1, fun r er r1 => ?_⟩
    subst er
    obtain ⟨r2, k3⟩ := k2 r rfl r1
    refine ⟨r2, ?_⟩
    dsimp only [gName]
    refine ⟨_, rfl, a, LC, dx, _, _, rfl, h1, Z.L.cl, Z.L.n2, jnP_other _ _ _ _, c, _, dc, fc, rfl, Rk.of s2, hc, nc _ nof_wish, _, rfl, c, s2, _, rfl, rfl, h5, o2, by omega, .int _, k1, fun r' er' r1' => ?_⟩
    cases er'
    refine ⟨r2, ?_⟩
    dsimp only [gName]
    by_cases c1 : s1.wish r < s2.wish r
    · rw [show (Rl.lo s1 s2).wish r = s1.wish r from if_pos c1] at k3
      exact ⟨_, rfl, _, rfl, _, _, rfl, rfl, _, rfl, iteT' (decide_eq_true c1) ⟨_, rfl, k3⟩⟩
    · rw [show (Rl.lo s1 s2).wish r = s2.wish r from if_neg c1] at k3
      exact ⟨_, rfl, _, rfl, _, _, rfl, rfl, _, rfl, iteF' (decide_eq_false c1) ⟨_, rfl, k3⟩⟩
theorem scHiw : FnScope ["self", "rest", "one", "other"] ["self", "rest"] (C8.fnScope sHiw) := C8.fnScope_by (by decide +kernel)
theorem fn_hiw {f : Addr} {fd : FuncData} (F : C8.Fun K "wish" "Greater.wish" sHiw f fd) (Z : RlZ K mg FC VC LC GC) {n : Nat} (W : MetP P w K mg base (3 + n) (Rk FC VC LC GC) "wish" (spWi K FC VC LC GC DR n)) : FnOk P w K mg base (L2.CX P w) (4 + n) f fd ["self", "rest"] (spWi K FC VC LC GC DR (n + 1) GC) := by
  obtain ⟨oc, od, dV, kV, doc, pm, an, cdv, ct, osl, rfl, lk, hcd⟩ := F.ex
  rw [show 4 + n = (3 + n) + 1 by omega]
  refine fn_of lk hcd scHiw (fun vs H Q E h => ?_) fun A outer s H vs Q E hr h => ?_
  · obtain ⟨a, t, v, rfl, _⟩ := h
    rfl
  · obtain ⟨a, t, v, rfl, hc, ht, ok, hn, av, k1, k2⟩ := h
    refine ⟨_, (pss_cons (ps_set (i := 2) scHiw.nd rfl (Or.inl rfl) (pe_mxP (pe_fldK K rfl (pv 0) rfl) Z.cls W hr (Nat.le_refl _) (passes_call (takes_of rfl rfl rfl rfl) (fun _ _ _ _ z => z)) (pa_cons (pv 1) pa_nil)))
  (pss_cons (ps_set (i := 3) scHiw.nd rfl (Or.inl rfl) (pe_mxP (pe_fldK K rfl (pv 0) rfl) Z.cls W hr (Nat.le_refl _) (passes_call (takes_of rfl rfl rfl rfl) (fun _ _ _ _ z => z)) (pa_cons (pv 1) pa_nil)))
  (pss_one (ps_ret (pe_ifExp (pt_cmpR op_gt (pv 2) (pv 3) (nomark _)) (pv 2) (pv 3)))))), ?_⟩
    obtain ⟨s1, s2, rfl⟩ : ∃ s1 s2, t = .hi s1 s2 := by
      cases t with
      | fx m => exact absurd hc Z.d3
      | dv x y w => exact absurd hc Z.d5
      | lo x y => exact absurd hc Z.d6
      | hi x y => exact ⟨x, y, rfl⟩
    obtain ⟨dx, p, b, c, ps, h1, h2, h3, h4, h5⟩ := id ht
    obtain ⟨o1, o2, _, _⟩ := id ok
    have n1 : s1.cnt + s2.cnt ≤ n + 1 := hn
    have p1 := Rl.cnt_pos s1
    have p2 := Rl.cnt_pos s2
    obtain ⟨db, fb, _, _, hb, _, _, _, _, nb⟩ := h4.has o1
    obtain ⟨dc, fc, _, _, hc, _, _, _, _, nc⟩ := h5.has o2
    dsimp only [tSeq]
    refine ⟨_, rfl, a, GC, dx, _, _, rfl, h1, Z.G.cl, Z.G.n1, jnP_one _ _ _ _, b, _, db, fb, rfl, Rk.of s1, hb, nb _ nof_wish, _, rfl, b, s1, v, rfl, rfl, h4, o1, by omega, av, k1, fun r er r1 => ?_⟩
    subst er
    obtain ⟨r2, k3⟩ := k2 r rfl r1
    refine ⟨r2, ?_⟩
    dsimp only [gName]
    refine ⟨_, rfl, a, GC, dx, _, _, rfl, h1, Z.G.cl, Z.G.n2, jnP_other _ _ _ _, c, _, dc, fc, rfl, Rk.of s2, hc, nc _ nof_wish, _, rfl, c, s2, _, rfl, rfl, h5, o2, by omega, .int _, k1, fun r' er' r1' => ?_⟩
    cases er'
    refine ⟨r2, ?_⟩
    dsimp only [gName]
    by_cases c1 : s2.wish r < s1.wish r
    · rw [show (Rl.hi s1 s2).wish r = s1.wish r from if_pos c1] at k3
      exact ⟨_, rfl, _, rfl, _, _, rfl, rfl, _, rfl, iteT' (decide_eq_true c1) ⟨_, rfl, k3⟩⟩
    · rw [show (Rl.hi s1 s2).wish r = s2.wish r from if_neg c1] at k3
      exact ⟨_, rfl, _, rfl, _, _, rfl, rfl, _, rfl, iteF' (decide_eq_false c1) ⟨_, rfl, k3⟩⟩
end
end Lw
namespace Lw
open PySem PySem.Spec PyProof.Rows L2
open SX PySem.NumText TL LamX ClX StX
set_option pp.maxSteps 900
section
variable {P : Program} {w : World} {K : PySem.W.Frag} {mg : Str → Option Value} {base : Heap} {FC VC LC GC DR DM DU : Addr}
theorem spWi_none {C : Addr} {vs : List V} {H : Hp} {Q : VK} {E : XK} (h : spWi K FC VC LC GC DR 0 C vs H Q E) : False := by
  obtain ⟨_, t, _, _, _, _, _, hn, _⟩ := h
  have := Rl.cnt_pos t
  omega
/-- every rule's wish, by the number of its parts -/
theorem wishP (Z : RlZ K mg FC VC LC GC) (DCr : CalX P w K mg base 3 "check_rest" (spCr K DR)) {f1 f2 f3 f4 : Addr} {d1 d2 d3 d4 : FuncData}
    (F1 : C8.Fun K "wish" "Fixed.wish" sFxw f1 d1) (m1 : Meth K FC "wish" f1) (b1 : Binds K d1 ["self", "rest"] []) (F2 : C8.Fun K "wish" "Divided.wish" sDvw f2 d2) (m2 : Meth K VC "wish" f2) (b2 : Binds K d2 ["self", "rest"] [])
    (F3 : C8.Fun K "wish" "Lesser.wish" sLow f3 d3) (m3 : Meth K LC "wish" f3) (b3 : Binds K d3 ["self", "rest"] []) (F4 : C8.Fun K "wish" "Greater.wish" sHiw f4 d4) (m4 : Meth K GC "wish" f4) (b4 : Binds K d4 ["self", "rest"] []) :
    ∀ n, MetP P w K mg base (3 + n) (Rk FC VC LC GC) "wish" (spWi K FC VC LC GC DR n)
  | 0 => ⟨fun C hC => by
    have no : ∀ {f : Addr} {fd : FuncData}, FnOk P w K mg base (L2.CX P w) 3 f fd ["self", "rest"] (spWi K FC VC LC GC DR 0 C) := fun {f fd} => ⟨fun _ _ _ _ h => (spWi_none h).elim, fun _ _ _ _ _ _ _ _ _ _ _ _ _ h => (spWi_none h).elim⟩
    rcases hC with rfl | rfl | rfl | rfl
    · exact ⟨_, _, _, m1, no, b1⟩
    · exact ⟨_, _, _, m2, no, b2⟩
    · exact ⟨_, _, _, m3, no, b3⟩
    · exact ⟨_, _, _, m4, no, b4⟩⟩
  | n + 1 => ⟨fun C hC => by
    have W := wishP Z DCr F1 m1 b1 F2 m2 b2 F3 m3 b3 F4 m4 b4 n
    rw [show 3 + (n + 1) = 4 + n by omega]
    rcases hC with rfl | rfl | rfl | rfl
    · exact ⟨_, _, _, m1, (fn_fxw F1 Z DCr (n + 1)).mono (by omega), b1⟩
    · exact ⟨_, _, _, m2, (fn_dvw F2 Z DCr (n + 1)).mono (by omega), b2⟩
    · exact ⟨_, _, _, m3, fn_low F3 Z W, b3⟩
    · exact ⟨_, _, _, m4, fn_hiw F4 Z W, b4⟩⟩
theorem scFxc : FnScope ["self", "rest"] ["self", "rest"] (C8.fnScope sFxc) := C8.fnScope_by (by decide +kernel)
theorem fn_fxc {f : Addr} {fd : FuncData} (F : C8.Fun K "__call__" "Fixed.__call__" sFxc f fd) (Z : RlZ K mg FC VC LC GC) (W : MetP P w K mg base 9 (Rk FC VC LC GC) "wish" (spWi K FC VC LC GC DR 6)) (DCh : C8.Cal P w K mg base 1 "chunk_for" spCh []) : FnOk P w K mg base (L2.CX P w) 10 f fd ["self", "rest"] (spCa K FC VC LC GC DR FC) := by
  obtain ⟨oc, od, dV, kV, doc, pm, an, cdv, ct, osl, rfl, lk, hcd⟩ := F.ex
  refine fn_of lk hcd scFxc (fun vs H Q E h => ?_) fun A outer s H vs Q E hr h => ?_
  · obtain ⟨a, t, v, rfl, _⟩ := h
    rfl
  · obtain ⟨a, t, v, rfl, hc, ht, ok, av, k1, k2⟩ := h
    refine ⟨_, (pss_one (ps_ret (C8.pe_c DCh hr (by decide) (by rfl) (pa_cons (pv 1) (pa_cons (pe_mxP (pv 0) Z.cls W hr (Nat.le_refl _) (passes_call (takes_of rfl rfl rfl rfl) (fun _ _ _ _ z => z)) (pa_cons (pv 1) pa_nil)) pa_nil))))), ?_⟩
    obtain ⟨da, fa, _, _, ha, _, _, _, _, na⟩ := ht.has ok
    refine ⟨_, rfl, _, rfl, a, _, da, fa, rfl, Rk.of t, ha, na _ nof_wish, _, rfl, a, t, v, rfl, rfl, ht, ok, ok.cnt6, av, k1, fun r er r1 => ?_⟩
    subst er
    obtain ⟨r2, k3⟩ := k2 r rfl r1
    exact ⟨r2, r, _, rfl, k3⟩
theorem scDvc : FnScope ["self", "rest"] ["self", "rest"] (C8.fnScope sDvc) := C8.fnScope_by (by decide +kernel)
theorem fn_dvc {f : Addr} {fd : FuncData} (F : C8.Fun K "__call__" "Divided.__call__" sDvc f fd) (Z : RlZ K mg FC VC LC GC) (W : MetP P w K mg base 9 (Rk FC VC LC GC) "wish" (spWi K FC VC LC GC DR 6)) (DCh : C8.Cal P w K mg base 1 "chunk_for" spCh []) : FnOk P w K mg base (L2.CX P w) 10 f fd ["self", "rest"] (spCa K FC VC LC GC DR VC) := by
  obtain ⟨oc, od, dV, kV, doc, pm, an, cdv, ct, osl, rfl, lk, hcd⟩ := F.ex
  refine fn_of lk hcd scDvc (fun vs H Q E h => ?_) fun A outer s H vs Q E hr h => ?_
  · obtain ⟨a, t, v, rfl, _⟩ := h
    rfl
  · obtain ⟨a, t, v, rfl, hc, ht, ok, av, k1, k2⟩ := h
    refine ⟨_, (pss_one (ps_ret (C8.pe_c DCh hr (by decide) (by rfl) (pa_cons (pv 1) (pa_cons (pe_mxP (pv 0) Z.cls W hr (Nat.le_refl _) (passes_call (takes_of rfl rfl rfl rfl) (fun _ _ _ _ z => z)) (pa_cons (pv 1) pa_nil)) pa_nil))))), ?_⟩
    obtain ⟨da, fa, _, _, ha, _, _, _, _, na⟩ := ht.has ok
    refine ⟨_, rfl, _, rfl, a, _, da, fa, rfl, Rk.of t, ha, na _ nof_wish, _, rfl, a, t, v, rfl, rfl, ht, ok, ok.cnt6, av, k1, fun r er r1 => ?_⟩
    subst er
    obtain ⟨r2, k3⟩ := k2 r rfl r1
    exact ⟨r2, r, _, rfl, k3⟩
theorem scLoc : FnScope ["self", "rest"] ["self", "rest"] (C8.fnScope sLoc) := C8.fnScope_by (by decide +kernel)
theorem fn_loc {f : Addr} {fd : FuncData} (F : C8.Fun K "__call__" "Lesser.__call__" sLoc f fd) (Z : RlZ K mg FC VC LC GC) (W : MetP P w K mg base 9 (Rk FC VC LC GC) "wish" (spWi K FC VC LC GC DR 6)) (DCh : C8.Cal P w K mg base 1 "chunk_for" spCh []) : FnOk P w K mg base (L2.CX P w) 10 f fd ["self", "rest"] (spCa K FC VC LC GC DR LC) := by
  obtain ⟨oc, od, dV, kV, doc, pm, an, cdv, ct, osl, rfl, lk, hcd⟩ := F.ex
  refine fn_of lk hcd scLoc (fun vs H Q E h => ?_) fun A outer s H vs Q E hr h => ?_
  · obtain ⟨a, t, v, rfl, _⟩ := h
    rfl
  · obtain ⟨a, t, v, rfl, hc, ht, ok, av, k1, k2⟩ := h
    refine ⟨_, (pss_one (ps_ret (C8.pe_c DCh hr (by decide) (by rfl) (pa_cons (pv 1) (pa_cons (pe_mxP (pv 0) Z.cls W hr (Nat.le_refl _) (passes_call (takes_of rfl rfl rfl rfl) (fun _ _ _ _ z => z)) (pa_cons (pv 1) pa_nil)) pa_nil))))), ?_⟩
    obtain ⟨da, fa, _, _, ha, _, _, _, _, na⟩ := ht.has ok
    refine ⟨_, rfl, _, rfl, a, _, da, fa, rfl, Rk.of t, ha, na _ nof_wish, _, rfl, a, t, v, rfl, rfl, ht, ok, ok.cnt6, av, k1, fun r er r1 => ?_⟩
    subst er
    obtain ⟨r2, k3⟩ := k2 r rfl r1
    exact ⟨r2, r, _, rfl, k3⟩
theorem scHic : FnScope ["self", "rest"] ["self", "rest"] (C8.fnScope sHic) := C8.fnScope_by (by decide +kernel)
theorem fn_hic {f : Addr} {fd : FuncData} (F : C8.Fun K "__call__" "Greater.__call__" sHic f fd) (Z : RlZ K mg FC VC LC GC) (W : MetP P w K mg base 9 (Rk FC VC LC GC) "wish" (spWi K FC VC LC GC DR 6)) (DCh : C8.Cal P w K mg base 1 "chunk_for" spCh []) : FnOk P w K mg base (L2.CX P w) 10 f fd ["self", "rest"] (spCa K FC VC LC GC DR GC) := by
  obtain ⟨oc, od, dV, kV, doc, pm, an, cdv, ct, osl, rfl, lk, hcd⟩ := F.ex
  refine fn_of lk hcd scHic (fun vs H Q E h => ?_) fun A outer s H vs Q E hr h => ?_
  · obtain ⟨a, t, v, rfl, _⟩ := h
    rfl
  · obtain ⟨a, t, v, rfl, hc, ht, ok, av, k1, k2⟩ := h
    refine ⟨_, (pss_one (ps_ret (C8.pe_c DCh hr (by decide) (by rfl) (pa_cons (pv 1) (pa_cons (pe_mxP (pv 0) Z.cls W hr (Nat.le_refl _) (passes_call (takes_of rfl rfl rfl rfl) (fun _ _ _ _ z => z)) (pa_cons (pv 1) pa_nil)) pa_nil))))), ?_⟩
    obtain ⟨da, fa, _, _, ha, _, _, _, _, na⟩ := ht.has ok
    refine ⟨_, rfl, _, rfl, a, _, da, fa, rfl, Rk.of t, ha, na _ nof_wish, _, rfl, a, t, v, rfl, rfl, ht, ok, ok.cnt6, av, k1, fun r er r1 => ?_⟩
    subst er
    obtain ⟨r2, k3⟩ := k2 r rfl r1
    exact ⟨r2, r, _, rfl, k3⟩

/-- a value for a rule: a rule of the four, or none of them -/
def RV (K : PySem.W.Frag) (FC VC LC GC : Addr) (H : Hp) (v : V) : Option Rl → Prop
  | some t => ∃ a, v = .ref a ∧ RlAt FC VC LC GC H t a ∧ t.Ok
  | none => ∃ ty, (∀ H', Same H H' → L2.TyX K H' v ty) ∧ PySem.W.kitAny K ty [.ref FC, .ref VC, .ref LC, .ref GC] = some false
def Mg2 (DM : Addr) (what : String) (most : Int) (H : Hp) (E : XK) : Prop := ∀ d fs H', Same H H' → H' d = none → fs.lookup ("what" : Str) = some (.str (Str.ofString what)) → fs.lookup ("most" : Str) = some (.int most) → E (.ref DM) (some d) (upd H' d (.xd fs))
/-- what is asked where two rules are joined -/
def JoD (K : PySem.W.Frag) (FC VC LC GC DU DM : Addr) (u v : V) (H : Hp) (E : XK) (R : Rl → Rl → Prop) : Prop :=
  ∃ o1 o2, RV K FC VC LC GC H u o1 ∧ RV K FC VC LC GC H v o2 ∧ (o1 = none → Bf DU "part" (.str (Str.ofString "one")) H E) ∧ (∀ s, o1 = some s → o2 = none → Bf DU "part" (.str (Str.ofString "other")) H E) ∧
    ∀ s t, o1 = some s → o2 = some t → (6 < s.cnt + t.cnt → Mg2 DM "parts" 6 H E) ∧ (s.cnt + t.cnt ≤ 6 → 5000 < Nat.lcm s.mdl t.mdl → Mg2 DM "residues" 5000 H E) ∧ (s.cnt + t.cnt ≤ 6 → Nat.lcm s.mdl t.mdl ≤ 5000 → R s t)
def spJo (K : PySem.W.Frag) (FC VC LC GC DU DM : Addr) : Sp := fun vs H Q E => ∃ u v, vs = [u, v] ∧ JoD K FC VC LC GC DU DM u v H E fun _ _ => ∀ H', Same H H' → Q .non H'
theorem RV.ty {Z : RlZ K mg FC VC LC GC} {H H' : Hp} {v : V} {o : Option Rl} (h : RV K FC VC LC GC H v o) (s : Same H H') : ∃ ty, L2.TyX K H' v ty ∧ PySem.W.kitAny K ty [.ref FC, .ref VC, .ref LC, .ref GC] = some o.isSome := by
  cases o with
  | none =>
    obtain ⟨ty, h1, h2⟩ := h
    exact ⟨ty, h1 H' s, h2⟩
  | some t =>
    obtain ⟨a, rfl, h1, h2⟩ := h
    obtain ⟨dx, fs, _, _, ha, _⟩ := (h1.on s).has h2
    have I := Z.ins _ (Rk.of t)
    exact ⟨_, .base (.ins ha I.cl I.ha I.hn I.htk I.hm), Z.any t⟩
theorem scJo : FnScope ["one", "other"] ["one", "other"] (C8.fnScope sJo) := C8.fnScope_by (by decide +kernel)
theorem fn_jo {f fU fM : Addr} {fd fdU fdM : FuncData} (F : C8.Def K mg "check_joined" sJo f fd) (T : Txt mg) (Z : RlZ K mg FC VC LC GC) (EU : Err1 "BadRule" "part" P w K mg base DU fU fdU) (EM : Err2 "TooMany" "what" "most" P w K mg base DM fM fdM) (hMP : ∃ t, mg "MOST_PARTS" = some (.int 6 t)) (hlcm : mg "lcm" = some (.builtin "math.lcm")) (DMo : CalX P w K mg base 3 "check_modulus" (spMo DM)) :
    FnOk P w K mg base (L2.CX P w) 4 f fd ["one", "other"] (spJo K FC VC LC GC DU DM) := by
  obtain ⟨tf, hMP⟩ := hMP
  obtain ⟨oc, od, dV, kV, doc, pm, an, cdv, ct, osl, rfl, lk, hcd⟩ := F.fn.ex
  refine fn_of lk hcd scJo (fun vs H Q E h => ?_) fun A outer s H vs Q E hr h => ?_
  · obtain ⟨u, v, rfl, _⟩ := h
    rfl
  · obtain ⟨u, v, rfl, o1, o2, r1, r2, k1, k2, k3⟩ := h
    have tk : Takes (cxOf (L2.CX P w) P w K mg base ["one", "other"] "check_joined" (C8.fnScope sJo) f cdv A outer s H E) (fun cls d _ H' => E cls d H') := takes_of rfl rfl rfl rfl
    refine ⟨_, (pss_cons (ps_if (pt_not (pt_val (pe_callB L2.call_isiT (by rfl) T.n_isinstance (by decide +kernel) (pa_cons (pv 0) (pa_cons (pe_tup (pa_cons (pe_glob (v := .ref FC) (by rfl) Z.hF rfl) (pa_cons (pe_glob (v := .ref VC) (by rfl) Z.hV rfl) (pa_cons (pe_glob (v := .ref LC) (by rfl) Z.hL rfl) (pa_cons (pe_glob (v := .ref GC) (by rfl) Z.hG rfl) pa_nil))))) pa_nil))))) (pss_one (ps_bad1 (x := "BadRule") rfl tk EU.T EU.iC EU.tI EU.F hr EU.b (by rfl) EU.hm pe_str)) pss_nil)
  (pss_cons (ps_if (pt_not (pt_val (pe_callB L2.call_isiT (by rfl) T.n_isinstance (by decide +kernel) (pa_cons (pv 1) (pa_cons (pe_tup (pa_cons (pe_glob (v := .ref FC) (by rfl) Z.hF rfl) (pa_cons (pe_glob (v := .ref VC) (by rfl) Z.hV rfl) (pa_cons (pe_glob (v := .ref LC) (by rfl) Z.hL rfl) (pa_cons (pe_glob (v := .ref GC) (by rfl) Z.hG rfl) pa_nil))))) pa_nil))))) (pss_one (ps_bad1 (x := "BadRule") rfl tk EU.T EU.iC EU.tI EU.F hr EU.b (by rfl) EU.hm pe_str)) pss_nil)
  (pss_cons (ps_if (pt_cmpR op_gt (pe_op op_add (pe_callB call_len_seq (by rfl) T.n_len (by decide +kernel) (pa_cons (pe_fldK K rfl (pv 0) rfl) pa_nil)) (pe_callB call_len_seq (by rfl) T.n_len (by decide +kernel) (pa_cons (pe_fldK K rfl (pv 1) rfl) pa_nil))) (pe_glob (v := .int 6) rfl hMP ⟨_, rfl⟩) (nomark _)) (pss_one (ps_bad2 (x := "TooMany") rfl tk EM.T EM.iC EM.tI EM.F hr EM.b (by rfl) EM.hm pe_str (pe_glob (v := .int 6) rfl hMP ⟨_, rfl⟩))) pss_nil)
  (pss_one (ps_expr (pe_cX DMo hr (by decide) (by rfl) (passes_call (takes_of rfl rfl rfl rfl) (fun _ _ _ _ z => z)) (pa_cons (pe_callBfun cr_lcm (by rfl) hlcm (pa_cons (pe_fldK K rfl (pv 0) rfl) (pa_cons (pe_fldK K rfl (pv 1) rfl) pa_nil))) pa_nil))))))), ?_⟩
    dsimp only [tSeq]
    refine ⟨_, rfl, (by show 4 ≤ sizeLine; decide), fun p hp => ?_⟩
    have s1 := same_new (o := HO.tup [V.ref FC, V.ref VC, V.ref LC, V.ref GC]) hp
    obtain ⟨ty1, t1, e1⟩ := RV.ty (Z := Z) r1 s1
    refine ⟨u, p, _, ty1, _, _, rfl, upd_same, .cons (.own FC) (.cons (.own VC) (.cons (.own LC) (.cons (.own GC) .nil))), t1, e1, _, rfl, ?_⟩
    cases o1 with
    | none => exact iteT (bad_leaf1 (Bf.leaf fun d fs H2 s3 hd e => k1 rfl d fs H2 (s1.trans s3) hd e))
    | some t =>
      refine iteF ?_
      dsimp only [tNext]
      refine ⟨_, rfl, (by show 4 ≤ sizeLine; decide), fun p' hp' => ?_⟩
      have s2 := s1.trans (same_new (o := HO.tup [V.ref FC, V.ref VC, V.ref LC, V.ref GC]) hp')
      obtain ⟨ty2, t2, e2⟩ := RV.ty (Z := Z) r2 s2
      refine ⟨v, p', _, ty2, _, _, rfl, upd_same, .cons (.own FC) (.cons (.own VC) (.cons (.own LC) (.cons (.own GC) .nil))), t2, e2, _, rfl, ?_⟩
      cases o2 with
      | none => exact iteT (bad_leaf1 (Bf.leaf fun d fs H2 s3 hd e => k2 t rfl rfl d fs H2 (s2.trans s3) hd e))
      | some q =>
        refine iteF ?_
        obtain ⟨k4, k5, k6⟩ := k3 t q rfl rfl
        obtain ⟨a, rfl, ha, oka⟩ := r1
        obtain ⟨b, rfl, hb, okb⟩ := r2
        generalize upd (upd H p _) p' _ = H2 at s2 ⊢
        obtain ⟨da, fa, pa, xa, ha2, la, hpa, psa, ma, _⟩ := (ha.on s2).has oka
        obtain ⟨db, fb, pb, xb, hb2, lb, hpb, psb, mb, _⟩ := (hb.on s2).has okb
        obtain ⟨na1, na2⟩ := Z.parts t
        obtain ⟨nb1, nb2⟩ := Z.parts q
        have la1 := psa.len.trans (Rl.lvs_len t)
        have lb1 := psb.len.trans (Rl.lvs_len q)
        have ma1 := oka.mdl1
        have mb1 := okb.mdl1
        dsimp only [tNext, tSeq]
        refine ⟨_, rfl, a, _, da, fa, _, rfl, ha2, Z.cls _ (Rk.of t), na1, la, pa, xa, rfl, .inr (SqT.of hpa), _, rfl, b, _, db, fb, _, rfl, hb2, Z.cls _ (Rk.of q), nb1, lb, pb, xb, rfl, .inr (SqT.of hpb), _, _, rfl, rfl, _, _, rfl, rfl, _, rfl, ?_⟩
        by_cases c1 : 6 < t.cnt + q.cnt
        · exact iteT' (decide_eq_true (by omega)) (bad_leaf2 fun d fs hd e3 e4 => k4 c1 d fs H2 s2 hd e3 e4)
        refine iteF' (decide_eq_false (by omega)) ?_
        dsimp only [tNext]
        refine ⟨_, rfl, a, _, da, fa, _, rfl, ha2, Z.cls _ (Rk.of t), na2, ma, _, rfl, b, _, db, fb, _, rfl, hb2, Z.cls _ (Rk.of q), nb2, mb, _, _, rfl, by omega, by omega, _, rfl, fun c d fs hd e3 e4 => k5 (by omega) ?_ d fs H2 s2 hd e3 e4, fun c => k6 (by omega) ?_ H2 s2⟩
        · rw [Int.natAbs_natCast, Int.natAbs_natCast] at c
          omega
        · rw [Int.natAbs_natCast, Int.natAbs_natCast] at c
          omega
end
end Lw
namespace Lw
open PySem PySem.Spec PyProof.Rows L2
open SX PySem.NumText TL LamX ClX StX
set_option pp.maxSteps 900
abbrev sFxa : Stmt := inClass (top 33) 5
abbrev sDva : Stmt := inClass (top 34) 6
abbrev sLoa : Stmt := inClass (top 35) 5
abbrev sHia : Stmt := inClass (top 36) 5
abbrev sFxo : Stmt := inClass (top 33) 6
abbrev sDvo : Stmt := inClass (top 34) 7
abbrev sLoo : Stmt := inClass (top 35) 6
abbrev sHio : Stmt := inClass (top 36) 6
section
variable {FC VC LC GC : Addr} {H H' : Hp}
/-- what a heap keeps of all objects but the empty instances -/
def Tr (H H' : Hp) : Prop := ∀ a o, (∀ C dx, o ≠ HO.ins C dx []) → (∀ xs, o ≠ HO.lst xs) → H a = some o → H' a = some o
theorem Tr.fx {a : Addr} {n : Int} (tr : Tr H H') (h : FxAt FC H a n) : FxAt FC H' a n := by
  obtain ⟨dx, p, h1, h2⟩ := h
  refine ⟨dx, p, tr _ _ (fun C d e => ?_) (fun _ e => by cases e) h1, tr _ _ (fun C d e => by cases e) (fun _ e => by cases e) h2⟩
  injection e with _ _ e
  have z := fxP_mod n p
  rw [e] at z
  cases z
theorem Tr.dv {a : Addr} {x y w : Int} (tr : Tr H H') (h : DvAt VC H a x y w) : DvAt VC H' a x y w := by
  obtain ⟨dx, p, h1, h2⟩ := h
  refine ⟨dx, p, tr _ _ (fun C d e => ?_) (fun _ e => by cases e) h1, tr _ _ (fun C d e => by cases e) (fun _ e => by cases e) h2⟩
  injection e with _ _ e
  have z := dvP_mod x y w p
  rw [e] at z
  cases z
theorem Tr.lf (tr : Tr H H') {a : Addr} : ∀ {l : Rl}, LfAt FC VC H a l → LfAt FC VC H' a l
  | .fx _, h => tr.fx h
  | .dv _ _ _, h => tr.dv h
  | .lo _ _, h => h
  | .hi _ _, h => h
theorem Tr.ps (tr : Tr H H') : ∀ {vs : List V} {ls : List Rl}, PsAt FC VC H vs ls → PsAt FC VC H' vs ls
  | [], [], _ => trivial
  | _ :: _, _ :: _, ⟨⟨a, e, h⟩, r⟩ => ⟨⟨a, e, tr.lf h⟩, Tr.ps tr r⟩
  | [], _ :: _, h => h
  | _ :: _, [], h => h
theorem Tr.jn {a C dx p : Addr} {u v : V} {m : Int} (tr : Tr H H') (h : H a = some (.ins C dx (jnP u v m p))) : H' a = some (.ins C dx (jnP u v m p)) := tr _ _ (fun C d e => by
  injection e with _ _ e
  have z := jnP_mod u v m p
  rw [e] at z
  cases z) (fun _ e => by cases e) h
theorem RlAt.tr (tr : Tr H H') : ∀ {t : Rl} {a : Addr}, RlAt FC VC LC GC H t a → RlAt FC VC LC GC H' t a
  | .fx _, _, h => tr.fx h
  | .dv _ _ _, _, h => tr.dv h
  | .lo _ _, _, ⟨dx, p, b, c, ps, h1, h2, h3, h4, h5⟩ => ⟨dx, p, b, c, ps, tr.jn h1, tr _ _ (fun C d e => by cases e) (fun _ e => by cases e) h2, tr.ps h3, RlAt.tr tr h4, RlAt.tr tr h5⟩
  | .hi _ _, _, ⟨dx, p, b, c, ps, h1, h2, h3, h4, h5⟩ => ⟨dx, p, b, c, ps, tr.jn h1, tr _ _ (fun C d e => by cases e) (fun _ e => by cases e) h2, tr.ps h3, RlAt.tr tr h4, RlAt.tr tr h5⟩
theorem tr_pen {p l : Addr} {n : Nat} (hp : Pen H p l n) (k : Kp p H H') : Tr H H' := fun a o _ no h => k a o (fun e => by
  obtain ⟨_, _, _, ⟨e1, _⟩, _⟩ := hp
  rw [e, e1] at h
  cases h
  exact no _ rfl) h
theorem tr_kp {x C dx : Addr} (hx : H x = some (.ins C dx [])) (k : Kp x H H') : Tr H H' := fun a o no _ h => k a o (fun e => by rw [e, hx] at h; cases h; exact no _ _ rfl) h
end
def spJi (K : PySem.W.Frag) (FC VC LC GC DU DM : Addr) (C : Addr) (g : Rl → Rl → Rl) : Sp := fun vs H Q E => ∃ (x dx : Addr) (u v : V), vs = [.ref x, u, v] ∧ H x = some (.ins C dx []) ∧ JoD K FC VC LC GC DU DM u v H E fun s t => ∀ H', Kp x H H' → RlAt FC VC LC GC H' (g s t) x → Q .non H'
section
variable {P : Program} {w : World} {K : PySem.W.Frag} {mg : Str → Option Value} {base : Heap} {FC VC LC GC DR DM DU : Addr}
theorem JoD.imp {u v : V} {H : Hp} {E : XK} {R R' : Rl → Rl → Prop} (h : JoD K FC VC LC GC DU DM u v H E R) (m : ∀ s t, RV K FC VC LC GC H u (some s) → RV K FC VC LC GC H v (some t) → s.cnt + t.cnt ≤ 6 → Nat.lcm s.mdl t.mdl ≤ 5000 → R s t → R' s t) : JoD K FC VC LC GC DU DM u v H E R' := by
  obtain ⟨o1, o2, r1, r2, k1, k2, k3⟩ := h
  refine ⟨o1, o2, r1, r2, k1, k2, fun s t e1 e2 => ?_⟩
  obtain ⟨k4, k5, k6⟩ := k3 s t e1 e2
  subst e1 e2
  exact ⟨k4, k5, fun c1 c2 => m s t r1 r2 c1 c2 (k6 c1 c2)⟩
theorem scLoi : FnScope ["self", "one", "other"] ["self", "one", "other"] (C8.fnScope sLoi) := C8.fnScope_by (by decide +kernel)
theorem fn_loi {f : Addr} {fd : FuncData} (F : C8.Fun K "__init__" "Lesser.__init__" sLoi f fd) (Z : RlZ K mg FC VC LC GC) (hlcm : mg "lcm" = some (.builtin "math.lcm")) (DJo : CalX P w K mg base 4 "check_joined" (spJo K FC VC LC GC DU DM)) : FnOk P w K mg base (L2.CX P w) 5 f fd ["self", "one", "other"] (spJi K FC VC LC GC DU DM LC .lo) := by
  obtain ⟨oc, od, dV, kV, doc, pm, an, cdv, ct, osl, rfl, lk, hcd⟩ := F.ex
  refine fn_of lk hcd scLoi (fun vs H Q E h => ?_) fun A outer s H vs Q E hr h => ?_
  · obtain ⟨x, dx, u, v, rfl, _⟩ := h
    rfl
  · obtain ⟨x, dx, u, v, rfl, hx, j⟩ := h
    refine ⟨_, (pss_cons (ps_expr (pe_cX DJo hr (by decide) (by rfl) (passes_call (takes_of rfl rfl rfl rfl) (fun _ _ _ _ z => z)) (pa_cons (pv 1) (pa_cons (pv 2) pa_nil))))
  (pss_cons (ps_fld (pv 0) (pv 1) rfl)
  (pss_cons (ps_fld (pv 0) (pv 2) rfl)
  (pss_cons (ps_fld (pv 0) (pe_op op_catT (pe_fldK K rfl (pv 1) rfl) (pe_fldK K rfl (pv 2) rfl)) rfl)
  (pss_one (ps_fld (pv 0) (pe_callBfun cr_lcm (by rfl) hlcm (pa_cons (pe_fldK K rfl (pv 1) rfl) (pa_cons (pe_fldK K rfl (pv 2) rfl) pa_nil))) rfl)))))), ?_⟩
    refine ⟨_, rfl, _, rfl, u, v, rfl, j.imp fun s1 s2 r1 r2 c1 c2 k H2 s2' => ?_⟩
    obtain ⟨a, rfl, ha, oa⟩ := r1
    obtain ⟨b, rfl, hb, ob⟩ := r2
    have hx2 := s2' _ _ hx
    have kpu : ∀ o, Kp x H2 (upd H2 x o) := fun o b o' nb e => by rw [upd_ne nb]; exact e
    have tr3 := fun o => tr_kp hx2 (kpu o)
    obtain ⟨na1, na2⟩ := Z.parts s1
    obtain ⟨nb1, nb2⟩ := Z.parts s2
    have ma1 := oa.mdl1
    have mb1 := ob.mdl1
    have p1 := Rl.cnt_pos s1
    obtain ⟨da, fa, pa, xa, ha2, la, hpa2, psa, ma, _⟩ := (ha.on s2').has oa
    obtain ⟨db, fb, pb, xb, hb2, lb, hpb2, psb, mb, _⟩ := (hb.on s2').has ob
    have ea : ∀ C d, HO.ins (s1.cls FC VC LC GC) da fa ≠ .ins C d [] := fun C d e => by injection e with _ _ e; rw [e] at la; cases la
    have eb : ∀ C d, HO.ins (s2.cls FC VC LC GC) db fb ≠ .ins C d [] := fun C d e => by injection e with _ _ e; rw [e] at lb; cases lb
    dsimp only [tSeq]
    refine ⟨_, rfl, _, rfl, x, LC, dx, _, rfl, hx2, Z.L.cl, Z.L.n1, (by show 0 < 1000; decide), ?_⟩
    refine ⟨_, rfl, _, rfl, x, LC, dx, _, rfl, upd_same, Z.L.cl, Z.L.n2, (by show 1 < 1000; decide), ?_⟩
    rw [upd_upd]
    have t3 := tr3 (.ins LC dx (putF "other" (.ref b) (putF "one" (.ref a) [])))
    have ha3 := t3 _ _ ea (fun _ e => by cases e) ha2
    have hb3 := t3 _ _ eb (fun _ e => by cases e) hb2
    have hpa := t3 _ _ (fun C d e => by cases e) (fun _ e => by cases e) hpa2
    have hpb := t3 _ _ (fun C d e => by cases e) (fun _ e => by cases e) hpb2
    have la1 := psa.len.trans (Rl.lvs_len s1)
    have lb1 := psb.len.trans (Rl.lvs_len s2)
    have p2 := Rl.cnt_pos s2
    refine ⟨_, rfl, a, _, da, fa, _, rfl, ha3, Z.cls _ (Rk.of s1), na1, la, _, rfl, b, _, db, fb, _, rfl, hb3, Z.cls _ (Rk.of s2), nb1, lb, pa, pb, xa, xb, rfl, rfl, SqT.of hpa, SqT.of hpb, (fun e => by rw [e] at la1; simp only [List.length_nil] at la1; omega), Nat.le_trans (by omega) (by decide : 6 ≤ sizeLine), (fun e => by rw [e] at lb1; simp only [List.length_nil] at lb1; omega), fun _ p hp => ?_⟩
    have px : x ≠ p := fun z => by rw [← z, upd_same] at hp; cases hp
    refine ⟨_, rfl, x, LC, dx, _, rfl, by rw [upd_ne px]; exact upd_same, Z.L.cl, Z.L.n3, (by show 2 < 1000; decide), ?_⟩
    have K4 := fun o3 => (kp_three (o3 := o3) (tp := .tup (xa ++ xb)) hx2 hp).1
    have Kpp := fun o3 => (kp_three (o3 := o3) (tp := .tup (xa ++ xb)) hx2 hp).2
    have T4 := fun o3 => tr_kp hx2 (K4 o3)
    have t4 := T4 (.ins LC dx (putF "parts" (.ref p) (putF "other" (.ref b) (putF "one" (.ref a) []))))
    have ha4 := t4 _ _ ea (fun _ e => by cases e) ha2
    have hb4 := t4 _ _ eb (fun _ e => by cases e) hb2
    refine ⟨_, rfl, a, _, da, fa, _, rfl, ha4, Z.cls _ (Rk.of s1), na2, ma, _, rfl, b, _, db, fb, _, rfl, hb4, Z.cls _ (Rk.of s2), nb2, mb, _, _, rfl, by omega, by omega, ?_⟩
    rw [Int.natAbs_natCast, Int.natAbs_natCast]
    refine ⟨_, rfl, x, LC, dx, _, rfl, upd_same, Z.L.cl, Z.L.n4, (by show 3 < 1000; decide), ?_⟩
    rw [upd_upd]
    have hk := K4 (.ins LC dx (jnP (.ref a) (.ref b) (Nat.lcm s1.mdl s2.mdl) p))
    have ht := T4 (.ins LC dx (jnP (.ref a) (.ref b) (Nat.lcm s1.mdl s2.mdl) p))
    have hpp := Kpp (.ins LC dx (jnP (.ref a) (.ref b) (Nat.lcm s1.mdl s2.mdl) p))
    exact k _ (fun c o nc e => hk c o nc (s2' _ _ e)) ⟨dx, p, a, b, xa ++ xb, upd_same, hpp, (ht.ps psa).app (ht.ps psb), (ha.on s2').tr ht, (hb.on s2').tr ht⟩
theorem scHii : FnScope ["self", "one", "other"] ["self", "one", "other"] (C8.fnScope sHii) := C8.fnScope_by (by decide +kernel)
theorem fn_hii {f : Addr} {fd : FuncData} (F : C8.Fun K "__init__" "Greater.__init__" sHii f fd) (Z : RlZ K mg FC VC LC GC) (hlcm : mg "lcm" = some (.builtin "math.lcm")) (DJo : CalX P w K mg base 4 "check_joined" (spJo K FC VC LC GC DU DM)) : FnOk P w K mg base (L2.CX P w) 5 f fd ["self", "one", "other"] (spJi K FC VC LC GC DU DM GC .hi) := by
  obtain ⟨oc, od, dV, kV, doc, pm, an, cdv, ct, osl, rfl, lk, hcd⟩ := F.ex
  refine fn_of lk hcd scHii (fun vs H Q E h => ?_) fun A outer s H vs Q E hr h => ?_
  · obtain ⟨x, dx, u, v, rfl, _⟩ := h
    rfl
  · obtain ⟨x, dx, u, v, rfl, hx, j⟩ := h
    refine ⟨_, (pss_cons (ps_expr (pe_cX DJo hr (by decide) (by rfl) (passes_call (takes_of rfl rfl rfl rfl) (fun _ _ _ _ z => z)) (pa_cons (pv 1) (pa_cons (pv 2) pa_nil))))
  (pss_cons (ps_fld (pv 0) (pv 1) rfl)
  (pss_cons (ps_fld (pv 0) (pv 2) rfl)
  (pss_cons (ps_fld (pv 0) (pe_op op_catT (pe_fldK K rfl (pv 1) rfl) (pe_fldK K rfl (pv 2) rfl)) rfl)
  (pss_one (ps_fld (pv 0) (pe_callBfun cr_lcm (by rfl) hlcm (pa_cons (pe_fldK K rfl (pv 1) rfl) (pa_cons (pe_fldK K rfl (pv 2) rfl) pa_nil))) rfl)))))), ?_⟩
    refine ⟨_, rfl, _, rfl, u, v, rfl, j.imp fun s1 s2 r1 r2 c1 c2 k H2 s2' => ?_⟩
    obtain ⟨a, rfl, ha, oa⟩ := r1
    obtain ⟨b, rfl, hb, ob⟩ := r2
    have hx2 := s2' _ _ hx
    have kpu : ∀ o, Kp x H2 (upd H2 x o) := fun o b o' nb e => by rw [upd_ne nb]; exact e
    have tr3 := fun o => tr_kp hx2 (kpu o)
    obtain ⟨na1, na2⟩ := Z.parts s1
    obtain ⟨nb1, nb2⟩ := Z.parts s2
    have ma1 := oa.mdl1
    have mb1 := ob.mdl1
    have p1 := Rl.cnt_pos s1
    obtain ⟨da, fa, pa, xa, ha2, la, hpa2, psa, ma, _⟩ := (ha.on s2').has oa
    obtain ⟨db, fb, pb, xb, hb2, lb, hpb2, psb, mb, _⟩ := (hb.on s2').has ob
    have ea : ∀ C d, HO.ins (s1.cls FC VC LC GC) da fa ≠ .ins C d [] := fun C d e => by injection e with _ _ e; rw [e] at la; cases la
    have eb : ∀ C d, HO.ins (s2.cls FC VC LC GC) db fb ≠ .ins C d [] := fun C d e => by injection e with _ _ e; rw [e] at lb; cases lb
    dsimp only [tSeq]
    refine ⟨_, rfl, _, rfl, x, GC, dx, _, rfl, hx2, Z.G.cl, Z.G.n1, (by show 0 < 1000; decide), ?_⟩
    refine ⟨_, rfl, _, rfl, x, GC, dx, _, rfl, upd_same, Z.G.cl, Z.G.n2, (by show 1 < 1000; decide), ?_⟩
    rw [upd_upd]
    have t3 := tr3 (.ins GC dx (putF "other" (.ref b) (putF "one" (.ref a) [])))
    have ha3 := t3 _ _ ea (fun _ e => by cases e) ha2
    have hb3 := t3 _ _ eb (fun _ e => by cases e) hb2
    have hpa := t3 _ _ (fun C d e => by cases e) (fun _ e => by cases e) hpa2
    have hpb := t3 _ _ (fun C d e => by cases e) (fun _ e => by cases e) hpb2
    have la1 := psa.len.trans (Rl.lvs_len s1)
    have lb1 := psb.len.trans (Rl.lvs_len s2)
    have p2 := Rl.cnt_pos s2
    refine ⟨_, rfl, a, _, da, fa, _, rfl, ha3, Z.cls _ (Rk.of s1), na1, la, _, rfl, b, _, db, fb, _, rfl, hb3, Z.cls _ (Rk.of s2), nb1, lb, pa, pb, xa, xb, rfl, rfl, SqT.of hpa, SqT.of hpb, (fun e => by rw [e] at la1; simp only [List.length_nil] at la1; omega), Nat.le_trans (by omega) (by decide : 6 ≤ sizeLine), (fun e => by rw [e] at lb1; simp only [List.length_nil] at lb1; omega), fun _ p hp => ?_⟩
    have px : x ≠ p := fun z => by rw [← z, upd_same] at hp; cases hp
    refine ⟨_, rfl, x, GC, dx, _, rfl, by rw [upd_ne px]; exact upd_same, Z.G.cl, Z.G.n3, (by show 2 < 1000; decide), ?_⟩
    have K4 := fun o3 => (kp_three (o3 := o3) (tp := .tup (xa ++ xb)) hx2 hp).1
    have Kpp := fun o3 => (kp_three (o3 := o3) (tp := .tup (xa ++ xb)) hx2 hp).2
    have T4 := fun o3 => tr_kp hx2 (K4 o3)
    have t4 := T4 (.ins GC dx (putF "parts" (.ref p) (putF "other" (.ref b) (putF "one" (.ref a) []))))
    have ha4 := t4 _ _ ea (fun _ e => by cases e) ha2
    have hb4 := t4 _ _ eb (fun _ e => by cases e) hb2
    refine ⟨_, rfl, a, _, da, fa, _, rfl, ha4, Z.cls _ (Rk.of s1), na2, ma, _, rfl, b, _, db, fb, _, rfl, hb4, Z.cls _ (Rk.of s2), nb2, mb, _, _, rfl, by omega, by omega, ?_⟩
    rw [Int.natAbs_natCast, Int.natAbs_natCast]
    refine ⟨_, rfl, x, GC, dx, _, rfl, upd_same, Z.G.cl, Z.G.n4, (by show 3 < 1000; decide), ?_⟩
    rw [upd_upd]
    have hk := K4 (.ins GC dx (jnP (.ref a) (.ref b) (Nat.lcm s1.mdl s2.mdl) p))
    have ht := T4 (.ins GC dx (jnP (.ref a) (.ref b) (Nat.lcm s1.mdl s2.mdl) p))
    have hpp := Kpp (.ins GC dx (jnP (.ref a) (.ref b) (Nat.lcm s1.mdl s2.mdl) p))
    exact k _ (fun c o nc e => hk c o nc (s2' _ _ e)) ⟨dx, p, a, b, xa ++ xb, upd_same, hpp, (ht.ps psa).app (ht.ps psb), (ha.on s2').tr ht, (hb.on s2').tr ht⟩
end
end Lw
namespace Lw
open PySem PySem.Spec PyProof.Rows L2
open SX PySem.NumText TL LamX ClX StX
set_option pp.maxSteps 900
/-- Lesser (Greater), ready to be made -/
structure JnM (nm : Str) (g : Rl → Rl → Rl) (P : Program) (w : World) (K : PySem.W.Frag) (mg : Str → Option Value) (base : Heap) (FC VC LC GC DU DM C f : Addr) (fd : FuncData) : Prop where
  M : Mk K C f
  F : FnOk P w K mg base (L2.CX P w) 5 f fd ["self", "one", "other"] (spJi K FC VC LC GC DU DM C g)
  hm : mg nm = some (.ref C)
  b : Binds K fd ["self", "one", "other"] []
/-- u & v, u | v -/
def spAn (K : PySem.W.Frag) (FC VC LC GC DU DM : Addr) (g : Rl → Rl → Rl) : Sp := fun vs H Q E => ∃ u v, vs = [u, v] ∧ JoD K FC VC LC GC DU DM u v H E fun s t => ∀ a H', Same H H' → H a = none → RlAt FC VC LC GC H' (g s t) a → Q (.ref a) H'
section
variable {P : Program} {w : World} {K : PySem.W.Frag} {mg : Str → Option Value} {base : Heap} {FC VC LC GC DR DM DU : Addr}
theorem RV.on {H H' : Hp} {v : V} {o : Option Rl} (h : RV K FC VC LC GC H v o) (s : Same H H') : RV K FC VC LC GC H' v o := by
  cases o with
  | none =>
    obtain ⟨ty, h1, h2⟩ := h
    exact ⟨ty, fun H2 s2 => h1 H2 (s.trans s2), h2⟩
  | some t =>
    obtain ⟨a, e, h1, h2⟩ := h
    exact ⟨a, e, h1.on s, h2⟩
theorem JoD.on {u v : V} {H H' : Hp} {E : XK} {R R' : Rl → Rl → Prop} (h : JoD K FC VC LC GC DU DM u v H E R) (s : Same H H') (m : ∀ x y, R x y → R' x y) : JoD K FC VC LC GC DU DM u v H' E R' := by
  obtain ⟨o1, o2, r1, r2, k1, k2, k3⟩ := h
  refine ⟨o1, o2, r1.on s, r2.on s, fun e d fs H2 s2 => k1 e d fs H2 (s.trans s2), fun x e1 e2 d fs H2 s2 => k2 x e1 e2 d fs H2 (s.trans s2), fun x y e1 e2 => ?_⟩
  obtain ⟨k4, k5, k6⟩ := k3 x y e1 e2
  exact ⟨fun c d fs H2 s2 => k4 c d fs H2 (s.trans s2), fun c1 c2 d fs H2 s2 => k5 c1 c2 d fs H2 (s.trans s2), fun c1 c2 => m x y (k6 c1 c2)⟩
theorem JoD.make {u v : V} {H : Hp} {E : XK} {Q : VK} {C : Addr} {g : Rl → Rl → Rl} (h : JoD K FC VC LC GC DU DM u v H E fun s t => ∀ a H', Same H H' → H a = none → RlAt FC VC LC GC H' (g s t) a → Q (.ref a) H') (x dx : Addr) (hx : H x = none) (hdx : H dx = none) (ne : dx ≠ x) :
    spJi K FC VC LC GC DU DM C g [.ref x, u, v] (upd (upd H dx (.own x)) x (.ins C dx [])) (fun v H2 => v = .non ∧ Q (.ref x) H2) E := by
  have s1 : Same H (upd H dx (.own x)) := same_new hdx
  have hx1 : upd H dx (.own x) x = none := by rw [upd_ne ne.symm]; exact hx
  have s2 := s1.trans (same_new (o := HO.ins C dx []) hx1)
  exact ⟨x, dx, u, v, rfl, upd_same, h.on s2 fun s t k H' kp r => ⟨rfl, k x H' (fun b o e => kp _ _ (ne_of_none e hx) (s2 _ _ e)) hx r⟩⟩
theorem scFxa : FnScope ["self", "other"] ["self", "other"] (C8.fnScope sFxa) := C8.fnScope_by (by decide +kernel)
theorem fn_fxa {X f fM : Addr} {fd fdM : FuncData} (F : C8.Fun K "__and__" "Fixed.__and__" sFxa f fd) (LM : JnM "Lesser" .lo P w K mg base FC VC LC GC DU DM X fM fdM) : FnOk P w K mg base (L2.CX P w) 7 f fd ["self", "other"] (spAn K FC VC LC GC DU DM .lo) := by
  obtain ⟨oc, od, dV, kV, doc, pm, an, cdv, ct, osl, rfl, lk, hcd⟩ := F.ex
  refine fn_of lk hcd scFxa (fun vs H Q E h => ?_) fun A outer s H vs Q E hr h => ?_
  · obtain ⟨u, v, rfl, _⟩ := h
    rfl
  · obtain ⟨u, v, rfl, j⟩ := h
    refine ⟨_, (pss_one (ps_ret (pe_make LM.M LM.F (hr.mono (by decide)) (by rfl) LM.hm LM.b .nil (passes_call (takes_of rfl rfl rfl rfl) (fun _ _ _ _ z => z)) (pa_cons (pv 0) (pa_cons (pv 1) pa_nil))))), ?_⟩
    exact ⟨_, rfl, _, rfl, fun x dx hx hdx ne => JoD.make (Q := Q) j x dx hx hdx ne⟩
theorem scDva : FnScope ["self", "other"] ["self", "other"] (C8.fnScope sDva) := C8.fnScope_by (by decide +kernel)
theorem fn_dva {X f fM : Addr} {fd fdM : FuncData} (F : C8.Fun K "__and__" "Divided.__and__" sDva f fd) (LM : JnM "Lesser" .lo P w K mg base FC VC LC GC DU DM X fM fdM) : FnOk P w K mg base (L2.CX P w) 7 f fd ["self", "other"] (spAn K FC VC LC GC DU DM .lo) := by
  obtain ⟨oc, od, dV, kV, doc, pm, an, cdv, ct, osl, rfl, lk, hcd⟩ := F.ex
  refine fn_of lk hcd scDva (fun vs H Q E h => ?_) fun A outer s H vs Q E hr h => ?_
  · obtain ⟨u, v, rfl, _⟩ := h
    rfl
  · obtain ⟨u, v, rfl, j⟩ := h
    refine ⟨_, (pss_one (ps_ret (pe_make LM.M LM.F (hr.mono (by decide)) (by rfl) LM.hm LM.b .nil (passes_call (takes_of rfl rfl rfl rfl) (fun _ _ _ _ z => z)) (pa_cons (pv 0) (pa_cons (pv 1) pa_nil))))), ?_⟩
    exact ⟨_, rfl, _, rfl, fun x dx hx hdx ne => JoD.make (Q := Q) j x dx hx hdx ne⟩
theorem scLoa : FnScope ["self", "other"] ["self", "other"] (C8.fnScope sLoa) := C8.fnScope_by (by decide +kernel)
theorem fn_loa {X f fM : Addr} {fd fdM : FuncData} (F : C8.Fun K "__and__" "Lesser.__and__" sLoa f fd) (LM : JnM "Lesser" .lo P w K mg base FC VC LC GC DU DM X fM fdM) : FnOk P w K mg base (L2.CX P w) 7 f fd ["self", "other"] (spAn K FC VC LC GC DU DM .lo) := by
  obtain ⟨oc, od, dV, kV, doc, pm, an, cdv, ct, osl, rfl, lk, hcd⟩ := F.ex
  refine fn_of lk hcd scLoa (fun vs H Q E h => ?_) fun A outer s H vs Q E hr h => ?_
  · obtain ⟨u, v, rfl, _⟩ := h
    rfl
  · obtain ⟨u, v, rfl, j⟩ := h
    refine ⟨_, (pss_one (ps_ret (pe_make LM.M LM.F (hr.mono (by decide)) (by rfl) LM.hm LM.b .nil (passes_call (takes_of rfl rfl rfl rfl) (fun _ _ _ _ z => z)) (pa_cons (pv 0) (pa_cons (pv 1) pa_nil))))), ?_⟩
    exact ⟨_, rfl, _, rfl, fun x dx hx hdx ne => JoD.make (Q := Q) j x dx hx hdx ne⟩
theorem scHia : FnScope ["self", "other"] ["self", "other"] (C8.fnScope sHia) := C8.fnScope_by (by decide +kernel)
theorem fn_hia {X f fM : Addr} {fd fdM : FuncData} (F : C8.Fun K "__and__" "Greater.__and__" sHia f fd) (LM : JnM "Lesser" .lo P w K mg base FC VC LC GC DU DM X fM fdM) : FnOk P w K mg base (L2.CX P w) 7 f fd ["self", "other"] (spAn K FC VC LC GC DU DM .lo) := by
  obtain ⟨oc, od, dV, kV, doc, pm, an, cdv, ct, osl, rfl, lk, hcd⟩ := F.ex
  refine fn_of lk hcd scHia (fun vs H Q E h => ?_) fun A outer s H vs Q E hr h => ?_
  · obtain ⟨u, v, rfl, _⟩ := h
    rfl
  · obtain ⟨u, v, rfl, j⟩ := h
    refine ⟨_, (pss_one (ps_ret (pe_make LM.M LM.F (hr.mono (by decide)) (by rfl) LM.hm LM.b .nil (passes_call (takes_of rfl rfl rfl rfl) (fun _ _ _ _ z => z)) (pa_cons (pv 0) (pa_cons (pv 1) pa_nil))))), ?_⟩
    exact ⟨_, rfl, _, rfl, fun x dx hx hdx ne => JoD.make (Q := Q) j x dx hx hdx ne⟩
/-- __and__ of every rule -/
theorem andP {X fM : Addr} {fdM : FuncData} (LM : JnM "Lesser" .lo P w K mg base FC VC LC GC DU DM X fM fdM) {f1 f2 f3 f4 : Addr} {d1 d2 d3 d4 : FuncData}
    (F1 : C8.Fun K "__and__" "Fixed.__and__" sFxa f1 d1) (m1 : Meth K FC "__and__" f1) (b1 : Binds K d1 ["self", "other"] []) (F2 : C8.Fun K "__and__" "Divided.__and__" sDva f2 d2) (m2 : Meth K VC "__and__" f2) (b2 : Binds K d2 ["self", "other"] []) (F3 : C8.Fun K "__and__" "Lesser.__and__" sLoa f3 d3) (m3 : Meth K LC "__and__" f3) (b3 : Binds K d3 ["self", "other"] []) (F4 : C8.Fun K "__and__" "Greater.__and__" sHia f4 d4) (m4 : Meth K GC "__and__" f4) (b4 : Binds K d4 ["self", "other"] []) :
    MetP P w K mg base 7 (Rk FC VC LC GC) "__and__" (fun _ => spAn K FC VC LC GC DU DM .lo) := ⟨fun C hC => by
    rcases hC with rfl | rfl | rfl | rfl
    · exact ⟨_, _, _, m1, fn_fxa F1 LM, b1⟩
    · exact ⟨_, _, _, m2, fn_dva F2 LM, b2⟩
    · exact ⟨_, _, _, m3, fn_loa F3 LM, b3⟩
    · exact ⟨_, _, _, m4, fn_hia F4 LM, b4⟩⟩
theorem scFxo : FnScope ["self", "other"] ["self", "other"] (C8.fnScope sFxo) := C8.fnScope_by (by decide +kernel)
theorem fn_fxo {X f fM : Addr} {fd fdM : FuncData} (F : C8.Fun K "__or__" "Fixed.__or__" sFxo f fd) (GM : JnM "Greater" .hi P w K mg base FC VC LC GC DU DM X fM fdM) : FnOk P w K mg base (L2.CX P w) 7 f fd ["self", "other"] (spAn K FC VC LC GC DU DM .hi) := by
  obtain ⟨oc, od, dV, kV, doc, pm, an, cdv, ct, osl, rfl, lk, hcd⟩ := F.ex
  refine fn_of lk hcd scFxo (fun vs H Q E h => ?_) fun A outer s H vs Q E hr h => ?_
  · obtain ⟨u, v, rfl, _⟩ := h
    rfl
  · obtain ⟨u, v, rfl, j⟩ := h
    refine ⟨_, (pss_one (ps_ret (pe_make GM.M GM.F (hr.mono (by decide)) (by rfl) GM.hm GM.b .nil (passes_call (takes_of rfl rfl rfl rfl) (fun _ _ _ _ z => z)) (pa_cons (pv 0) (pa_cons (pv 1) pa_nil))))), ?_⟩
    exact ⟨_, rfl, _, rfl, fun x dx hx hdx ne => JoD.make (Q := Q) j x dx hx hdx ne⟩
theorem scDvo : FnScope ["self", "other"] ["self", "other"] (C8.fnScope sDvo) := C8.fnScope_by (by decide +kernel)
theorem fn_dvo {X f fM : Addr} {fd fdM : FuncData} (F : C8.Fun K "__or__" "Divided.__or__" sDvo f fd) (GM : JnM "Greater" .hi P w K mg base FC VC LC GC DU DM X fM fdM) : FnOk P w K mg base (L2.CX P w) 7 f fd ["self", "other"] (spAn K FC VC LC GC DU DM .hi) := by
  obtain ⟨oc, od, dV, kV, doc, pm, an, cdv, ct, osl, rfl, lk, hcd⟩ := F.ex
  refine fn_of lk hcd scDvo (fun vs H Q E h => ?_) fun A outer s H vs Q E hr h => ?_
  · obtain ⟨u, v, rfl, _⟩ := h
    rfl
  · obtain ⟨u, v, rfl, j⟩ := h
    refine ⟨_, (pss_one (ps_ret (pe_make GM.M GM.F (hr.mono (by decide)) (by rfl) GM.hm GM.b .nil (passes_call (takes_of rfl rfl rfl rfl) (fun _ _ _ _ z => z)) (pa_cons (pv 0) (pa_cons (pv 1) pa_nil))))), ?_⟩
    exact ⟨_, rfl, _, rfl, fun x dx hx hdx ne => JoD.make (Q := Q) j x dx hx hdx ne⟩
theorem scLoo : FnScope ["self", "other"] ["self", "other"] (C8.fnScope sLoo) := C8.fnScope_by (by decide +kernel)
theorem fn_loo {X f fM : Addr} {fd fdM : FuncData} (F : C8.Fun K "__or__" "Lesser.__or__" sLoo f fd) (GM : JnM "Greater" .hi P w K mg base FC VC LC GC DU DM X fM fdM) : FnOk P w K mg base (L2.CX P w) 7 f fd ["self", "other"] (spAn K FC VC LC GC DU DM .hi) := by
  obtain ⟨oc, od, dV, kV, doc, pm, an, cdv, ct, osl, rfl, lk, hcd⟩ := F.ex
  refine fn_of lk hcd scLoo (fun vs H Q E h => ?_) fun A outer s H vs Q E hr h => ?_
  · obtain ⟨u, v, rfl, _⟩ := h
    rfl
  · obtain ⟨u, v, rfl, j⟩ := h
    refine ⟨_, (pss_one (ps_ret (pe_make GM.M GM.F (hr.mono (by decide)) (by rfl) GM.hm GM.b .nil (passes_call (takes_of rfl rfl rfl rfl) (fun _ _ _ _ z => z)) (pa_cons (pv 0) (pa_cons (pv 1) pa_nil))))), ?_⟩
    exact ⟨_, rfl, _, rfl, fun x dx hx hdx ne => JoD.make (Q := Q) j x dx hx hdx ne⟩
theorem scHio : FnScope ["self", "other"] ["self", "other"] (C8.fnScope sHio) := C8.fnScope_by (by decide +kernel)
theorem fn_hio {X f fM : Addr} {fd fdM : FuncData} (F : C8.Fun K "__or__" "Greater.__or__" sHio f fd) (GM : JnM "Greater" .hi P w K mg base FC VC LC GC DU DM X fM fdM) : FnOk P w K mg base (L2.CX P w) 7 f fd ["self", "other"] (spAn K FC VC LC GC DU DM .hi) := by
  obtain ⟨oc, od, dV, kV, doc, pm, an, cdv, ct, osl, rfl, lk, hcd⟩ := F.ex
  refine fn_of lk hcd scHio (fun vs H Q E h => ?_) fun A outer s H vs Q E hr h => ?_
  · obtain ⟨u, v, rfl, _⟩ := h
    rfl
  · obtain ⟨u, v, rfl, j⟩ := h
    refine ⟨_, (pss_one (ps_ret (pe_make GM.M GM.F (hr.mono (by decide)) (by rfl) GM.hm GM.b .nil (passes_call (takes_of rfl rfl rfl rfl) (fun _ _ _ _ z => z)) (pa_cons (pv 0) (pa_cons (pv 1) pa_nil))))), ?_⟩
    exact ⟨_, rfl, _, rfl, fun x dx hx hdx ne => JoD.make (Q := Q) j x dx hx hdx ne⟩
/-- __or__ of every rule -/
theorem orP {X fM : Addr} {fdM : FuncData} (GM : JnM "Greater" .hi P w K mg base FC VC LC GC DU DM X fM fdM) {f1 f2 f3 f4 : Addr} {d1 d2 d3 d4 : FuncData}
    (F1 : C8.Fun K "__or__" "Fixed.__or__" sFxo f1 d1) (m1 : Meth K FC "__or__" f1) (b1 : Binds K d1 ["self", "other"] []) (F2 : C8.Fun K "__or__" "Divided.__or__" sDvo f2 d2) (m2 : Meth K VC "__or__" f2) (b2 : Binds K d2 ["self", "other"] []) (F3 : C8.Fun K "__or__" "Lesser.__or__" sLoo f3 d3) (m3 : Meth K LC "__or__" f3) (b3 : Binds K d3 ["self", "other"] []) (F4 : C8.Fun K "__or__" "Greater.__or__" sHio f4 d4) (m4 : Meth K GC "__or__" f4) (b4 : Binds K d4 ["self", "other"] []) :
    MetP P w K mg base 7 (Rk FC VC LC GC) "__or__" (fun _ => spAn K FC VC LC GC DU DM .hi) := ⟨fun C hC => by
    rcases hC with rfl | rfl | rfl | rfl
    · exact ⟨_, _, _, m1, fn_fxo F1 GM, b1⟩
    · exact ⟨_, _, _, m2, fn_dvo F2 GM, b2⟩
    · exact ⟨_, _, _, m3, fn_loo F3 GM, b3⟩
    · exact ⟨_, _, _, m4, fn_hio F4 GM, b4⟩⟩

end
end Lw
namespace Lw
open PySem PySem.Spec PyProof.Rows L2
open SX PySem.NumText TL LamX ClX StX
set_option pp.maxSteps 900
abbrev sLoq : Stmt := inClass (top 35) 7
abbrev sHiq : Stmt := inClass (top 36) 7
/-- whether two rules are alike -/
def Rl.eqb : Rl → Rl → Bool
  | .fx m, .fx n => decide (m = n)
  | .dv x y w, .dv x' y' w' => decide (x = x') && (decide (y = y') && decide (w = w'))
  | .lo a b, .lo c d => a.eqb c && b.eqb d
  | .hi a b, .hi c d => a.eqb c && b.eqb d
  | _, _ => false
section
variable {X : Cx} {C : Addr} {k j : Nat} {sp : Sp} {E : XK}
open L2 in
def rXR (K : PySem.W.Frag) (C : Addr) (sp : Sp) (E : XK) : R2 := fun x y H Q => ∃ a dx fs t, x = .ref a ∧ H a = some (.ins C dx fs) ∧ TyX K H y t ∧ PySem.W.notFirst K C t = true ∧ sp [x, y] H Q E
theorem op_eqXK (K' : PySem.W.Frag) (hK : X.K = K') (M : MetX X.prog X.w X.K X.mg X.base k C "__eq__" sp) (hx : Passes (L2.CX X.prog X.w) X E) (hr : Room j X.A) (hk : k ≤ j) : OpR X (compareOp .Eq) (rXR K' C sp E) := by
  subst hK
  intro pins s σ H x y v u Q I rx ry h
  obtain ⟨a, dx, fs, t, rfl, ha, hy, hn, q⟩ := h
  cases (show v = Value.ref a from rx)
  obtain ⟨_, _, J⟩ := ins_at I ha
  obtain ⟨W, Z, p, _⟩ := kit_of I ry hy
  obtain ⟨g, hm, w, _⟩ := run_met (us := [.ref a, u]) (vs := [.ref a, y]) M hx hr hk I (.cons rfl (.cons ry .nil)) q
  obtain ⟨m, hF⟩ := I.fr
  show wpAny (model X.prog X.w) X.A (richCompare .Eq _ u) (EP X pins σ Q) X.xe s
  exact PySem.W.cmp_K (op := .Eq) hr.units0 hF I.ok.mod.kin J (Z.ty _ _ I.kIn p) hn hm.at_ hm.fn w
end
section
variable {X : Cx} {Pc : Addr → Prop} {k j : Nat} {sp : Addr → Sp} {E : XK}
def rPE (K : PySem.W.Frag) (Pc : Addr → Prop) (sp : Addr → Sp) (E : XK) : R2 := fun x y H Q => ∃ a C dx fs t, x = .ref a ∧ Pc C ∧ H a = some (.ins C dx fs) ∧ L2.TyX K H y t ∧ PySem.W.notFirst K C t = true ∧ sp C [x, y] H Q E
theorem op_eqPE (K' : PySem.W.Frag) (hK : X.K = K') (M : MetP X.prog X.w X.K X.mg X.base k Pc "__eq__" sp) (hx : Passes (L2.CX X.prog X.w) X E) (hr : Room j X.A) (hk : k ≤ j) : OpR X (compareOp .Eq) (rPE K' Pc sp E) := by
  intro pins s σ H x y v u Q I rx ry ⟨a, C, dx, fs, t, ex, pc, ha, hy, hn, q⟩
  exact op_eqXK K' hK (M.all C pc) hx hr hk pins s σ H x y v u Q I rx ry ⟨a, dx, fs, t, ex, ha, hy, hn, q⟩
end
/-- == of two rules -/
def spTe (FC VC LC GC : Addr) (n : Nat) (C : Addr) : Sp := fun vs H Q _ => ∃ a b s t, vs = [.ref a, .ref b] ∧ s.cls FC VC LC GC = C ∧ RlAt FC VC LC GC H s a ∧ RlAt FC VC LC GC H t b ∧ s.Ok ∧ t.Ok ∧ s.cnt ≤ n ∧ Q (.bl (s.eqb t)) H
section
variable {P : Program} {w : World} {K : PySem.W.Frag} {mg : Str → Option Value} {base : Heap} {FC VC LC GC DR DM DU : Addr}
theorem RlZ.tz (Z : RlZ K mg FC VC LC GC) {H : Hp} {t : Rl} {b : Addr} (h : RlAt FC VC LC GC H t b) (ok : t.Ok) : L2.TyX K H (.ref b) (.ref (t.cls FC VC LC GC)) := by
  obtain ⟨dx, fs, _, _, hb, _⟩ := h.has ok
  have I := Z.ins _ (Rk.of t)
  exact .base (.ins hb I.cl I.ha I.hn I.htk I.hm)
theorem RlZ.no (Z : RlZ K mg FC VC LC GC) {H : Hp} {t : Rl} {b C : Addr} (h : RlAt FC VC LC GC H t b) (ok : t.Ok) (hC : Rk FC VC LC GC C) (ne : t.cls FC VC LC GC ≠ C) : NoI K C H (.ref b) :=
  ⟨_, .x (Z.tz h ok), by rw [Z.kit _ _ (Rk.of t) hC, decide_eq_false ne]⟩
theorem fx_te (Z : RlZ K mg FC VC LC GC) {k n : Nat} {f : Addr} {fd : FuncData} {ps : List Str} (F : FnOk P w K mg base (L2.CX P w) k f fd ps (spFxe K FC)) : FnOk P w K mg base (L2.CX P w) k f fd ps (spTe FC VC LC GC n FC) := F.imp fun vs H Q E h => by
  obtain ⟨a, b, s, t, rfl, hc, ha, hb, os, ot, _, q⟩ := h
  cases s with
  | fx m =>
    refine ⟨a, .ref b, m, rfl, ha, ?_⟩
    cases t with
    | fx i =>
      exact .inr ⟨b, i, rfl, hb, q⟩
    | dv x y w => exact .inl ⟨Z.no hb ot (.inl rfl) Z.d1.symm, q⟩
    | lo x y => exact .inl ⟨Z.no hb ot (.inl rfl) Z.d2.symm, q⟩
    | hi x y => exact .inl ⟨Z.no hb ot (.inl rfl) Z.d3.symm, q⟩
  | dv x y w => exact absurd hc.symm Z.d1
  | lo x y => exact absurd hc.symm Z.d2
  | hi x y => exact absurd hc.symm Z.d3
theorem dv_te (Z : RlZ K mg FC VC LC GC) {k n : Nat} {f : Addr} {fd : FuncData} {ps : List Str} (F : FnOk P w K mg base (L2.CX P w) k f fd ps (spDve K VC)) : FnOk P w K mg base (L2.CX P w) k f fd ps (spTe FC VC LC GC n VC) := F.imp fun vs H Q E h => by
  obtain ⟨a, b, s, t, rfl, hc, ha, hb, os, ot, _, q⟩ := h
  cases s with
  | fx m => exact absurd hc Z.d1
  | dv x y q0 =>
    refine ⟨a, .ref b, x, y, q0, rfl, ha, ?_⟩
    cases t with
    | fx i => exact .inl ⟨Z.no hb ot (.inr (.inl rfl)) Z.d1, q⟩
    | dv x' y' q' =>
      exact .inr ⟨b, x', y', q', rfl, hb, q⟩
    | lo x y => exact .inl ⟨Z.no hb ot (.inr (.inl rfl)) Z.d4.symm, q⟩
    | hi x y => exact .inl ⟨Z.no hb ot (.inr (.inl rfl)) Z.d5.symm, q⟩
  | lo x y => exact absurd hc.symm Z.d4
  | hi x y => exact absurd hc.symm Z.d5
theorem scLoq : FnScope ["self", "other"] ["self", "other"] (C8.fnScope sLoq) := C8.fnScope_by (by decide +kernel)
theorem fn_loq {f : Addr} {fd : FuncData} (F : C8.Fun K "__eq__" "Lesser.__eq__" sLoq f fd) (T : Txt mg) (Z : RlZ K mg FC VC LC GC) (nf : ∀ C D, Rk FC VC LC GC C → Rk FC VC LC GC D → PySem.W.notFirst K C (.ref D) = true) {n : Nat} (W : MetP P w K mg base (1 + n) (Rk FC VC LC GC) "__eq__" (spTe FC VC LC GC n)) : FnOk P w K mg base (L2.CX P w) (2 + n) f fd ["self", "other"] (spTe FC VC LC GC (n + 1) LC) := by
  obtain ⟨oc, od, dV, kV, doc, pm, an, cdv, ct, osl, rfl, lk, hcd⟩ := F.ex
  rw [show 2 + n = (1 + n) + 1 by omega]
  refine fn_of lk hcd scLoq (fun vs H Q E h => ?_) fun A outer s H vs Q E hr h => ?_
  · obtain ⟨a, b, s, t, rfl, _⟩ := h
    rfl
  · obtain ⟨a, b, s, t, rfl, hc, ha, hb, os, ot, hn, q⟩ := h
    refine ⟨_, (pss_one (ps_ret (pe_and (pe_callB L2.call_isi (by rfl) T.n_isinstance (by decide +kernel) (pa_cons (pv 1) (pa_cons (pe_glob (v := .ref LC) (by rfl) Z.hL rfl) pa_nil))) (pe_and (pe_cmpR (op_eqPE K rfl W (passes_call takes0 (fun _ _ _ _ z => z)) hr (Nat.le_refl _)) (pe_fldK K rfl (pv 0) rfl) (pe_fldK K rfl (pv 1) rfl) (nomark _)) (pe_one (pe_cmpR (op_eqPE K rfl W (passes_call takes0 (fun _ _ _ _ z => z)) hr (Nat.le_refl _)) (pe_fldK K rfl (pv 0) rfl) (pe_fldK K rfl (pv 1) rfl) (nomark _))))))), ?_⟩
    obtain ⟨s1, s2, rfl⟩ : ∃ s1 s2, s = .lo s1 s2 := by
      cases s with
      | fx m => exact absurd hc Z.d2
      | dv x y w => exact absurd hc Z.d4
      | lo x y => exact ⟨x, y, rfl⟩
      | hi x y => exact absurd hc.symm Z.d6
    obtain ⟨dx, p, c1, c2, ps, h1, h2, h3, h4, h5⟩ := id ha
    obtain ⟨o1, o2, _, _⟩ := id os
    have n1 : s1.cnt + s2.cnt ≤ n + 1 := hn
    have p1 := Rl.cnt_pos s1
    have p2 := Rl.cnt_pos s2
    have tz := Z.tz hb ot
    have kt := fun D hD => Z.kit (t.cls FC VC LC GC) D (Rk.of t) hD
    cases t with
    | fx m => exact ⟨_, rfl, _, .ref LC, _, .ref LC, false, rfl, .own LC, tz, ((kt LC (.inr (.inr (.inl rfl)))).trans (congrArg some (decide_eq_false Z.d2))), _, rfl, iteF q⟩
    | dv x y w => exact ⟨_, rfl, _, .ref LC, _, .ref LC, false, rfl, .own LC, tz, ((kt LC (.inr (.inr (.inl rfl)))).trans (congrArg some (decide_eq_false Z.d4))), _, rfl, iteF q⟩
    | hi x y => exact ⟨_, rfl, _, .ref LC, _, .ref LC, false, rfl, .own LC, tz, ((kt LC (.inr (.inr (.inl rfl)))).trans (congrArg some (decide_eq_false Z.d6.symm))), _, rfl, iteF q⟩
    | lo t1 t2 =>
      obtain ⟨dy, p', e1, e2, ps', g1, g2, g3, g4, g5⟩ := id hb
      obtain ⟨r1, r2, _, _⟩ := id ot
      obtain ⟨dc1, fc1, _, _, hc1, _⟩ := h4.has o1
      obtain ⟨dc2, fc2, _, _, hc2, _⟩ := h5.has o2
      refine ⟨_, rfl, _, .ref LC, _, .ref LC, true, rfl, .own LC, tz, ((kt LC (.inr (.inr (.inl rfl)))).trans (congrArg some (decide_eq_true rfl))), _, rfl, iteT ?_⟩
      have q' : Q (.bl (s1.eqb t1 && s2.eqb t2)) H := q
      refine ⟨_, rfl, a, LC, dx, _, _, rfl, h1, Z.L.cl, Z.L.n1, jnP_one _ _ _ _, _, rfl, b, LC, dy, _, _, rfl, g1, Z.L.cl, Z.L.n1, jnP_one _ _ _ _, c1, _, dc1, fc1, _, rfl, Rk.of s1, hc1, Z.tz g4 r1, nf _ _ (Rk.of s1) (Rk.of t1), c1, e1, s1, t1, rfl, rfl, h4, g4, o1, r1, by omega, ?_⟩
      cases x1 : s1.eqb t1 with
      | false =>
        rw [x1, Bool.false_and] at q'
        exact ⟨_, rfl, iteF q'⟩
      | true =>
        rw [x1, Bool.true_and] at q'
        exact ⟨_, rfl, iteT ⟨_, rfl, a, LC, dx, _, _, rfl, h1, Z.L.cl, Z.L.n2, jnP_other _ _ _ _, _, rfl, b, LC, dy, _, _, rfl, g1, Z.L.cl, Z.L.n2, jnP_other _ _ _ _, c2, _, dc2, fc2, _, rfl, Rk.of s2, hc2, Z.tz g5 r2, nf _ _ (Rk.of s2) (Rk.of t2), c2, e2, s2, t2, rfl, rfl, h5, g5, o2, r2, by omega, q'⟩⟩
theorem scHiq : FnScope ["self", "other"] ["self", "other"] (C8.fnScope sHiq) := C8.fnScope_by (by decide +kernel)
theorem fn_hiq {f : Addr} {fd : FuncData} (F : C8.Fun K "__eq__" "Greater.__eq__" sHiq f fd) (T : Txt mg) (Z : RlZ K mg FC VC LC GC) (nf : ∀ C D, Rk FC VC LC GC C → Rk FC VC LC GC D → PySem.W.notFirst K C (.ref D) = true) {n : Nat} (W : MetP P w K mg base (1 + n) (Rk FC VC LC GC) "__eq__" (spTe FC VC LC GC n)) : FnOk P w K mg base (L2.CX P w) (2 + n) f fd ["self", "other"] (spTe FC VC LC GC (n + 1) GC) := by
  obtain ⟨oc, od, dV, kV, doc, pm, an, cdv, ct, osl, rfl, lk, hcd⟩ := F.ex
  rw [show 2 + n = (1 + n) + 1 by omega]
  refine fn_of lk hcd scHiq (fun vs H Q E h => ?_) fun A outer s H vs Q E hr h => ?_
  · obtain ⟨a, b, s, t, rfl, _⟩ := h
    rfl
  · obtain ⟨a, b, s, t, rfl, hc, ha, hb, os, ot, hn, q⟩ := h
    refine ⟨_, (pss_one (ps_ret (pe_and (pe_callB L2.call_isi (by rfl) T.n_isinstance (by decide +kernel) (pa_cons (pv 1) (pa_cons (pe_glob (v := .ref GC) (by rfl) Z.hG rfl) pa_nil))) (pe_and (pe_cmpR (op_eqPE K rfl W (passes_call takes0 (fun _ _ _ _ z => z)) hr (Nat.le_refl _)) (pe_fldK K rfl (pv 0) rfl) (pe_fldK K rfl (pv 1) rfl) (nomark _)) (pe_one (pe_cmpR (op_eqPE K rfl W (passes_call takes0 (fun _ _ _ _ z => z)) hr (Nat.le_refl _)) (pe_fldK K rfl (pv 0) rfl) (pe_fldK K rfl (pv 1) rfl) (nomark _))))))), ?_⟩
    obtain ⟨s1, s2, rfl⟩ : ∃ s1 s2, s = .hi s1 s2 := by
      cases s with
      | fx m => exact absurd hc Z.d3
      | dv x y w => exact absurd hc Z.d5
      | lo x y => exact absurd hc Z.d6
      | hi x y => exact ⟨x, y, rfl⟩
    obtain ⟨dx, p, c1, c2, ps, h1, h2, h3, h4, h5⟩ := id ha
    obtain ⟨o1, o2, _, _⟩ := id os
    have n1 : s1.cnt + s2.cnt ≤ n + 1 := hn
    have p1 := Rl.cnt_pos s1
    have p2 := Rl.cnt_pos s2
    have tz := Z.tz hb ot
    have kt := fun D hD => Z.kit (t.cls FC VC LC GC) D (Rk.of t) hD
    cases t with
    | fx m => exact ⟨_, rfl, _, .ref GC, _, .ref GC, false, rfl, .own GC, tz, ((kt GC (.inr (.inr (.inr rfl)))).trans (congrArg some (decide_eq_false Z.d3))), _, rfl, iteF q⟩
    | dv x y w => exact ⟨_, rfl, _, .ref GC, _, .ref GC, false, rfl, .own GC, tz, ((kt GC (.inr (.inr (.inr rfl)))).trans (congrArg some (decide_eq_false Z.d5))), _, rfl, iteF q⟩
    | lo x y => exact ⟨_, rfl, _, .ref GC, _, .ref GC, false, rfl, .own GC, tz, ((kt GC (.inr (.inr (.inr rfl)))).trans (congrArg some (decide_eq_false Z.d6))), _, rfl, iteF q⟩
    | hi t1 t2 =>
      obtain ⟨dy, p', e1, e2, ps', g1, g2, g3, g4, g5⟩ := id hb
      obtain ⟨r1, r2, _, _⟩ := id ot
      obtain ⟨dc1, fc1, _, _, hc1, _⟩ := h4.has o1
      obtain ⟨dc2, fc2, _, _, hc2, _⟩ := h5.has o2
      refine ⟨_, rfl, _, .ref GC, _, .ref GC, true, rfl, .own GC, tz, ((kt GC (.inr (.inr (.inr rfl)))).trans (congrArg some (decide_eq_true rfl))), _, rfl, iteT ?_⟩
      have q' : Q (.bl (s1.eqb t1 && s2.eqb t2)) H := q
      refine ⟨_, rfl, a, GC, dx, _, _, rfl, h1, Z.G.cl, Z.G.n1, jnP_one _ _ _ _, _, rfl, b, GC, dy, _, _, rfl, g1, Z.G.cl, Z.G.n1, jnP_one _ _ _ _, c1, _, dc1, fc1, _, rfl, Rk.of s1, hc1, Z.tz g4 r1, nf _ _ (Rk.of s1) (Rk.of t1), c1, e1, s1, t1, rfl, rfl, h4, g4, o1, r1, by omega, ?_⟩
      cases x1 : s1.eqb t1 with
      | false =>
        rw [x1, Bool.false_and] at q'
        exact ⟨_, rfl, iteF q'⟩
      | true =>
        rw [x1, Bool.true_and] at q'
        exact ⟨_, rfl, iteT ⟨_, rfl, a, GC, dx, _, _, rfl, h1, Z.G.cl, Z.G.n2, jnP_other _ _ _ _, _, rfl, b, GC, dy, _, _, rfl, g1, Z.G.cl, Z.G.n2, jnP_other _ _ _ _, c2, _, dc2, fc2, _, rfl, Rk.of s2, hc2, Z.tz g5 r2, nf _ _ (Rk.of s2) (Rk.of t2), c2, e2, s2, t2, rfl, rfl, h5, g5, o2, r2, by omega, q'⟩⟩
theorem spTe_none {C : Addr} {vs : List V} {H : Hp} {Q : VK} {E : XK} (h : spTe FC VC LC GC 0 C vs H Q E) : False := by
  obtain ⟨_, _, s, _, _, _, _, _, _, _, hn, _⟩ := h
  have := Rl.cnt_pos s
  omega
/-- == of every two rules, by the number of parts of the left one -/
theorem eqP (T : Txt mg) (Z : RlZ K mg FC VC LC GC) (nf : ∀ C D, Rk FC VC LC GC C → Rk FC VC LC GC D → PySem.W.notFirst K C (.ref D) = true) {f1 f2 f3 f4 : Addr} {d1 d2 d3 d4 : FuncData}
    (F1 : C8.Fun K "__eq__" "Fixed.__eq__" sFxe f1 d1) (m1 : Meth K FC "__eq__" f1) (b1 : Binds K d1 ["self", "other"] []) (F2 : C8.Fun K "__eq__" "Divided.__eq__" sDve f2 d2) (m2 : Meth K VC "__eq__" f2) (b2 : Binds K d2 ["self", "other"] [])
    (F3 : C8.Fun K "__eq__" "Lesser.__eq__" sLoq f3 d3) (m3 : Meth K LC "__eq__" f3) (b3 : Binds K d3 ["self", "other"] []) (F4 : C8.Fun K "__eq__" "Greater.__eq__" sHiq f4 d4) (m4 : Meth K GC "__eq__" f4) (b4 : Binds K d4 ["self", "other"] []) :
    ∀ n, MetP P w K mg base (1 + n) (Rk FC VC LC GC) "__eq__" (spTe FC VC LC GC n)
  | 0 => ⟨fun C hC => by
    have no : ∀ {f : Addr} {fd : FuncData}, FnOk P w K mg base (L2.CX P w) 1 f fd ["self", "other"] (spTe FC VC LC GC 0 C) := fun {f fd} => ⟨fun _ _ _ _ h => (spTe_none h).elim, fun _ _ _ _ _ _ _ _ _ _ _ _ _ h => (spTe_none h).elim⟩
    rcases hC with rfl | rfl | rfl | rfl
    · exact ⟨_, _, _, m1, no, b1⟩
    · exact ⟨_, _, _, m2, no, b2⟩
    · exact ⟨_, _, _, m3, no, b3⟩
    · exact ⟨_, _, _, m4, no, b4⟩⟩
  | n + 1 => ⟨fun C hC => by
    have W := eqP T Z nf F1 m1 b1 F2 m2 b2 F3 m3 b3 F4 m4 b4 n
    rw [show 1 + (n + 1) = 2 + n by omega]
    rcases hC with rfl | rfl | rfl | rfl
    · exact ⟨_, _, _, m1, (fx_te Z (fn_fxe F1 T Z.F Z.hF (Z.ins _ (.inl rfl)))).mono (by omega), b1⟩
    · exact ⟨_, _, _, m2, (dv_te Z (fn_dve F2 T Z.V Z.hV (Z.ins _ (.inr (.inl rfl))))).mono (by omega), b2⟩
    · exact ⟨_, _, _, m3, fn_loq F3 T Z nf W, b3⟩
    · exact ⟨_, _, _, m4, fn_hiq F4 T Z nf W, b4⟩⟩
end
end Lw
namespace Lw
open PySem PySem.Spec PyProof.Rows L2
end Lw
namespace Lw.Ow
open PySem PySem.Spec PyProof.Rows PySem.W PySem.Calls
section
variable {prog : Program} {w : World} {A : Around} {E : Value → Shared → Prop} {s : Shared} {K : Frag} {x b C D f f' : Addr} {ox oy : Obj} {od od' : Option Obj}
/-- the first half of an operator of two own instances, neither class derived from the other -/
theorem half_other {nm : String} {Q : Value → Shared → Prop} (X : K.In s.heap) (I : InstAt s.heap x ox C od) (J : InstAt s.heap b oy D od') (ne : C ≠ D) (hc : selfFirst K C = true) (hd : selfFirst K D = true)
    (hs : findIn K (.ref C) (PySem.dunder nm) = some (some (.ref f))) (hf : isFn K (.ref f) = true) (hr : findIn K (.ref C) (dunderR nm) = some none)
    (hs' : findIn K (.ref D) (PySem.dunder nm) = some (some (.ref f'))) (hr' : findIn K (.ref D) (dunderR nm) = some none) (hsub : subIn K (.ref D) (.ref C) = some false)
    (h : wpAny (model prog w) A (call (.ref f) [.ref x, .ref b]) (PySem.W.CmpBack Q) E s) : wpAny (model prog w) A (binaryOp1 nm (.ref x) (.ref b)) (Told Q) E s := by
  obtain ⟨cd, rest, hcd, hm⟩ := ksp_first hc
  obtain ⟨cd', rest', hcd', hm'⟩ := ksp_first hd
  have one := ksp_try X I hs hf h
  obtain ⟨hh, g, d, tt, os⟩ := s
  have L1 : Looks (model prog w) hh (typeOf (.ref x)) (.ref C) := I.type
  have L2 : Looks (model prog w) hh (typeOf (.ref b)) (.ref D) := J.type
  have L3 : Looks (model prog w) hh (fillsNumberSlot (.ref C) nm) true := fills_K X hcd hm hs
  have L4 : Looks (model prog w) hh (fillsNumberSlot (.ref D) nm) true := fills_K X hcd' hm' hs'
  have L5 : Looks (model prog w) hh (isSubtype (.ref D) (.ref C)) false := looks_subIn X hsub
  have L6 : Looks (model prog w) hh (numberSlotInPython (.ref C) nm) true := ksp_inPy X hs hr (.inl rfl)
  have L7 : Looks (model prog w) hh (numberSlotInPython (.ref D) nm) true := ksp_inPy X hs' hr' (.inl rfl)
  have hne : (Value.ref C == Value.ref D) = false := Bool.eq_false_iff.mpr fun q => by cases beq_iff_eq.mp q; exact ne rfl
  unfold binaryOp1
  refine wpAny_bind (L1.at (wpAny_bind (L2.at (wpAny_bind (L3.at ?_)))))
  simp only [hne, Bool.false_eq_true, if_false]
  ksp_lk
  refine wpAny_mono one (fun r s' z => ?_) fun _ _ e => e
  obtain ⟨v, rfl, hq⟩ := z
  ksp_lk
  exact ⟨v, rfl, hq⟩
/-- a class with one own class above it, none with the operator -/
theorem bare_inplace3 {nm : String} {add : Bool} {cd : ClassData} {U : Addr} {h : Heap} {M : Model} (X : K.In h) (hc : clsIn K C = some cd) (hm : cd.mro = [.ref C, .ref U, .type "object"]) (h1 : findIn K (.ref C) (dunderI nm) = some none) (h3 : findIn K (.ref U) (dunderI nm) = some none) (h2 : findIn K (.type "object") (dunderI nm) = some none) : Looks M h (fillsInplaceSlot (.ref C) nm add) false := by
  intro A Q E s k q
  have Lm : Looks M h (mroOf (.ref C)) cd.mro := (looks_clsIn X hc).andThen (f := fun cd => pure cd.mro) .now
  have Lm2 := Lm.keeps k
  obtain ⟨hh, gg, d, tt, os⟩ := s
  have X2 : K.In hh := X.keeps k
  have L1 : Looks M hh (typeLookup (.ref C) (dunderI nm)) none := looks_findIn X2 h1
  have L3 : Looks M hh (typeLookup (.ref U) (dunderI nm)) none := looks_findIn X2 h3
  have L2 : Looks M hh (typeLookup (.type "object") (dunderI nm)) none := looks_findIn X2 h2
  unfold fillsInplaceSlot
  refine wpAny_bind (Lm2.at ?_)
  rw [hm, List.anyM_cons]
  refine wpAny_bind (wpAny_bind (L1.at ?_))
  refine wpAny_pure ?_
  rw [List.anyM_cons]
  refine wpAny_bind (wpAny_bind (L3.at ?_))
  refine wpAny_pure ?_
  rw [List.anyM_cons]
  refine wpAny_bind (wpAny_bind (L2.at ?_))
  refine wpAny_pure ?_
  rw [List.anyM_nil]
  exact wpAny_pure q
theorem inplace_of3 {op : Operator} {b : Value} {cd : ClassData} {U : Addr} {Q : Value → Shared → Prop} (X : K.In s.heap) (I : InstAt s.heap x ox C od) (hc : clsIn K C = some cd) (hm : cd.mro = [.ref C, .ref U, .type "object"]) (h1 : findIn K (.ref C) (dunderI op.info.2) = some none) (h3 : findIn K (.ref U) (dunderI op.info.2) = some none) (h2 : findIn K (.type "object") (dunderI op.info.2) = some none)
    (h : wpAny (model prog w) A (binaryOp1 op.info.2 (.ref x) b) (Told Q) E s) : wpAny (model prog w) A (inplaceOp op (.ref x) b) Q E s := by
  have L1 : Looks (model prog w) s.heap (typeOf (.ref x)) (.ref C) := I.type
  have L2 : Looks (model prog w) s.heap (fillsInplaceSlot (.ref C) op.info.2 (op == .Add)) false := bare_inplace3 X hc hm h1 h3 h2
  unfold inplaceOp
  refine wpAny_holding ?_
  refine wpAny_bind (L1.here (wpAny_bind (L2.here ?_)))
  simp only [Bool.false_eq_true, if_false, pure_bind]
  refine wpAny_bind (wpAny_mono h (fun r s' z => ?_) fun _ _ e => e)
  obtain ⟨v, rfl, hq⟩ := z
  exact wpAny_pure hq
/-- the first half told is the operator -/
theorem whole_of {op : Operator} {a b : Value} {Q : Value → Shared → Prop} (h : wpAny (model prog w) A (binaryOp1 op.info.2 a b) (Told Q) E s) : wpAny (model prog w) A (binaryOp op a b) Q E s := by
  rcases hi : op.info with ⟨sym, nm'⟩
  rw [hi] at h
  simp only [binaryOp, hi]
  refine wpAny_holding (wpAny_bind (wpAny_mono h (fun r s' z => ?_) fun _ _ e => e))
  obtain ⟨v, rfl, hq⟩ := z
  exact wpAny_pure hq
end
def BT7 : List String := ["int", "bool", "NoneType", "str", "tuple", "list", "dict"]
def Nm2 : List String := ["and", "or"]
theorem bt7_find {T nm : String} (h : T ∈ BT7) (h2 : nm ∈ Nm2) : (∃ fo, fastLookup T (PySem.dunder nm) = some fo) ∧ ∃ ro, fastLookup T (dunderR nm) = some ro := by
  have all : (BT7.all fun T => Nm2.all fun nm => (fastLookup T (PySem.dunder nm)).isSome && (fastLookup T (dunderR nm)).isSome) = true := by decide +kernel
  have z := List.all_eq_true.mp (List.all_eq_true.mp all T h) nm h2
  rw [Bool.and_eq_true] at z
  exact ⟨Option.isSome_iff_exists.mp z.1, Option.isSome_iff_exists.mp z.2⟩
theorem bt7_sub {K : Frag} {C : Addr} {T : String} (h : T ∈ BT7) : subIn K (.type T) (.ref C) = some false := by
  simp only [BT7, List.mem_cons, List.not_mem_nil, or_false] at h
  rcases h with rfl | rfl | rfl | rfl | rfl | rfl | rfl <;> kernel_rfl
end Lw.Ow
namespace Lw
open PySem PySem.Spec PyProof.Rows L2 LamX
open SX PySem.NumText TL LamX ClX StX
set_option pp.maxSteps 900
/-- operators of some own classes below UC, none with an in-place one -/
structure OpQ (K : PySem.W.Frag) (Pc : Addr → Prop) (UC : Addr) (nm : String) : Prop where
  nms : nm ∈ Ow.Nm2
  first : ∀ C, Pc C → PySem.W.selfFirst K C = true
  back : ∀ C, Pc C → PySem.W.findIn K (.ref C) (dunderR nm) = some none
  sub : ∀ C D, Pc C → Pc D → C ≠ D → PySem.W.subIn K (.ref D) (.ref C) = some false
  mro : ∀ C, Pc C → ∃ cd, PySem.W.clsIn K C = some cd ∧ cd.mro = [.ref C, .ref UC, .type "object"]
  own : ∀ C, Pc C → PySem.W.findIn K (.ref C) (dunderI nm) = some none
  mid : PySem.W.findIn K (.ref UC) (dunderI nm) = some none
  obj : PySem.W.findIn K (.type "object") (dunderI nm) = some none
/-- what may stand on the right: one of the classes, or a built-in value -/
def Rt (K : PySem.W.Frag) (Pc : Addr → Prop) (H : Hp) (y : V) : Prop := (∃ b D dy gs, y = .ref b ∧ Pc D ∧ H b = some (.ins D dy gs)) ∨ ∃ T, TyX K H y (.type T) ∧ T ∈ Ow.BT7
theorem Rt.same {K : PySem.W.Frag} {Pc : Addr → Prop} {H H' : Hp} {y : V} (s : Same H H') (h : Rt K Pc H y) : Rt K Pc H' y := by
  rcases h with ⟨b, D, dy, gs, e, pd, hb⟩ | ⟨T, h, m⟩
  · exact .inl ⟨b, D, dy, gs, e, pd, s _ _ hb⟩
  · exact .inr ⟨T, Lw.TyX.same s h, m⟩
def rAny (K : PySem.W.Frag) (Pc : Addr → Prop) (sp : Addr → Sp) (E : XK) : R2 := fun x y H Q => ∃ a C dx fs, x = .ref a ∧ Pc C ∧ H a = some (.ins C dx fs) ∧ Rt K Pc H y ∧ sp C [x, y] H Q E
section
variable {X : Cx} {Pc : Addr → Prop} {k j : Nat} {sp : Addr → Sp} {E : XK} {UC : Addr} {op : Operator} {nm : String}
theorem half_any {pins : List (Addr × Obj)} {s : Shared} {σ : L2.St} {H : Hp} {x y : V} {v u : Value} {Q : VK} (M : MetP X.prog X.w X.K X.mg X.base k Pc (PySem.dunder nm) sp) (O : OpQ X.K Pc UC nm) (hx : Passes (L2.CX X.prog X.w) X E) (hr : Room j X.A) (hk : k ≤ j)
    (I : Inv X pins σ H s) (rx : RelV x v) (ry : RelV y u) (h : rAny X.K Pc sp E x y H Q) : wpAny (model X.prog X.w) X.A (binaryOp1 nm v u) (Ow.Told (EP X pins σ Q)) X.xe s := by
  obtain ⟨a, C, dx, fs, rfl, pc, ha, hy, q⟩ := h
  cases (show v = Value.ref a from rx)
  obtain ⟨_, _, J⟩ := ins_at I ha
  obtain ⟨g, hm, w, _⟩ := run_met (us := [.ref a, u]) (vs := [.ref a, y]) (M.all C pc) hx hr hk I (.cons rfl (.cons ry .nil)) q
  rcases hy with ⟨b, D, dy, gs, rfl, pd, hb⟩ | ⟨T, hT, mT⟩
  · cases (show u = Value.ref b from ry)
    obtain ⟨_, _, J'⟩ := ins_at I hb
    by_cases ne : C = D
    · subst ne
      exact Ow.half_same I.kIn J J'.type (O.first C pc) hm.at_ hm.fn w
    · obtain ⟨g', _, _, hm', _⟩ := (M.all D pd).ex
      exact Ow.half_other I.kIn J J' ne (O.first C pc) (O.first D pd) hm.at_ hm.fn (O.back C pc) hm'.at_ (O.back D pd) (O.sub C D pc pd ne) w
  · obtain ⟨W, Z, p, _⟩ := kit_of I ry hT
    obtain ⟨⟨fo, h3⟩, ⟨ro, h4⟩⟩ := Ow.bt7_find mT O.nms
    exact Ow.half_left I.kIn J (Z.ty _ _ I.kIn p) (O.first C pc) hm.at_ hm.fn (O.back C pc) (.inl rfl) h3 h4 (Ow.bt7_sub mT) w
theorem op_any (K' : PySem.W.Frag) (hK : X.K = K') (M : MetP X.prog X.w X.K X.mg X.base k Pc (PySem.dunder op.info.2) sp) (O : OpQ X.K Pc UC op.info.2) (hx : Passes (L2.CX X.prog X.w) X E) (hr : Room j X.A) (hk : k ≤ j) : OpR X (binaryOp op) (rAny K' Pc sp E) := by
  subst hK
  intro pins s σ H x y v u Q I rx ry h
  exact Ow.whole_of (half_any M O hx hr hk I rx ry h)
theorem iop_any (K' : PySem.W.Frag) (hK : X.K = K') (M : MetP X.prog X.w X.K X.mg X.base k Pc (PySem.dunder op.info.2) sp) (O : OpQ X.K Pc UC op.info.2) (hx : Passes (L2.CX X.prog X.w) X E) (hr : Room j X.A) (hk : k ≤ j) : OpR X (inplaceOp op) (rAny K' Pc sp E) := by
  subst hK
  intro pins s σ H x y v u Q I rx ry h
  have w := half_any M O hx hr hk I rx ry h
  obtain ⟨a, C, dx, fs, rfl, pc, ha, _⟩ := h
  cases (show v = Value.ref a from rx)
  obtain ⟨_, _, J⟩ := ins_at I ha
  obtain ⟨cd, h1, h2⟩ := O.mro C pc
  exact Ow.inplace_of3 I.kIn J h1 h2 (O.own C pc) O.mid O.obj w
end
/-! ### != of rules, lists of rules -/
section
variable {X : Cx} {Pc : Addr → Prop} {k j : Nat} {sp : Addr → Sp} {E : XK}
def rPN (K : PySem.W.Frag) (Pc : Addr → Prop) (sp : Addr → Sp) (E : XK) : R2 := fun x y H Q => ∃ a C dx fs t, x = .ref a ∧ Pc C ∧ H a = some (.ins C dx fs) ∧ L2.TyX K H y t ∧ PySem.W.notFirst K C t = true ∧ sp C [x, y] H (Nb Q) E
theorem op_nePE (K' : PySem.W.Frag) (hK : X.K = K') (nc : ∀ C, Pc C → NeC X.K C) (M : MetP X.prog X.w X.K X.mg X.base k Pc "__eq__" sp) (hx : Passes (L2.CX X.prog X.w) X E) (hr : Room j X.A) (hk : k + 1 ≤ j) : OpR X (compareOp .NotEq) (rPN K' Pc sp E) := by
  subst hK
  intro pins s σ H x y v u Q I rx ry h
  obtain ⟨a, C, dx, fs, t, rfl, pc, ha, hy, hn, q⟩ := h
  cases (show v = Value.ref a from rx)
  obtain ⟨_, _, J⟩ := ins_at I ha
  obtain ⟨W, Z, p, _⟩ := kit_of I ry hy
  have hr1 : Room k X.A.in1 := Room.in1 (hr.mono hk)
  obtain ⟨g, hm, w⟩ := run_metA (us := [.ref a, u]) (vs := [.ref a, y]) (M.all C pc) hx hr1 I.env0.in1 I (.cons rfl (.cons ry .nil)) q
  refine Ow.cmp_ne hr.units0 I.kIn J (Z.ty _ _ I.kIn p) hn (Ow.try_ne hr1.units0 I.kIn J (nc C pc).m (nc C pc).n hm.at_ hm.fn (wpAny_mono w (fun v s' z => ?_) fun _ _ x => x))
  obtain ⟨z', H', I', rz, c, rfl, qz⟩ := z
  cases (show v = Value.bool c from rz)
  exact ⟨c, rfl, .bl (!c), H', I', rfl, qz⟩
end
end Lw
namespace Lw
open PySem PySem.Spec PyProof.Rows L2
open SX PySem.NumText TL LamX ClX StX
set_option pp.maxSteps 900
abbrev sLef : Stmt := top 47
abbrev sPla : Stmt := top 48
namespace Rl
/-- the leaves keep their bounds -/
def Lf : Rl → Prop
  | .fx n => 1 ≤ n ∧ n ≤ 10 ^ 30 | .dv x y w => 0 ≤ x ∧ x ≤ 24 ∧ -1000 ≤ y ∧ y ≤ 1000 ∧ 1 ≤ w ∧ w ≤ 24
  | .lo a b => a.Lf ∧ b.Lf | .hi a b => a.Lf ∧ b.Lf
theorem Lf.mdl1 : ∀ {t : Rl}, t.Lf → 1 ≤ t.mdl
  | .fx _, _ => Nat.le_refl _
  | .dv _ _ w, h => by
    obtain ⟨_, _, _, _, h1, _⟩ := h
    show 1 ≤ w.toNat
    omega
  | .lo _ _, h => Nat.lcm_pos (Lf.mdl1 h.1) (Lf.mdl1 h.2)
  | .hi _ _, h => Nat.lcm_pos (Lf.mdl1 h.1) (Lf.mdl1 h.2)
theorem Lf.ok : ∀ {t : Rl}, t.Lf → t.cnt ≤ 6 → t.mdl ≤ 5000 → t.Ok
  | .fx _, h, _, _ => h
  | .dv _ _ _, h, _, _ => h
  | .lo a b, h, c, m => by
    have c : a.cnt + b.cnt ≤ 6 := c
    have m : Nat.lcm a.mdl b.mdl ≤ 5000 := m
    have p := Nat.lcm_pos h.1.mdl1 h.2.mdl1
    exact ⟨Lf.ok h.1 (by omega) (Nat.le_trans (Nat.le_of_dvd p (Nat.dvd_lcm_left _ _)) m), Lf.ok h.2 (by omega) (Nat.le_trans (Nat.le_of_dvd p (Nat.dvd_lcm_right _ _)) m), c, m⟩
  | .hi a b, h, c, m => by
    have c : a.cnt + b.cnt ≤ 6 := c
    have m : Nat.lcm a.mdl b.mdl ≤ 5000 := m
    have p := Nat.lcm_pos h.1.mdl1 h.2.mdl1
    exact ⟨Lf.ok h.1 (by omega) (Nat.le_trans (Nat.le_of_dvd p (Nat.dvd_lcm_left _ _)) m), Lf.ok h.2 (by omega) (Nat.le_trans (Nat.le_of_dvd p (Nat.dvd_lcm_right _ _)) m), c, m⟩
end Rl
/-- a rule as the law's nested tuples -/
def PlAt (H : Hp) : Rl → Addr → Prop
  | .fx n, a => H a = some (.tup [.str (Str.ofString "fixed"), .int n])
  | .dv x y w, a => H a = some (.tup [.str (Str.ofString "divided"), .int x, .int y, .int w])
  | .lo s t, a => ∃ b c, H a = some (.tup [.str (Str.ofString "&"), .ref b, .ref c]) ∧ PlAt H s b ∧ PlAt H t c
  | .hi s t, a => ∃ b c, H a = some (.tup [.str (Str.ofString "|"), .ref b, .ref c]) ∧ PlAt H s b ∧ PlAt H t c
/-- all tuples of texts, ints and references stay -/
def Tt (H H' : Hp) : Prop := ∀ a xs, H a = some (.tup xs) → H' a = some (.tup xs)
theorem PlAt.on {H H' : Hp} (s : Tt H H') : ∀ {t : Rl} {a : Addr}, PlAt H t a → PlAt H' t a
  | .fx _, _, h => s _ _ h
  | .dv _ _ _, _, h => s _ _ h
  | .lo _ _, _, ⟨b, c, h1, h2, h3⟩ => ⟨b, c, s _ _ h1, PlAt.on s h2, PlAt.on s h3⟩
  | .hi _ _, _, ⟨b, c, h1, h2, h3⟩ => ⟨b, c, s _ _ h1, PlAt.on s h2, PlAt.on s h3⟩
theorem tt_same {H H' : Hp} (s : Same H H') : Tt H H' := fun a xs h => s a _ h
theorem tt_kp {H H' : Hp} {p l : Addr} {n : Nat} (hp : Pen H p l n) (k : Kp p H H') : Tt H H' := fun a xs h => k a _ (fun e => by
  obtain ⟨_, _, _, ⟨e1, _⟩, _⟩ := hp
  rw [e, e1] at h
  cases h) h
theorem kp_trans {p : Addr} {H1 H2 H3 : Hp} (a : Kp p H1 H2) (b : Kp p H2 H3) : Kp p H1 H3 := fun x o n e => b x o n (a x o n e)
theorem kp_same {p : Addr} {H1 H2 : Hp} (s : Same H1 H2) : Kp p H1 H2 := fun x o _ e => s x o e
def spLef : Sp := fun vs H Q _ => ∃ (p pl : Addr) (n : Nat), vs = [.ref p] ∧ Pen H p pl n ∧ n ≤ 900000 ∧ ∀ t a H', t.Lf → t.cnt = 1 → PlAt H' t a → Pen H' p pl (n + 7) → Kp p H H' → Q (.ref a) H'
def spPla (n : Nat) : Sp := fun vs H Q _ => ∃ (p pl : Addr) (k m : Nat), vs = [.ref p, .int m] ∧ 1 ≤ m ∧ m ≤ n ∧ m ≤ 10 ∧ Pen H p pl k ∧ k + 20 * m ≤ 800000 ∧ ∀ t a H', t.Lf → t.cnt = m → PlAt H' t a → Pen H' p pl (k + (9 * m - 2)) → Kp p H H' → Q (.ref a) H'
theorem oneof {l : List Int} {j : Nat} {v : V} {lo hi : Int} (h : (l.map V.int)[j]? = some v) (b : ∀ i ∈ l, lo ≤ i ∧ i ≤ hi) : ∃ i, v = .int i ∧ lo ≤ i ∧ i ≤ hi := by
  rw [List.getElem?_map] at h
  cases e : l[j]? with
  | none => rw [e] at h; cases h
  | some i =>
    rw [e] at h
    cases h
    exact ⟨i, rfl, b i (List.mem_of_getElem? e)⟩
section
variable {P : Program} {w : World} {K : PySem.W.Frag} {mg : Str → Option Value} {base : Heap} {FC VC LC GC DR DM DU : Addr}
theorem scLef : FnScope ["_law_pen_here", "_law_x_so", "_law_y_so"] ["_law_pen_here"] (C8.fnScope sLef) := C8.fnScope_by (by decide +kernel)
theorem cal_lef {f : Addr} {fd : FuncData} (F : C8.Def K mg "_law_leaf" sLef f fd) (b : Binds K fd ["_law_pen_here"] []) (D0 : C8.Cal P w K mg base 1 "_law_draw" spDraw []) (DP : C8.Cal P w K mg base 2 "_law_pick" (spPick K) []) : C8.Cal P w K mg base 3 "_law_leaf" spLef [] := by
  refine C8.cal0 F b .nil scLef (fun vs H Q E h => ?_) (fun cdv A outer st H vs Q E hr h => ?_)
  · obtain ⟨p, pl, n, rfl, _⟩ := h
    rfl
  · obtain ⟨p, pl, n, rfl, hp, hn, k⟩ := h
    refine ⟨_, (pss_cons (ps_if (pt_cmpR op_eq (C8.pe_c D0 hr (by omega) (by rfl) (pa_cons (pv 0) (pa_cons pe_int pa_nil))) pe_int (nomark _)) (pss_one (ps_ret (pe_tup (pa_cons pe_str (pa_cons (C8.pe_c DP hr (by omega) (by rfl) (pa_cons (pv 0) (pa_cons (pe_lst (pa_cons pe_int (pa_cons pe_int (pa_cons pe_int (pa_cons pe_int (pa_cons (pe_op op_pow pe_int pe_int) (pa_cons (pe_op op_add pe_int (C8.pe_c D0 hr (by omega) (by rfl) (pa_cons (pv 0) (pa_cons pe_int pa_nil)))) pa_nil))))))) pa_nil))) pa_nil))))) pss_nil)
  (pss_cons (ps_set (i := 1) scLef.nd rfl (Or.inl rfl) (C8.pe_c DP hr (by omega) (by rfl) (pa_cons (pv 0) (pa_cons (pe_lst (pa_cons pe_int (pa_cons pe_int (pa_cons pe_int (pa_cons pe_int (pa_cons pe_int (pa_cons pe_int (pa_cons pe_int (pa_cons (C8.pe_c D0 hr (by omega) (by rfl) (pa_cons (pv 0) (pa_cons pe_int pa_nil))) pa_nil))))))))) pa_nil))))
  (pss_cons (ps_set (i := 2) scLef.nd rfl (Or.inl rfl) (C8.pe_c DP hr (by omega) (by rfl) (pa_cons (pv 0) (pa_cons (pe_lst (pa_cons pe_int (pa_cons pe_int (pa_cons pe_int (pa_cons (pe_un un_neg pe_int) (pa_cons pe_int (pa_cons (pe_un un_neg pe_int) (pa_cons pe_int (pa_cons (pe_un un_neg pe_int) (pa_cons (pe_op op_sub (C8.pe_c D0 hr (by omega) (by rfl) (pa_cons (pv 0) (pa_cons pe_int pa_nil))) pe_int) pa_nil)))))))))) pa_nil))))
  (pss_one (ps_ret (pe_tup (pa_cons pe_str (pa_cons (pv 1) (pa_cons (pv 2) (pa_cons (C8.pe_c DP hr (by omega) (by rfl) (pa_cons (pv 0) (pa_cons (pe_lst (pa_cons pe_int (pa_cons pe_int (pa_cons pe_int (pa_cons pe_int (pa_cons pe_int (pa_cons pe_int (pa_cons pe_int (pa_cons (pe_op op_add pe_int (C8.pe_c D0 hr (by omega) (by rfl) (pa_cons (pv 0) (pa_cons pe_int pa_nil)))) pa_nil))))))))) pa_nil))) pa_nil)))))))))), ?_⟩
    dsimp only [tSeq]
    refine ⟨_, rfl, p, pl, _, 4, rfl, by decide, by decide, hp, by omega, fun r1 H1 r10 r11 hp1 kp1 => ?_⟩
    refine ⟨rfl, _, rfl, ?_⟩
    by_cases c : V.int r1 = V.int 0
    · refine iteT' (decide_eq_true c) ?_
      refine ⟨_, rfl, _, _, rfl, rfl, (by unfold CPow; decide), _, rfl, p, pl, _, 30, rfl, by decide, by decide, hp1, by omega, fun r2 H2 r20 r21 hp2 kp2 => ⟨_, _, rfl, rfl, (by show 6 ≤ sizeLine; decide), fun qa fqa => ?_⟩⟩
      have s3 := same_new (o := HO.lst [V.int 1, V.int 2, V.int 3, V.int 8, V.int (10 ^ (30 : Int).toNat), V.int (1 + r2)]) fqa
      refine ⟨p, pl, qa, _, _, rfl, hp2.keep s3, by omega, SqL.of upd_same, hp2.ne_new fqa, by show 0 < 6; decide, by show 6 < 1000000; decide, fun j v H4 hj hp4 kp4 => ⟨(by show 2 ≤ sizeLine; decide), fun u fu => ?_⟩⟩
      obtain ⟨i, rfl, i1, i2⟩ := oneof (l := [1, 2, 3, 8, 10 ^ (30 : Int).toNat, 1 + r2]) (lo := 1) (hi := 10 ^ 30) hj (fun i hi => by
        simp only [List.mem_cons, List.not_mem_nil, or_false] at hi
        rcases hi with rfl | rfl | rfl | rfl | rfl | rfl <;> first | decide | (constructor <;> omega))
      exact k (.fx i) u _ ⟨i1, i2⟩ rfl upd_same ((hp4.keep (same_new fu)).more (by omega)) (kp_trans kp1 (kp_trans kp2 (kp_trans (kp_same s3) (kp_trans kp4 (kp_same (same_new fu))))))
    · refine iteF' (decide_eq_false c) ?_
      dsimp only [tNext, tSeq]
      refine ⟨_, rfl, _, rfl, p, pl, _, 25, rfl, by decide, by decide, hp1, by omega, fun r2 H2 r20 r21 hp2 kp2 => ⟨(by show 8 ≤ sizeLine; decide), fun qa fqa => ?_⟩⟩
      have s3 := same_new (o := HO.lst [V.int 0, V.int 1, V.int 1, V.int 1, V.int 2, V.int 5, V.int 24, V.int r2]) fqa
      refine ⟨p, pl, qa, _, _, rfl, hp2.keep s3, by omega, SqL.of upd_same, hp2.ne_new fqa, by show 0 < 8; decide, by show 8 < 1000000; decide, fun j v H4 hj hp4 kp4 => ?_⟩
      obtain ⟨x, rfl, x1, x2⟩ := oneof (l := [0, 1, 1, 1, 2, 5, 24, r2]) (lo := 0) (hi := 24) hj (fun i hi => by
        simp only [List.mem_cons, List.not_mem_nil, or_false] at hi
        rcases hi with rfl | rfl | rfl | rfl | rfl | rfl | rfl | rfl <;> first | decide | (constructor <;> omega))
      have ka := kp_trans kp1 (kp_trans kp2 (kp_trans (kp_same s3) kp4))
      clear kp1 kp2 s3 kp4 hp1 hp2 fqa hj
      dsimp only [gName]
      refine ⟨_, rfl, _, rfl, _, rfl, _, rfl, _, rfl, p, pl, _, 41, rfl, by decide, by decide, hp4, by omega, fun r3 H5 r30 r31 hp5 kp5 => ⟨_, _, rfl, rfl, (by show 9 ≤ sizeLine; decide), fun qb fqb => ?_⟩⟩
      have s6 := same_new (o := HO.lst [V.int 0, V.int 0, V.int 1, V.int (-1), V.int 5, V.int (-20), V.int 1000, V.int (-1000), V.int (r3 - 20)]) fqb
      refine ⟨p, pl, qb, _, _, rfl, hp5.keep s6, by omega, SqL.of upd_same, hp5.ne_new fqb, by show 0 < 9; decide, by show 9 < 1000000; decide, fun j2 v2 H7 hj2 hp7 kp7 => ?_⟩
      obtain ⟨y, rfl, y1, y2⟩ := oneof (l := [0, 0, 1, -1, 5, -20, 1000, -1000, r3 - 20]) (lo := -1000) (hi := 1000) hj2 (fun i hi => by
        simp only [List.mem_cons, List.not_mem_nil, or_false] at hi
        rcases hi with rfl | rfl | rfl | rfl | rfl | rfl | rfl | rfl | rfl <;> first | decide | (constructor <;> omega))
      have kb := kp_trans ka (kp_trans kp5 (kp_trans (kp_same s6) kp7))
      clear ka kp5 s6 kp7 hp4 hp5 fqb hj2
      dsimp only [gName]
      refine ⟨_, rfl, _, rfl, _, rfl, _, rfl, p, pl, _, 24, rfl, by decide, by decide, hp7, by omega, fun r4 H8 r40 r41 hp8 kp8 => ⟨_, _, rfl, rfl, (by show 8 ≤ sizeLine; decide), fun qc fqc => ?_⟩⟩
      have s9 := same_new (o := HO.lst [V.int 1, V.int 2, V.int 2, V.int 3, V.int 4, V.int 5, V.int 24, V.int (1 + r4)]) fqc
      refine ⟨p, pl, qc, _, _, rfl, hp8.keep s9, by omega, SqL.of upd_same, hp8.ne_new fqc, by show 0 < 8; decide, by show 8 < 1000000; decide, fun j3 v3 H10 hj3 hp10 kp10 => ⟨(by show 4 ≤ sizeLine; decide), fun u fu => ?_⟩⟩
      obtain ⟨q, rfl, q1, q2⟩ := oneof (l := [1, 2, 2, 3, 4, 5, 24, 1 + r4]) (lo := 1) (hi := 24) hj3 (fun i hi => by
        simp only [List.mem_cons, List.not_mem_nil, or_false] at hi
        rcases hi with rfl | rfl | rfl | rfl | rfl | rfl | rfl | rfl <;> first | decide | (constructor <;> omega))
      exact k (.dv x y q) u _ ⟨x1, x2, y1, y2, q1, q2⟩ rfl upd_same ((hp10.keep (same_new fu)).more (by omega)) (kp_trans kb (kp_trans kp8 (kp_trans (kp_same s9) (kp_trans kp10 (kp_same (same_new fu))))))
theorem scPla : FnScope ["_law_pen_here", "_law_many", "_law_few"] ["_law_pen_here", "_law_many"] (C8.fnScope sPla) := C8.fnScope_by (by decide +kernel)
theorem cal_pla1 {n : Nat} {f : Addr} {fd : FuncData} (F : C8.Def K mg "_law_plain" sPla f fd) (b : Binds K fd ["_law_pen_here", "_law_many"] []) (D0 : C8.Cal P w K mg base 1 "_law_draw" spDraw []) (DP : C8.Cal P w K mg base 2 "_law_pick" (spPick K) []) (DLf : C8.Cal P w K mg base 3 "_law_leaf" spLef []) (W : C8.Cal P w K mg base (3 + n) "_law_plain" (spPla n) []) : C8.Cal P w K mg base (4 + n) "_law_plain" (spPla (n + 1)) [] := by
  rw [show 4 + n = (3 + n) + 1 by omega]
  refine C8.cal0 F b .nil scPla (fun vs H Q E h => ?_) (fun cdv A outer st H vs Q E hr h => ?_)
  · obtain ⟨p, pl, k0, m, rfl, _⟩ := h
    rfl
  · obtain ⟨p, pl, k0, m, rfl, m1, mn, m10, hp, hk, k⟩ := h
    refine ⟨_, (pss_cons (ps_if (pt_cmpR op_lt (pv 1) pe_int (nomark _)) (pss_one (ps_ret (C8.pe_c DLf hr (by omega) (by rfl) (pa_cons (pv 0) pa_nil)))) pss_nil)
  (pss_cons (ps_set (i := 2) scPla.nd rfl (Or.inl rfl) (pe_op op_add pe_int (C8.pe_c D0 hr (by omega) (by rfl) (pa_cons (pv 0) (pa_cons (pe_op op_sub (pv 1) pe_int) pa_nil)))))
  (pss_one (ps_ret (pe_tup (pa_cons (C8.pe_c DP hr (by omega) (by rfl) (pa_cons (pv 0) (pa_cons (pe_lst (pa_cons pe_str (pa_cons pe_str pa_nil))) pa_nil))) (pa_cons (C8.pe_c W hr (Nat.le_refl _) (by rfl) (pa_cons (pv 0) (pa_cons (pv 2) pa_nil))) (pa_cons (C8.pe_c W hr (Nat.le_refl _) (by rfl) (pa_cons (pv 0) (pa_cons (pe_op op_sub (pv 1) (pv 2)) pa_nil))) pa_nil)))))))), ?_⟩
    dsimp only [tSeq]
    refine ⟨_, rfl, _, _, rfl, rfl, _, rfl, ?_⟩
    by_cases c : (m : Int) < 2
    · exact iteT' (decide_eq_true c) ⟨_, rfl, p, pl, k0, rfl, hp, by omega, fun t a H' lf ct pa hp' kp => k t a H' lf (by omega) pa (hp'.more (by omega)) kp⟩
    refine iteF' (decide_eq_false c) ?_
    dsimp only [tNext]
    refine ⟨_, rfl, _, rfl, _, _, rfl, rfl, p, pl, _, _, rfl, by omega, Int.lt_of_le_of_lt (by omega : (m : Int) - 1 ≤ 9) (by decide), hp, by omega, fun r H1 r0 r1 hp1 kp1 => ⟨_, _, rfl, rfl, ?_⟩⟩
    obtain ⟨rn, rfl⟩ := Int.eq_ofNat_of_zero_le r0
    dsimp only [gName]
    refine ⟨_, rfl, (by show 2 ≤ sizeLine; decide), fun qa fqa => ?_⟩
    have s2 := same_new (o := HO.lst [V.str (Str.ofString "&"), V.str (Str.ofString "|")]) fqa
    refine ⟨p, pl, qa, _, _, rfl, hp1.keep s2, by omega, SqL.of upd_same, hp1.ne_new fqa, by show 0 < 2; decide, by show 2 < 1000000; decide, fun j v H3 hj hp3 kp3 => ?_⟩
    have k3 := kp_trans kp1 (kp_trans (kp_same s2) kp3)
    refine ⟨_, rfl, _, rfl, p, pl, _, 1 + rn, congrArg (fun i => [V.ref p, V.int i]) (by omega), by omega, by omega, by omega, hp3, by omega, fun t1 a1 H4 lf1 ct1 pa1 hp4 kp4 => ?_⟩
    refine ⟨_, rfl, _, rfl, _, rfl, _, _, rfl, rfl, p, pl, _, m - (1 + rn), congrArg (fun i => [V.ref p, V.int i]) (by omega), by omega, by omega, by omega, hp4, by omega, fun t2 a2 H5 lf2 ct2 pa2 hp5 kp5 => ⟨(by show 3 ≤ sizeLine; decide), fun u fu => ?_⟩⟩
    have k5 := kp_trans k3 (kp_trans kp4 (kp_trans kp5 (kp_same (same_new (o := HO.tup [v, V.ref a1, V.ref a2]) fu))))
    have t6 := tt_same (same_new (o := HO.tup [v, V.ref a1, V.ref a2]) fu)
    have q1 := (pa1.on (tt_kp hp4 kp5)).on t6
    have q2 := pa2.on t6
    have pen := (hp5.keep (same_new (o := HO.tup [v, V.ref a1, V.ref a2]) fu)).more (m := k0 + (9 * m - 2)) (by omega)
    have hv := List.mem_of_getElem? hj
    simp only [List.mem_cons, List.not_mem_nil, or_false] at hv
    rcases hv with rfl | rfl
    · exact k (.lo t1 t2) u _ ⟨lf1, lf2⟩ (by show t1.cnt + t2.cnt = m; omega) ⟨a1, a2, upd_same, q1, q2⟩ pen k5
    · exact k (.hi t1 t2) u _ ⟨lf1, lf2⟩ (by show t1.cnt + t2.cnt = m; omega) ⟨a1, a2, upd_same, q1, q2⟩ pen k5
theorem cal_pla {f : Addr} {fd : FuncData} (F : C8.Def K mg "_law_plain" sPla f fd) (b : Binds K fd ["_law_pen_here", "_law_many"] []) (D0 : C8.Cal P w K mg base 1 "_law_draw" spDraw []) (DP : C8.Cal P w K mg base 2 "_law_pick" (spPick K) []) (DLf : C8.Cal P w K mg base 3 "_law_leaf" spLef []) : ∀ n, C8.Cal P w K mg base (3 + n) "_law_plain" (spPla n) []
  | 0 => ⟨f, fd, _, [], ⟨fun vs H Q E ⟨_, _, _, m, _, h1, h2, _⟩ => absurd h1 (by omega), fun _ _ _ _ _ _ _ _ _ _ _ _ _ ⟨_, _, _, m, _, h1, h2, _⟩ => absurd h1 (by omega)⟩, F.mgf, F.kp, b, .nil⟩
  | n + 1 => by
    have := cal_pla1 F b D0 DP DLf (cal_pla F b D0 DP DLf n)
    rw [show 3 + (n + 1) = 4 + n by omega]
    exact this
end
end Lw
namespace Lw
open PySem PySem.Spec PyProof.Rows L2
open SX PySem.NumText TL LamX ClX StX
set_option pp.maxSteps 900
abbrev sWsh : Stmt := top 50
abbrev sMad : Stmt := top 49
theorem no_out {i lo hi : Int} (h1 : lo ≤ i) (h2 : i ≤ hi) : inB (.int i) lo hi = true := by
  unfold inB
  simp only [Bool.and_eq_true, decide_eq_true_eq]
  exact ⟨h1, h2⟩
theorem fx_ok {K : PySem.W.Frag} {FC DS : Addr} {H : Hp} {E : XK} {R : Hp → Prop} {n : Int} {x dx : Addr} (n1 : 1 ≤ n) (n2 : n ≤ 10 ^ 30) (hx : H x = none) (hdx : H dx = none) (ne : dx ≠ x) (k : ∀ H', Same H H' → FxAt FC H' x n → R H') :
    spFxi K FC DS [.ref x, .int n] (upd (upd H dx (.own x)) x (.ins FC dx [])) (fun v H2 => v = .non ∧ R H2) E := by
  have h := FixV.make (K := K) (DS := DS) (FC := FC) (E := E) (H := H) (Q := fun v H' => v = .ref x → R H') (v := .int n) ⟨.int n, fun z => (by rw [no_out n1 n2] at z; cases z), fun m e _ _ a H' s f fa z => by cases e; cases z; exact k H' s fa⟩ x dx hx hdx ne
  have e : (fun (v : V) (H2 : Hp) => v = .non ∧ ((V.ref x) = .ref x → R H2)) = (fun v H2 => v = .non ∧ R H2) := by
    funext v H2
    simp
  rw [← e]
  exact h
theorem dv_ok {K : PySem.W.Frag} {VC DU : Addr} {H : Hp} {E : XK} {R : Hp → Prop} {i j w : Int} {x dx : Addr} (i1 : 0 ≤ i) (i2 : i ≤ 24) (j1 : -1000 ≤ j) (j2 : j ≤ 1000) (w1 : 1 ≤ w) (w2 : w ≤ 24) (hx : H x = none) (hdx : H dx = none) (ne : dx ≠ x) (k : ∀ H', Same H H' → DvAt VC H' x i j w → R H') :
    spDvi K VC DU [.ref x, .int i, .int j, .int w] (upd (upd H dx (.own x)) x (.ins VC dx [])) (fun v H2 => v = .non ∧ R H2) E := by
  have h := DivV.make (K := K) (DU := DU) (VC := VC) (E := E) (H := H) (Q := fun v H' => v = .ref x → R H') (vx := .int i) (vy := .int j) (vw := .int w) ⟨.int i, .int j, .int w, fun z => (by rw [no_out i1 i2] at z; cases z), fun a e _ _ => by
      cases e
      exact ⟨fun z => (by rw [no_out j1 j2] at z; cases z), fun b e _ _ => by
        cases e
        exact ⟨fun z => (by rw [no_out w1 w2] at z; cases z), fun c e _ _ a H' s f fa z => by cases e; cases z; exact k H' s fa⟩⟩⟩ x dx hx hdx ne
  have e : (fun (v : V) (H2 : Hp) => v = .non ∧ ((V.ref x) = .ref x → R H2)) = (fun v H2 => v = .non ∧ R H2) := by
    funext v H2
    simp
  rw [← e]
  exact h
theorem st_df : decide (V.str (Str.ofString "divided") = V.str (Str.ofString "fixed")) = false := by decide +kernel
theorem st_af : decide (V.str (Str.ofString "&") = V.str (Str.ofString "fixed")) = false := by decide +kernel
theorem st_ad : decide (V.str (Str.ofString "&") = V.str (Str.ofString "divided")) = false := by decide +kernel
theorem st_of : decide (V.str (Str.ofString "|") = V.str (Str.ofString "fixed")) = false := by decide +kernel
theorem st_od : decide (V.str (Str.ofString "|") = V.str (Str.ofString "divided")) = false := by decide +kernel
theorem st_oa : decide (V.str (Str.ofString "|") = V.str (Str.ofString "&")) = false := by decide +kernel
def spWs (n : Nat) : Sp := fun vs H Q _ => ∃ a t r, vs = [.ref a, .int r] ∧ PlAt H t a ∧ t.Ok ∧ t.cnt ≤ n ∧ 1 ≤ r ∧ r ≤ 10 ^ 31 ∧ Q (.int (t.wish r)) H
def spMd (FC VC LC GC : Addr) (n : Nat) : Sp := fun vs H Q _ => ∃ a t, vs = [.ref a] ∧ PlAt H t a ∧ t.Ok ∧ t.cnt ≤ n ∧ ∀ b H', Same H H' → RlAt FC VC LC GC H' t b → Q (.ref b) H'
section
variable {P : Program} {w : World} {K : PySem.W.Frag} {mg : Str → Option Value} {base : Heap} {FC VC LC GC DR DM_ DU DS fF fD : Addr} {fdF fdD : FuncData}
theorem scWsh : FnScope ["_law_plain_here", "_law_left", "_law_first_so", "_law_second_so"] ["_law_plain_here", "_law_left"] (C8.fnScope sWsh) := C8.fnScope_by (by decide +kernel)
theorem cal_wsh1 {n : Nat} {f : Addr} {fd : FuncData} (F : C8.Def K mg "_law_wish" sWsh f fd) (b : Binds K fd ["_law_plain_here", "_law_left"] []) (T : Txt mg) (W : C8.Cal P w K mg base n "_law_wish" (spWs n) []) : C8.Cal P w K mg base (n + 1) "_law_wish" (spWs (n + 1)) [] := by
  refine C8.cal0 F b .nil scWsh (fun vs H Q E h => ?_) (fun cdv A outer st H vs Q E hr h => ?_)
  · obtain ⟨a, t, r, rfl, _⟩ := h
    rfl
  · obtain ⟨a, t, r, rfl, pa, ok, hn, r1, r2, k⟩ := h
    refine ⟨_, (pss_cons (ps_if (pt_cmpR op_eq (pe_ix ix_tup (pv 0) pe_int (fun _ _ => rfl)) pe_str (nomark _)) (pss_one (ps_ret (pe_ix ix_tup (pv 0) pe_int (fun _ _ => rfl)))) pss_nil)
  (pss_cons (ps_if (pt_cmpR op_eq (pe_ix ix_tup (pv 0) pe_int (fun _ _ => rfl)) pe_str (nomark _)) (pss_one (ps_ret (pe_op op_fdivW (pe_callTy call_int1 (by rfl) T.n_int (by decide +kernel) (pa_cons (pe_op op_add (pe_op op_mulW (pe_ix ix_tup (pv 0) pe_int (fun _ _ => rfl)) (pv 1)) (pe_ix ix_tup (pv 0) pe_int (fun _ _ => rfl))) pa_nil)) (pe_ix ix_tup (pv 0) pe_int (fun _ _ => rfl))))) pss_nil)
  (pss_cons (ps_par (i := 2) (j := 3) rfl scWsh.nd rfl rfl (by decide) rfl rfl (pa_cons (pe_callTy call_int1 (by rfl) T.n_int (by decide +kernel) (pa_cons (C8.pe_c W hr (Nat.le_refl _) (by rfl) (pa_cons (pe_ix ix_tup (pv 0) pe_int (fun _ _ => rfl)) (pa_cons (pv 1) pa_nil))) pa_nil)) (pa_cons (pe_callTy call_int1 (by rfl) T.n_int (by decide +kernel) (pa_cons (C8.pe_c W hr (Nat.le_refl _) (by rfl) (pa_cons (pe_ix ix_tup (pv 0) pe_int (fun _ _ => rfl)) (pa_cons (pv 1) pa_nil))) pa_nil)) pa_nil)) (by rfl))
  (pss_one (ps_ret (pe_ifExp (pt_cmpR op_eq (pe_cmpR op_lt (pv 2) (pv 3) (nomark _)) (pe_cmpR op_eq (pe_ix ix_tup (pv 0) pe_int (fun _ _ => rfl)) pe_str (nomark _)) (nomark _)) (pv 2) (pv 3))))))), ?_⟩
    dsimp only [tSeq]
    cases t with
    | fx m => exact ⟨_, rfl, a, _, 0, _, rfl, rfl, SqT.of pa, rfl, rfl, _, rfl, iteT' (decide_eq_true rfl) ⟨_, rfl, a, _, 1, _, rfl, rfl, SqT.of pa, rfl, k⟩⟩
    | dv x y q =>
      obtain ⟨x0, x1, y0, y1, q0, q1⟩ := ok
      refine ⟨_, rfl, a, _, 0, _, rfl, rfl, SqT.of pa, rfl, rfl, _, rfl, iteF' st_df ?_⟩
      dsimp only [tNext]
      refine ⟨_, rfl, a, _, 0, _, rfl, rfl, SqT.of pa, rfl, rfl, _, rfl, iteT' (decide_eq_true rfl) ?_⟩
      exact ⟨_, rfl, a, _, 1, _, rfl, rfl, SqT.of pa, rfl, _, rfl, x, r, rfl, rfl, L2.wide_mul (a := 5) (b := 103) (by omega) (by omega) (by decide) (by decide) (by decide), _, rfl, a, _, 2, _, rfl, rfl, SqT.of pa, rfl, _, _, rfl, rfl, .inl ⟨_, rfl, _, rfl, a, _, 3, _, rfl, rfl, SqT.of pa, rfl, _, _, rfl, rfl, L2.wide_div (b := 5) (by omega) (by omega) (by decide) (by decide), k⟩⟩
    | lo s1 s2 =>
      obtain ⟨b, c, h1, h2, h3⟩ := pa
      obtain ⟨o1, o2, _, _⟩ := id ok
      have n1 : s1.cnt + s2.cnt ≤ n + 1 := hn
      have p1 := Rl.cnt_pos s1
      have p2 := Rl.cnt_pos s2
      refine ⟨_, rfl, a, _, 0, _, rfl, rfl, SqT.of h1, rfl, rfl, _, rfl, iteF' st_af ?_⟩
      dsimp only [tNext]
      refine ⟨_, rfl, a, _, 0, _, rfl, rfl, SqT.of h1, rfl, rfl, _, rfl, iteF' st_ad ?_⟩
      dsimp only [tNext]
      refine ⟨_, rfl, a, _, 1, _, rfl, rfl, SqT.of h1, rfl, _, rfl, b, s1, r, rfl, h2, o1, by omega, r1, r2, .inl ⟨_, rfl, _, rfl, a, _, 2, _, rfl, rfl, SqT.of h1, rfl, _, rfl, c, s2, r, rfl, h3, o2, by omega, r1, r2, .inl ⟨_, rfl, _, _, rfl, ?_⟩⟩⟩
      dsimp only [List.set]
      by_cases c1 : s1.wish r < s2.wish r
      · rw [show (Rl.lo s1 s2).wish r = s1.wish r from if_pos c1] at k
        exact ⟨_, rfl, _, rfl, _, _, rfl, rfl, _, rfl, a, _, 0, _, rfl, rfl, SqT.of h1, rfl, rfl, rfl, _, rfl, iteT' (decide_eq_true (congrArg V.bl (by rw [decide_eq_true c1]; decide +kernel))) ⟨_, rfl, k⟩⟩
      · rw [show (Rl.lo s1 s2).wish r = s2.wish r from if_neg c1] at k
        exact ⟨_, rfl, _, rfl, _, _, rfl, rfl, _, rfl, a, _, 0, _, rfl, rfl, SqT.of h1, rfl, rfl, rfl, _, rfl, iteF' (decide_eq_false (fun e => by injection e with e; rw [decide_eq_false c1] at e; exact absurd e (by decide +kernel))) ⟨_, rfl, k⟩⟩
    | hi s1 s2 =>
      obtain ⟨b, c, h1, h2, h3⟩ := pa
      obtain ⟨o1, o2, _, _⟩ := id ok
      have n1 : s1.cnt + s2.cnt ≤ n + 1 := hn
      have p1 := Rl.cnt_pos s1
      have p2 := Rl.cnt_pos s2
      refine ⟨_, rfl, a, _, 0, _, rfl, rfl, SqT.of h1, rfl, rfl, _, rfl, iteF' st_of ?_⟩
      dsimp only [tNext]
      refine ⟨_, rfl, a, _, 0, _, rfl, rfl, SqT.of h1, rfl, rfl, _, rfl, iteF' st_od ?_⟩
      dsimp only [tNext]
      refine ⟨_, rfl, a, _, 1, _, rfl, rfl, SqT.of h1, rfl, _, rfl, b, s1, r, rfl, h2, o1, by omega, r1, r2, .inl ⟨_, rfl, _, rfl, a, _, 2, _, rfl, rfl, SqT.of h1, rfl, _, rfl, c, s2, r, rfl, h3, o2, by omega, r1, r2, .inl ⟨_, rfl, _, _, rfl, ?_⟩⟩⟩
      dsimp only [List.set]
      by_cases c1 : s1.wish r < s2.wish r
      · rw [show (Rl.hi s1 s2).wish r = s2.wish r from if_neg (by omega)] at k
        exact ⟨_, rfl, _, rfl, _, _, rfl, rfl, _, rfl, a, _, 0, _, rfl, rfl, SqT.of h1, rfl, rfl, rfl, _, rfl, iteF' (decide_eq_false (fun e => by injection e with e; rw [decide_eq_true c1] at e; exact absurd e (by decide +kernel))) ⟨_, rfl, k⟩⟩
      · rw [show (Rl.hi s1 s2).wish r = s1.wish r by show (if s2.wish r < s1.wish r then s1.wish r else s2.wish r) = s1.wish r; split <;> omega] at k
        exact ⟨_, rfl, _, rfl, _, _, rfl, rfl, _, rfl, a, _, 0, _, rfl, rfl, SqT.of h1, rfl, rfl, rfl, _, rfl, iteT' (decide_eq_true (congrArg V.bl (by rw [decide_eq_false c1]; decide +kernel))) ⟨_, rfl, k⟩⟩
theorem cal_wsh {f : Addr} {fd : FuncData} (F : C8.Def K mg "_law_wish" sWsh f fd) (b : Binds K fd ["_law_plain_here", "_law_left"] []) (T : Txt mg) : ∀ n, C8.Cal P w K mg base n "_law_wish" (spWs n) []
  | 0 => ⟨f, fd, _, [], ⟨fun vs H Q E ⟨_, t, _, _, _, _, h, _⟩ => absurd h (by have := Rl.cnt_pos t; omega), fun _ _ _ _ _ _ _ _ _ _ _ _ _ ⟨_, t, _, _, _, _, h, _⟩ => absurd h (by have := Rl.cnt_pos t; omega)⟩, F.mgf, F.kp, b, .nil⟩
  | n + 1 => cal_wsh1 F b T (cal_wsh F b T n)
theorem scMad : FnScope ["_law_plain_here", "_law_first_so", "_law_second_so"] ["_law_plain_here"] (C8.fnScope sMad) := C8.fnScope_by (by decide +kernel)
theorem cal_mad1 {n : Nat} {f : Addr} {fd : FuncData} (F : C8.Def K mg "_law_made" sMad f fd) (b : Binds K fd ["_law_plain_here"] []) (Z : RlZ K mg FC VC LC GC) (FM : FixM P w K mg base FC DS fF fdF) (DM : DivM P w K mg base VC DU fD fdD)
    (LA : MetP P w K mg base 7 (Rk FC VC LC GC) (PySem.dunder "and") (fun _ => spAn K FC VC LC GC DU DM_ .lo)) (OA : OpP K (Rk FC VC LC GC) .BitAnd) (LO : MetP P w K mg base 7 (Rk FC VC LC GC) (PySem.dunder "or") (fun _ => spAn K FC VC LC GC DU DM_ .hi)) (OO : OpP K (Rk FC VC LC GC) .BitOr)
    (W : C8.Cal P w K mg base (8 + n) "_law_made" (spMd FC VC LC GC n) []) : C8.Cal P w K mg base (9 + n) "_law_made" (spMd FC VC LC GC (n + 1)) [] := by
  rw [show 9 + n = (8 + n) + 1 by omega]
  refine C8.cal0 F b .nil scMad (fun vs H Q E h => ?_) (fun cdv A outer st H vs Q E hr h => ?_)
  · obtain ⟨a, t, rfl, _⟩ := h
    rfl
  · obtain ⟨a, t, rfl, pa, ok, hn, k⟩ := h
    refine ⟨_, (pss_cons (ps_if (pt_cmpR op_eq (pe_ix ix_tup (pv 0) pe_int (fun _ _ => rfl)) pe_str (nomark _)) (pss_one (ps_ret (pe_make (E := C8.E0) FM.M FM.F (hr.mono (by omega)) (by rfl) FM.hm FM.b .nil (passes_call takes0 (fun _ _ _ _ z => z)) (pa_cons (pe_ix ix_tup (pv 0) pe_int (fun _ _ => rfl)) pa_nil)))) pss_nil)
  (pss_cons (ps_if (pt_cmpR op_eq (pe_ix ix_tup (pv 0) pe_int (fun _ _ => rfl)) pe_str (nomark _)) (pss_one (ps_ret (pe_make (E := C8.E0) DM.M DM.F (hr.mono (by omega)) (by rfl) DM.hm DM.b .nil (passes_call takes0 (fun _ _ _ _ z => z)) (pa_cons (pe_ix ix_tup (pv 0) pe_int (fun _ _ => rfl)) (pa_cons (pe_ix ix_tup (pv 0) pe_int (fun _ _ => rfl)) (pa_cons (pe_ix ix_tup (pv 0) pe_int (fun _ _ => rfl)) pa_nil)))))) pss_nil)
  (pss_cons (ps_par (i := 1) (j := 2) rfl scMad.nd rfl rfl (by decide) rfl rfl (pa_cons (C8.pe_c W hr (Nat.le_refl _) (by rfl) (pa_cons (pe_ix ix_tup (pv 0) pe_int (fun _ _ => rfl)) pa_nil)) (pa_cons (C8.pe_c W hr (Nat.le_refl _) (by rfl) (pa_cons (pe_ix ix_tup (pv 0) pe_int (fun _ _ => rfl)) pa_nil)) pa_nil)) (by rfl))
  (pss_one (ps_ret (pe_ifExp (pt_cmpR op_eq (pe_ix ix_tup (pv 0) pe_int (fun _ _ => rfl)) pe_str (nomark _)) (pe_op (op_P LA OA (passes_call takes0 (fun _ _ _ _ z => z)) hr (by omega)) (pv 1) (pv 2)) (pe_op (op_P LO OO (passes_call takes0 (fun _ _ _ _ z => z)) hr (by omega)) (pv 1) (pv 2)))))))), ?_⟩
    dsimp only [tSeq]
    cases t with
    | fx m => exact ⟨_, rfl, a, _, 0, _, rfl, rfl, SqT.of pa, rfl, rfl, _, rfl, iteT' (decide_eq_true rfl) ⟨_, rfl, a, _, 1, _, rfl, rfl, SqT.of pa, rfl, fun x dx hx hdx ne => fx_ok ok.1 ok.2 hx hdx ne fun H' s h => k x H' s h⟩⟩
    | dv x y q =>
      obtain ⟨x0, x1, y0, y1, q0, q1⟩ := id ok
      refine ⟨_, rfl, a, _, 0, _, rfl, rfl, SqT.of pa, rfl, rfl, _, rfl, iteF' st_df ?_⟩
      dsimp only [tNext]
      refine ⟨_, rfl, a, _, 0, _, rfl, rfl, SqT.of pa, rfl, rfl, _, rfl, iteT' (decide_eq_true rfl) ?_⟩
      exact ⟨_, rfl, a, _, 1, _, rfl, rfl, SqT.of pa, rfl, _, rfl, a, _, 2, _, rfl, rfl, SqT.of pa, rfl, _, rfl, a, _, 3, _, rfl, rfl, SqT.of pa, rfl, fun z dz hz hdz ne => dv_ok x0 x1 y0 y1 q0 q1 hz hdz ne fun H' s h => k z H' s h⟩
    | lo s1 s2 =>
      obtain ⟨b, c, h1, h2, h3⟩ := pa
      obtain ⟨o1, o2, n6, m5⟩ := id ok
      have n1 : s1.cnt + s2.cnt ≤ n + 1 := hn
      have p1 := Rl.cnt_pos s1
      have p2 := Rl.cnt_pos s2
      refine ⟨_, rfl, a, _, 0, _, rfl, rfl, SqT.of h1, rfl, rfl, _, rfl, iteF' st_af ?_⟩
      dsimp only [tNext]
      refine ⟨_, rfl, a, _, 0, _, rfl, rfl, SqT.of h1, rfl, rfl, _, rfl, iteF' st_ad ?_⟩
      dsimp only [tNext]
      refine ⟨_, rfl, a, _, 1, _, rfl, rfl, SqT.of h1, rfl, b, s1, rfl, h2, o1, by omega, fun m1 H1 sm1 r1 => ?_⟩
      refine ⟨_, rfl, a, _, 2, _, rfl, rfl, SqT.of (sm1 _ _ h1), rfl, c, s2, rfl, h3.on (tt_same sm1), o2, by omega, fun m2 H2 sm2 r2 => ⟨_, _, rfl, ?_⟩⟩
      dsimp only [gName, List.set]
      have r1' := r1.on sm2
      obtain ⟨d1, f1, _, _, g1, _⟩ := r1'.has o1
      obtain ⟨d2, f2, _, _, g2, _⟩ := r2.has o2
      refine ⟨_, rfl, a, _, 0, _, rfl, rfl, SqT.of (sm2 _ _ (sm1 _ _ h1)), rfl, rfl, _, rfl, iteT' (decide_eq_true rfl) ?_⟩
      exact ⟨_, rfl, _, rfl, m1, _, d1, f1, m2, _, d2, f2, rfl, rfl, Rk.of s1, Rk.of s2, g1, g2, _, _, rfl, some s1, some s2, ⟨m1, rfl, r1', o1⟩, ⟨m2, rfl, r2, o2⟩, (fun e => by cases e), (fun _ _ e => by cases e), fun x y e1 e2 => by
        cases e1
        cases e2
        exact ⟨fun c => absurd n6 (by omega), fun _ c => absurd m5 (by omega), fun _ _ z H' s _ r => k z H' ((sm1.trans sm2).trans s) r⟩⟩
    | hi s1 s2 =>
      obtain ⟨b, c, h1, h2, h3⟩ := pa
      obtain ⟨o1, o2, n6, m5⟩ := id ok
      have n1 : s1.cnt + s2.cnt ≤ n + 1 := hn
      have p1 := Rl.cnt_pos s1
      have p2 := Rl.cnt_pos s2
      refine ⟨_, rfl, a, _, 0, _, rfl, rfl, SqT.of h1, rfl, rfl, _, rfl, iteF' st_of ?_⟩
      dsimp only [tNext]
      refine ⟨_, rfl, a, _, 0, _, rfl, rfl, SqT.of h1, rfl, rfl, _, rfl, iteF' st_od ?_⟩
      dsimp only [tNext]
      refine ⟨_, rfl, a, _, 1, _, rfl, rfl, SqT.of h1, rfl, b, s1, rfl, h2, o1, by omega, fun m1 H1 sm1 r1 => ?_⟩
      refine ⟨_, rfl, a, _, 2, _, rfl, rfl, SqT.of (sm1 _ _ h1), rfl, c, s2, rfl, h3.on (tt_same sm1), o2, by omega, fun m2 H2 sm2 r2 => ⟨_, _, rfl, ?_⟩⟩
      dsimp only [gName, List.set]
      have r1' := r1.on sm2
      obtain ⟨d1, f1, _, _, g1, _⟩ := r1'.has o1
      obtain ⟨d2, f2, _, _, g2, _⟩ := r2.has o2
      refine ⟨_, rfl, a, _, 0, _, rfl, rfl, SqT.of (sm2 _ _ (sm1 _ _ h1)), rfl, rfl, _, rfl, iteF' st_oa ?_⟩
      exact ⟨_, rfl, _, rfl, m1, _, d1, f1, m2, _, d2, f2, rfl, rfl, Rk.of s1, Rk.of s2, g1, g2, _, _, rfl, some s1, some s2, ⟨m1, rfl, r1', o1⟩, ⟨m2, rfl, r2, o2⟩, (fun e => by cases e), (fun _ _ e => by cases e), fun x y e1 e2 => by
        cases e1
        cases e2
        exact ⟨fun c => absurd n6 (by omega), fun _ c => absurd m5 (by omega), fun _ _ z H' s _ r => k z H' ((sm1.trans sm2).trans s) r⟩⟩
end
end Lw
namespace Lw
open PySem PySem.Spec PyProof.Rows L2
open SX PySem.NumText TL LamX ClX StX
set_option pp.maxSteps 900
abbrev sLvs : Stmt := top 53
abbrev sMdl : Stmt := top 54
abbrev sFit : Stmt := top 55
abbrev sChu : Stmt := top 51
/-- the least common multiple, found by steps -/
theorem lcm_least {m d j : Nat} (hm : 1 ≤ m) (hd : 1 ≤ d) (h : d ∣ j * m) (j1 : 1 ≤ j) (no : ∀ i, 1 ≤ i → i < j → ¬ d ∣ i * m) : j * m = Nat.lcm m d := by
  have h1 : Nat.lcm m d ∣ j * m := Nat.lcm_dvd (Nat.dvd_mul_left m j) h
  obtain ⟨q, hq⟩ := Nat.dvd_lcm_left m d
  have hd2 : d ∣ q * m := by rw [Nat.mul_comm q m, ← hq]; exact Nat.dvd_lcm_right m d
  have q1 : 1 ≤ q := by
    cases q with
    | zero => rw [Nat.mul_zero] at hq; have := Nat.lcm_pos hm hd; omega
    | succ q => omega
  have hle := Nat.le_of_dvd (Nat.mul_pos j1 hm) h1
  rw [hq, Nat.mul_comm m q] at hle
  have qj : q ≤ j := Nat.le_of_mul_le_mul_right hle hm
  rcases Nat.lt_or_ge q j with c | c
  · exact absurd hd2 (no q q1 c)
  · have e : q = j := by omega
    rw [hq, e, Nat.mul_comm]
theorem lcm_lvs : ∀ (t : Rl) (m : Nat), (t.lvs.map Rl.mdl).foldl Nat.lcm m = Nat.lcm m t.mdl
  | .fx _, _ => rfl
  | .dv _ _ _, _ => rfl
  | .lo a b, m => by
    show ((a.lvs ++ b.lvs).map Rl.mdl).foldl Nat.lcm m = Nat.lcm m (Nat.lcm a.mdl b.mdl)
    rw [List.map_append, List.foldl_append, lcm_lvs a, lcm_lvs b, Nat.lcm_assoc]
  | .hi a b, m => by
    show ((a.lvs ++ b.lvs).map Rl.mdl).foldl Nat.lcm m = Nat.lcm m (Nat.lcm a.mdl b.mdl)
    rw [List.map_append, List.foldl_append, lcm_lvs a, lcm_lvs b, Nat.lcm_assoc]
theorem fold_step {l : List Rl} {i : Nat} {x : Rl} (h : l[i]? = some x) (m : Nat) : ((l.take (i + 1)).map Rl.mdl).foldl Nat.lcm m = Nat.lcm (((l.take i).map Rl.mdl).foldl Nat.lcm m) x.mdl := by
  obtain ⟨hi, e⟩ := List.getElem?_eq_some_iff.mp h
  rw [List.take_succ_eq_append_getElem hi, List.map_append, List.foldl_append, e]
  rfl
/-- the law's plain leaves -/
def PlL (H : Hp) : List V → List Rl → Prop
  | [], [] => True
  | v :: vs, l :: ls => (∃ a, v = .ref a ∧ PlAt H l a) ∧ PlL H vs ls
  | _, _ => False
theorem PlL.on {H H' : Hp} (s : Tt H H') : ∀ {vs : List V} {ls : List Rl}, PlL H vs ls → PlL H' vs ls
  | [], [], _ => trivial
  | _ :: _, _ :: _, ⟨⟨a, e, h⟩, r⟩ => ⟨⟨a, e, h.on s⟩, PlL.on s r⟩
  | [], _ :: _, h => h
  | _ :: _, [], h => h
theorem PlL.len {H : Hp} : ∀ {vs : List V} {ls : List Rl}, PlL H vs ls → vs.length = ls.length
  | [], [], _ => rfl
  | _ :: _, _ :: _, ⟨_, r⟩ => congrArg (· + 1) (PlL.len r)
  | [], _ :: _, h => h.elim
  | _ :: _, [], h => h.elim
theorem PlL.app {H : Hp} : ∀ {vs us : List V} {ls ms : List Rl}, PlL H vs ls → PlL H us ms → PlL H (vs ++ us) (ls ++ ms)
  | [], _, [], _, _, h => h
  | _ :: _, _, _ :: _, _, ⟨e, r⟩, h => ⟨e, PlL.app r h⟩
  | [], _, _ :: _, _, h, _ => h.elim
  | _ :: _, _, [], _, h, _ => h.elim
theorem PlL.get {H : Hp} : ∀ {vs : List V} {ls : List Rl} {i : Nat} {v : V}, PlL H vs ls → vs[i]? = some v → ∃ a l, v = .ref a ∧ ls[i]? = some l ∧ PlAt H l a
  | _ :: _, l :: _, 0, v, ⟨⟨a, e, h⟩, _⟩, hv => by cases hv; exact ⟨a, l, e, rfl, h⟩
  | _ :: _, _ :: _, i + 1, v, ⟨_, r⟩, hv => PlL.get (i := i) r hv
  | [], _, _, _, _, hv => by cases hv
  | _ :: _, [], _, _, h, _ => h.elim
def isLf : Rl → Prop
  | .fx _ => True | .dv _ _ w => 1 ≤ w ∧ w ≤ 24 | _ => False
theorem lvs_lf : ∀ {t : Rl}, t.Lf → ∀ l ∈ t.lvs, isLf l
  | .fx _, _, l, hl => by cases List.mem_singleton.mp hl; trivial
  | .dv _ _ _, h, l, hl => by cases List.mem_singleton.mp hl; exact h.2.2.2.2
  | .lo a b, h, l, hl => (List.mem_append.mp hl).elim (lvs_lf h.1 l) (lvs_lf h.2 l)
  | .hi a b, h, l, hl => (List.mem_append.mp hl).elim (lvs_lf h.1 l) (lvs_lf h.2 l)
theorem mdl_while {D : Ends} {H : Hp} {A L : Option V} {m d : Nat} {dv : Int} (hdv : dv = d) (m1 : 1 ≤ m) (d1 : 1 ≤ d) (k : D.nx [A, some (.int ((Nat.lcm m d : Nat) : Int)), L, some (.int dv), some (.int (m : Int))] H) :
    tWhile (tTest (tOp rNe (tOp (L2.rI (fun _ j => j ≠ 0) fun i j => V.int (i.fmod j)) (tVar 1) (tVar 3)) (tC (V.int 0)))) (tAsg (tOp (L2.rI0 fun i j => V.int (i + j)) (tVar 1) (tVar 4)) (gName 1)) D [A, some (.int (m : Int)), L, some (.int dv), some (.int (m : Int))] H := by
  subst hdv
  refine ⟨fun z σ' H' => H' = H ∧ ∃ j, 1 ≤ j ∧ j ≤ d ∧ (∀ i, 1 ≤ i → i < j → ¬ d ∣ i * m) ∧ z = d - j ∧ σ' = [A, some (.int ((j * m : Nat) : Int)), L, some (.int (d : Int)), some (.int (m : Int))], ⟨_, rfl, 1, Nat.le_refl _, d1, fun i i1 i2 => absurd i2 (by omega), rfl, by rw [Nat.one_mul]⟩, ?_⟩
  rintro z σ' H' ⟨rfl, j, j1, jd, no, rfl, rfl⟩
  have dn : (d : Int) ≠ 0 := by omega
  by_cases c : d ∣ j * m
  · have e : ((j * m : Nat) : Int).fmod (d : Int) = 0 := PySem.W.mc_fmod (Int.natCast_dvd_natCast.mpr c)
    have e2 := lcm_least m1 d1 c j1 no
    refine ⟨_, rfl, _, rfl, _, _, rfl, rfl, dn, rfl, _, rfl, iteF' ?_ ?_⟩
    · exact (congrArg (!·) (decide_eq_true (congrArg V.int e))).trans rfl
    · rw [e2]
      exact k
  · have e : ((j * m : Nat) : Int).fmod (d : Int) ≠ 0 := fun e => c (Int.natCast_dvd_natCast.mp (Int.dvd_of_fmod_eq_zero e))
    have jd2 : j < d := by
      rcases Nat.lt_or_ge j d with h | h
      · exact h
      · have : j = d := by omega
        exact absurd (by rw [this]; exact Nat.dvd_mul_right d m) c
    refine ⟨_, rfl, _, rfl, _, _, rfl, rfl, dn, rfl, _, rfl, iteT' ?_ ⟨fun σ' H2 => H2 = H' ∧ σ' = [A, some (.int (((j + 1) * m : Nat) : Int)), L, some (.int (d : Int)), some (.int (m : Int))], ?_, ?_⟩⟩
    · exact (congrArg (!·) (decide_eq_false (fun z => by injection z with z; exact e z))).trans rfl
    · rintro σ' H2 ⟨rfl, rfl⟩
      exact ⟨d - (j + 1), by omega, rfl, j + 1, by omega, by omega, fun i i1 i2 => by
        rcases Nat.lt_or_ge i j with h | h
        · exact no i i1 h
        · have : i = j := by omega
          rw [this]; exact c, rfl, rfl⟩
    · refine ⟨_, rfl, _, rfl, _, _, rfl, rfl, ?_⟩
      dsimp only [gName, List.set]
      exact ⟨rfl, by rw [Nat.succ_mul, Int.natCast_add]⟩
theorem st_fd : decide (V.str (Str.ofString "fixed") = V.str (Str.ofString "divided")) = false := by decide +kernel
def spLvs (n : Nat) : Sp := fun vs H Q _ => ∃ a t, vs = [.ref a] ∧ PlAt H t a ∧ t.cnt ≤ n ∧ t.cnt ≤ 10 ∧ ∀ l us H', Same H H' → H' l = some (.lst us) → PlL H' us t.lvs → Q (.ref l) H'
def spMdl : Sp := fun vs H Q _ => ∃ a t, vs = [.ref a] ∧ PlAt H t a ∧ t.Lf ∧ t.cnt ≤ 10 ∧ ∀ H', Same H H' → Q (.int t.mdl) H'
section
variable {P : Program} {w : World} {K : PySem.W.Frag} {mg : Str → Option Value} {base : Heap} {FC VC LC GC DR DM_ DU DS fF fD : Addr} {fdF fdD : FuncData}
theorem scLvs : FnScope ["_law_plain_here"] ["_law_plain_here"] (C8.fnScope sLvs) := C8.fnScope_by (by decide +kernel)
theorem cal_lvs1 {n : Nat} {f : Addr} {fd : FuncData} (F : C8.Def K mg "_law_leaves" sLvs f fd) (b : Binds K fd ["_law_plain_here"] []) (W : C8.Cal P w K mg base n "_law_leaves" (spLvs n) []) : C8.Cal P w K mg base (n + 1) "_law_leaves" (spLvs (n + 1)) [] := by
  refine C8.cal0 F b .nil scLvs (fun vs H Q E h => ?_) (fun cdv A outer st H vs Q E hr h => ?_)
  · obtain ⟨a, t, rfl, _⟩ := h
    rfl
  · obtain ⟨a, t, rfl, pa, hn, hc, k⟩ := h
    refine ⟨_, (pss_one (ps_ret (pe_ifExp (pt_cmpR op_in_seq (pe_ix ix_tup (pv 0) pe_int (fun _ _ => rfl)) (pe_tup (pa_cons pe_str (pa_cons pe_str pa_nil))) (by rfl)) (pe_lst (pa_cons (pv 0) pa_nil)) (pe_op op_cat (C8.pe_c W hr (Nat.le_refl _) (by rfl) (pa_cons (pe_ix ix_tup (pv 0) pe_int (fun _ _ => rfl)) pa_nil)) (C8.pe_c W hr (Nat.le_refl _) (by rfl) (pa_cons (pe_ix ix_tup (pv 0) pe_int (fun _ _ => rfl)) pa_nil)))))), ?_⟩
    have go : ∀ xs z, H a = some (.tup (V.str z :: xs)) → (∀ H1, Same H H1 → H1 a = some (.tup (V.str z :: xs))) := fun xs z e H1 s => s _ _ e
    cases t with
    | fx m =>
      refine ⟨_, rfl, a, _, 0, _, rfl, rfl, SqT.of pa, rfl, (by show 2 ≤ sizeLine; decide), fun q fq => ⟨q, _, rfl, .inr (SqT.of upd_same), rfl, rfl, _, rfl, iteT' (by decide +kernel) ⟨_, rfl, (by show 1 ≤ sizeLine; decide), fun l fl => ?_⟩⟩⟩
      have s2 := (same_new (o := HO.tup [V.str (Str.ofString "fixed"), V.str (Str.ofString "divided")]) fq).trans (same_new (o := HO.lst [V.ref a]) fl)
      exact k l _ _ s2 upd_same ⟨⟨a, rfl, s2 _ _ pa⟩, trivial⟩
    | dv x y q0 =>
      refine ⟨_, rfl, a, _, 0, _, rfl, rfl, SqT.of pa, rfl, (by show 2 ≤ sizeLine; decide), fun q fq => ⟨q, _, rfl, .inr (SqT.of upd_same), rfl, rfl, _, rfl, iteT' (by decide +kernel) ⟨_, rfl, (by show 1 ≤ sizeLine; decide), fun l fl => ?_⟩⟩⟩
      have s2 := (same_new (o := HO.tup [V.str (Str.ofString "fixed"), V.str (Str.ofString "divided")]) fq).trans (same_new (o := HO.lst [V.ref a]) fl)
      exact k l _ _ s2 upd_same ⟨⟨a, rfl, s2 _ _ pa⟩, trivial⟩
    | lo s1 s2 =>
      obtain ⟨b, c, h1, h2, h3⟩ := pa
      have n1 : s1.cnt + s2.cnt ≤ n + 1 := hn
      have n10 : s1.cnt + s2.cnt ≤ 10 := hc
      have p1 := Rl.cnt_pos s1
      have p2 := Rl.cnt_pos s2
      refine ⟨_, rfl, a, _, 0, _, rfl, rfl, SqT.of h1, rfl, (by show 2 ≤ sizeLine; decide), fun q fq => ⟨q, _, rfl, .inr (SqT.of upd_same), rfl, rfl, _, rfl, iteF' (by decide +kernel) ?_⟩⟩
      have sq := same_new (o := HO.tup [V.str (Str.ofString "fixed"), V.str (Str.ofString "divided")]) fq
      refine ⟨_, rfl, a, _, 1, _, rfl, rfl, SqT.of (sq _ _ h1), rfl, b, s1, rfl, h2.on (tt_same sq), by omega, by omega, fun l1 u1 H1 t1 e1 q1 => ?_⟩
      refine ⟨_, rfl, a, _, 2, _, rfl, rfl, SqT.of (t1 _ _ (sq _ _ h1)), rfl, c, s2, rfl, (h3.on (tt_same sq)).on (tt_same t1), by omega, by omega, fun l2 u2 H2 t2 e2 q2 => ?_⟩
      have z1 := q1.len.trans (Rl.lvs_len s1)
      have z2 := q2.len.trans (Rl.lvs_len s2)
      refine ⟨l1, l2, u1, u2, rfl, rfl, t2 _ _ e1, e2, Nat.le_trans (by omega) (by decide : 10 ≤ sizeLine), fun l fl => ?_⟩
      have sl := same_new (o := HO.lst (u1 ++ u2)) fl
      exact k l _ _ (((sq.trans t1).trans t2).trans sl) upd_same (((q1.on (tt_same t2)).on (tt_same sl)).app (q2.on (tt_same sl)))
    | hi s1 s2 =>
      obtain ⟨b, c, h1, h2, h3⟩ := pa
      have n1 : s1.cnt + s2.cnt ≤ n + 1 := hn
      have n10 : s1.cnt + s2.cnt ≤ 10 := hc
      have p1 := Rl.cnt_pos s1
      have p2 := Rl.cnt_pos s2
      refine ⟨_, rfl, a, _, 0, _, rfl, rfl, SqT.of h1, rfl, (by show 2 ≤ sizeLine; decide), fun q fq => ⟨q, _, rfl, .inr (SqT.of upd_same), rfl, rfl, _, rfl, iteF' (by decide +kernel) ?_⟩⟩
      have sq := same_new (o := HO.tup [V.str (Str.ofString "fixed"), V.str (Str.ofString "divided")]) fq
      refine ⟨_, rfl, a, _, 1, _, rfl, rfl, SqT.of (sq _ _ h1), rfl, b, s1, rfl, h2.on (tt_same sq), by omega, by omega, fun l1 u1 H1 t1 e1 q1 => ?_⟩
      refine ⟨_, rfl, a, _, 2, _, rfl, rfl, SqT.of (t1 _ _ (sq _ _ h1)), rfl, c, s2, rfl, (h3.on (tt_same sq)).on (tt_same t1), by omega, by omega, fun l2 u2 H2 t2 e2 q2 => ?_⟩
      have z1 := q1.len.trans (Rl.lvs_len s1)
      have z2 := q2.len.trans (Rl.lvs_len s2)
      refine ⟨l1, l2, u1, u2, rfl, rfl, t2 _ _ e1, e2, Nat.le_trans (by omega) (by decide : 10 ≤ sizeLine), fun l fl => ?_⟩
      have sl := same_new (o := HO.lst (u1 ++ u2)) fl
      exact k l _ _ (((sq.trans t1).trans t2).trans sl) upd_same (((q1.on (tt_same t2)).on (tt_same sl)).app (q2.on (tt_same sl)))
theorem cal_lvs {f : Addr} {fd : FuncData} (F : C8.Def K mg "_law_leaves" sLvs f fd) (b : Binds K fd ["_law_plain_here"] []) : ∀ n, C8.Cal P w K mg base n "_law_leaves" (spLvs n) []
  | 0 => ⟨f, fd, _, [], ⟨fun vs H Q E ⟨_, t, _, _, h, _⟩ => absurd h (by have := Rl.cnt_pos t; omega), fun _ _ _ _ _ _ _ _ _ _ _ _ _ ⟨_, t, _, _, h, _⟩ => absurd h (by have := Rl.cnt_pos t; omega)⟩, F.mgf, F.kp, b, .nil⟩
  | n + 1 => cal_lvs1 F b (cal_lvs F b n)
theorem scMdl : FnScope ["_law_plain_here", "_law_found", "_law_leaf_here", "_law_divisor", "_law_step"] ["_law_plain_here"] (C8.fnScope sMdl) := C8.fnScope_by (by decide +kernel)
theorem cal_mdl {f : Addr} {fd : FuncData} (F : C8.Def K mg "_law_modulus" sMdl f fd) (b : Binds K fd ["_law_plain_here"] []) (DLs : C8.Cal P w K mg base 10 "_law_leaves" (spLvs 10) []) : C8.Cal P w K mg base 11 "_law_modulus" spMdl [] := by
  refine C8.cal0 F b .nil scMdl (fun vs H Q E h => ?_) (fun cdv A outer st H vs Q E hr h => ?_)
  · obtain ⟨a, t, rfl, _⟩ := h
    rfl
  · obtain ⟨a, t, rfl, pa, lf, hc, k⟩ := h
    refine ⟨_, (pss_cons (ps_set (i := 1) scMdl.nd rfl (Or.inl rfl) pe_int)
  (pss_cons (ps_for PassesOwn.never rfl (pi_list (C8.pe_c DLs hr (by omega) (by rfl) (pa_cons (pv 0) pa_nil))) (pg_name (i := 2) scMdl.nd rfl (Or.inl rfl)) (pss_cons (ps_set (i := 3) scMdl.nd rfl (Or.inl rfl) (pe_ifExp (pt_cmpR op_eq (pe_ix ix_tup (pv 2) pe_int (fun _ _ => rfl)) pe_str (nomark _)) (pe_ix ix_tup (pv 2) pe_int (fun _ _ => rfl)) pe_int))
  (pss_cons (ps_set (i := 4) scMdl.nd rfl (Or.inl rfl) (pv 1))
  (pss_one (ps_while PassesOwn.never (pt_cmpR op_ne (pe_op op_modN (pv 1) (pv 3)) pe_int (nomark _)) (pss_one (ps_set (i := 1) scMdl.nd rfl (Or.inl rfl) (pe_op op_add (pv 1) (pv 4)))))))))
  (pss_one (ps_ret (pv 1))))), ?_⟩
    dsimp only [tSeq]
    refine ⟨_, rfl, a, t, rfl, pa, hc, hc, fun l us H1 s1 hl pl => ?_⟩
    have n0 := k H1 s1
    refine ⟨l, rfl, ⟨_, SqL.of hl⟩, for_list (K := K) (xs := us) (fun i σ' H' => H' = H1 ∧ ∃ x2 x3 x4, σ' = [some (.ref a), some (.int ((((t.lvs.take i).map Rl.mdl).foldl Nat.lcm 1 : Nat) : Int)), x2, x3, x4]) ⟨rfl, none, none, none, rfl⟩ ?_ ?_ ?_⟩
    · rintro i σ1 H2 _ ⟨rfl, _⟩
      exact SqL.of hl
    · rintro i x σ1 H2 hx ⟨rfl, x2, x3, x4, rfl⟩
      obtain ⟨c, lf1, rfl, hli, pc⟩ := pl.get hx
      have hlf := lvs_lf lf lf1 (List.mem_of_getElem? hli)
      have fs := fold_step hli 1
      have m1 : 1 ≤ ((t.lvs.take i).map Rl.mdl).foldl Nat.lcm 1 := by
        clear fs hli pc hx
        have : ∀ (ls : List Rl) (m : Nat), 1 ≤ m → (∀ l ∈ ls, isLf l) → 1 ≤ (ls.map Rl.mdl).foldl Nat.lcm m := fun ls => by
          induction ls with
          | nil => intro m h _; exact h
          | cons y ys ih =>
            intro m h hy
            refine ih _ (Nat.lcm_pos h ?_) fun l hl => hy l (List.mem_cons_of_mem _ hl)
            have := hy y List.mem_cons_self
            cases y with
            | fx n => exact Nat.le_refl 1
            | dv x y w => show 0 < w.toNat; obtain ⟨g1, _⟩ := this; omega
            | lo _ _ => exact this.elim
            | hi _ _ => exact this.elim
        exact this _ 1 (Nat.le_refl _) fun l hl => lvs_lf lf l (List.mem_of_mem_take hl)
      dsimp only [gName, List.set, tSeq]
      cases lf1 with
      | fx m =>
        refine ⟨_, rfl, c, _, 0, _, rfl, rfl, SqT.of pc, rfl, rfl, _, rfl, iteF' st_fd ?_⟩
        dsimp only [gName, List.set]
        refine ⟨_, rfl, ?_⟩
        dsimp only [gName, List.set]
        exact mdl_while (d := 1) rfl m1 (Nat.le_refl _) ⟨rfl, _, _, _, by rw [fs]; rfl⟩
      | dv x y w =>
        obtain ⟨w1, w2⟩ := hlf
        refine ⟨_, rfl, c, _, 0, _, rfl, rfl, SqT.of pc, rfl, rfl, _, rfl, iteT' (decide_eq_true rfl) ⟨_, rfl, c, _, 3, _, rfl, rfl, SqT.of pc, rfl, ?_⟩⟩
        dsimp only [gName, List.set]
        refine ⟨_, rfl, ?_⟩
        dsimp only [gName, List.set]
        exact mdl_while (d := w.toNat) (by omega) m1 (by omega) ⟨rfl, _, _, _, by rw [fs]; rfl⟩
      | lo _ _ => exact hlf.elim
      | hi _ _ => exact hlf.elim
    · rintro σ1 H2 ⟨rfl, x2, x3, x4, rfl⟩
      rw [pl.len, List.take_length, lcm_lvs, Nat.lcm_one_left]
      exact ⟨_, rfl, n0⟩
end
end Lw
namespace Lw
open PySem PySem.Spec PyProof.Rows L2
open SX PySem.NumText TL LamX ClX StX
set_option pp.maxSteps 900
def spFit : Sp := fun vs H Q _ => ∃ (p pl : Addr) (k m : Nat), vs = [.ref p, .int m] ∧ 1 ≤ m ∧ m ≤ 6 ∧ Pen H p pl k ∧ k ≤ 700000 ∧ ∀ t a H', t.Ok → t.cnt ≤ m → PlAt H' t a → Pen H' p pl (k + 400) → Kp p H H' → Q (.ref a) H'
def spChu : Sp := fun vs H Q _ => ∃ a t r, vs = [.ref a, .int r] ∧ PlAt H t a ∧ t.Ok ∧ 1 ≤ r ∧ r ≤ 10 ^ 31 ∧ Q (.int (chk r (t.wish r))) H
section
variable {P : Program} {w : World} {K : PySem.W.Frag} {mg : Str → Option Value} {base : Heap}
theorem scFit : FnScope ["_law_pen_here", "_law_many", "_law_lap", "_law_plain_here"] ["_law_pen_here", "_law_many"] (C8.fnScope sFit) := C8.fnScope_by (by decide +kernel)
theorem cal_fit {f : Addr} {fd : FuncData} (F : C8.Def K mg "_law_fitting" sFit f fd) (b : Binds K fd ["_law_pen_here", "_law_many"] []) (T : Txt mg) (D0 : C8.Cal P w K mg base 1 "_law_draw" spDraw []) (DPl : C8.Cal P w K mg base 9 "_law_plain" (spPla 6) []) (DMd : C8.Cal P w K mg base 11 "_law_modulus" spMdl []) : C8.Cal P w K mg base 12 "_law_fitting" spFit [] := by
  refine C8.cal0 F b .nil scFit (fun vs H Q E h => ?_) (fun cdv A outer st H vs Q E hr h => ?_)
  · obtain ⟨p, pl, k0, m, rfl, _⟩ := h
    rfl
  · obtain ⟨p, pl, k0, m, rfl, m1, m6, hp, hk, k⟩ := h
    refine ⟨_, (pss_cons (ps_for PassesOwn.never rfl (pi_range1 (by rfl) T.n_range (pa_cons pe_int pa_nil)) (pg_name (i := 2) scFit.nd rfl (Or.inl rfl)) (pss_cons (ps_set (i := 3) scFit.nd rfl (Or.inl rfl) (C8.pe_c DPl hr (by omega) (by rfl) (pa_cons (pv 0) (pa_cons (pe_op op_add pe_int (C8.pe_c D0 hr (by omega) (by rfl) (pa_cons (pv 0) (pa_cons (pv 1) pa_nil)))) pa_nil))))
  (pss_one (ps_if (pt_cmpR op_le (C8.pe_c DMd hr (by omega) (by rfl) (pa_cons (pv 3) pa_nil)) pe_int (nomark _)) (pss_one (ps_ret (pv 3))) pss_nil))))
  (pss_one (ps_ret (pe_tup (pa_cons pe_str (pa_cons pe_int (pa_cons pe_int (pa_cons pe_int pa_nil)))))))), ?_⟩
    dsimp only [tSeq]
    refine ⟨_, rfl, by decide, by decide, for_range (fun i σ' H' => (∃ x2 x3, σ' = [some (.ref p), some (.int (m : Int)), x2, x3]) ∧ Pen H' p pl (k0 + 60 * i) ∧ Kp p H H') ⟨⟨none, none, rfl⟩, hp, fun _ _ _ e => e⟩ ?_ ?_⟩
    · rintro i σ1 H1 hi ⟨⟨x2, x3, rfl⟩, hp1, k1⟩
      have hi6 : i < 6 := hi
      dsimp only [gName, tSeq, List.set]
      refine ⟨_, rfl, _, rfl, _, rfl, p, pl, _, _, rfl, by omega, Int.lt_of_le_of_lt (by omega : (m : Int) ≤ 6) (by decide), hp1, by omega, fun r H2 r0 r1 hp2 k2 => ?_⟩
      obtain ⟨rn, rfl⟩ := Int.eq_ofNat_of_zero_le r0
      refine ⟨_, _, rfl, rfl, p, pl, _, 1 + rn, congrArg (fun i => [V.ref p, V.int i]) (by omega), by omega, by omega, by omega, hp2, by omega, fun t a H3 lf ct pa hp3 k3 => ?_⟩
      dsimp only [gName, List.set]
      refine ⟨_, rfl, a, t, rfl, pa, lf, by omega, fun H4 s4 => ⟨_, _, rfl, rfl, _, rfl, ?_⟩⟩
      have kk := kp_trans (kp_trans (kp_trans k1 k2) k3) (kp_same s4)
      by_cases c : (t.mdl : Int) ≤ 5000
      · exact iteT' (decide_eq_true c) ⟨_, rfl, k t a H4 (lf.ok (by omega) (by omega)) (by omega) (pa.on (tt_same s4)) ((hp3.keep s4).more (by omega)) kk⟩
      · exact iteF' (decide_eq_false c) ⟨⟨_, _, rfl⟩, (hp3.keep s4).more (by omega), kk⟩
    · rintro σ1 H1 ⟨⟨x2, x3, rfl⟩, hp1, k1⟩
      refine ⟨(by show 4 ≤ sizeLine; decide), fun u fu => ?_⟩
      exact k (.dv 1 1 2) u _ ⟨by decide, by decide, by decide, by decide, by decide, by decide⟩ (show 1 ≤ m from m1) upd_same ((hp1.keep (same_new fu)).more (by omega)) (kp_trans k1 (kp_same (same_new fu)))
theorem scChu : FnScope ["_law_plain_here", "_law_left"] ["_law_plain_here", "_law_left"] (C8.fnScope sChu) := C8.fnScope_by (by decide +kernel)
theorem cal_chu {f : Addr} {fd : FuncData} (F : C8.Def K mg "_law_chunk" sChu f fd) (b : Binds K fd ["_law_plain_here", "_law_left"] []) (T : Txt mg) (hmin : mg "min" = none) (hmax : mg "max" = none) (DWs : C8.Cal P w K mg base 6 "_law_wish" (spWs 6) []) : C8.Cal P w K mg base 7 "_law_chunk" spChu [] := by
  refine C8.cal0 F b .nil scChu (fun vs H Q E h => ?_) (fun cdv A outer st H vs Q E hr h => ?_)
  · obtain ⟨a, t, r, rfl, _⟩ := h
    rfl
  · obtain ⟨a, t, r, rfl, pa, ok, r1, r2, k⟩ := h
    refine ⟨_, (pss_one (ps_ret (pe_callB (call_max2 rfl) (by rfl) hmax (by decide +kernel) (pa_cons pe_int (pa_cons (pe_callB (call_min2 rfl) (by rfl) hmin (by decide +kernel) (pa_cons (pe_callTy call_int1 (by rfl) T.n_int (by decide +kernel) (pa_cons (pv 1) pa_nil)) (pa_cons (pe_callTy call_int1 (by rfl) T.n_int (by decide +kernel) (pa_cons (C8.pe_c DWs hr (by omega) (by rfl) (pa_cons (pv 0) (pa_cons (pv 1) pa_nil))) pa_nil)) pa_nil))) pa_nil))))), ?_⟩
    have e : chk r (t.wish r) = if (if t.wish r < r then t.wish r else r) > 1 then (if t.wish r < r then t.wish r else r) else 1 := by
      unfold chk
      split <;> split <;> (try split) <;> (try split) <;> omega
    rw [e] at k
    exact ⟨_, rfl, .inl ⟨_, rfl, _, rfl, _, rfl, a, t, r, rfl, pa, ok, ok.cnt6, r1, r2, .inl ⟨_, rfl, _, _, rfl, _, _, rfl, k⟩⟩⟩
end
end Lw
namespace Lw
open PySem PySem.Spec PyProof.Rows L2
open SX PySem.NumText TL LamX ClX StX
set_option pp.maxSteps 900
abbrev sFxs : Stmt := inClass (top 33) 8
abbrev sDvs : Stmt := inClass (top 34) 9
abbrev sLos : Stmt := inClass (top 35) 8
abbrev sHis : Stmt := inClass (top 36) 8
abbrev sBys : Stmt := inClass (top 37) 8
/-! ### the text of a rule -/
def Rl.ws : Rl → List (List Nat)
  | .fx n => [[102, 105, 120, 101, 100], intL n]
  | .dv x y w => [[100, 105, 118, 105, 100, 101, 100], intL x, intL y, intL w]
  | .lo a b => [40] :: (a.ws ++ ([38] :: (b.ws ++ [[41]])))
  | .hi a b => [40] :: (a.ws ++ ([124] :: (b.ws ++ [[41]])))
def Rl.tx (t : Rl) : List Nat := joinL [32] t.ws
theorem joinL_app : ∀ {xs ys : List (List Nat)}, xs ≠ [] → ys ≠ [] → joinL [32] (xs ++ ys) = joinL [32] xs ++ 32 :: joinL [32] ys
  | [], _, h, _ => absurd rfl h
  | [x], [], _, h => absurd rfl h
  | [x], y :: ys, _, _ => rfl
  | x :: x2 :: xs, ys, _, h => by
    show x ++ ([32] ++ joinL [32] ((x2 :: xs) ++ ys)) = (x ++ ([32] ++ joinL [32] (x2 :: xs))) ++ 32 :: joinL [32] ys
    rw [joinL_app (xs := x2 :: xs) (List.cons_ne_nil _ _) h]
    simp
theorem Rl.ws_ne : ∀ t : Rl, t.ws ≠ []
  | .fx _ => List.cons_ne_nil _ _ | .dv _ _ _ => List.cons_ne_nil _ _ | .lo _ _ => List.cons_ne_nil _ _ | .hi _ _ => List.cons_ne_nil _ _
theorem join_two (c : Nat) (a b : Rl) : joinL [32] ([40] :: (a.ws ++ ([c] :: (b.ws ++ [[41]])))) = [40, 32] ++ (a.tx ++ ([32, c, 32] ++ (b.tx ++ [32, 41]))) := by
  have e1 := joinL_app (xs := [[40]]) (ys := a.ws ++ ([c] :: (b.ws ++ [[41]]))) (List.cons_ne_nil _ _) (fun z => by simp at z)
  have e2 := joinL_app (xs := a.ws) (ys := [c] :: (b.ws ++ [[41]])) a.ws_ne (List.cons_ne_nil _ _)
  have e3 := joinL_app (xs := [[c]]) (ys := b.ws ++ [[41]]) (List.cons_ne_nil _ _) (fun z => by simp at z)
  have e4 := joinL_app (xs := b.ws) (ys := [[41]]) b.ws_ne (List.cons_ne_nil _ _)
  have e5 : joinL [32] ([[c]] ++ (b.ws ++ [[41]])) = joinL [32] ([c] :: (b.ws ++ [[41]])) := rfl
  rw [show ([40] :: (a.ws ++ ([c] :: (b.ws ++ [[41]])))) = [[40]] ++ (a.ws ++ ([c] :: (b.ws ++ [[41]]))) from rfl, e1, e2, ← e5, e3, e4]
  show _ = [40, 32] ++ (joinL [32] a.ws ++ ([32, c, 32] ++ (joinL [32] b.ws ++ [32, 41])))
  simp [joinL]
theorem intL_short {i : Int} (h : i.natAbs ≤ 10 ^ 30) : (intL i).length ≤ 32 := by
  have e := int_text_length_le10 (k := 31) (by decide) (Nat.lt_of_le_of_lt h (by decide +kernel) : i.natAbs < 10 ^ 31)
  have s := str_int i
  have l : (Str.ofString (toString i)).length = (intL i).length := by rw [s, S_len]
  rw [← l, PySem.ofString_length]
  exact e
theorem Rl.tx_len : ∀ {t : Rl}, t.Ok → t.tx.length + 10 ≤ 130 * t.cnt
  | .fx n, h => by
    obtain ⟨h1, h2⟩ := h
    have l := intL_short (i := n) (by omega)
    show (joinL [32] [[102, 105, 120, 101, 100], intL n]).length + 10 ≤ 130 * 1
    simp only [joinL, List.length_append, List.length_cons, List.length_nil]
    omega
  | .dv x y w, h => by
    obtain ⟨h1, h2, h3, h4, h5, h6⟩ := h
    have l1 := intL_short (i := x) (Nat.le_trans (by omega : x.natAbs ≤ 1000) (by decide))
    have l2 := intL_short (i := y) (Nat.le_trans (by omega : y.natAbs ≤ 1000) (by decide))
    have l3 := intL_short (i := w) (Nat.le_trans (by omega : w.natAbs ≤ 1000) (by decide))
    show (joinL [32] [[100, 105, 118, 105, 100, 101, 100], intL x, intL y, intL w]).length + 10 ≤ 130 * 1
    simp only [joinL, List.length_append, List.length_cons, List.length_nil]
    omega
  | .lo a b, h => by
    have l1 := Rl.tx_len h.1
    have l2 := Rl.tx_len h.2.1
    have p1 := Rl.cnt_pos a
    show (joinL [32] ([40] :: (a.ws ++ ([38] :: (b.ws ++ [[41]]))))).length + 10 ≤ 130 * (a.cnt + b.cnt)
    rw [join_two]
    simp only [List.length_append, List.length_cons, List.length_nil]
    omega
  | .hi a b, h => by
    have l1 := Rl.tx_len h.1
    have l2 := Rl.tx_len h.2.1
    have p1 := Rl.cnt_pos a
    show (joinL [32] ([40] :: (a.ws ++ ([124] :: (b.ws ++ [[41]]))))).length + 10 ≤ 130 * (a.cnt + b.cnt)
    rw [join_two]
    simp only [List.length_append, List.length_cons, List.length_nil]
    omega
/-! ### {x} of an own instance -/
structure FmP (K : PySem.W.Frag) (Pc : Addr → Prop) : Prop where
  fmt : ∀ C, Pc C → PySem.W.findIn K (.ref C) "__format__" = some (some (.builtin "object.__format__"))
  mro : ∀ C, Pc C → PySem.W.mroIn K C (.type "object") = some true
section
variable {X : Cx} {Pc : Addr → Prop} {k j : Nat} {sp : Addr → Sp} {E : XK} {e : Expr} {te : TE} {pos : Pos}
def tFmtP (Pc : Addr → Prop) (sp : Addr → Sp) (E : XK) (te : TE) : TE := fun σ H Q => te σ H fun x H1 => ∃ a C dx fs, x = .ref a ∧ Pc C ∧ H1 a = some (.ins C dx fs) ∧ sp C [.ref a] H1 (fun z H' => ∃ y, z = .str y ∧ Q z H') E
theorem pe_fmtP (he : PE X e te) (O : FmP X.K Pc) (M : MetP X.prog X.w X.K X.mg X.base k Pc "__str__" sp) (hx : Passes (L2.CX X.prog X.w) X E) (hr : Room j X.A) (hk : k + 1 ≤ j) : PE X (.FormattedValue e (-1) none pos) (tFmtP Pc sp E te) := by
  refine ⟨fun pins s σ H Q I h => ?_⟩
  refine wpAny_FormattedValue_plain (thn (he.run pins s σ H _ I h) fun v s1 hv => ?_)
  obtain ⟨x, H1, I1, r1, a, C, dx, fs, rfl, pc, ha, q⟩ := hv
  cases (show v = Value.ref a from r1)
  obtain ⟨_, _, J⟩ := ins_at I1 ha
  have hr1 : Room k X.A.in1 := Room.in1 (hr.mono hk)
  have I2 := I1.tok (s1.toks + 1)
  obtain ⟨g, hm, w⟩ := run_metA (us := [.ref a]) (vs := [.ref a]) (M.all C pc) hx hr1 I2.env0.in1 I2 (.cons rfl .nil) q
  refine PySem.W.kfo_fieldS hr1.units0 I1.kIn J (O.fmt C pc) (O.mro C pc) hm.at_ hm.fn (wpAny_mono w (fun v s' z => ?_) fun _ _ x => x)
  obtain ⟨z', H', I', rz, y, rfl, qz⟩ := z
  obtain ⟨t, rfl⟩ := rz
  exact ⟨.str y, H', I', ⟨t, rfl⟩, qz⟩
end
/-- str of a rule -/
def spSt (FC VC LC GC : Addr) (n : Nat) (C : Addr) : Sp := fun vs H Q _ => ∃ a t, vs = [.ref a] ∧ t.cls FC VC LC GC = C ∧ RlAt FC VC LC GC H t a ∧ t.Ok ∧ t.cnt ≤ n ∧ Q (.str (S t.tx)) H
theorem log33 {i : Int} (h : i.natAbs ≤ 10 ^ 33) : i.natAbs.log2 < 1920 := by
  by_cases z : i.natAbs = 0
  · rw [z]; decide +kernel
  · exact (Nat.log2_lt z).mpr (Nat.lt_of_le_of_lt h (by decide +kernel))
section
variable {P : Program} {w : World} {K : PySem.W.Frag} {mg : Str → Option Value} {base : Heap} {FC VC LC GC BC : Addr}
theorem ofS (l : List Nat) (s : String) (h : (Str.ofString s).cps.toList = l) : Str.ofString s = S l := by rw [← h, S_tl]
theorem scFxs : FnScope ["self"] ["self"] (C8.fnScope sFxs) := C8.fnScope_by (by decide +kernel)
theorem fn_fxs {f : Addr} {fd : FuncData} (F : C8.Fun K "__str__" "Fixed.__str__" sFxs f fd) (Z : RlZ K mg FC VC LC GC) (n : Nat) : FnOk P w K mg base (L2.CX P w) 1 f fd ["self"] (spSt FC VC LC GC n FC) := by
  obtain ⟨oc, od, dV, kV, doc, pm, an, cdv, ct, osl, rfl, lk, hcd⟩ := F.ex
  refine fn_of lk hcd scFxs (fun vs H Q E h => ?_) fun A outer s H vs Q E hr h => ?_
  · obtain ⟨a, t, rfl, _⟩ := h
    rfl
  · obtain ⟨a, t, rfl, hc, ra, ok, hn, q⟩ := h
    refine ⟨_, (pss_one (ps_ret (pe_joined (PJ.cons pe_str (PJ.cons (pe_fmt (pe_fldK K rfl (pv 0) rfl)) PJ.nil))))), ?_⟩
    obtain ⟨m, rfl⟩ : ∃ m, t = .fx m := by
      cases t with
      | fx m => exact ⟨m, rfl⟩
      | dv x y w => exact absurd hc.symm Z.d1
      | lo x y => exact absurd hc.symm Z.d2
      | hi x y => exact absurd hc.symm Z.d3
    obtain ⟨dx, p, h1, h2⟩ := id ra
    obtain ⟨m1, m2⟩ := ok
    have lm := intL_short (i := m) (by omega)
    have z1 : Str.empty ++ Str.ofString "fixed " = S [102, 105, 120, 101, 100, 32] := by
      rw [ofS [102, 105, 120, 101, 100, 32] "fixed " rfl, show Str.empty = S [] from rfl, S_cat]; rfl
    have z2 : (Str.empty ++ Str.ofString "fixed ") ++ Str.ofString (toString m) = S (Rl.fx m).tx := by
      rw [z1, str_int, S_cat]; rfl
    have l2 := Rl.tx_len (t := .fx m) ⟨m1, m2⟩
    refine ⟨_, rfl, (by rw [z1, S_len]; exact Nat.le_trans (by decide : 6 ≤ 1000) (by decide)), ?_⟩
    refine ⟨_, rfl, a, FC, dx, _, _, rfl, h1, Z.F.cl, Z.F.n1, fxP_size _ _, .inr ⟨m, rfl, log33 (by omega), _, rfl, (by rw [z2, S_len]; exact Nat.le_trans (show (Rl.fx m).tx.length ≤ 130 by have : (Rl.fx m).cnt = 1 := rfl; omega) (by decide)), ?_⟩⟩
    rw [z2]
    exact q
theorem scDvs : FnScope ["self"] ["self"] (C8.fnScope sDvs) := C8.fnScope_by (by decide +kernel)
theorem fn_dvs {f : Addr} {fd : FuncData} (F : C8.Fun K "__str__" "Divided.__str__" sDvs f fd) (Z : RlZ K mg FC VC LC GC) (n : Nat) : FnOk P w K mg base (L2.CX P w) 1 f fd ["self"] (spSt FC VC LC GC n VC) := by
  obtain ⟨oc, od, dV, kV, doc, pm, an, cdv, ct, osl, rfl, lk, hcd⟩ := F.ex
  refine fn_of lk hcd scDvs (fun vs H Q E h => ?_) fun A outer s H vs Q E hr h => ?_
  · obtain ⟨a, t, rfl, _⟩ := h
    rfl
  · obtain ⟨a, t, rfl, hc, ra, ok, hn, q⟩ := h
    refine ⟨_, (pss_one (ps_ret (pe_joined (PJ.cons pe_str (PJ.cons (pe_fmt (pe_fldK K rfl (pv 0) rfl)) (PJ.cons pe_str (PJ.cons (pe_fmt (pe_fldK K rfl (pv 0) rfl)) (PJ.cons pe_str (PJ.cons (pe_fmt (pe_fldK K rfl (pv 0) rfl)) PJ.nil))))))))), ?_⟩
    obtain ⟨x, y, w0, rfl⟩ : ∃ x y w, t = .dv x y w := by
      cases t with
      | fx m => exact absurd hc Z.d1
      | dv x y w => exact ⟨x, y, w, rfl⟩
      | lo x y => exact absurd hc.symm Z.d4
      | hi x y => exact absurd hc.symm Z.d5
    obtain ⟨dx, p, h1, h2⟩ := id ra
    have l2 := Rl.tx_len ok
    obtain ⟨x0, x1, y0, y1, w1, w2⟩ := id ok
    have lx := intL_short (i := x) (Nat.le_trans (by omega : x.natAbs ≤ 1000) (by decide))
    have ly := intL_short (i := y) (Nat.le_trans (by omega : y.natAbs ≤ 1000) (by decide))
    have lw := intL_short (i := w0) (Nat.le_trans (by omega : w0.natAbs ≤ 1000) (by decide))
    have b1 : (Rl.dv x y w0).tx.length ≤ 130 := by have : (Rl.dv x y w0).cnt = 1 := rfl; omega
    have g : ∀ {i : Int}, i.natAbs ≤ 1000 → i.natAbs.log2 < 1920 := fun h => log33 (Nat.le_trans h (by decide))
    have z0 : Str.empty ++ Str.ofString "divided " = S [100, 105, 118, 105, 100, 101, 100, 32] := by
      rw [ofS [100, 105, 118, 105, 100, 101, 100, 32] "divided " rfl, show Str.empty = S [] from rfl, S_cat]; rfl
    have zs : Str.ofString " " = S [32] := ofS [32] " " rfl
    have big : ∀ l : List Nat, l.length ≤ 200 → (S l).length ≤ sizeLine := fun l h => by rw [S_len]; exact Nat.le_trans h (by decide)
    refine ⟨_, rfl, (by rw [z0]; exact big _ (by decide)), ?_⟩
    rw [z0]
    refine ⟨_, rfl, a, VC, dx, _, _, rfl, h1, Z.V.cl, Z.V.n1, dvP_x _ _ _ _, .inr ⟨x, rfl, g (by omega), _, rfl, ?_⟩⟩
    rw [str_int, S_cat]
    refine ⟨big _ (by simp only [List.length_append, List.length_cons, List.length_nil]; omega), _, rfl, ?_⟩
    rw [zs, S_cat]
    refine ⟨big _ (by simp only [List.length_append, List.length_cons, List.length_nil]; omega), _, rfl, a, VC, dx, _, _, rfl, h1, Z.V.cl, Z.V.n2, dvP_y _ _ _ _, .inr ⟨y, rfl, g (by omega), _, rfl, ?_⟩⟩
    rw [str_int, S_cat]
    refine ⟨big _ (by simp only [List.length_append, List.length_cons, List.length_nil]; omega), _, rfl, ?_⟩
    rw [S_cat]
    refine ⟨big _ (by simp only [List.length_append, List.length_cons, List.length_nil]; omega), _, rfl, a, VC, dx, _, _, rfl, h1, Z.V.cl, Z.V.n3, dvP_w _ _ _ _, .inr ⟨w0, rfl, g (by omega), _, rfl, ?_⟩⟩
    rw [str_int, S_cat]
    refine ⟨big _ (by simp only [List.length_append, List.length_cons, List.length_nil]; omega), ?_⟩
    have e : ((((([100, 105, 118, 105, 100, 101, 100, 32] ++ intL x) ++ [32]) ++ intL y) ++ [32]) ++ intL w0) = (Rl.dv x y w0).tx := by
      show _ = joinL [32] [[100, 105, 118, 105, 100, 101, 100], intL x, intL y, intL w0]
      simp [joinL]
    rw [e]
    exact q
theorem scLos : FnScope ["self"] ["self"] (C8.fnScope sLos) := C8.fnScope_by (by decide +kernel)
theorem fn_los {f : Addr} {fd : FuncData} (F : C8.Fun K "__str__" "Lesser.__str__" sLos f fd) (Z : RlZ K mg FC VC LC GC) (O : FmP K (Rk FC VC LC GC)) {n : Nat} (W : MetP P w K mg base (1 + 2 * n) (Rk FC VC LC GC) "__str__" (spSt FC VC LC GC n)) : FnOk P w K mg base (L2.CX P w) (3 + 2 * n) f fd ["self"] (spSt FC VC LC GC (n + 1) LC) := by
  obtain ⟨oc, od, dV, kV, doc, pm, an, cdv, ct, osl, rfl, lk, hcd⟩ := F.ex
  rw [show 3 + 2 * n = (2 + 2 * n) + 1 by omega]
  refine fn_of lk hcd scLos (fun vs H Q E h => ?_) fun A outer s H vs Q E hr h => ?_
  · obtain ⟨a, t, rfl, _⟩ := h
    rfl
  · obtain ⟨a, t, rfl, hc, ra, ok, hn, q⟩ := h
    refine ⟨_, (pss_one (ps_ret (pe_joined (PJ.cons pe_str (PJ.cons (pe_fmtP (pe_fldK K rfl (pv 0) rfl) O W (passes_call (takes_of rfl rfl rfl rfl) (fun _ _ _ _ z => z)) hr (by omega)) (PJ.cons pe_str (PJ.cons (pe_fmtP (pe_fldK K rfl (pv 0) rfl) O W (passes_call (takes_of rfl rfl rfl rfl) (fun _ _ _ _ z => z)) hr (by omega)) (PJ.cons pe_str PJ.nil)))))))), ?_⟩
    obtain ⟨s1, s2, rfl⟩ : ∃ s1 s2, t = .lo s1 s2 := by
      cases t with
      | fx m => exact absurd hc Z.d2
      | dv x y w => exact absurd hc Z.d4
      | lo x y => exact ⟨x, y, rfl⟩
      | hi x y => exact absurd hc.symm Z.d6
    obtain ⟨dx, p, b, c, ps, h1, h2, h3, h4, h5⟩ := id ra
    obtain ⟨o1, o2, n6, _⟩ := id ok
    have n1 : s1.cnt + s2.cnt ≤ n + 1 := hn
    have p1 := Rl.cnt_pos s1
    have p2 := Rl.cnt_pos s2
    have t1 := Rl.tx_len o1
    have t2 := Rl.tx_len o2
    obtain ⟨db, fb, _, _, hb, _⟩ := h4.has o1
    obtain ⟨dc, fc, _, _, hc2, _⟩ := h5.has o2
    have z0 : Str.empty ++ Str.ofString "( " = S [40, 32] := by
      rw [ofS [40, 32] "( " rfl, show Str.empty = S [] from rfl, S_cat]; rfl
    have zm : Str.ofString " & " = S [32, 38, 32] := ofS _ _ rfl
    have ze : Str.ofString " )" = S [32, 41] := ofS _ _ rfl
    have big : ∀ l : List Nat, l.length ≤ 1000 → (S l).length ≤ sizeLine := fun l h => by rw [S_len]; exact Nat.le_trans h (by decide)
    refine ⟨_, rfl, (by rw [z0]; exact big _ (by decide)), ?_⟩
    rw [z0]
    refine ⟨_, rfl, a, LC, dx, _, _, rfl, h1, Z.L.cl, Z.L.n1, jnP_one _ _ _ _, b, _, db, fb, rfl, Rk.of s1, hb, b, s1, rfl, rfl, h4, o1, by omega, _, rfl, _, rfl, ?_⟩
    rw [S_cat]
    refine ⟨big _ (by simp only [List.length_append, List.length_cons, List.length_nil]; omega), _, rfl, ?_⟩
    rw [zm, S_cat]
    refine ⟨big _ (by simp only [List.length_append, List.length_cons, List.length_nil]; omega), _, rfl, a, LC, dx, _, _, rfl, h1, Z.L.cl, Z.L.n2, jnP_other _ _ _ _, c, _, dc, fc, rfl, Rk.of s2, hc2, c, s2, rfl, rfl, h5, o2, by omega, _, rfl, _, rfl, ?_⟩
    rw [S_cat]
    refine ⟨big _ (by simp only [List.length_append, List.length_cons, List.length_nil]; omega), _, rfl, ?_⟩
    rw [ze, S_cat]
    refine ⟨big _ (by simp only [List.length_append, List.length_cons, List.length_nil]; omega), ?_⟩
    have e : (((([40, 32] ++ s1.tx) ++ [32, 38, 32]) ++ s2.tx) ++ [32, 41]) = (Rl.lo s1 s2).tx := by
      show _ = joinL [32] ([40] :: (s1.ws ++ ([38] :: (s2.ws ++ [[41]]))))
      rw [join_two]
      simp
    rw [e]
    exact q
theorem scHis : FnScope ["self"] ["self"] (C8.fnScope sHis) := C8.fnScope_by (by decide +kernel)
theorem fn_his {f : Addr} {fd : FuncData} (F : C8.Fun K "__str__" "Greater.__str__" sHis f fd) (Z : RlZ K mg FC VC LC GC) (O : FmP K (Rk FC VC LC GC)) {n : Nat} (W : MetP P w K mg base (1 + 2 * n) (Rk FC VC LC GC) "__str__" (spSt FC VC LC GC n)) : FnOk P w K mg base (L2.CX P w) (3 + 2 * n) f fd ["self"] (spSt FC VC LC GC (n + 1) GC) := by
  obtain ⟨oc, od, dV, kV, doc, pm, an, cdv, ct, osl, rfl, lk, hcd⟩ := F.ex
  rw [show 3 + 2 * n = (2 + 2 * n) + 1 by omega]
  refine fn_of lk hcd scHis (fun vs H Q E h => ?_) fun A outer s H vs Q E hr h => ?_
  · obtain ⟨a, t, rfl, _⟩ := h
    rfl
  · obtain ⟨a, t, rfl, hc, ra, ok, hn, q⟩ := h
    refine ⟨_, (pss_one (ps_ret (pe_joined (PJ.cons pe_str (PJ.cons (pe_fmtP (pe_fldK K rfl (pv 0) rfl) O W (passes_call (takes_of rfl rfl rfl rfl) (fun _ _ _ _ z => z)) hr (by omega)) (PJ.cons pe_str (PJ.cons (pe_fmtP (pe_fldK K rfl (pv 0) rfl) O W (passes_call (takes_of rfl rfl rfl rfl) (fun _ _ _ _ z => z)) hr (by omega)) (PJ.cons pe_str PJ.nil)))))))), ?_⟩
    obtain ⟨s1, s2, rfl⟩ : ∃ s1 s2, t = .hi s1 s2 := by
      cases t with
      | fx m => exact absurd hc Z.d3
      | dv x y w => exact absurd hc Z.d5
      | lo x y => exact absurd hc Z.d6
      | hi x y => exact ⟨x, y, rfl⟩
    obtain ⟨dx, p, b, c, ps, h1, h2, h3, h4, h5⟩ := id ra
    obtain ⟨o1, o2, n6, _⟩ := id ok
    have n1 : s1.cnt + s2.cnt ≤ n + 1 := hn
    have p1 := Rl.cnt_pos s1
    have p2 := Rl.cnt_pos s2
    have t1 := Rl.tx_len o1
    have t2 := Rl.tx_len o2
    obtain ⟨db, fb, _, _, hb, _⟩ := h4.has o1
    obtain ⟨dc, fc, _, _, hc2, _⟩ := h5.has o2
    have z0 : Str.empty ++ Str.ofString "( " = S [40, 32] := by
      rw [ofS [40, 32] "( " rfl, show Str.empty = S [] from rfl, S_cat]; rfl
    have zm : Str.ofString " | " = S [32, 124, 32] := ofS _ _ rfl
    have ze : Str.ofString " )" = S [32, 41] := ofS _ _ rfl
    have big : ∀ l : List Nat, l.length ≤ 1000 → (S l).length ≤ sizeLine := fun l h => by rw [S_len]; exact Nat.le_trans h (by decide)
    refine ⟨_, rfl, (by rw [z0]; exact big _ (by decide)), ?_⟩
    rw [z0]
    refine ⟨_, rfl, a, GC, dx, _, _, rfl, h1, Z.G.cl, Z.G.n1, jnP_one _ _ _ _, b, _, db, fb, rfl, Rk.of s1, hb, b, s1, rfl, rfl, h4, o1, by omega, _, rfl, _, rfl, ?_⟩
    rw [S_cat]
    refine ⟨big _ (by simp only [List.length_append, List.length_cons, List.length_nil]; omega), _, rfl, ?_⟩
    rw [zm, S_cat]
    refine ⟨big _ (by simp only [List.length_append, List.length_cons, List.length_nil]; omega), _, rfl, a, GC, dx, _, _, rfl, h1, Z.G.cl, Z.G.n2, jnP_other _ _ _ _, c, _, dc, fc, rfl, Rk.of s2, hc2, c, s2, rfl, rfl, h5, o2, by omega, _, rfl, _, rfl, ?_⟩
    rw [S_cat]
    refine ⟨big _ (by simp only [List.length_append, List.length_cons, List.length_nil]; omega), _, rfl, ?_⟩
    rw [ze, S_cat]
    refine ⟨big _ (by simp only [List.length_append, List.length_cons, List.length_nil]; omega), ?_⟩
    have e : (((([40, 32] ++ s1.tx) ++ [32, 124, 32]) ++ s2.tx) ++ [32, 41]) = (Rl.hi s1 s2).tx := by
      show _ = joinL [32] ([40] :: (s1.ws ++ ([124] :: (s2.ws ++ [[41]]))))
      rw [join_two]
      simp
    rw [e]
    exact q
/-- str of every rule, by the number of its parts -/
theorem strP (Z : RlZ K mg FC VC LC GC) (O : FmP K (Rk FC VC LC GC)) {f1 f2 f3 f4 : Addr} {d1 d2 d3 d4 : FuncData}
    (F1 : C8.Fun K "__str__" "Fixed.__str__" sFxs f1 d1) (m1 : Meth K FC "__str__" f1) (b1 : Binds K d1 ["self"] []) (F2 : C8.Fun K "__str__" "Divided.__str__" sDvs f2 d2) (m2 : Meth K VC "__str__" f2) (b2 : Binds K d2 ["self"] [])
    (F3 : C8.Fun K "__str__" "Lesser.__str__" sLos f3 d3) (m3 : Meth K LC "__str__" f3) (b3 : Binds K d3 ["self"] []) (F4 : C8.Fun K "__str__" "Greater.__str__" sHis f4 d4) (m4 : Meth K GC "__str__" f4) (b4 : Binds K d4 ["self"] []) :
    ∀ n, MetP P w K mg base (1 + 2 * n) (Rk FC VC LC GC) "__str__" (spSt FC VC LC GC n)
  | 0 => ⟨fun C hC => by
    have no : ∀ {f : Addr} {fd : FuncData} {C : Addr}, FnOk P w K mg base (L2.CX P w) (1 + 2 * 0) f fd ["self"] (spSt FC VC LC GC 0 C) := fun {f fd C} => ⟨fun _ _ _ _ ⟨_, t, _, _, _, _, h, _⟩ => absurd h (by have := Rl.cnt_pos t; omega), fun _ _ _ _ _ _ _ _ _ _ _ _ _ ⟨_, t, _, _, _, _, h, _⟩ => absurd h (by have := Rl.cnt_pos t; omega)⟩
    rcases hC with rfl | rfl | rfl | rfl
    · exact ⟨_, _, _, m1, no, b1⟩
    · exact ⟨_, _, _, m2, no, b2⟩
    · exact ⟨_, _, _, m3, no, b3⟩
    · exact ⟨_, _, _, m4, no, b4⟩⟩
  | n + 1 => ⟨fun C hC => by
    have W := strP Z O F1 m1 b1 F2 m2 b2 F3 m3 b3 F4 m4 b4 n
    rw [show 1 + 2 * (n + 1) = 3 + 2 * n by omega]
    rcases hC with rfl | rfl | rfl | rfl
    · exact ⟨_, _, _, m1, (fn_fxs F1 Z (n + 1)).mono (by omega), b1⟩
    · exact ⟨_, _, _, m2, (fn_dvs F2 Z (n + 1)).mono (by omega), b2⟩
    · exact ⟨_, _, _, m3, fn_los F3 Z O W, b3⟩
    · exact ⟨_, _, _, m4, fn_his F4 Z O W, b4⟩⟩
/-- str of a rule of a function -/
def spBs : Sp := fun vs H Q _ => vs.length = 1 ∧ Q (.str (Str.ofString "by")) H
theorem scBys : FnScope ["self"] ["self"] (C8.fnScope sBys) := C8.fnScope_by (by decide +kernel)
theorem fn_bys {f : Addr} {fd : FuncData} (F : C8.Fun K "__str__" "By.__str__" sBys f fd) : FnOk P w K mg base (L2.CX P w) 1 f fd ["self"] spBs := by
  obtain ⟨oc, od, dV, kV, doc, pm, an, cdv, ct, osl, rfl, lk, hcd⟩ := F.ex
  exact fn_of lk hcd scBys (fun vs H Q E h => h.1) fun A outer s H vs Q E hr h => ⟨_, (pss_one (ps_ret pe_str)), h.2⟩
end
end Lw
namespace Lw
open PySem PySem.Spec PyProof.Rows L2
open SX PySem.NumText TL LamX
/-! ### the Reader -/
abbrev sRI : Stmt := inClass (top 19) 0
abbrev sRah : Stmt := inClass (top 19) 1
abbrev sRrf : Stmt := inClass (top 19) 2
abbrev sRtk : Stmt := inClass (top 19) 3
abbrev sRex : Stmt := inClass (top 19) 5
abbrev sRmo : Stmt := inClass (top 19) 6
abbrev sRfi : Stmt := inClass (top 19) 7
section
variable {X : Cx} {k j : Nat} {C : Addr} {m : Str} {sp : Sp} {E : XK} {o e : Expr} {es : List Expr} {ta : TE} {t : TA} {pos apos : Pos} {pl : Sem Bool}
/-- a method of an own class, called -/
theorem pe_mx0 (he : PE X o ta) (c : Cls X.K C) (M : MetX X.prog X.w X.K X.mg X.base k C m sp) (hr : Room j X.A) (hk : k ≤ j) (hx : Passes (L2.CX X.prog X.w) X E)
    (ht : eval (.Call (.Attribute o m apos) [] [] pos) X.env = (do
      let ov ← eval o X.env
      standAt apos.atName
      let (f, first) ← holding [ov] (getMethod ov m pl)
      callWith pos f first (backTo pos (starEach [] X.env)) (backToKw pos (keywordEach [] X.env))) := by rfl) :
    PE X (.Call (.Attribute o m apos) [] [] pos) (tMeth C m sp [] E ta tNil) := by
  obtain ⟨g, fd, ps, hm, F, b⟩ := M.ex
  exact pe_meth0 he c hm F (hr.mono hk) b .nil hx ht
theorem pe_mx (he : PE X o ta) (c : Cls X.K C) (M : MetX X.prog X.w X.K X.mg X.base k C m sp) (hr : Room j X.A) (hk : k ≤ j) (hx : Passes (L2.CX X.prog X.w) X E) (ha : PA X (e :: es) t)
    (hst : starEach (e :: es) X.env = (false, eval e X.env) :: starEach es X.env := by rfl) (hpl : (backTo pos (starEach es X.env)).any (·.1) = false := by rfl)
    (ht : eval (.Call (.Attribute o m apos) (e :: es) [] pos) X.env = (do
      let ov ← eval o X.env
      standAt apos.atName
      let (f, first) ← holding [ov] (getMethod ov m pl)
      callWith pos f first (backTo pos (starEach (e :: es) X.env)) (backToKw pos (keywordEach [] X.env))) := by rfl) :
    PE X (.Call (.Attribute o m apos) (e :: es) [] pos) (tMeth C m sp [] E ta t) := by
  obtain ⟨g, fd, ps, hm, F, b⟩ := M.ex
  exact pe_meth he c hm F (hr.mono hk) b .nil hx ha hst hpl ht
end
theorem putF_len (f : Str) (v : V) : ∀ fs : List (Str × V), (putF f v fs).length ≤ fs.length + 1
  | [] => Nat.le_refl _
  | (g, x) :: r => by
    unfold putF
    split
    · simp
    · have := putF_len f v r
      rw [List.length_cons, List.length_cons]
      omega
/-- its attributes -/
def rdF (l : Addr) (n : Int) : List (Str × V) := [("_words", .ref l), ("_row", .int 0), ("_at", .int n)]
theorem rdF_words (l : Addr) (n : Int) : (rdF l n).lookup ("_words" : Str) = some (.ref l) := by unfold rdF; rw [lookup_put, if_pos rfl]
theorem rdF_row (l : Addr) (n : Int) : (rdF l n).lookup ("_row" : Str) = some (.int 0) := by unfold rdF; rw [lookup_put, if_neg (by decide +kernel), lookup_put, if_pos rfl]
theorem rdF_at (l : Addr) (n : Int) : (rdF l n).lookup ("_at" : Str) = some (.int n) := by unfold rdF; rw [lookup_put, if_neg (by decide +kernel), lookup_put, if_neg (by decide +kernel), lookup_put, if_pos rfl]
theorem rdF_no {m : Str} (l : Addr) (n : Int) (h1 : m ≠ "_words") (h2 : m ≠ "_row") (h3 : m ≠ "_at") : (rdF l n).lookup m = none := by unfold rdF; rw [lookup_put, if_neg h1, lookup_put, if_neg h2, lookup_put, if_neg h3]; rfl
theorem rdF_put (l : Addr) (n i : Int) : putF "_at" (.int i) (rdF l n) = rdF l i := by
  unfold rdF putF
  rw [if_neg (by decide +kernel)]
  unfold putF
  rw [if_neg (by decide +kernel)]
  unfold putF
  rw [if_pos rfl]
theorem rdF_new (l : Addr) (n : Int) : putF "_at" (.int n) (putF "_row" (.int 0) (putF "_words" (.ref l) [])) = rdF l n := by
  have e1 : putF "_words" (.ref l) [] = [(("_words" : Str), V.ref l)] := rfl
  have e2 : putF "_row" (.int 0) [(("_words" : Str), V.ref l)] = [(("_words" : Str), V.ref l), (("_row" : Str), V.int 0)] := by
    unfold putF
    rw [if_neg (by decide +kernel)]
    rfl
  rw [e1, e2]
  unfold putF
  rw [if_neg (by decide +kernel)]
  unfold putF
  rw [if_neg (by decide +kernel)]
  rfl
/-- the words of a text -/
def wds (cs : List Nat) : List (List Nat) := TL.spl [32] 0 [] cs
theorem split_wds (cs : List Nat) : Txt.split (S cs) (Str.ofString " ") = (wds cs).map S := split_S (b := [32]) (List.cons_ne_nil _ _) rfl
def wV (ws : List (List Nat)) : List V := (ws.map S).map V.str
def RdAt (R : Addr) (H : Hp) (r l : Addr) (ws : List (List Nat)) (n : Nat) : Prop := (∃ dx, H r = some (.ins R dx (rdF l n))) ∧ H l = some (.lst (wV ws))
theorem RdAt.same {R : Addr} {H H' : Hp} {r l : Addr} {ws : List (List Nat)} {n : Nat} (h : RdAt R H r l ws n) (s : Same H H') : RdAt R H' r l ws n := by
  obtain ⟨⟨dx, h1⟩, h2⟩ := h
  exact ⟨⟨dx, s _ _ h1⟩, s _ _ h2⟩
/-- the word at hand -/
def handV (ws : List (List Nat)) (n : Nat) : V := match ws[n]? with
  | some w => .str (S w)
  | none => .non
/-- all but what stands at r is as it was: Kp. A refusal at word n -/
def Rf (D : Addr) (H : Hp) (E : XK) (n : Nat) : Prop := ∀ d fs H', Same H H' → H' d = none → fs.lookup ("line" : Str) = some (.int 0) → fs.lookup ("word" : Str) = some (.int n) → E (.ref D) (some d) (upd H' d (.xd fs))
def spRI (K : PySem.W.Frag) (R D : Addr) : Sp := fun vs H Q E => ∃ (r dx : Addr) (x : V), vs = [.ref r, x, .int 0] ∧ Anyv K H x ∧ H r = some (.ins R dx []) ∧ (isS x = false → Rf D H E 0) ∧
  ∀ z, x = .str z → ∃ cs, z = S cs ∧ cs.length ≤ 100000 ∧ ∀ l, H l = none → Q .non (upd (upd H l (.lst (wV (wds cs)))) r (.ins R dx (rdF l 0)))
def spRah (R : Addr) : Sp := fun vs H Q _ => ∃ r l ws n, vs = [.ref r] ∧ RdAt R H r l ws n ∧ Q (handV ws n) H
def spRrf (R D : Addr) : Sp := fun vs H _ E => ∃ r l ws n, vs = [.ref r] ∧ RdAt R H r l ws n ∧ Rf D H E n
def spRtk (R D : Addr) : Sp := fun vs H Q E => ∃ r l ws n x, vs = [.ref r, x] ∧ RdAt R H r l ws n ∧ (x = .non → Rf D H E n) ∧ (x ≠ .non → ∀ H', Kp r H H' → RdAt R H' r l ws (n + 1) → Q x H')
def spRex (R : Addr) : Sp := fun vs H Q _ => ∃ r l ws n z, vs = [.ref r, .str z] ∧ RdAt R H r l ws n ∧ handV ws n = .str z ∧ ∀ H', Kp r H H' → RdAt R H' r l ws (n + 1) → Q .non H'
def moreB (ws : List (List Nat)) (n : Nat) : Bool := match ws[n]? with
  | some w => !(decide (w = [47]) || decide (w = [59]))
  | none => false
def spRmo (R : Addr) : Sp := fun vs H Q _ => ∃ r l ws n, vs = [.ref r] ∧ RdAt R H r l ws n ∧ ∀ H', Same H H' → Q (.bl (moreB ws n)) H'
def spRfi (R D : Addr) : Sp := fun vs H Q E => ∃ r l ws n, vs = [.ref r] ∧ RdAt R H r l ws n ∧ (n < ws.length → Rf D H E n) ∧ (ws.length ≤ n → Q .non H)
/-- the Reader's class -/
structure RdC (K : PySem.W.Frag) (R : Addr) : Prop where
  cl : Cls K R
  n1 : NoAttr K R "_words"
  n2 : NoAttr K R "_row"
  n3 : NoAttr K R "_at"
theorem eqV_S (a b : List Nat) : eqV (.str (S a)) (.str (S b)) = decide (b = a) := by
  show (S a == S b) = _
  by_cases h : b = a
  · subst h; simp
  · rw [decide_eq_false h]
    exact beq_eq_false_iff_ne.mpr fun e => h (S_inj e).symm
section
variable {P : Program} {w : World} {K : PySem.W.Frag} {mg : Str → Option Value} {base : Heap}
theorem scRI : FnScope ["self", "text", "row"] ["self", "text", "row"] (C8.fnScope sRI) := C8.fnScope_by (by decide +kernel)
theorem fn_ri {R D f fE : Addr} {fd fdE : FuncData} (F : C8.Fun K "__init__" "Reader.__init__" sRI f fd) (T : Txt mg) (rc : RdC K R) (ER : Err2 "BadText" "line" "word" P w K mg base D fE fdE) : FnOk P w K mg base (L2.CX P w) 3 f fd ["self", "text", "row"] (spRI K R D) := by
  obtain ⟨oc, od, dV, kV, doc, pm, an, cdv, ct, osl, rfl, lk, hcd⟩ := F.ex
  refine fn_of lk hcd scRI (fun vs H Q E h => ?_) fun A outer s H vs Q E hr h => ?_
  · obtain ⟨r, dx, x, rfl, _⟩ := h
    rfl
  · obtain ⟨r, dx, x, rfl, av, hx, k1, k2⟩ := h
    have tk : Takes (cxOf (L2.CX P w) P w K mg base ["self", "text", "row"] "Reader.__init__" (C8.fnScope sRI) f cdv A outer s H E) (fun cls d _ H' => E cls d H') := takes_of rfl rfl rfl rfl
    refine ⟨_, (pss_cons (ps_if (pt_not (pt_val (pe_callB call_isz (by rfl) T.n_isinstance (by decide +kernel) (pa_cons (pv 1) (pa_cons (pe_bltn (v := .ty "str") (by rfl) T.n_str (by decide +kernel) rfl) pa_nil))))) (pss_one (ps_bad2 (x := "BadText") rfl tk ER.T ER.iC ER.tI ER.F hr ER.b (by rfl) ER.hm pe_int pe_int)) pss_nil)
      (pss_cons (ps_fld (pv 0) (pe_split (pv 1) pe_str) rfl)
      (pss_cons (ps_fld (pv 0) (pv 2) rfl)
      (pss_one (ps_fld (pv 0) pe_int rfl))))), ?_⟩
    refine ⟨_, rfl, ?_⟩
    dsimp only [tCons, tC, tNil]
    refine isz_str av ⟨_, rfl, ?_⟩
    have no : isS x = false → tBad2 "line" "word" D (fun cls d _ H' => E cls d H') (tC (.int 0)) (tC (.int 0)) { nx := fun _ H' => Q .non H', rt := Q } [] H := fun e => by
      exact bad_leaf2 fun d fs hd e1 e2 => k1 e d fs H (Same.refl _) hd e1 e2
    cases av with
    | str z =>
      obtain ⟨cs, rfl, hl, go⟩ := k2 z rfl
      have hs : (S cs).length + 2 ≤ sizeLine := by rw [S_len]; exact Nat.le_trans (Nat.add_le_add_right hl 2) (by decide)
      refine iteF ?_
      refine ⟨_, rfl, ⟨_, rfl⟩, _, _, rfl, rfl, by rfl, hs, fun l fl => ?_⟩
      rw [split_wds]
      have ne : l ≠ r := fun e => by rw [e, hx] at fl; cases fl
      refine ⟨_, rfl, r, R, dx, [], rfl, by rw [upd_ne ne.symm]; exact hx, rc.cl, rc.n1, (by show 0 < 1000; decide), ?_⟩
      refine ⟨_, rfl, _, rfl, r, R, dx, _, rfl, upd_same, rc.cl, rc.n2, (by show 1 < 1000; decide), ?_⟩
      refine ⟨_, rfl, r, R, dx, _, rfl, upd_same, rc.cl, rc.n3, ?_, ?_⟩
      · exact Nat.lt_of_le_of_lt (Nat.le_trans (putF_len _ _ _) (Nat.add_le_add_right (putF_len _ _ _) 1)) (by decide)
      rw [upd_upd, upd_upd, rdF_new]
      exact go l fl
    | int i => exact iteT (no rfl)
    | bl b => exact iteT (no rfl)
    | non => exact iteT (no rfl)
    | obj h h1 h2 h3 => exact iteT (no rfl)
theorem hand_any (K : PySem.W.Frag) (H : Hp) (ws : List (List Nat)) (n : Nat) : Anyv K H (handV ws n) := by
  unfold handV
  cases ws[n]? with
  | none => exact .non
  | some w => exact .str _
theorem scRah : FnScope ["self"] ["self"] (C8.fnScope sRah) := C8.fnScope_by (by decide +kernel)
theorem fn_rah {R f : Addr} {fd : FuncData} (F : C8.Fun K "at_hand" "Reader.at_hand" sRah f fd) (T : Txt mg) (rc : RdC K R) : FnOk P w K mg base (L2.CX P w) 1 f fd ["self"] (spRah R) := by
  obtain ⟨oc, od, dV, kV, doc, pm, an, cdv, ct, osl, rfl, lk, hcd⟩ := F.ex
  refine fn_of lk hcd scRah (fun vs H Q E h => ?_) fun A outer s H vs Q E hr h => ?_
  · obtain ⟨r, l, ws, n, rfl, _⟩ := h
    rfl
  · obtain ⟨r, l, ws, n, rfl, ⟨⟨dx, hr1⟩, hl⟩, k⟩ := h
    refine ⟨_, (pss_one (ps_ret (pe_ifExp (pt_cmpR op_lt (pe_fld (pv 0) rfl) (pe_callB call_len_seq (by rfl) T.n_len (by decide +kernel) (pa_cons (pe_fld (pv 0) rfl) pa_nil)) (nomark _)) (pe_ix ix_list (pe_fld (pv 0) rfl) (pe_fld (pv 0) rfl) (fun _ _ => rfl)) pe_non))), ?_⟩
    refine ⟨_, rfl, r, R, dx, _, _, rfl, hr1, rc.cl, rc.n3, rdF_at l n, _, rfl, r, R, dx, _, _, rfl, hr1, rc.cl, rc.n1, rdF_words l n, l, _, rfl, .inl (SqL.of hl), _, _, rfl, rfl, _, rfl, ite2 (fun c => ?_) (fun c => ?_)⟩
    · have c' := of_decide_eq_true c
      have hlen : (wV ws).length = ws.length := by unfold wV; rw [List.length_map, List.length_map]
      rw [hlen] at c'
      have hn : n < ws.length := by omega
      refine ⟨_, rfl, r, R, dx, _, _, rfl, hr1, rc.cl, rc.n1, rdF_words l n, _, rfl, r, R, dx, _, _, rfl, hr1, rc.cl, rc.n3, rdF_at l n, l, _, _, .str (S ws[n]), rfl, rfl, SqL.of hl, atI_nat (by unfold wV; simp [hn]), ?_⟩
      unfold handV at k
      rw [List.getElem?_eq_getElem hn] at k
      exact k
    · have c' := of_decide_eq_false (Bool.eq_false_iff.mpr c)
      have hlen : (wV ws).length = ws.length := by unfold wV; rw [List.length_map, List.length_map]
      rw [hlen] at c'
      unfold handV at k
      rw [List.getElem?_eq_none (by omega)] at k
      exact k
theorem scRrf : FnScope ["self"] ["self"] (C8.fnScope sRrf) := C8.fnScope_by (by decide +kernel)
theorem fn_rrf {R D f fE : Addr} {fd fdE : FuncData} (F : C8.Fun K "refuse" "Reader.refuse" sRrf f fd) (rc : RdC K R) (ER : Err2 "BadText" "line" "word" P w K mg base D fE fdE) : FnOk P w K mg base (L2.CX P w) 3 f fd ["self"] (spRrf R D) := by
  obtain ⟨oc, od, dV, kV, doc, pm, an, cdv, ct, osl, rfl, lk, hcd⟩ := F.ex
  refine fn_of lk hcd scRrf (fun vs H Q E h => ?_) fun A outer s H vs Q E hr h => ?_
  · obtain ⟨r, l, ws, n, rfl, _⟩ := h
    rfl
  · obtain ⟨r, l, ws, n, rfl, ⟨⟨dx, hr1⟩, hl⟩, k⟩ := h
    have tk : Takes (cxOf (L2.CX P w) P w K mg base ["self"] "Reader.refuse" (C8.fnScope sRrf) f cdv A outer s H E) (fun cls d _ H' => E cls d H') := takes_of rfl rfl rfl rfl
    refine ⟨_, (pss_one (ps_bad2 (x := "BadText") rfl tk ER.T ER.iC ER.tI ER.F hr ER.b (by rfl) ER.hm (pe_fld (pv 0) rfl) (pe_fld (pv 0) rfl))), ?_⟩
    refine ⟨_, rfl, r, R, dx, _, _, rfl, hr1, rc.cl, rc.n2, rdF_row l n, _, rfl, r, R, dx, _, _, rfl, hr1, rc.cl, rc.n3, rdF_at l n, ?_⟩
    exact bad_leaf2 fun d fs hd e1 e2 => k d fs H (Same.refl _) hd e1 e2
theorem scRtk : FnScope ["self", "worth"] ["self", "worth"] (C8.fnScope sRtk) := C8.fnScope_by (by decide +kernel)
theorem fn_rtk {R D f : Addr} {fd : FuncData} (F : C8.Fun K "take" "Reader.take" sRtk f fd) (rc : RdC K R) (MR : MetX P w K mg base 3 R "refuse" (spRrf R D)) : FnOk P w K mg base (L2.CX P w) 5 f fd ["self", "worth"] (spRtk R D) := by
  obtain ⟨oc, od, dV, kV, doc, pm, an, cdv, ct, osl, rfl, lk, hcd⟩ := F.ex
  refine fn_of lk hcd scRtk (fun vs H Q E h => ?_) fun A outer s H vs Q E hr h => ?_
  · obtain ⟨r, l, ws, n, x, rfl, _⟩ := h
    rfl
  · obtain ⟨r, l, ws, n, x, rfl, at_, k1, k2⟩ := h
    obtain ⟨⟨dx, hr1⟩, hl⟩ := id at_
    refine ⟨_, (pss_cons (ps_if (pt_cmpR op_isN (pv 1) pe_non (nomark _)) (pss_one (ps_expr (pe_mx0 (pv 0) rc.cl MR hr (by decide) (passes_call (takes_of rfl rfl rfl rfl) (fun _ _ _ _ z => z))))) pss_nil)
      (pss_cons (ps_fldaug (pv 0) pe_int in_add)
      (pss_one (ps_ret (pv 1))))), ?_⟩
    refine ⟨_, rfl, rfl, _, rfl, ite2 (fun c => ?_) (fun c => ?_)⟩
    · exact ⟨_, rfl, r, dx, _, rfl, hr1, rdF_no l n (by decide +kernel) (by decide +kernel) (by decide +kernel), r, l, ws, n, rfl, at_, k1 (of_decide_eq_true c)⟩
    · have nx : x ≠ .non := of_decide_eq_false (Bool.eq_false_iff.mpr c)
      refine ⟨_, rfl, r, R, dx, _, _, rfl, hr1, rc.cl, rc.n3, rdF_at l n, ?_⟩
      refine ⟨_, _, rfl, rfl, dx, _, hr1, (by show 3 < 1000; decide), ?_⟩
      rw [rdF_put]
      have nl : l ≠ r := fun e => by rw [e, hr1] at hl; cases hl
      refine ⟨_, rfl, k2 nx _ (fun b o hb e => by rw [upd_ne hb]; exact e) ⟨⟨dx, ?_⟩, by rw [upd_ne nl]; exact hl⟩⟩
      rw [upd_same]
      rfl
theorem scRex : FnScope ["self", "sign"] ["self", "sign"] (C8.fnScope sRex) := C8.fnScope_by (by decide +kernel)
theorem fn_rex {R D f : Addr} {fd : FuncData} (F : C8.Fun K "expect" "Reader.expect" sRex f fd) (rc : RdC K R) (MA : MetX P w K mg base 1 R "at_hand" (spRah R)) (MT : MetX P w K mg base 5 R "take" (spRtk R D)) : FnOk P w K mg base (L2.CX P w) 7 f fd ["self", "sign"] (spRex R) := by
  obtain ⟨oc, od, dV, kV, doc, pm, an, cdv, ct, osl, rfl, lk, hcd⟩ := F.ex
  refine fn_of lk hcd scRex (fun vs H Q E h => ?_) fun A outer s H vs Q E hr h => ?_
  · obtain ⟨r, l, ws, n, z, rfl, _⟩ := h
    rfl
  · obtain ⟨r, l, ws, n, z, rfl, at_, hz, k⟩ := h
    obtain ⟨⟨dx, hr1⟩, hl⟩ := id at_
    refine ⟨_, (pss_one (ps_expr (pe_mx (E := C8.E0) (pv 0) rc.cl MT hr (by decide) (passes_call takes0 (fun _ _ _ _ z => z)) (pa_cons (pe_ifExp (pt_cmpR op_eq (pe_mx0 (E := C8.E0) (pv 0) rc.cl MA hr (by decide) (passes_call takes0 (fun _ _ _ _ z => z))) (pv 1) (nomark _)) (pv 1) pe_non) pa_nil)))), ?_⟩
    refine ⟨_, rfl, r, dx, _, rfl, hr1, rdF_no l n (by decide +kernel) (by decide +kernel) (by decide +kernel), ?_⟩
    refine ⟨_, rfl, r, dx, _, rfl, hr1, rdF_no l n (by decide +kernel) (by decide +kernel) (by decide +kernel), r, l, ws, n, rfl, at_, ?_⟩
    rw [hz]
    refine ⟨_, rfl, rfl, _, rfl, iteT' (by simp) ?_⟩
    exact ⟨_, rfl, r, l, ws, n, _, rfl, at_, (fun e => by cases e), fun _ H' k1 a1 => k H' k1 a1⟩
theorem scRmo : FnScope ["self"] ["self"] (C8.fnScope sRmo) := C8.fnScope_by (by decide +kernel)
theorem fn_rmo {R f : Addr} {fd : FuncData} (F : C8.Fun K "more" "Reader.more" sRmo f fd) (rc : RdC K R) (MA : MetX P w K mg base 1 R "at_hand" (spRah R)) : FnOk P w K mg base (L2.CX P w) 3 f fd ["self"] (spRmo R) := by
  obtain ⟨oc, od, dV, kV, doc, pm, an, cdv, ct, osl, rfl, lk, hcd⟩ := F.ex
  refine fn_of lk hcd scRmo (fun vs H Q E h => ?_) fun A outer s H vs Q E hr h => ?_
  · obtain ⟨r, l, ws, n, rfl, _⟩ := h
    rfl
  · obtain ⟨r, l, ws, n, rfl, at_, k⟩ := h
    obtain ⟨⟨dx, hr1⟩, hl⟩ := id at_
    refine ⟨_, (pss_one (ps_ret (pe_cmpR op_notIn_seq (pe_mx0 (E := C8.E0) (pv 0) rc.cl MA hr (by decide) (passes_call takes0 (fun _ _ _ _ z => z))) (pe_tup (pa_cons pe_non (pa_cons pe_str (pa_cons pe_str pa_nil)))) (by rfl)))), ?_⟩
    refine ⟨_, rfl, r, dx, _, rfl, hr1, rdF_no l n (by decide +kernel) (by decide +kernel) (by decide +kernel), r, l, ws, n, rfl, at_, ?_⟩
    refine ⟨(by show 3 ≤ sizeLine; decide), fun q hq => ?_⟩
    refine ⟨q, _, rfl, .inr (SqT.of upd_same), by unfold handV; cases ws[n]? <;> rfl, rfl, ?_⟩
    have e : (!inV (handV ws n) [V.non, .str (Str.ofString "/"), .str (Str.ofString ";")]) = moreB ws n := by
      unfold handV moreB
      cases ws[n]? with
      | none => rfl
      | some w =>
        show (!(eqV .non (.str (S w)) || (eqV (.str (Str.ofString "/")) (.str (S w)) || (eqV (.str (Str.ofString ";")) (.str (S w)) || false)))) = _
        have e1 : eqV (.str (Str.ofString "/")) (.str (S w)) = decide (w = [47]) := eqV_S [47] w
        have e2 : eqV (.str (Str.ofString ";")) (.str (S w)) = decide (w = [59]) := eqV_S [59] w
        rw [e1, e2, Bool.or_false]
        rfl
    have := k _ (same_new (o := HO.tup [V.non, .str (Str.ofString "/"), .str (Str.ofString ";")]) hq)
    rw [← e] at this
    exact this
theorem scRfi : FnScope ["self"] ["self"] (C8.fnScope sRfi) := C8.fnScope_by (by decide +kernel)
theorem fn_rfi {R D f : Addr} {fd : FuncData} (F : C8.Fun K "finish" "Reader.finish" sRfi f fd) (T : Txt mg) (rc : RdC K R) (MR : MetX P w K mg base 3 R "refuse" (spRrf R D)) : FnOk P w K mg base (L2.CX P w) 5 f fd ["self"] (spRfi R D) := by
  obtain ⟨oc, od, dV, kV, doc, pm, an, cdv, ct, osl, rfl, lk, hcd⟩ := F.ex
  refine fn_of lk hcd scRfi (fun vs H Q E h => ?_) fun A outer s H vs Q E hr h => ?_
  · obtain ⟨r, l, ws, n, rfl, _⟩ := h
    rfl
  · obtain ⟨r, l, ws, n, rfl, at_, k1, k2⟩ := h
    obtain ⟨⟨dx, hr1⟩, hl⟩ := id at_
    refine ⟨_, (pss_one (ps_if (pt_cmpR op_lt (pe_fld (pv 0) rfl) (pe_callB call_len_seq (by rfl) T.n_len (by decide +kernel) (pa_cons (pe_fld (pv 0) rfl) pa_nil)) (nomark _)) (pss_one (ps_expr (pe_mx0 (pv 0) rc.cl MR hr (by decide) (passes_call (takes_of rfl rfl rfl rfl) (fun _ _ _ _ z => z))))) pss_nil)), ?_⟩
    have hlen : (wV ws).length = ws.length := by unfold wV; rw [List.length_map, List.length_map]
    refine ⟨_, rfl, r, R, dx, _, _, rfl, hr1, rc.cl, rc.n3, rdF_at l n, _, rfl, r, R, dx, _, _, rfl, hr1, rc.cl, rc.n1, rdF_words l n, l, _, rfl, .inl (SqL.of hl), _, _, rfl, rfl, _, rfl, ite2 (fun c => ?_) (fun c => ?_)⟩
    · have c' := of_decide_eq_true c
      rw [hlen] at c'
      exact ⟨_, rfl, r, dx, _, rfl, hr1, rdF_no l n (by decide +kernel) (by decide +kernel) (by decide +kernel), r, l, ws, n, rfl, at_, k1 (by omega)⟩
    · have c' := of_decide_eq_false (Bool.eq_false_iff.mpr c)
      rw [hlen] at c'
      exact k2 (by omega)
end
end Lw
namespace Lw
open PySem PySem.Spec PyProof.Rows L2
open SX PySem.NumText TL LamX ClX StX
set_option pp.maxSteps 900
abbrev sRin : Stmt := inClass (top 19) 4
abbrev sRp : Stmt := top 28
abbrev sRs : Stmt := top 29
abbrev sRr : Stmt := top 27
abbrev sRo : Stmt := top 42
theorem num_dig (n : Nat) : digB (numL n) = true := by
  unfold digB
  rw [Bool.and_eq_true]
  refine ⟨?_, List.all_eq_true.mpr fun c hc => ?_⟩
  · cases e : numL n with
    | nil => exact absurd e (numL_ne n)
    | cons c r => rfl
  · have := numL_digits n c hc
    rw [Bool.and_eq_true, decide_eq_true_eq, decide_eq_true_eq]
    exact this
theorem figs_num (n : Nat) : figs (numL n) = numL n := by
  cases e : numL n with
  | nil => rfl
  | cons c r =>
    have := numL_digits n c (by rw [e]; exact List.mem_cons_self)
    exact figs_other r (by omega)
theorem num_48 {n : Nat} (h : (numL n).head? = some 48) : n = 0 := by
  refine Classical.byContradiction fun z => ?_
  obtain ⟨c, r, e, hc⟩ := num_head n (by omega)
  rw [e] at h
  have := Option.some.inj h
  omega
theorem intOf_intL (i : Int) : intOf (intL i) = some i := by
  unfold intL
  by_cases h : i < 0
  · rw [if_pos h]
    unfold intOf
    rw [figs_minus, if_pos (num_dig _), if_neg (fun z => ?_), if_pos (show (45 :: numL i.natAbs).head? = some 45 from rfl), numL_val]
    · exact congrArg some (by omega)
    · have := num_48 z.1
      omega
  · rw [if_neg h]
    unfold intOf
    rw [figs_num, if_pos (num_dig _), if_neg (fun z => ?_), if_neg (fun z => ?_), numL_val]
    · exact congrArg some (by omega)
    · cases e : numL i.natAbs with
      | nil => exact absurd e (numL_ne _)
      | cons c r =>
        have := numL_digits i.natAbs c (by rw [e]; exact List.mem_cons_self)
        rw [e] at z
        have := Option.some.inj z
        omega
    · have e := num_48 z.1
      rw [e] at z
      exact z.2 rfl
theorem wds_join {ws : List (List Nat)} (ne : ws ≠ []) (h : ∀ w ∈ ws, 32 ∉ w) : wds (joinL [32] ws) = ws := TL.spl_join ne h
theorem intL_chars {n : Int} {c : Nat} (h : c ∈ intL n) : c = 45 ∨ (48 ≤ c ∧ c ≤ 57) := by
  unfold intL at h
  split at h
  · rcases List.mem_cons.mp h with h | h
    · exact .inl h
    · exact .inr (numL_digits _ _ h)
  · exact .inr (numL_digits _ _ h)
theorem text_hand (ws : List (List Nat)) (n : Nat) (h : ∀ w ∈ ws, (∀ c ∈ w, c < 128) ∧ w.length ≤ 5000) : TextOk (handV ws n) := fun z e => by
  unfold handV at e
  cases hw : ws[n]? with
  | none => rw [hw] at e; cases e
  | some w =>
    rw [hw] at e
    cases e
    obtain ⟨h1, h2⟩ := h w (List.mem_of_getElem? hw)
    exact ⟨w, rfl, h1, h2⟩

def numAt (ws : List (List Nat)) (n : Nat) (lo hi : Int) : Option Int := numV (handV ws n) lo hi
def spRin (R D : Addr) : Sp := fun vs H Q E => ∃ r l ws n lo hi, vs = [.ref r, .int lo, .int hi] ∧ RdAt R H r l ws n ∧ (∀ w ∈ ws, (∀ c ∈ w, c < 128) ∧ w.length ≤ 5000) ∧ (numAt ws n lo hi = none → Rf D H E n) ∧ (∀ k, numAt ws n lo hi = some k → ∀ H', Kp r H H' → RdAt R H' r l ws (n + 1) → Q (.int k) H')
/-- C(*y): an instance made of what stands in y -/
def tMakeS (K : PySem.W.Frag) (C : Addr) (sp : Sp) (E : XK) (te : TE) : TE := fun σ H Q => te σ H fun y H1 => ∃ a xs, y = V.ref a ∧ (SqT K H1 a xs ∨ SqL K H1 a xs) ∧ ∀ x dx, H1 x = none → H1 dx = none → dx ≠ x → sp (V.ref x :: xs) (upd (upd H1 dx (.own x)) x (.ins C dx [])) (fun v H2 => v = .non ∧ Q (.ref x) H2) E
section
variable {X : Cx} {CX : CXT} {k : Nat} {f C : Addr} {fd : FuncData} {ps : List Str} {sp : Sp} {E : XK} {x : Str} {e : Expr} {te : TE} {p q pos : Pos}
theorem pe_makeS (M : Mk X.K C f) (F : FnOk X.prog X.w X.K X.mg X.base CX k f fd ps sp) (hr : Room (k + 1) X.A) (hg : Gl X x) (hm : X.mg x = some (.ref C)) (hb : Binds X.K fd ps []) (hx : Passes CX X E) (he : PE X e te) (hdb : (x == ("__debug__" : Str)) = false := by decide)
    (hst : starEach [.Starred e q] X.env = [(true, eval e X.env)] := by rfl) : PE X (.Call (.Name x p) [.Starred e q] [] pos) (tMakeS X.K C sp E te) := by
  refine ⟨fun pins s σ H Q I h => ?_⟩
  refine wpAny_Call_Name_kw (ld_glob I hg hm ?_ hdb)
  refine PySem.W.callWith_S (h₀ := X.base) I.ok.mod.kin M.kp (thn (he.run pins s σ H _ I h) fun v s1 ⟨y, H1, I1, ry, a, xs, ey, hxs, z⟩ => ?_) hst
  subst ey
  obtain rfl : v = Value.ref a := ry
  exact star_any I1 hxs fun us s2 I2 rv => ⟨I2.kIn, run_make M F hr hb .nil hx I2 rv (by simpa using z)⟩
end
/-! ### the words of a rule -/
def Rl.leaf : Rl → Bool
  | .fx _ => true | .dv _ _ _ => true | _ => false
def Rl.nums : Rl → List V
  | .fx n => [.int n] | .dv x y w => [.int x, .int y, .int w] | _ => []
def Rl.w0 : Rl → List Nat
  | .fx _ => [102, 105, 120, 101, 100] | _ => [100, 105, 118, 105, 100, 101, 100]
/-- words that a reader can read -/
def Wd (ws : List (List Nat)) : Prop := ∀ w ∈ ws, (∀ c ∈ w, c < 128) ∧ w.length ≤ 5000
theorem num_at {ws : List (List Nat)} {n : Nat} {i lo hi : Int} (h : ws[n]? = some (intL i)) (h1 : lo ≤ i) (h2 : i ≤ hi) : numAt ws n lo hi = some i := by
  unfold numAt handV
  rw [h]
  show numV (.str (S (intL i))) lo hi = some i
  unfold numV
  rw [show intV (.str (S (intL i))) = some i from intOf_intL i]
  exact if_pos ⟨h1, h2⟩
theorem hand_at {ws : List (List Nat)} {n : Nat} {w : List Nat} (h : ws[n]? = some w) : handV ws n = .str (S w) := by unfold handV; rw [h]
theorem Rl.ws_ok : ∀ {t : Rl}, t.Ok → Wd t.ws ∧ ∀ w ∈ t.ws, 32 ∉ w
  | .fx n, h => by
    obtain ⟨h1, h2⟩ := h
    have l := intL_short (i := n) (by omega)
    constructor
    · intro w hw
      rcases List.mem_cons.mp hw with rfl | hw
      · exact ⟨by decide, by decide⟩
      · obtain rfl := List.mem_singleton.mp hw
        exact ⟨fun c hc => by have := intL_chars hc; omega, by omega⟩
    · intro w hw
      rcases List.mem_cons.mp hw with rfl | hw
      · decide
      · obtain rfl := List.mem_singleton.mp hw
        exact fun hc => by have := intL_chars hc; omega
  | .dv x y w, h => by
    obtain ⟨h1, h2, h3, h4, h5, h6⟩ := h
    have g : ∀ {i : Int}, i.natAbs ≤ 1000 → (∀ c ∈ intL i, c < 128) ∧ (intL i).length ≤ 5000 := fun {i} z => ⟨fun c hc => by have := intL_chars hc; omega, by have := intL_short (i := i) (Nat.le_trans z (by decide)); omega⟩
    have g2 : ∀ {i : Int}, 32 ∉ intL i := fun {i} hc => by have := intL_chars hc; omega
    constructor
    · intro v hv
      rcases List.mem_cons.mp hv with rfl | hv
      · exact ⟨by decide, by decide⟩
      · rcases List.mem_cons.mp hv with rfl | hv
        · exact g (by omega)
        · rcases List.mem_cons.mp hv with rfl | hv
          · exact g (by omega)
          · obtain rfl := List.mem_singleton.mp hv
            exact g (by omega)
    · intro v hv
      rcases List.mem_cons.mp hv with rfl | hv
      · decide
      · rcases List.mem_cons.mp hv with rfl | hv
        · exact g2
        · rcases List.mem_cons.mp hv with rfl | hv
          · exact g2
          · obtain rfl := List.mem_singleton.mp hv
            exact g2
  | .lo a b, h => by
    obtain ⟨a1, a2⟩ := Rl.ws_ok h.1
    obtain ⟨b1, b2⟩ := Rl.ws_ok h.2.1
    constructor
    · intro w hw
      rcases List.mem_cons.mp hw with rfl | hw
      · exact ⟨by decide, by decide⟩
      rcases List.mem_append.mp hw with hw | hw
      · exact a1 w hw
      rcases List.mem_cons.mp hw with rfl | hw
      · exact ⟨by decide, by decide⟩
      rcases List.mem_append.mp hw with hw | hw
      · exact b1 w hw
      · obtain rfl := List.mem_singleton.mp hw
        exact ⟨by decide, by decide⟩
    · intro w hw
      rcases List.mem_cons.mp hw with rfl | hw
      · decide
      rcases List.mem_append.mp hw with hw | hw
      · exact a2 w hw
      rcases List.mem_cons.mp hw with rfl | hw
      · decide
      rcases List.mem_append.mp hw with hw | hw
      · exact b2 w hw
      · obtain rfl := List.mem_singleton.mp hw
        decide
  | .hi a b, h => by
    obtain ⟨a1, a2⟩ := Rl.ws_ok h.1
    obtain ⟨b1, b2⟩ := Rl.ws_ok h.2.1
    constructor
    · intro w hw
      rcases List.mem_cons.mp hw with rfl | hw
      · exact ⟨by decide, by decide⟩
      rcases List.mem_append.mp hw with hw | hw
      · exact a1 w hw
      rcases List.mem_cons.mp hw with rfl | hw
      · exact ⟨by decide, by decide⟩
      rcases List.mem_append.mp hw with hw | hw
      · exact b1 w hw
      · obtain rfl := List.mem_singleton.mp hw
        exact ⟨by decide, by decide⟩
    · intro w hw
      rcases List.mem_cons.mp hw with rfl | hw
      · decide
      rcases List.mem_append.mp hw with hw | hw
      · exact a2 w hw
      rcases List.mem_cons.mp hw with rfl | hw
      · decide
      rcases List.mem_append.mp hw with hw | hw
      · exact b2 w hw
      · obtain rfl := List.mem_singleton.mp hw
        decide
theorem wds_tx {t : Rl} (h : t.Ok) : wds t.tx = t.ws := wds_join t.ws_ne (Rl.ws_ok h).2
theorem drop_at {α : Type} {ws xs rest : List α} {n i : Nat} {x : α} (h : ws.drop n = xs ++ rest) (hx : xs[i]? = some x) : ws[n + i]? = some x := by
  have e : (ws.drop n)[i]? = ws[n + i]? := List.getElem?_drop
  have hl : i < xs.length := (List.getElem?_eq_some_iff.mp hx).1
  rw [← e, h, List.getElem?_append_left hl, hx]
theorem kp_free {R r l p : Addr} {H H' : Hp} {ws : List (List Nat)} {n : Nat} (k : Kp r H H') (a : RdAt R H' r l ws n) (hp : H' p = none) : H p = none := by
  cases e : H p with
  | none => rfl
  | some o =>
    by_cases z : p = r
    · obtain ⟨⟨dx, h⟩, _⟩ := a
      rw [z, h] at hp
      cases hp
    · rw [k _ _ z e] at hp
      cases hp
/-- the reader's methods that rules need -/
structure RdR (P : Program) (w : World) (K : PySem.W.Frag) (mg : Str → Option Value) (base : Heap) (R D : Addr) : Prop where
  rc : RdC K R
  A : MetX P w K mg base 1 R "at_hand" (spRah R)
  T : MetX P w K mg base 5 R "take" (spRtk R D)
  X : MetX P w K mg base 7 R "expect" (spRex R)
  I : MetX P w K mg base 7 R "integer" (spRin R D)
  F : MetX P w K mg base 5 R "finish" (spRfi R D)
def spRp (R : Addr) : Sp := fun vs H Q _ => ∃ (r l : Addr) (ws : List (List Nat)) (n : Nat) (t : Rl) (rest : List (List Nat)), vs = [.ref r] ∧ RdAt R H r l ws n ∧ Wd ws ∧ t.leaf = true ∧ t.Ok ∧ ws.drop n = t.ws ++ rest ∧ ∀ p H', Kp r H H' → RdAt R H' r l ws (n + t.ws.length) → H p = none → H' p = some (.tup t.nums) → Q (.ref p) H'
def spRs (R : Addr) : Sp := fun vs H Q _ => ∃ r l ws n c, vs = [.ref r] ∧ RdAt R H r l ws n ∧ ws[n]? = some [c] ∧ (c = 38 ∨ c = 124) ∧ ∀ H', Kp r H H' → RdAt R H' r l ws (n + 1) → Q (.str (S [c])) H'
section
variable {P : Program} {w : World} {K : PySem.W.Frag} {mg : Str → Option Value} {base : Heap} {R D SG : Addr}
theorem scRin : FnScope ["self", "least", "most"] ["self", "least", "most"] (C8.fnScope sRin) := C8.fnScope_by (by decide +kernel)
theorem fn_rin {R D f : Addr} {fd : FuncData} (F : C8.Fun K "integer" "Reader.integer" sRin f fd) (rc : RdC K R) (MA : MetX P w K mg base 1 R "at_hand" (spRah R)) (MT : MetX P w K mg base 5 R "take" (spRtk R D)) (DN : C8.Cal P w K mg base 3 "number_of" (spNumOf K) []) : FnOk P w K mg base (L2.CX P w) 7 f fd ["self", "least", "most"] (spRin R D) := by
  obtain ⟨oc, od, dV, kV, doc, pm, an, cdv, ct, osl, rfl, lk, hcd⟩ := F.ex
  refine fn_of lk hcd scRin (fun vs H Q E h => ?_) fun A outer s H vs Q E hr h => ?_
  · obtain ⟨r, l, ws, n, lo, hi, rfl, _⟩ := h
    rfl
  · obtain ⟨r, l, ws, n, lo, hi, rfl, at_, tx, k1, k2⟩ := h
    obtain ⟨⟨dx, hr1⟩, hl⟩ := id at_
    refine ⟨_, (pss_one (ps_ret (pe_mx (pv 0) rc.cl MT hr (by decide) (passes_call (takes_of rfl rfl rfl rfl) (fun _ _ _ _ z => z)) (pa_cons (C8.pe_c DN hr (by decide) (by rfl) (pa_cons (pe_mx0 (E := C8.E0) (pv 0) rc.cl MA hr (by decide) (passes_call takes0 (fun _ _ _ _ z => z))) (pa_cons (pv 1) (pa_cons (pv 2) pa_nil)))) pa_nil)))), ?_⟩
    have no : ∀ {m : Str}, m ≠ "_words" → m ≠ "_row" → m ≠ "_at" → (rdF l n).lookup m = none := fun h1 h2 h3 => rdF_no l _ h1 h2 h3
    refine ⟨_, rfl, r, dx, _, rfl, hr1, no (by decide +kernel) (by decide +kernel) (by decide +kernel), ?_⟩
    refine ⟨_, rfl, r, dx, _, rfl, hr1, no (by decide +kernel) (by decide +kernel) (by decide +kernel), r, l, ws, n, rfl, at_, ?_⟩
    refine ⟨_, rfl, _, rfl, _, lo, hi, rfl, hand_any _ _ _ _, text_hand _ _ tx, ?_⟩
    refine ⟨r, l, ws, n, _, rfl, at_, fun e => k1 ?_, fun e H' kp a1 => ?_⟩
    · show numV _ _ _ = none
      generalize numV (handV ws n) lo hi = o at e
      cases o with
      | none => rfl
      | some k => cases e
    · have k2' := k2
      unfold numAt at k2'
      generalize numV (handV ws n) lo hi = o at e k2' ⊢
      cases o with
      | none => exact absurd rfl e
      | some k => exact k2' k rfl H' kp a1
theorem scRs : FnScope ["reader", "word"] ["reader"] (C8.fnScope sRs) := C8.fnScope_by (by decide +kernel)
theorem cal_rs {f : Addr} {fd : FuncData} (F : C8.Def K mg "read_sign" sRs f fd) (b : Binds K fd ["reader"] []) (RM : RdR P w K mg base R D) (hSG : mg "SIGNS" = some (.ref SG)) (tSG : ∀ H, SqT K H SG [.str (S [38]), .str (S [124])]) : C8.Cal P w K mg base 6 "read_sign" (spRs R) [] := by
  refine C8.cal0 F b .nil scRs (fun vs H Q E h => ?_) (fun cdv A outer st H vs Q E hr h => ?_)
  · obtain ⟨r, l, ws, n, c, rfl, _⟩ := h
    rfl
  · obtain ⟨r, l, ws, n, c, rfl, at_, hc, c2, k⟩ := h
    obtain ⟨⟨dx, hr1⟩, hl⟩ := id at_
    have no : ∀ {m : Str}, m ≠ "_words" → m ≠ "_row" → m ≠ "_at" → (rdF l n).lookup m = none := fun h1 h2 h3 => rdF_no l _ h1 h2 h3
    refine ⟨_, (pss_cons (ps_set (i := 1) scRs.nd rfl (Or.inl rfl) (pe_mx0 (E := C8.E0) (pv 0) RM.rc.cl RM.A hr (by decide) (passes_call takes0 (fun _ _ _ _ z => z))))
  (pss_one (ps_ret (pe_mx (E := C8.E0) (pv 0) RM.rc.cl RM.T hr (by decide) (passes_call takes0 (fun _ _ _ _ z => z)) (pa_cons (pe_ifExp (pt_cmpR op_in_seq (pv 1) (pe_glob (v := .ref SG) (by rfl) hSG rfl) (by rfl)) (pv 1) pe_non) pa_nil))))), ?_⟩
    refine ⟨_, rfl, r, dx, _, rfl, hr1, no (by decide +kernel) (by decide +kernel) (by decide +kernel), r, l, ws, n, rfl, at_, ?_⟩
    rw [hand_at hc]
    dsimp only [gName, tSeq]
    refine ⟨_, rfl, r, dx, _, rfl, hr1, no (by decide +kernel) (by decide +kernel) (by decide +kernel), ?_⟩
    have e : inV (.str (S [c])) [.str (S [38]), .str (S [124])] = true := by
      show (eqV (.str (S [38])) (.str (S [c])) || (eqV (.str (S [124])) (.str (S [c])) || false)) = true
      rw [eqV_S, eqV_S]
      rcases c2 with rfl | rfl <;> rfl
    refine ⟨_, rfl, SG, _, rfl, .inr (tSG H), rfl, rfl, _, rfl, iteT' e ?_⟩
    exact ⟨_, rfl, r, l, ws, n, _, rfl, at_, (fun e => by cases e), fun _ H' k1 a1 => k H' k1 a1⟩
theorem scRp : FnScope ["reader", "word", "x", "y"] ["reader"] (C8.fnScope sRp) := C8.fnScope_by (by decide +kernel)
theorem cal_rp {f : Addr} {fd : FuncData} (F : C8.Def K mg "read_part" sRp f fd) (b : Binds K fd ["reader"] []) (RM : RdR P w K mg base R D) (hGS : ∃ t, mg "GREATEST_SIZE" = some (.int (10 ^ 30) t)) (hMF : ∃ t, mg "MOST_FACTOR" = some (.int 24 t)) (hMS : ∃ t, mg "MOST_START" = some (.int 1000 t)) : C8.Cal P w K mg base 8 "read_part" (spRp R) [] := by
  refine C8.cal0 F b .nil scRp (fun vs H Q E h => ?_) (fun cdv A outer st H vs Q E hr h => ?_)
  · obtain ⟨r, l, ws, n, t, rest, rfl, _⟩ := h
    rfl
  · obtain ⟨r, l, ws, n, t, rest, rfl, at_, wd, lf, ok, hd, k⟩ := h
    obtain ⟨⟨dx, hr1⟩, hl⟩ := id at_
    have no : ∀ {m : Str}, m ≠ "_words" → m ≠ "_row" → m ≠ "_at" → ∀ n, (rdF l n).lookup m = none := fun h1 h2 h3 n => rdF_no l n h1 h2 h3
    obtain ⟨tg, hGS⟩ := hGS
    obtain ⟨tf, hMF⟩ := hMF
    obtain ⟨ts, hMS⟩ := hMS
    refine ⟨_, (pss_cons (ps_set (i := 1) scRp.nd rfl (Or.inl rfl) (pe_mx0 (E := C8.E0) (pv 0) RM.rc.cl RM.A hr (by decide) (passes_call takes0 (fun _ _ _ _ z => z))))
  (pss_cons (ps_expr (pe_mx (E := C8.E0) (pv 0) RM.rc.cl RM.T hr (by decide) (passes_call takes0 (fun _ _ _ _ z => z)) (pa_cons (pe_ifExp (pt_cmpR op_in_seq (pv 1) (pe_tup (pa_cons pe_str (pa_cons pe_str pa_nil))) (by rfl)) (pv 1) pe_non) pa_nil)))
  (pss_cons (ps_if (pt_cmpR op_eq (pv 1) pe_str (nomark _)) (pss_one (ps_ret (pe_tup (pa_cons (pe_mx (E := C8.E0) (pv 0) RM.rc.cl RM.I hr (by decide) (passes_call takes0 (fun _ _ _ _ z => z)) (pa_cons pe_int (pa_cons (pe_glob (v := .int (10 ^ 30)) (by rfl) hGS ⟨_, rfl⟩) pa_nil))) pa_nil)))) pss_nil)
  (pss_cons (ps_set (i := 2) scRp.nd rfl (Or.inl rfl) (pe_mx (E := C8.E0) (pv 0) RM.rc.cl RM.I hr (by decide) (passes_call takes0 (fun _ _ _ _ z => z)) (pa_cons pe_int (pa_cons (pe_glob (v := .int 24) (by rfl) hMF ⟨_, rfl⟩) pa_nil))))
  (pss_cons (ps_set (i := 3) scRp.nd rfl (Or.inl rfl) (pe_mx (E := C8.E0) (pv 0) RM.rc.cl RM.I hr (by decide) (passes_call takes0 (fun _ _ _ _ z => z)) (pa_cons (pe_un un_neg (pe_glob (v := .int 1000) (by rfl) hMS ⟨_, rfl⟩)) (pa_cons (pe_glob (v := .int 1000) (by rfl) hMS ⟨_, rfl⟩) pa_nil))))
  (pss_one (ps_ret (pe_tup (pa_cons (pv 2) (pa_cons (pv 3) (pa_cons (pe_mx (E := C8.E0) (pv 0) RM.rc.cl RM.I hr (by decide) (passes_call takes0 (fun _ _ _ _ z => z)) (pa_cons pe_int (pa_cons (pe_glob (v := .int 24) (by rfl) hMF ⟨_, rfl⟩) pa_nil))) pa_nil))))))))))), ?_⟩
    refine ⟨_, rfl, r, dx, _, rfl, hr1, no (by decide +kernel) (by decide +kernel) (by decide +kernel) _, r, l, ws, n, rfl, at_, ?_⟩
    have h0 : ws[n]? = some t.w0 := by
      have := drop_at (i := 0) (x := t.w0) hd (by cases t <;> first | rfl | cases lf)
      exact this
    rw [hand_at h0]
    dsimp only [gName, tSeq]
    have e : inV (.str (S t.w0)) [.str (Str.ofString "fixed"), .str (Str.ofString "divided")] = true := by
      cases t with
      | fx m => exact (by decide +kernel : inV (.str (S [102, 105, 120, 101, 100])) [.str (Str.ofString "fixed"), .str (Str.ofString "divided")] = true)
      | _ => exact (by decide +kernel : inV (.str (S [100, 105, 118, 105, 100, 101, 100])) [.str (Str.ofString "fixed"), .str (Str.ofString "divided")] = true)
    refine ⟨_, rfl, r, dx, _, rfl, hr1, no (by decide +kernel) (by decide +kernel) (by decide +kernel) _, ?_⟩
    refine ⟨_, rfl, (by show 2 ≤ sizeLine; decide), fun q hq => ⟨q, _, rfl, .inr (SqT.of upd_same), rfl, rfl, _, rfl, iteT' e ?_⟩⟩
    have sm := same_new (o := HO.tup [V.str (Str.ofString "fixed"), .str (Str.ofString "divided")]) hq
    refine ⟨_, rfl, r, l, ws, n, _, rfl, at_.same sm, (fun e => by cases e), fun _ H1 kp1 a1 => ?_⟩
    dsimp only [tNext]
    obtain ⟨⟨dx1, hr2⟩, hl2⟩ := id a1
    cases t with
    | fx m =>
      obtain ⟨m1, m2⟩ := ok
      have hn : ws[n + 1]? = some (intL m) := drop_at (i := 1) hd rfl
      dsimp only [tSeq]
      refine ⟨_, rfl, rfl, _, rfl, iteT' (by decide +kernel : decide (V.str (S [102, 105, 120, 101, 100]) = V.str (Str.ofString "fixed")) = true) ?_⟩
      refine ⟨_, rfl, r, dx1, _, rfl, hr2, no (by decide +kernel) (by decide +kernel) (by decide +kernel) _, r, l, ws, n + 1, 1, 10 ^ 30, rfl, a1, wd, (fun e => by rw [num_at hn m1 m2] at e; cases e), fun i e H2 kp2 a2 => ?_⟩
      obtain rfl : m = i := Option.some.inj ((num_at hn m1 m2).symm.trans e)
      refine ⟨(by show 1 ≤ sizeLine; decide), fun p hp => ?_⟩
      have kp3 : Kp r H H2 := fun b o nb e => kp2 _ _ nb (kp1 _ _ nb (sm _ _ e))
      exact k p _ (fun b o nb e => same_new hp _ _ (kp3 b o nb e)) (a2.same (same_new hp)) (kp_free kp3 a2 hp) upd_same
    | dv x y w0 =>
      obtain ⟨x0, x1, y0, y1, w1, w2⟩ := ok
      have hx : ws[n + 1]? = some (intL x) := drop_at (i := 1) hd rfl
      have hy : ws[n + 2]? = some (intL y) := drop_at (i := 2) hd rfl
      have hw : ws[n + 3]? = some (intL w0) := drop_at (i := 3) hd rfl
      dsimp only [tSeq]
      refine ⟨_, rfl, rfl, _, rfl, iteF' (by decide +kernel : decide (V.str (S [100, 105, 118, 105, 100, 101, 100]) = V.str (Str.ofString "fixed")) = false) ?_⟩
      dsimp only [tNext]
      refine ⟨_, rfl, r, dx1, _, rfl, hr2, no (by decide +kernel) (by decide +kernel) (by decide +kernel) _, r, l, ws, n + 1, 0, 24, rfl, a1, wd, (fun e => by rw [num_at hx x0 x1] at e; cases e), fun i e H2 kp2 a2 => ?_⟩
      obtain rfl : x = i := Option.some.inj ((num_at hx x0 x1).symm.trans e)
      obtain ⟨⟨dx2, hr3⟩, hl3⟩ := id a2
      dsimp only [gName]
      refine ⟨_, rfl, r, dx2, _, rfl, hr3, no (by decide +kernel) (by decide +kernel) (by decide +kernel) _, _, rfl, r, l, ws, n + 2, -1000, 1000, rfl, a2, wd, (fun e => by rw [num_at hy y0 y1] at e; cases e), fun i e H3 kp3 a3 => ?_⟩
      obtain rfl : y = i := Option.some.inj ((num_at hy y0 y1).symm.trans e)
      obtain ⟨⟨dx3, hr4⟩, hl4⟩ := id a3
      dsimp only [gName]
      refine ⟨_, rfl, _, rfl, _, rfl, r, dx3, _, rfl, hr4, no (by decide +kernel) (by decide +kernel) (by decide +kernel) _, r, l, ws, n + 3, 1, 24, rfl, a3, wd, (fun e => by rw [num_at hw w1 w2] at e; cases e), fun i e H4 kp4 a4 => ?_⟩
      obtain rfl : w0 = i := Option.some.inj ((num_at hw w1 w2).symm.trans e)
      refine ⟨(by show 3 ≤ sizeLine; decide), fun p hp => ?_⟩
      have kp5 : Kp r H H4 := fun b o nb e => kp4 _ _ nb (kp3 _ _ nb (kp2 _ _ nb (kp1 _ _ nb (sm _ _ e))))
      exact k p _ (fun b o nb e => same_new hp _ _ (kp5 b o nb e)) (a4.same (same_new hp)) (kp_free kp5 a4 hp) upd_same
    | lo a b => cases lf
    | hi a b => cases lf
end
end Lw
namespace Lw
open PySem PySem.Spec PyProof.Rows L2
open SX PySem.NumText TL LamX ClX StX
set_option pp.maxSteps 900
/-! ### what read_rule tells: parts, and each sign behind what it joins -/
inductive It where
  | pt (t : Rl)
  | sg (c : Nat)
def Rl.post : Rl → List It
  | .lo a b => a.post ++ (b.post ++ [.sg 38])
  | .hi a b => a.post ++ (b.post ++ [.sg 124])
  | t => [.pt t]
def ItV (H : Hp) (v : V) : It → Prop
  | .pt t => ∃ p, v = .ref p ∧ H p = some (.tup t.nums)
  | .sg c => v = .str (S [c])
def ToAt (H : Hp) : List V → List It → Prop
  | [], [] => True
  | v :: vs, i :: is => ItV H v i ∧ ToAt H vs is
  | _, _ => False
theorem ItV.on {H H' : Hp} {v : V} (s : Tt H H') : ∀ {i : It}, ItV H v i → ItV H' v i
  | .pt _, ⟨p, e, h⟩ => ⟨p, e, s _ _ h⟩
  | .sg _, h => h
theorem ToAt.on {H H' : Hp} (s : Tt H H') : ∀ {vs : List V} {is : List It}, ToAt H vs is → ToAt H' vs is
  | [], [], _ => trivial
  | _ :: _, _ :: _, h => ⟨h.1.on s, h.2.on s⟩
  | [], _ :: _, h => h.elim
  | _ :: _, [], h => h.elim
theorem ToAt.add {H : Hp} {v : V} {i : It} (hi : ItV H v i) : ∀ {vs : List V} {is : List It}, ToAt H vs is → ToAt H (vs ++ [v]) (is ++ [i])
  | [], [], _ => ⟨hi, trivial⟩
  | _ :: _, _ :: _, h => ⟨h.1, h.2.add hi⟩
  | [], _ :: _, h => h.elim
  | _ :: _, [], h => h.elim
theorem ToAt.len {H : Hp} : ∀ {vs : List V} {is : List It}, ToAt H vs is → vs.length = is.length
  | [], [], _ => rfl
  | _ :: vs, _ :: is, h => by rw [List.length_cons, List.length_cons, ToAt.len h.2]
  | [], _ :: _, h => h.elim
  | _ :: _, [], h => h.elim
/-- a bracket that is open: what is read in it is left of its sign, or right of it -/
inductive Fr where
  | l (c : Nat) (b : Rl)
  | r (c : Nat)
def Fr.v : Fr → V
  | .l _ _ => .non
  | .r c => .str (S [c])
def rwF : List Fr → List (List Nat)
  | [] => []
  | .l c b :: k => [c] :: (b.ws ++ ([41] :: rwF k))
  | .r _ :: k => [41] :: rwF k
def afF : List Fr → List It
  | [] => []
  | .l c b :: k => b.post ++ (.sg c :: afF k)
  | .r c :: k => .sg c :: afF k
def cnF : List Fr → Nat
  | [] => 0
  | .l _ b :: k => b.cnt + cnF k
  | .r _ :: k => cnF k
def okF : List Fr → Prop
  | [] => True
  | .l c b :: k => (c = 38 ∨ c = 124) ∧ b.Ok ∧ okF k
  | .r c :: k => (c = 38 ∨ c = 124) ∧ okF k
def svF (k : List Fr) : List V := (k.map Fr.v).reverse
theorem svF_cons (f : Fr) (k : List Fr) : svF (f :: k) = svF k ++ [f.v] := by unfold svF; rw [List.map_cons, List.reverse_cons]
theorem svF_len (k : List Fr) : (svF k).length = k.length := by unfold svF; rw [List.length_reverse, List.length_map]
theorem Rl.ws_len : ∀ t : Rl, t.ws.length + 3 ≤ 7 * t.cnt
  | .fx _ => by show 2 + 3 ≤ 7 * 1; decide
  | .dv _ _ _ => by show 4 + 3 ≤ 7 * 1; decide
  | .lo a b => by
    have h1 := Rl.ws_len a
    have h2 := Rl.ws_len b
    show ([40] :: (a.ws ++ ([38] :: (b.ws ++ [[41]])))).length + 3 ≤ 7 * (a.cnt + b.cnt)
    simp only [List.length_append, List.length_cons, List.length_nil]
    omega
  | .hi a b => by
    have h1 := Rl.ws_len a
    have h2 := Rl.ws_len b
    show ([40] :: (a.ws ++ ([124] :: (b.ws ++ [[41]])))).length + 3 ≤ 7 * (a.cnt + b.cnt)
    simp only [List.length_append, List.length_cons, List.length_nil]
    omega
/-- where read_rule stands: its reader, what was told, its open brackets -/
structure RS (R r l tl sl : Addr) (ws : List (List Nat)) (H0 H : Hp) (pos : Nat) (done : List It) (ctx : List Fr) : Prop where
  at_ : RdAt R H r l ws pos
  kp : Kp r H0 H
  t : ∃ vs, H tl = some (.lst vs) ∧ ToAt H vs done
  s : H sl = some (.lst (svF ctx))
  b1 : done.length ≤ pos
  b2 : ctx.length ≤ pos
/-- what does not change -/
structure RZ (r l tl sl : Addr) (ws : List (List Nat)) (H0 : Hp) : Prop where
  t0 : H0 tl = none
  s0 : H0 sl = none
  r0 : H0 r ≠ none
  l0 : H0 l ≠ none
  ne : tl ≠ sl
  rl : l ≠ r
  wd : Wd ws
  wl : ws.length ≤ 1000
theorem RZ.tr {r l tl sl : Addr} {ws : List (List Nat)} {H0 : Hp} (z : RZ r l tl sl ws H0) : tl ≠ r := fun e => z.r0 (by rw [← e]; exact z.t0)
theorem RZ.sr {r l tl sl : Addr} {ws : List (List Nat)} {H0 : Hp} (z : RZ r l tl sl ws H0) : sl ≠ r := fun e => z.r0 (by rw [← e]; exact z.s0)
theorem RZ.tl_ {r l tl sl : Addr} {ws : List (List Nat)} {H0 : Hp} (z : RZ r l tl sl ws H0) : tl ≠ l := fun e => z.l0 (by rw [← e]; exact z.t0)
theorem RZ.sl_ {r l tl sl : Addr} {ws : List (List Nat)} {H0 : Hp} (z : RZ r l tl sl ws H0) : sl ≠ l := fun e => z.l0 (by rw [← e]; exact z.s0)
theorem tt_kpr {R r l : Addr} {ws : List (List Nat)} {n : Nat} {H H' : Hp} (a : RdAt R H r l ws n) (k : Kp r H H') : Tt H H' := fun b xs h => k b _ (fun e => by
  obtain ⟨⟨dx, h1⟩, _⟩ := a
  rw [e, h1] at h
  cases h) h
section
variable {R r l tl sl : Addr} {ws : List (List Nat)} {H0 H H' : Hp} {pos pos' : Nat} {done : List It} {ctx ctx' : List Fr}
theorem RS.adv (h : RS R r l tl sl ws H0 H pos done ctx) (z : RZ r l tl sl ws H0) (k : Kp r H H') (a : RdAt R H' r l ws pos') (hp : pos ≤ pos') : RS R r l tl sl ws H0 H' pos' done ctx := by
  obtain ⟨vs, e, m⟩ := h.t
  exact ⟨a, fun b o nb e => k _ _ nb (h.kp _ _ nb e), ⟨vs, k _ _ z.tr e, m.on (tt_kpr h.at_ k)⟩, k _ _ z.sr h.s, Nat.le_trans h.b1 hp, Nat.le_trans h.b2 hp⟩
theorem RS.setS (h : RS R r l tl sl ws H0 H pos done ctx) (z : RZ r l tl sl ws H0) (hb : ctx'.length ≤ pos) : RS R r l tl sl ws H0 (upd H sl (.lst (svF ctx'))) pos done ctx' := by
  obtain ⟨vs, e, m⟩ := h.t
  obtain ⟨⟨dx, a1⟩, a2⟩ := h.at_
  have tt : Tt H (upd H sl (.lst (svF ctx'))) := fun b xs e => by
    rw [upd_ne (fun e2 => by rw [e2, h.s] at e; cases e)]
    exact e
  refine ⟨⟨⟨dx, ?_⟩, ?_⟩, fun b o nb e => ?_, ⟨vs, ?_, m.on tt⟩, upd_same, h.b1, hb⟩
  · rw [upd_ne z.sr.symm]; exact a1
  · rw [upd_ne z.sl_.symm]; exact a2
  · rw [upd_ne (fun e2 => by rw [e2, z.s0] at e; cases e)]; exact h.kp _ _ nb e
  · rw [upd_ne z.ne]; exact e
theorem RS.addT (h : RS R r l tl sl ws H0 H pos done ctx) (z : RZ r l tl sl ws H0) {vs : List V} {v : V} {i : It} (hv : H tl = some (.lst vs)) (hi : ItV H v i) (hb : done.length + 1 ≤ pos) : RS R r l tl sl ws H0 (upd H tl (.lst (vs ++ [v]))) pos (done ++ [i]) ctx := by
  obtain ⟨vs', e, m⟩ := h.t
  rw [hv] at e
  cases e
  obtain ⟨⟨dx, a1⟩, a2⟩ := h.at_
  have tt : Tt H (upd H tl (.lst (vs ++ [v]))) := fun b xs e => by
    rw [upd_ne (fun e2 => by rw [e2, hv] at e; cases e)]
    exact e
  refine ⟨⟨⟨dx, ?_⟩, ?_⟩, fun b o nb e => ?_, ⟨vs ++ [v], upd_same, (m.add hi).on tt⟩, ?_, ?_, h.b2⟩
  · rw [upd_ne z.tr.symm]; exact a1
  · rw [upd_ne z.tl_.symm]; exact a2
  · rw [upd_ne (fun e2 => by rw [e2, z.t0] at e; cases e)]; exact h.kp _ _ nb e
  · rw [upd_ne z.ne.symm]; exact h.s
  · rw [List.length_append]; exact hb
end
theorem Rl.split : ∀ {t : Rl}, t.Ok → t.leaf = false → ∃ (c : Nat) (a b : Rl), (c = 38 ∨ c = 124) ∧ t.ws = [40] :: (a.ws ++ ([c] :: (b.ws ++ [[41]]))) ∧ t.post = a.post ++ (b.post ++ [.sg c]) ∧ t.cnt = a.cnt + b.cnt ∧ a.Ok ∧ b.Ok
  | .fx _, _, h => by cases h
  | .dv _ _ _, _, h => by cases h
  | .lo a b, h, _ => ⟨38, a, b, .inl rfl, rfl, rfl, rfl, h.1, h.2.1⟩
  | .hi a b, h, _ => ⟨124, a, b, .inr rfl, rfl, rfl, rfl, h.1, h.2.1⟩
theorem Rl.leafy : ∀ {t : Rl}, t.leaf = true → t.post = [.pt t] ∧ t.ws[0]? = some t.w0 ∧ 2 ≤ t.ws.length ∧ t.cnt = 1
  | .fx _, _ => ⟨rfl, rfl, by show 2 ≤ 2; decide, rfl⟩
  | .dv _ _ _, _ => ⟨rfl, rfl, by show 2 ≤ 4; decide, rfl⟩
  | .lo _ _, h => by cases h
  | .hi _ _, h => by cases h
theorem tt_via {tt : TT} {σ : L2.St} {H : Hp} {QQ : Bool → Hp → Prop} {b : Bool} (h1 : ∀ G : Bool → Hp → Prop, G b H → tt σ H G) (h2 : QQ b H) : tt σ H QQ := h1 QQ h2
theorem set_last {α : Type} (ys : List α) (a b : α) : (ys ++ [a]).set ys.length b = ys ++ [b] := by simp
theorem ixN_last {α : Type} (ys : List α) (a : α) : ixN (ys ++ [a]).length (-1) = some ys.length := by
  have hl : (ys ++ [a]).length = ys.length + 1 := by simp
  unfold ixN
  rw [hl, if_neg (by decide), if_pos (by omega)]
  congr 1
  omega
def spRr (R : Addr) : Sp := fun vs H Q _ => ∃ (r l : Addr) (t : Rl), vs = [.ref r] ∧ RdAt R H r l t.ws 0 ∧ t.Ok ∧ ∀ p us n H', Kp r H H' → t.ws.length ≤ n → RdAt R H' r l t.ws n → H p = none → H' p = some (.lst us) → ToAt H' us t.post → Q (.ref p) H'
theorem drop_hd {α : Type} {ws rest : List α} {n : Nat} {x : α} (h : ws.drop n = x :: rest) : ws[n]? = some x ∧ n < ws.length ∧ ws.drop (n + 1) = rest := by
  have h1 : ws[n]? = some x := by
    have e : (ws.drop n)[0]? = ws[n + 0]? := List.getElem?_drop
    rw [h] at e
    exact e.symm
  refine ⟨h1, (List.getElem?_eq_some_iff.mp h1).1, ?_⟩
  have e2 : (ws.drop n).drop 1 = ws.drop (n + 1) := List.drop_drop
  rw [← e2, h]
  rfl
section
variable {P : Program} {w : World} {K : PySem.W.Frag} {mg : Str → Option Value} {base : Heap} {R D SG : Addr}
theorem scRr : FnScope ["reader", "told", "parts", "signs"] ["reader"] (C8.fnScope sRr) := C8.fnScope_by (by decide +kernel)
theorem cal_rr {f : Addr} {fd : FuncData} (F : C8.Def K mg "read_rule" sRr f fd) (b : Binds K fd ["reader"] []) (RM : RdR P w K mg base R D) (hMP : ∃ t, mg "MOST_PARTS" = some (.int 6 t)) (DRp : C8.Cal P w K mg base 8 "read_part" (spRp R) []) (DRs : C8.Cal P w K mg base 6 "read_sign" (spRs R) []) : C8.Cal P w K mg base 9 "read_rule" (spRr R) [] := by
  refine C8.cal0 F b .nil scRr (fun vs H Q E h => ?_) (fun cdv A outer st H0 vs Q E hr h => ?_)
  · obtain ⟨r, l, t, rfl, _⟩ := h
    rfl
  · obtain ⟨r, l, t0, rfl, at_, ok, k⟩ := h
    obtain ⟨⟨dx, hr1⟩, hl⟩ := id at_
    obtain ⟨tp, hMP⟩ := hMP
    have no : ∀ {m : Str}, m ≠ "_words" → m ≠ "_row" → m ≠ "_at" → ∀ n, (rdF l n).lookup m = none := fun h1 h2 h3 n => rdF_no l n h1 h2 h3
    refine ⟨_, (pss_cons (ps_set (i := 1) scRr.nd rfl (Or.inl rfl) (pe_lst pa_nil))
  (pss_cons (ps_set (i := 2) scRr.nd rfl (Or.inl rfl) pe_int)
  (pss_cons (ps_set (i := 3) scRr.nd rfl (Or.inl rfl) (pe_lst pa_nil))
  (pss_cons (ps_while PassesOwn.never (PW.pt (pw_or (pt_cmpR op_eq (pv 2) pe_int (nomark _)) (pw_or1 (pt_truth (pv 3) (by intro _; rfl))))) (pss_cons (ps_while PassesOwn.never (pt_cmpR op_eq (pe_mx0 (E := C8.E0) (pv 0) RM.rc.cl RM.A hr (by decide) (passes_call takes0 (fun _ _ _ _ z => z))) pe_str (nomark _)) (pss_cons (ps_expr (pe_mx (E := C8.E0) (pv 0) RM.rc.cl RM.X hr (by decide) (passes_call takes0 (fun _ _ _ _ z => z)) (pa_cons pe_str pa_nil)))
  (pss_one (ps_expr (pe_bm PySem.F.plainAttrs_list PySem.F.slot_list_append PySem.F.type_list_append mt_append (pv 3) (pa_cons pe_non pa_nil))))))
  (pss_cons (ps_if (pt_cmpR op_eq (pv 2) (pe_glob (v := .int 6) (by rfl) hMP ⟨_, rfl⟩) (nomark _)) (pss_one ps_never) pss_nil)
  (pss_cons (ps_expr (pe_bm PySem.F.plainAttrs_list PySem.F.slot_list_append PySem.F.type_list_append mt_append (pv 1) (pa_cons (C8.pe_c DRp hr (by decide) (by rfl) (pa_cons (pv 0) pa_nil)) pa_nil)))
  (pss_cons (ps_aug (i := 2) scRr.nd rfl (Or.inl rfl) pe_int in_add)
  (pss_cons (ps_while PassesOwn.never (PW.pt (pw_and (pt_truth (pv 3) (by intro _; rfl)) (pw_and1 (pt_cmpR op_notN (pe_ix ix_list (pv 3) (pe_un un_neg pe_int) (fun _ _ => rfl)) pe_non (nomark _))))) (pss_cons (ps_expr (pe_mx (E := C8.E0) (pv 0) RM.rc.cl RM.X hr (by decide) (passes_call takes0 (fun _ _ _ _ z => z)) (pa_cons pe_str pa_nil)))
  (pss_one (ps_expr (pe_bm PySem.F.plainAttrs_list PySem.F.slot_list_append PySem.F.type_list_append mt_append (pv 1) (pa_cons (pe_bm0 PySem.F.plainAttrs_list PySem.F.slot_list_pop PySem.F.type_list_pop mt_pop (pv 3)) pa_nil))))))
  (pss_one (ps_if (pt_truth (pv 3) (by intro _; rfl)) (pss_one (ps_asg (C8.pe_c DRs hr (by decide) (by rfl) (pa_cons (pv 0) pa_nil)) (pg_sub (pv 3) (pe_un un_neg pe_int) set_list))) pss_nil))))))))
  (pss_one (ps_ret (pv 1))))))), ?_⟩
    refine ⟨(by show 0 ≤ sizeLine; decide), fun tl htl => ?_⟩
    dsimp only [gName, tSeq]
    refine ⟨(by show 0 ≤ sizeLine; decide), fun sl hsl => ?_⟩
    dsimp only [gName, tSeq]
    have nt : H0 tl = none := htl
    have nst : sl ≠ tl := fun e => by rw [e, upd_same] at hsl; cases hsl
    have ns : H0 sl = none := by rw [upd_ne nst] at hsl; exact hsl
    have Z : RZ r l tl sl t0.ws H0 := ⟨nt, ns, (by rw [hr1]; exact fun e => by cases e), (by rw [hl]; exact fun e => by cases e), nst.symm, (fun e => by rw [e, hr1] at hl; cases hl), (Rl.ws_ok ok).1, by
      have h1 := Rl.ws_len t0
      have h2 := (Rl.Ok.cnt6 ok)
      omega⟩
    have s1 := same_new (o := HO.lst []) htl
    have s2 := same_new (o := HO.lst []) hsl
    have S0 : RS R r l tl sl t0.ws H0 (upd (upd H0 tl (.lst [])) sl (.lst [])) 0 [] [] := ⟨at_.same (s1.trans s2), Kp.of (s1.trans s2), ⟨[], s2 _ _ upd_same, trivial⟩, upd_same, Nat.le_refl _, Nat.le_refl _⟩
    refine ⟨fun m σ H => ∃ (np pos : Nat) (done : List It) (ctx : List Fr), σ = [some (.ref r), some (.ref tl), some (.int (np : Int)), some (.ref sl)] ∧ RS R r l tl sl t0.ws H0 H pos done ctx ∧ okF ctx ∧
      ((∃ t, t0.ws.drop pos = t.ws ++ rwF ctx ∧ t0.post = done ++ (t.post ++ afF ctx) ∧ np + t.cnt + cnF ctx ≤ 6 ∧ t.Ok ∧ (np = 0 ∨ ctx ≠ []) ∧ m = t0.ws.length - pos + 1) ∨
        (ctx = [] ∧ t0.ws.drop pos = [] ∧ np ≠ 0 ∧ t0.post = done ∧ m = 0)), ⟨_, 0, 0, [], [], rfl, S0, trivial, .inl ⟨t0, ?_, ?_, ?_, ok, .inl rfl, rfl⟩⟩, ?_⟩
    · show t0.ws = t0.ws ++ []
      rw [List.append_nil]
    · show t0.post = [] ++ (t0.post ++ [])
      rw [List.append_nil]; rfl
    · show 0 + t0.cnt + 0 ≤ 6
      have := Rl.Ok.cnt6 ok
      omega
    rintro m σ H ⟨np, pos, done, ctx, rfl, rs, okc, go⟩
    rcases go with ⟨t, hd, hq, hn, okt, nz, rfl⟩ | ⟨rfl, hd, nz, hq, rfl⟩
    · refine tt_via (b := true) (fun G g => ?_) ?_
      · refine ⟨_, rfl, rfl, _, rfl, ?_⟩
        by_cases c : np = 0
        · exact iteT' (by rw [c]; exact decide_eq_true rfl) g
        · have c2 : ctx ≠ [] := nz.resolve_left c
          refine iteF' (decide_eq_false (fun e => by injection e with e; omega)) ⟨_, rfl, true, .inl ⟨_, SqL.of rs.s, ?_⟩, g⟩
          cases ctx with
          | nil => exact absurd rfl c2
          | cons f k => rw [svF_cons]; cases svF k <;> rfl
      refine iteT' rfl ⟨_, fun σ' H' h => h, ?_⟩
      dsimp only [tSeq]
      refine ⟨fun m σ H => ∃ (pos1 : Nat) (ctx1 : List Fr) (t1 : Rl), σ = [some (.ref r), some (.ref tl), some (.int (np : Int)), some (.ref sl)] ∧ RS R r l tl sl t0.ws H0 H pos1 done ctx1 ∧ okF ctx1 ∧ t0.ws.drop pos1 = t1.ws ++ rwF ctx1 ∧ t0.post = done ++ (t1.post ++ afF ctx1) ∧ np + t1.cnt + cnF ctx1 ≤ 6 ∧ t1.Ok ∧ pos ≤ pos1 ∧ m = t1.ws.length, ⟨_, pos, ctx, t, rfl, rs, okc, hd, hq, hn, okt, Nat.le_refl _, rfl⟩, ?_⟩
      rintro m1 σ1 H1 ⟨pos1, ctx1, t1, rfl, rs1, okc1, hd1, hq1, hn1, okt1, le1, rfl⟩
      obtain ⟨⟨dx1, hr2⟩, hl2⟩ := id rs1.at_
      cases lf : t1.leaf with
      | false =>
        obtain ⟨c, a, b, c2, ew, ep, ec, oka, okb⟩ := Rl.split okt1 lf
        rw [ew] at hd1
        obtain ⟨h40, lt1, hd2⟩ := drop_hd hd1
        refine ⟨_, rfl, r, dx1, _, rfl, hr2, no (by decide +kernel) (by decide +kernel) (by decide +kernel) _, r, l, _, pos1, rfl, rs1.at_, ?_⟩
        rw [hand_at h40]
        refine ⟨rfl, _, rfl, iteT' (by decide +kernel) ⟨_, fun σ' H' h => h, ?_⟩⟩
        refine ⟨_, rfl, r, dx1, _, rfl, hr2, no (by decide +kernel) (by decide +kernel) (by decide +kernel) _, r, l, _, pos1, _, rfl, rs1.at_, hand_at h40, fun H2 kp2 a2 => ?_⟩
        have rs2 := rs1.adv Z kp2 a2 (Nat.le_succ _)
        refine ⟨_, rfl, .inl ⟨rfl, _, SqL.of rs2.s⟩, sl, _, _, rfl, rfl, rs2.s, ?_, ?_⟩
        · rw [svF_len]
          exact Nat.lt_of_le_of_lt (Nat.le_trans rs1.b2 (Nat.le_trans (Nat.le_of_lt lt1) Z.wl)) (by decide)
        have rs3 := rs2.setS (ctx' := .l c b :: ctx1) Z (by rw [List.length_cons]; exact Nat.succ_le_succ rs1.b2)
        rw [svF_cons] at rs3
        refine ⟨a.ws.length, ?_, pos1 + 1, .l c b :: ctx1, a, rfl, rs3, ⟨c2, okb, okc1⟩, ?_, ?_, ?_, oka, by omega, rfl⟩
        · rw [ew]
          simp only [List.length_cons, List.length_append]
          omega
        · rw [hd2]
          show _ = a.ws ++ ([c] :: (b.ws ++ ([41] :: rwF ctx1)))
          simp
        · rw [hq1, ep]
          show _ = done ++ (a.post ++ (b.post ++ (.sg c :: afF ctx1)))
          simp
        · show np + a.cnt + (b.cnt + cnF ctx1) ≤ 6
          omega
      | true =>
        obtain ⟨ep, h0, l2, ec⟩ := Rl.leafy lf
        have hw0 : t0.ws[pos1]? = some t1.w0 := drop_at (i := 0) hd1 h0
        have lt1 : pos1 < t0.ws.length := (List.getElem?_eq_some_iff.mp hw0).1
        refine ⟨_, rfl, r, dx1, _, rfl, hr2, no (by decide +kernel) (by decide +kernel) (by decide +kernel) _, r, l, _, pos1, rfl, rs1.at_, ?_⟩
        rw [hand_at hw0]
        refine ⟨rfl, _, rfl, iteF' ?_ ?_⟩
        · cases t1 with
          | fx m => exact (by decide +kernel : decide (V.str (S [102, 105, 120, 101, 100]) = V.str (Str.ofString "(")) = false)
          | dv x y q => exact (by decide +kernel : decide (V.str (S [100, 105, 118, 105, 100, 101, 100]) = V.str (Str.ofString "(")) = false)
          | lo a b => cases lf
          | hi a b => cases lf
        dsimp only [tSeq]
        refine ⟨_, rfl, rfl, _, rfl, iteF' (decide_eq_false (fun e => by injection e with e; omega)) ?_⟩
        dsimp only [tNext]
        obtain ⟨us, hu, tu⟩ := rs1.t
        refine ⟨_, rfl, .inl ⟨rfl, _, SqL.of hu⟩, _, rfl, r, l, _, pos1, t1, _, rfl, rs1.at_, Z.wd, lf, okt1, hd1, fun p H2 kp2 a2 hp1 hp2 => ?_⟩
        have rs2 := rs1.adv Z kp2 a2 (Nat.le_add_right _ _)
        have hu2 : H2 tl = some (.lst us) := kp2 _ _ Z.tr hu
        refine ⟨tl, _, _, rfl, rfl, hu2, ?_, ?_⟩
        · rw [tu.len]
          exact Nat.lt_of_le_of_lt (Nat.le_trans rs1.b1 (Nat.le_trans (Nat.le_of_lt lt1) Z.wl)) (by decide)
        have rs3 := rs2.addT Z hu2 (i := .pt t1) ⟨p, rfl, hp2⟩ (by have := rs1.b1; omega)
        generalize upd H2 tl _ = H3 at rs3 ⊢
        have hd3 : t0.ws.drop (pos1 + t1.ws.length) = rwF ctx1 := by
          rw [← List.drop_drop, hd1, List.drop_left]
        rw [ep] at hq1
        have hq3 : t0.post = (done ++ [It.pt t1]) ++ afF ctx1 := by rw [hq1]; simp
        refine ⟨_, rfl, _, _, rfl, rfl, ?_⟩
        dsimp only [tSeq]
        rw [ec] at hn1
        refine ⟨fun m σ H => ∃ (pos2 : Nat) (done2 : List It) (ctx2 : List Fr), σ = [some (.ref r), some (.ref tl), some (.int ((np + 1 : Nat) : Int)), some (.ref sl)] ∧ RS R r l tl sl t0.ws H0 H pos2 done2 ctx2 ∧ okF ctx2 ∧ t0.ws.drop pos2 = rwF ctx2 ∧ t0.post = done2 ++ afF ctx2 ∧ np + 1 + cnF ctx2 ≤ 6 ∧ pos < pos2 ∧ m = ctx2.length, ⟨_, pos1 + t1.ws.length, done ++ [.pt t1], ctx1, by rw [Int.natCast_add]; rfl, rs3, okc1, hd3, hq3, hn1, by omega, rfl⟩, ?_⟩
        rintro m2 σ2 H4 ⟨pos2, done2, ctx2, rfl, rs4, okc2, hd4, hq4, hn2, le2, rfl⟩
        obtain ⟨⟨dx2, hr4⟩, hl4⟩ := id rs4.at_
        have lt0 : pos < t0.ws.length := by omega
        cases ctx2 with
        | nil =>
          refine ⟨_, rfl, false, .inl ⟨_, SqL.of rs4.s, rfl⟩, iteF' rfl (iteF' rfl ?_)⟩
          refine ⟨_, rfl, false, .inl ⟨_, SqL.of rs4.s, rfl⟩, iteF' rfl ?_⟩
          exact ⟨0, by omega, np + 1, pos2, done2, [], rfl, rs4, trivial, .inr ⟨rfl, hd4, by omega, by rw [hq4]; exact List.append_nil _, rfl⟩⟩
        | cons f k2 =>
          have tr : ∀ x : V, true = !(svF (f :: k2)).isEmpty := fun _ => by rw [svF_cons]; cases svF k2 <;> rfl
          refine ⟨_, rfl, true, .inl ⟨_, SqL.of rs4.s, tr .non⟩, iteT' rfl ?_⟩
          have hs := rs4.s
          rw [svF_cons] at hs
          refine ⟨_, rfl, _, rfl, sl, _, _, _, rfl, rfl, SqL.of hs, atI_last _ _, rfl, _, rfl, ?_⟩
          cases f with
          | l c b =>
            refine iteF' rfl ?_
            refine ⟨_, rfl, true, .inl ⟨_, SqL.of rs4.s, tr .non⟩, iteT' rfl ?_⟩
            obtain ⟨hc, lt2, hd5⟩ := drop_hd hd4
            obtain ⟨c2, okb, okk⟩ := okc2
            refine ⟨_, rfl, r, l, _, pos2, c, rfl, rs4.at_, hc, c2, fun H5 kp5 a5 => ?_⟩
            have rs5 := rs4.adv Z kp5 a5 (Nat.le_succ _)
            have hs5 := rs5.s
            rw [svF_cons] at hs5
            have e6 : (svF k2 ++ [(Fr.l c b).v]).set (svF k2).length (.str (S [c])) = svF (.r c :: k2) := by rw [svF_cons]; exact set_last _ _ _
            have rs6 := rs5.setS (ctx' := .r c :: k2) Z rs5.b2
            refine ⟨_, rfl, _, rfl, sl, _, _, _, rfl, rfl, hs5, ixN_last _ _, ?_⟩
            rw [e6]
            exact ⟨t0.ws.length - (pos2 + 1) + 1, by omega, np + 1, pos2 + 1, done2, .r c :: k2, rfl, rs6, ⟨c2, okk⟩, .inl ⟨b, hd5, hq4, by show np + 1 + b.cnt + cnF k2 ≤ 6; have : np + 1 + (b.cnt + cnF k2) ≤ 6 := hn2; omega, okb, .inr (List.cons_ne_nil _ _), rfl⟩⟩
          | r c =>
            refine iteT' rfl ⟨_, fun σ' H' h => h, ?_⟩
            obtain ⟨hc, lt2, hd5⟩ := drop_hd hd4
            obtain ⟨c2, okk⟩ := okc2
            refine ⟨_, rfl, r, dx2, _, rfl, hr4, no (by decide +kernel) (by decide +kernel) (by decide +kernel) _, r, l, _, pos2, _, rfl, rs4.at_, hand_at hc, fun H5 kp5 a5 => ?_⟩
            have rs5 := rs4.adv Z kp5 a5 (Nat.le_succ _)
            obtain ⟨us5, hu5, tu5⟩ := rs5.t
            have hs5 := rs5.s
            rw [svF_cons] at hs5
            have rs6 := rs5.setS (ctx' := k2) Z (Nat.le_of_succ_le rs5.b2)
            have hu6 : upd H5 sl (.lst (svF k2)) tl = some (.lst us5) := by rw [upd_ne Z.ne]; exact hu5
            have rs7 := rs6.addT Z hu6 (v := (Fr.r c).v) (i := .sg c) rfl (Nat.succ_le_succ rs4.b1)
            refine ⟨_, rfl, .inl ⟨rfl, _, SqL.of hu5⟩, _, rfl, .inl ⟨rfl, _, SqL.of hs5⟩, sl, _, (Fr.r c).v, rfl, rfl, hs5, (by simp), ?_⟩
            rw [List.dropLast_concat]
            refine ⟨tl, _, _, rfl, rfl, hu6, ?_, ?_⟩
            · rw [tu5.len]
              exact Nat.lt_of_le_of_lt (Nat.le_trans rs4.b1 (Nat.le_trans (Nat.le_of_lt lt2) Z.wl)) (by decide)
            exact ⟨k2.length, Nat.lt_succ_self _, pos2 + 1, done2 ++ [.sg c], k2, rfl, rs7, okk, hd5, (by rw [hq4]; show done2 ++ (.sg c :: afF k2) = _; simp), hn2, by omega, rfl⟩
    · refine tt_via (b := false) (fun G g => ?_) ?_
      · refine ⟨_, rfl, rfl, _, rfl, iteF' (decide_eq_false (fun e => by injection e with e; omega)) ⟨_, rfl, false, .inl ⟨_, SqL.of rs.s, rfl⟩, g⟩⟩
      refine iteF' rfl ?_
      obtain ⟨us, hu, tu⟩ := rs.t
      rw [← hq] at tu
      exact ⟨_, rfl, k tl us pos H rs.kp (List.drop_eq_nil_iff.mp hd) rs.at_ nt hu tu⟩
end
end Lw
namespace Lw
open PySem PySem.Spec PyProof.Rows L2
open SX PySem.NumText TL LamX ClX StX
set_option pp.maxSteps 900
/-! ### rule_of: a stack of rules -/
def Rl.jn (c : Nat) (a b : Rl) : Rl := if c = 38 then .lo a b else .hi a b
inductive Runs : List Rl → List It → Rl → Prop where
  | done (t : Rl) : Runs [t] [] t
  | pt {x t : Rl} {st : List Rl} {its : List It} (h1 : x.Ok) (h2 : x.leaf = true) (h : Runs (x :: st) its t) : Runs st (.pt x :: its) t
  | sg {a b t : Rl} {c : Nat} {st : List Rl} {its : List It} (hc : c = 38 ∨ c = 124) (h1 : (Rl.jn c a b).Ok) (h : Runs (Rl.jn c a b :: st) its t) : Runs (b :: a :: st) (.sg c :: its) t
theorem Runs.post : ∀ {t u : Rl} {st : List Rl} {its : List It}, t.Ok → Runs (t :: st) its u → Runs st (t.post ++ its) u
  | .fx _, _, _, _, ok, h => .pt ok rfl h
  | .dv _ _ _, _, _, _, ok, h => .pt ok rfl h
  | .lo a b, u, st, its, ok, h => by
    show Runs st ((a.post ++ (b.post ++ [.sg 38])) ++ its) u
    rw [List.append_assoc, List.append_assoc]
    exact Runs.post ok.1 (Runs.post ok.2.1 (.sg (.inl rfl) ok h))
  | .hi a b, u, st, its, ok, h => by
    show Runs st ((a.post ++ (b.post ++ [.sg 124])) ++ its) u
    rw [List.append_assoc, List.append_assoc]
    exact Runs.post ok.1 (Runs.post ok.2.1 (.sg (.inr rfl) ok h))
theorem Runs.all {t : Rl} (ok : t.Ok) : Runs [] t.post t := by
  have h := Runs.post (its := []) (st := []) ok (.done t)
  rwa [List.append_nil] at h
/-- the rules on the stack, the last one on top -/
def StAt (FC VC LC GC : Addr) (H : Hp) : List V → List Rl → Prop
  | [], [] => True
  | v :: vs, t :: ts => (∃ a, v = .ref a ∧ RlAt FC VC LC GC H t a ∧ t.Ok) ∧ StAt FC VC LC GC H vs ts
  | _, _ => False
theorem StAt.tr {FC VC LC GC : Addr} {H H' : Hp} (s : Tr H H') : ∀ {vs : List V} {ts : List Rl}, StAt FC VC LC GC H vs ts → StAt FC VC LC GC H' vs ts
  | [], [], _ => trivial
  | _ :: _, _ :: _, ⟨⟨a, e, h, o⟩, r⟩ => ⟨⟨a, e, h.tr s, o⟩, StAt.tr s r⟩
  | [], _ :: _, h => h.elim
  | _ :: _, [], h => h.elim
theorem tr_lst {H : Hp} {l : Addr} {xs ys : List V} (h : H l = some (.lst xs)) : Tr H (upd H l (.lst ys)) := fun a o _ no e => by
  rw [upd_ne (fun z => by rw [z, h] at e; cases e; exact no _ rfl)]
  exact e
theorem tr_same {H H' : Hp} (s : Same H H') : Tr H H' := fun a o _ _ e => s a o e
theorem ToAt.get {H : Hp} : ∀ {vs : List V} {is : List It} {i : Nat} {v : V}, ToAt H vs is → vs[i]? = some v → ∃ it, is[i]? = some it ∧ ItV H v it
  | _ :: _, i :: _, 0, v, h, e => by cases e; exact ⟨i, rfl, h.1⟩
  | _ :: _, _ :: _, n + 1, v, h, e => ToAt.get (i := n) h.2 e
  | [], _, _, _, _, e => by cases e
  | _ :: _, [], _, _, h, _ => h.elim
theorem Rl.post_len : ∀ t : Rl, t.post.length + 1 ≤ 2 * t.cnt
  | .fx _ => by show 1 + 1 ≤ 2 * 1; decide
  | .dv _ _ _ => by show 1 + 1 ≤ 2 * 1; decide
  | .lo a b => by
    have h1 := Rl.post_len a
    have h2 := Rl.post_len b
    show (a.post ++ (b.post ++ [It.sg 38])).length + 1 ≤ 2 * (a.cnt + b.cnt)
    simp only [List.length_append, List.length_cons, List.length_nil]
    omega
  | .hi a b => by
    have h1 := Rl.post_len a
    have h2 := Rl.post_len b
    show (a.post ++ (b.post ++ [It.sg 124])).length + 1 ≤ 2 * (a.cnt + b.cnt)
    simp only [List.length_append, List.length_cons, List.length_nil]
    omega
def spRo (FC VC LC GC : Addr) : Sp := fun vs H Q _ => ∃ (l : Addr) (us : List V) (t : Rl), vs = [.ref l] ∧ H l = some (.lst us) ∧ ToAt H us t.post ∧ t.Ok ∧ ∀ a H', Same H H' → RlAt FC VC LC GC H' t a → Q (.ref a) H'
section
variable {P : Program} {w : World} {K : PySem.W.Frag} {mg : Str → Option Value} {base : Heap} {FC VC LC GC DR DM_ DU DS fF fD : Addr} {fdF fdD : FuncData}
theorem scRo : FnScope ["told", "rules", "item", "other", "one"] ["told"] (C8.fnScope sRo) := C8.fnScope_by (by decide +kernel)
theorem cal_ro {f : Addr} {fd : FuncData} (F : C8.Def K mg "rule_of" sRo f fd) (b : Binds K fd ["told"] []) (T : Txt mg) (Z : RlZ K mg FC VC LC GC) (FM : FixM P w K mg base FC DS fF fdF) (DM : DivM P w K mg base VC DU fD fdD)
    (LA : MetP P w K mg base 7 (Rk FC VC LC GC) (PySem.dunder "and") (fun _ => spAn K FC VC LC GC DU DM_ .lo)) (OA : OpP K (Rk FC VC LC GC) .BitAnd) (LO : MetP P w K mg base 7 (Rk FC VC LC GC) (PySem.dunder "or") (fun _ => spAn K FC VC LC GC DU DM_ .hi)) (OO : OpP K (Rk FC VC LC GC) .BitOr) : C8.Cal P w K mg base 8 "rule_of" (spRo FC VC LC GC) [] := by
  refine C8.cal0 F b .nil scRo (fun vs H Q E h => ?_) (fun cdv A outer st H0 vs Q E hr h => ?_)
  · obtain ⟨l, us, t, rfl, _⟩ := h
    rfl
  · obtain ⟨l, us, t, rfl, hl, tu, ok, k⟩ := h
    refine ⟨_, (pss_cons (ps_set (i := 1) scRo.nd rfl (Or.inl rfl) (pe_lst pa_nil))
  (pss_cons (ps_for PassesOwn.never rfl (pi_list (pv 0)) (pg_name (i := 2) scRo.nd rfl (Or.inl rfl)) (pss_one (ps_if (PW.pt (pw_or (pt_cmpR (op_eqD hr.units) (pv 2) pe_str (nomark _)) (pw_or1 (pt_cmpR (op_eqD hr.units) (pv 2) pe_str (nomark _))))) (pss_cons (ps_set (i := 3) scRo.nd rfl (Or.inl rfl) (pe_bm0 PySem.F.plainAttrs_list PySem.F.slot_list_pop PySem.F.type_list_pop mt_pop (pv 1)))
  (pss_cons (ps_set (i := 4) scRo.nd rfl (Or.inl rfl) (pe_bm0 PySem.F.plainAttrs_list PySem.F.slot_list_pop PySem.F.type_list_pop mt_pop (pv 1)))
  (pss_one (ps_expr (pe_bm PySem.F.plainAttrs_list PySem.F.slot_list_append PySem.F.type_list_append mt_append (pv 1) (pa_cons (pe_ifExp (pt_cmpR (op_eqD hr.units) (pv 2) pe_str (nomark _)) (pe_op (op_P LA OA (passes_call takes0 (fun _ _ _ _ z => z)) hr (by decide)) (pv 4) (pv 3)) (pe_op (op_P LO OO (passes_call takes0 (fun _ _ _ _ z => z)) hr (by decide)) (pv 4) (pv 3))) pa_nil)))))) (pss_one (ps_expr (pe_bm PySem.F.plainAttrs_list PySem.F.slot_list_append PySem.F.type_list_append mt_append (pv 1) (pa_cons (pe_ifExp (pt_cmpR op_eq (pe_callB call_len_seq (by rfl) T.n_len (by decide +kernel) (pa_cons (pv 2) pa_nil)) pe_int (nomark _)) (pe_makeS FM.M FM.F (hr.mono (by decide)) (by rfl) FM.hm FM.b (passes_call takes0 (fun _ _ _ _ z => z)) (pv 2)) (pe_makeS DM.M DM.F (hr.mono (by decide)) (by rfl) DM.hm DM.b (passes_call takes0 (fun _ _ _ _ z => z)) (pv 2))) pa_nil)))))))
  (pss_one (ps_ret (pe_ix ix_list (pv 1) pe_int (fun _ _ => rfl)))))), ?_⟩
    refine ⟨(by show 0 ≤ sizeLine; decide), fun sl hsl => ?_⟩
    dsimp only [gName, tSeq]
    have nsl : H0 sl = none := hsl
    have s1 := same_new (o := HO.lst []) hsl
    have hl1 := s1 _ _ hl
    have tu1 := tu.on (tt_same s1)
    have ns : upd H0 sl (.lst []) sl = some (.lst []) := upd_same
    have np := Rl.post_len t
    have n6 := Rl.Ok.cnt6 ok
    have nlu := tu.len
    refine ⟨_, rfl, l, rfl, ⟨_, SqL.of hl1⟩, for_list (K := K) (xs := us) (fun i σ' H' => ∃ ss st x2 x3 x4, σ' = [some (.ref l), some (.ref sl), x2, x3, x4] ∧ Same H0 H' ∧ H' sl = some (.lst (List.reverse ss)) ∧ StAt FC VC LC GC H' ss st ∧ Runs st (t.post.drop i) t ∧ ss.length ≤ i) ⟨[], [], none, none, none, rfl, s1, ns, trivial, Runs.all ok, Nat.le_refl _⟩ ?_ ?_ ?_⟩
    · rintro i σ1 H2 _ ⟨_, _, _, _, _, _, s2, _⟩
      exact SqL.of (s2 _ _ hl)
    · rintro i x σ1 H2 hx ⟨ss, st, x2, x3, x4, rfl, s2, hs2, sa, rn, le⟩
      have hi : i < us.length := (List.getElem?_eq_some_iff.mp hx).1
      have sz : (List.reverse ss).length < sizeLine := by rw [List.length_reverse]; exact Nat.lt_of_le_of_lt (by omega : ss.length ≤ 1000) (by decide)
      obtain ⟨it, hit, iv⟩ := (tu.on (tt_same s2)).get hx
      have ed : t.post.drop i = it :: t.post.drop (i + 1) := by
        obtain ⟨h1, h2⟩ := List.getElem?_eq_some_iff.mp hit
        rw [List.drop_eq_getElem_cons h1, h2]
      rw [ed] at rn
      dsimp only [gName, List.set, tSeq]
      cases it with
      | pt y =>
        obtain ⟨p, rfl, hp⟩ := iv
        cases rn with
        | pt h1 h2 h =>
          have fin : ∀ (z : Addr) (H3 : Hp), Same H2 H3 → RlAt FC VC LC GC H3 y z → ∃ ss' st' x2' x3' x4', [some (V.ref l), some (V.ref sl), some (V.ref p), x3, x4] = [some (V.ref l), some (V.ref sl), x2', x3', x4'] ∧ Same H0 (upd H3 sl (.lst (List.reverse ss ++ [V.ref z]))) ∧ upd H3 sl (.lst (List.reverse ss ++ [V.ref z])) sl = some (.lst (List.reverse ss')) ∧ StAt FC VC LC GC (upd H3 sl (.lst (List.reverse ss ++ [V.ref z]))) ss' st' ∧ Runs st' (t.post.drop (i + 1)) t ∧ ss'.length ≤ i + 1 := fun z H3 s3 r3 => by
            have tr := tr_lst (ys := List.reverse ss ++ [V.ref z]) (s3 _ _ hs2)
            refine ⟨.ref z :: ss, y :: st, _, _, _, rfl, fun b o e => ?_, by rw [upd_same, List.reverse_cons], ⟨⟨z, rfl, r3.tr tr, h1⟩, (sa.tr (tr_same s3)).tr tr⟩, h, Nat.succ_le_succ le⟩
            rw [upd_ne (fun z => by rw [z, nsl] at e; cases e)]
            exact (s2.trans s3) _ _ e
          cases y with
          | fx m =>
            have dt : Dp K H2 (.ref p) (.tuple [.int m]) := .tup (SqT.of hp) (.cons (.int _) .nil)
            refine ⟨_, rfl, _, _, dt, .str _, rfl, (by decide +kernel), _, rfl, iteF' rfl ⟨_, rfl, _, _, dt, .str _, rfl, (by decide +kernel), _, rfl, iteF' rfl ?_⟩⟩
            refine ⟨_, rfl, .inl ⟨rfl, _, SqL.of hs2⟩, _, rfl, p, _, rfl, .inr (SqT.of hp), rfl, _, rfl, iteT' (decide_eq_true rfl) ⟨_, rfl, p, _, rfl, .inl (SqT.of hp), fun z dz hz hdz ne => ?_⟩⟩
            exact fx_ok h1.1 h1.2 hz hdz ne fun H3 s3 fa => ⟨sl, _, _, rfl, rfl, s3 _ _ hs2, sz, fin z H3 s3 fa⟩
          | dv a b c =>
            obtain ⟨a1, a2, b1, b2, c1, c2⟩ := id h1
            have dt : Dp K H2 (.ref p) (.tuple [.int a, .int b, .int c]) := .tup (SqT.of hp) (.cons (.int _) (.cons (.int _) (.cons (.int _) .nil)))
            refine ⟨_, rfl, _, _, dt, .str _, rfl, (by decide +kernel), _, rfl, iteF' rfl ⟨_, rfl, _, _, dt, .str _, rfl, (by decide +kernel), _, rfl, iteF' rfl ?_⟩⟩
            refine ⟨_, rfl, .inl ⟨rfl, _, SqL.of hs2⟩, _, rfl, p, _, rfl, .inr (SqT.of hp), rfl, _, rfl, iteF' (by decide +kernel : decide (V.int 3 = V.int 1) = false) ⟨_, rfl, p, _, rfl, .inl (SqT.of hp), fun z dz hz hdz ne => ?_⟩⟩
            exact dv_ok a1 a2 b1 b2 c1 c2 hz hdz ne fun H3 s3 fa => ⟨sl, _, _, rfl, rfl, s3 _ _ hs2, sz, fin z H3 s3 fa⟩
          | lo a b => cases h2
          | hi a b => cases h2
      | sg c =>
        obtain rfl := iv
        cases rn with
        | @sg a b _ _ st' _ hc h1 h =>
          cases ss with
          | nil => exact sa.elim
          | cons vb ss =>
          cases ss with
          | nil => exact sa.2.elim
          | cons va ss =>
          obtain ⟨⟨mb, rfl, rb, ob⟩, ⟨ma, rfl, ra, oa⟩, sr⟩ := sa
          have hs3 := hs2
          rw [List.reverse_cons, List.reverse_cons] at hs3
          have e38 : PyData.eqv (.str (S [38])) (.str (Str.ofString "&")) = true := by decide +kernel
          have e39 : PyData.eqv (.str (S [124])) (.str (Str.ofString "&")) = false := by decide +kernel
          have e40 : PyData.eqv (.str (S [124])) (.str (Str.ofString "|")) = true := by decide +kernel
          have sz2 : (List.reverse ss).length < sizeLine := by
            rw [List.length_reverse] at sz ⊢
            rw [List.length_cons, List.length_cons] at sz
            omega
          unfold tIfS
          refine tt_via (b := true) (fun G g => ?_) ?_
          · rcases hc with rfl | rfl
            · exact ⟨_, rfl, _, _, .str _, .str _, (by decide +kernel), (by decide +kernel), _, rfl, iteT' e38 g⟩
            · exact ⟨_, rfl, _, _, .str _, .str _, (by decide +kernel), (by decide +kernel), _, rfl, iteF' e39 ⟨_, rfl, _, _, .str _, .str _, (by decide +kernel), (by decide +kernel), _, rfl, by rw [e40]; exact g⟩⟩
          refine iteT' rfl ?_
          refine ⟨_, rfl, .inl ⟨rfl, _, SqL.of hs3⟩, sl, _, .ref mb, rfl, rfl, hs3, (by simp), ?_⟩
          rw [List.dropLast_concat]
          dsimp only [gName, List.set]
          refine ⟨_, rfl, .inl ⟨rfl, _, SqL.of upd_same⟩, sl, _, .ref ma, rfl, rfl, upd_same, (by simp), ?_⟩
          rw [List.dropLast_concat, upd_upd]
          dsimp only [gName, List.set]
          have tr := tr_lst (ys := List.reverse ss) hs3
          have s4 : Same H0 (upd H2 sl (.lst (List.reverse ss))) := fun b o e => by
            rw [upd_ne (fun z => by rw [z, nsl] at e; cases e)]
            exact s2 _ _ e
          have ra4 := ra.tr tr
          have rb4 := rb.tr tr
          have sr4 := sr.tr tr
          have h4 : upd H2 sl (.lst (List.reverse ss)) sl = some (.lst (List.reverse ss)) := upd_same
          generalize upd H2 sl (.lst (List.reverse ss)) = H4 at s4 ra4 rb4 sr4 h4 ⊢
          obtain ⟨d1, f1, _, _, g1, _⟩ := ra4.has oa
          obtain ⟨d2, f2, _, _, g2, _⟩ := rb4.has ob
          have fin : ∀ (z : Addr) (H5 : Hp), Same H4 H5 → RlAt FC VC LC GC H5 (Rl.jn c a b) z → ∃ ss' st'' x2' x3' x4', [some (V.ref l), some (V.ref sl), some (V.str (S [c])), some (V.ref mb), some (V.ref ma)] = [some (V.ref l), some (V.ref sl), x2', x3', x4'] ∧ Same H0 (upd H5 sl (.lst (List.reverse ss ++ [V.ref z]))) ∧ upd H5 sl (.lst (List.reverse ss ++ [V.ref z])) sl = some (.lst (List.reverse ss')) ∧ StAt FC VC LC GC (upd H5 sl (.lst (List.reverse ss ++ [V.ref z]))) ss' st'' ∧ Runs st'' (t.post.drop (i + 1)) t ∧ ss'.length ≤ i + 1 := fun z H5 s5 r5 => by
            have tr := tr_lst (ys := List.reverse ss ++ [V.ref z]) (s5 _ _ h4)
            refine ⟨.ref z :: ss, Rl.jn c a b :: st', _, _, _, rfl, fun b o e => ?_, by rw [upd_same, List.reverse_cons], ⟨⟨z, rfl, r5.tr tr, h1⟩, (sr4.tr (tr_same s5)).tr tr⟩, h, by rw [List.length_cons] at le ⊢; rw [List.length_cons] at le; omega⟩
            rw [upd_ne (fun z => by rw [z, nsl] at e; cases e)]
            exact (s4.trans s5) _ _ e
          refine ⟨_, rfl, .inl ⟨rfl, _, SqL.of h4⟩, ?_⟩
          rcases hc with rfl | rfl
          · have hk : (Rl.lo a b).Ok := h1
            refine ⟨_, rfl, _, _, .str _, .str _, (by decide +kernel), (by decide +kernel), _, rfl, iteT' e38 ?_⟩
            exact ⟨_, rfl, _, rfl, ma, _, d1, f1, mb, _, d2, f2, rfl, rfl, Rk.of a, Rk.of b, g1, g2, _, _, rfl, some a, some b, ⟨ma, rfl, ra4, oa⟩, ⟨mb, rfl, rb4, ob⟩, (fun e => by cases e), (fun _ _ e => by cases e), fun x y e1 e2 => by
              cases e1
              cases e2
              exact ⟨fun c => absurd hk.2.2.1 (by omega), fun _ c => absurd hk.2.2.2 (by omega), fun _ _ z H' s _ r => ⟨sl, _, _, rfl, rfl, s _ _ h4, sz2, fin z H' s r⟩⟩⟩
          · have hk : (Rl.hi a b).Ok := h1
            refine ⟨_, rfl, _, _, .str _, .str _, (by decide +kernel), (by decide +kernel), _, rfl, iteF' e39 ?_⟩
            exact ⟨_, rfl, _, rfl, ma, _, d1, f1, mb, _, d2, f2, rfl, rfl, Rk.of a, Rk.of b, g1, g2, _, _, rfl, some a, some b, ⟨ma, rfl, ra4, oa⟩, ⟨mb, rfl, rb4, ob⟩, (fun e => by cases e), (fun _ _ e => by cases e), fun x y e1 e2 => by
              cases e1
              cases e2
              exact ⟨fun c => absurd hk.2.2.1 (by omega), fun _ c => absurd hk.2.2.2 (by omega), fun _ _ z H' s _ r => ⟨sl, _, _, rfl, rfl, s _ _ h4, sz2, fin z H' s r⟩⟩⟩
    · rintro σ1 H2 ⟨ss, st, x2, x3, x4, rfl, s2, hs2, sa, rn, le⟩
      rw [nlu, List.drop_length] at rn
      cases rn with
      | done =>
        cases ss with
        | nil => exact sa.elim
        | cons v ss =>
          cases ss with
          | cons _ _ => exact sa.2.elim
          | nil =>
            obtain ⟨⟨a, rfl, ra, _⟩, _⟩ := sa
            exact ⟨_, rfl, sl, _, _, _, rfl, rfl, SqL.of hs2, atI_nat (j := 0) rfl, k a H2 s2 ra⟩
end
end Lw
namespace Lw
open PySem PySem.Spec PyProof.Rows L2
open SX PySem.NumText TL LamX ClX StX
set_option pp.maxSteps 900
abbrev sRd : Stmt := inClass (top 32) 0
/-! ### Rule.read -/
/-- Reader, ready to be made -/
structure RdK (P : Program) (w : World) (K : PySem.W.Frag) (mg : Str → Option Value) (base : Heap) (R D f : Addr) (fd : FuncData) (ds : List Value) : Prop where
  M : Mk K R f
  F : FnOk P w K mg base (L2.CX P w) 3 f fd ["self", "text", "row"] (spRI K R D)
  hm : mg "Reader" = some (.ref R)
  b1 : Binds K fd ["self", "text", "row"] ds
  d1 : Vals [.int 0] ds
def spRd (FC VC LC GC : Addr) : Sp := fun vs H Q _ => ∃ t, vs = [.str (S t.tx)] ∧ t.Ok ∧ ∀ a H', Same H H' → RlAt FC VC LC GC H' t a → Q (.ref a) H'
/-- Rule.read, ready to be called -/
structure RrM (P : Program) (w : World) (K : PySem.W.Frag) (mg : Str → Option Value) (base : Heap) (FC VC LC GC UC p g : Addr) (fd : FuncData) (gU : List Value → List Value → List Value) : Prop where
  S : SMet K UC "read" p g
  F : FnOk P w K mg base (L2.CX P w) 10 g fd ["text"] (spRd FC VC LC GC)
  b : Binds K fd ["text"] []
  KB : KBn K fd ["text"] 0 ["text"] gU (fun _ zs => zs)
section
variable {P : Program} {w : World} {K : PySem.W.Frag} {mg : Str → Option Value} {base : Heap} {R D FC VC LC GC : Addr}
theorem scRd : FnScope ["text", "reader", "told"] ["text"] (C8.fnScope sRd) := C8.fnScope_by (by decide +kernel)
theorem fn_rd {f fR : Addr} {fd fdR : FuncData} {ds : List Value} (F : C8.Fun K "read" "Rule.read" sRd f fd) (RK : RdK P w K mg base R D fR fdR ds) (RM : RdR P w K mg base R D) (DR : C8.Cal P w K mg base 9 "read_rule" (spRr R) []) (DO : C8.Cal P w K mg base 8 "rule_of" (spRo FC VC LC GC) []) : FnOk P w K mg base (L2.CX P w) 10 f fd ["text"] (spRd FC VC LC GC) := by
  obtain ⟨oc, od, dV, kV, doc, pm, an, cdv, ct, osl, rfl, lk, hcd⟩ := F.ex
  refine fn_of lk hcd scRd (fun vs H Q E h => ?_) fun A outer s H vs Q E hr h => ?_
  · obtain ⟨t, rfl, _⟩ := h
    rfl
  · obtain ⟨t, rfl, ok, k⟩ := h
    refine ⟨_, (pss_cons (ps_set (i := 1) scRd.nd rfl (Or.inl rfl) (pe_make RK.M RK.F (hr.mono (by decide)) (by rfl) RK.hm RK.b1 RK.d1 (passes_call (takes_of rfl rfl rfl rfl) (fun _ _ _ _ z => z)) (pa_cons (pv 0) pa_nil)))
      (pss_cons (ps_set (i := 2) scRd.nd rfl (Or.inl rfl) (C8.pe_c DR hr (by decide) (by rfl) (pa_cons (pv 1) pa_nil)))
      (pss_cons (ps_expr (pe_mx0 (pv 1) RM.rc.cl RM.F hr (by decide) (passes_call (takes_of rfl rfl rfl rfl) (fun _ _ _ _ z => z))))
      (pss_one (ps_ret (C8.pe_c DO hr (by decide) (by rfl) (pa_cons (pv 2) pa_nil))))))), ?_⟩
    refine ⟨_, rfl, fun r dx hr0 hdx ne => ?_⟩
    have s0 : Same H (upd (upd H dx (.own r)) r (.ins R dx [])) := (same_new hdx).trans (same_new (by rw [upd_ne ne.symm]; exact hr0))
    have hr1 : upd (upd H dx (.own r)) r (.ins R dx []) r = some (.ins R dx []) := upd_same
    generalize upd (upd H dx (.own r)) r (.ins R dx []) = H0 at s0 hr1 ⊢
    have txl := Rl.tx_len ok
    have n6 := Rl.Ok.cnt6 ok
    refine ⟨r, dx, _, rfl, .str _, hr1, (fun z => by cases z), fun z hz => ?_⟩
    cases hz
    refine ⟨t.tx, rfl, by omega, fun l fl => ⟨rfl, ?_⟩⟩
    rw [wds_tx ok]
    have nl : l ≠ r := fun e => by rw [e, hr1] at fl; cases fl
    have s1 : ∀ b o, b ≠ r → H0 b = some o → upd (upd H0 l (.lst (wV t.ws))) r (.ins R dx (rdF l 0)) b = some o := fun b o hb e => by
      rw [upd_ne hb, upd_ne (ne_of_none e fl)]; exact e
    have at1 : RdAt R (upd (upd H0 l (.lst (wV t.ws))) r (.ins R dx (rdF l 0))) r l t.ws 0 := ⟨⟨dx, upd_same⟩, by rw [upd_ne nl]; exact upd_same⟩
    generalize upd (upd H0 l (.lst (wV t.ws))) r (.ins R dx (rdF l 0)) = H1 at s1 at1 ⊢
    dsimp only [gName, tSeq]
    refine ⟨_, rfl, r, l, t, rfl, at1, ok, fun p us n H2 kp2 hn a2 np hp tu => ?_⟩
    dsimp only [gName, tSeq]
    obtain ⟨⟨dx2, hr2⟩, hl2⟩ := id a2
    refine ⟨_, rfl, r, dx2, _, rfl, hr2, rdF_no l _ (by decide +kernel) (by decide +kernel) (by decide +kernel), r, l, _, n, rfl, a2, (fun z => absurd z (by omega)), fun _ => ?_⟩
    refine ⟨_, rfl, p, us, t, rfl, hp, tu, ok, fun a H3 s3 ra => k a H3 ?_ ra⟩
    exact fun b o e => s3 _ _ (kp2 _ _ (ne_of_none e hr0) (s1 _ _ (ne_of_none e hr0) (s0 _ _ e)))
end
end Lw
namespace Lw
open PySem PySem.Spec PyProof.Rows L2
open SX PySem.NumText TL LamX ClX StX
set_option pp.maxSteps 900
abbrev sTx : Stmt := top 52
abbrev sOt : Stmt := top 56
/-! ### str of a rule, of a text or a number -/
section
variable {X : Cx} {Pc : Addr → Prop} {k j : Nat} {sp : Addr → Sp} {E : XK}
def rStrP (Pc : Addr → Prop) (sp : Addr → Sp) (E : XK) : List V → Hp → VK → Prop := fun xs H Q => ∃ a C dx fs, xs = [V.ref a] ∧ Pc C ∧ H a = some (.ins C dx fs) ∧ sp C [.ref a] H (fun z H' => ∃ y, z = .str y ∧ Q z H') E
theorem call_strP (M : MetP X.prog X.w X.K X.mg X.base k Pc "__str__" sp) (hx : Passes (L2.CX X.prog X.w) X E) (hr : Room j X.A) (hk : k + 2 ≤ j) : CallR X (.type "str") (rStrP Pc sp E) := by
  intro pins s σ H xs us Q I r h
  obtain ⟨a, C, dx, fs, rfl, pc, ha, q⟩ := h
  obtain ⟨u, rfl, ru⟩ := r.one
  cases (show u = Value.ref a from ru)
  obtain ⟨_, _, J⟩ := ins_at I ha
  have hr2 : Room k X.A.in1.in1 := (show Room (k + 1) X.A.in1 from Room.in1 (hr.mono hk)).in1
  obtain ⟨g, hm, w⟩ := run_metA (us := [.ref a]) (vs := [.ref a]) (M.all C pc) hx hr2 I.env0.in1.in1 I (.cons rfl .nil) q
  refine PySem.W.kso_call hr2.units0 I.kIn J hm.at_ hm.fn (wpAny_mono w (fun v s' z => ?_) fun _ _ x => x)
  obtain ⟨z', H', I', rz, y, rfl, qz⟩ := z
  obtain ⟨t, rfl⟩ := rz
  exact ⟨.str y, H', I', ⟨t, rfl⟩, qz⟩
/-- what str tells of a text or a number -/
def strV : V → Str
  | .str z => z
  | .int i => toString i
  | _ => Str.empty
def strOk : V → Prop
  | .str _ => True
  | .int i => i.natAbs.log2 < 1920
  | _ => False
theorem call_str_mix : CallR X (.type "str") (fun xs H Q => ∃ v, xs = [v] ∧ strOk v ∧ Q (.str (strV v)) H) := by
  intro pins s σ H xs us Q I r h
  obtain ⟨v, rfl, ok, q⟩ := h
  cases v with
  | str z => exact SkE.call_str_str pins s σ H _ us Q I r ⟨z, rfl, q⟩
  | int i => exact call_str_int pins s σ H _ us Q I r ⟨i, rfl, ok, q⟩
  | _ => exact ok.elim
end
/-- [v for x in a tuple] -/
theorem lc_tupV {j : Nat} {K : PySem.W.Frag} {σ : L2.St} {H : Hp} {Q : VK} {te tv : TE} {p : Addr} {xs : List V} (fn : V → V) (ht : ∀ R : VK, R (.ref p) H → te σ H R) (hp : H p = some (.tup xs)) (lj : j < σ.length) (hz : xs.length ≤ 6000)
    (hs : ∀ (x : V) (H2 : Hp) (Y : VK), x ∈ xs → Y (fn x) H2 → tv ((wipe σ [j]).set j (some x)) H2 Y)
    (q : ∀ D H', Same H H' → H' D = some (.lst (xs.map fn)) → Q (.ref D) H') : tLc (iTup K te) (gName j) tYes tv [j] σ H Q := by
  refine ht _ ?_
  refine ⟨p, rfl, ⟨_, SqT.of hp⟩, fun D hD => lc_it walk_tup (fun n H' => Same H H' ∧ H' D = some (.lst ((xs.take n).map fn))) ⟨same_new hD, upd_same⟩ (fun n H' _ h => SqT.of (h.1 _ _ hp)) ?_ ?_⟩
  · rintro n x H' H'' hn ⟨s', hD'⟩ ⟨rfl, hx⟩
    have snoc : xs.take (n + 1) = xs.take n ++ [x] := by rw [List.take_add_one, hx]; rfl
    refine ⟨by simp [wipe, List.set_set], ?_⟩
    dsimp only [tYes]
    rw [if_pos rfl]
    refine hs x _ _ (List.mem_of_getElem? hx) ⟨_, hD', ?_, fun b o e => ?_, ?_⟩
    · rw [List.length_map]
      exact Nat.lt_of_le_of_lt (Nat.le_trans (List.length_take_le' _ _) hz) (by decide)
    · rw [upd_ne (ne_of_none e hD)]; exact s' _ _ e
    · rw [upd_same, snoc, List.map_append]; rfl
  · rintro H' ⟨s', hD'⟩
    exact q D _ s' (by rw [hD', List.take_of_length_le (Nat.le_refl _)])
def spTx (n : Nat) : Sp := fun vs H Q _ => ∃ a t, vs = [.ref a] ∧ PlAt H t a ∧ t.Ok ∧ t.cnt ≤ n ∧ ∀ H', Same H H' → Q (.str (S t.tx)) H'
section
variable {P : Program} {w : World} {K : PySem.W.Frag} {mg : Str → Option Value} {base : Heap} {FC VC LC GC : Addr}
theorem scTx : FnScope ["_law_plain_here", "_law_part"] ["_law_plain_here"] (C8.fnScope sTx) := C8.fnScope_by (by decide +kernel)
theorem cal_tx1 {n : Nat} {f : Addr} {fd : FuncData} (F : C8.Def K mg "_law_text" sTx f fd) (b : Binds K fd ["_law_plain_here"] []) (T : Txt mg) (W : C8.Cal P w K mg base n "_law_text" (spTx n) []) : C8.Cal P w K mg base (n + 1) "_law_text" (spTx (n + 1)) [] := by
  refine C8.cal0 F b .nil scTx (fun vs H Q E h => ?_) (fun cdv A outer st H vs Q E hr h => ?_)
  · obtain ⟨a, t, rfl, _⟩ := h
    rfl
  · obtain ⟨a, t, rfl, pa, ok, hn, k⟩ := h
    refine ⟨_, (pss_cons (ps_if (pt_cmpR op_in_seq (pe_ix ix_tup (pv 0) pe_int (fun _ _ => rfl)) (pe_tup (pa_cons pe_str (pa_cons pe_str pa_nil))) (by rfl)) (pss_one (ps_ret (pe_join pe_str (pe_lc (own := [("_law_part", 1)]) (g := gName 1) (tt := tYes) rfl scTx.nd (pi_tup (pv 0)) (blkOk_by (own := [("_law_part", 1)]) (N := ["_law_plain_here", "_law_part"]) (sc := (C8.fnScope sTx)) (by decide +kernel)) (fun _ _ _ _ _ => pg_name (i := 1) scTx.nd rfl (Or.inl rfl)) (fun _ _ _ _ _ => pts_nil) (fun _ _ _ _ _ => (pe_callTy call_str_mix (by rfl) T.n_str (by decide +kernel) (pa_cons (pv 1) pa_nil))))))) pss_nil)
  (pss_one (ps_ret (pe_op op_add_str (pe_op op_add_str (pe_op op_add_str (pe_op op_add_str (pe_op op_add_str (pe_op op_add_str pe_str (C8.pe_c W hr (Nat.le_refl _) (by rfl) (pa_cons (pe_ix ix_tup (pv 0) pe_int (fun _ _ => rfl)) pa_nil))) pe_str) (pe_ix ix_tup (pv 0) pe_int (fun _ _ => rfl))) pe_str) (C8.pe_c W hr (Nat.le_refl _) (by rfl) (pa_cons (pe_ix ix_tup (pv 0) pe_int (fun _ _ => rfl)) pa_nil))) pe_str)))), ?_⟩
    dsimp only [tSeq]
    have g : ∀ {i : Int}, i.natAbs ≤ 1000 → i.natAbs.log2 < 1920 := fun h => log33 (Nat.le_trans h (by decide))
    cases t with
    | fx m =>
      have pa0 : H a = some (.tup [.str (Str.ofString "fixed"), .int m]) := pa
      obtain ⟨m1, m2⟩ := id ok
      have lm := intL_short (i := m) (by omega)
      refine ⟨_, rfl, a, _, 0, _, rfl, rfl, SqT.of pa, rfl, (by show 2 ≤ sizeLine; decide), fun q hq => ⟨q, _, rfl, .inr (SqT.of upd_same), rfl, rfl, _, rfl, iteT' (by decide +kernel) ?_⟩⟩
      have sq := same_new (o := HO.tup [V.str (Str.ofString "fixed"), .str (Str.ofString "divided")]) hq
      dsimp only [tRet, tM1, tC, List.map]
      refine ⟨⟨_, rfl⟩, ?_⟩
      refine lc_tupV (j := 1) (fun v => .str (strV v)) (fun R h => ⟨_, rfl, h⟩) (sq _ _ pa0) (by show 1 < 2; decide) (by show 2 ≤ 6000; decide) (fun x H2 Y hx y => ?_) (fun D H' s' hD => ?_)
      · rcases List.mem_cons.mp hx with rfl | hx
        · exact ⟨_, rfl, _, rfl, trivial, y⟩
        · obtain rfl := List.mem_singleton.mp hx
          exact ⟨_, rfl, _, rfl, log33 (by omega), y⟩
      · have hD2 : H' D = some (.lst (([[102, 105, 120, 101, 100], intL m].map S).map V.str)) := by
          rw [hD]
          show some (HO.lst [V.str (Str.ofString "fixed"), V.str (toString m)]) = _
          simp only [str_int]
          rfl
        refine ⟨_, D, [[102, 105, 120, 101, 100], intL m].map S, rfl, rfl, .inl (SqL.of hD2), ?_, ?_⟩
        · simp only [List.map_cons, List.map_nil, List.sum_cons, List.sum_nil, S_len, List.length_cons, List.length_nil]
          rw [show (Str.ofString " ").length = 1 from rfl]
          omega
        · rw [show (Str.ofString " ") = S [32] from rfl, join_S]
          exact k _ (sq.trans s')
    | dv x y w0 =>
      have pa0 : H a = some (.tup [.str (Str.ofString "divided"), .int x, .int y, .int w0]) := pa
      obtain ⟨x0, x1, y0, y1, w1, w2⟩ := id ok
      have lx := intL_short (i := x) (Nat.le_trans (by omega : x.natAbs ≤ 1000) (by decide))
      have ly := intL_short (i := y) (Nat.le_trans (by omega : y.natAbs ≤ 1000) (by decide))
      have lw := intL_short (i := w0) (Nat.le_trans (by omega : w0.natAbs ≤ 1000) (by decide))
      refine ⟨_, rfl, a, _, 0, _, rfl, rfl, SqT.of pa, rfl, (by show 2 ≤ sizeLine; decide), fun q hq => ⟨q, _, rfl, .inr (SqT.of upd_same), rfl, rfl, _, rfl, iteT' (by decide +kernel) ?_⟩⟩
      have sq := same_new (o := HO.tup [V.str (Str.ofString "fixed"), .str (Str.ofString "divided")]) hq
      dsimp only [tRet, tM1, tC, List.map]
      refine ⟨⟨_, rfl⟩, ?_⟩
      refine lc_tupV (j := 1) (fun v => .str (strV v)) (fun R h => ⟨_, rfl, h⟩) (sq _ _ pa0) (by show 1 < 2; decide) (by show 4 ≤ 6000; decide) (fun v H2 Y hx z => ?_) (fun D H' s' hD => ?_)
      · rcases List.mem_cons.mp hx with rfl | hx
        · exact ⟨_, rfl, _, rfl, trivial, z⟩
        rcases List.mem_cons.mp hx with rfl | hx
        · exact ⟨_, rfl, _, rfl, g (by omega), z⟩
        rcases List.mem_cons.mp hx with rfl | hx
        · exact ⟨_, rfl, _, rfl, g (by omega), z⟩
        · obtain rfl := List.mem_singleton.mp hx
          exact ⟨_, rfl, _, rfl, g (by omega), z⟩
      · have hD2 : H' D = some (.lst (([[100, 105, 118, 105, 100, 101, 100], intL x, intL y, intL w0].map S).map V.str)) := by
          rw [hD]
          show some (HO.lst [V.str (Str.ofString "divided"), V.str (toString x), V.str (toString y), V.str (toString w0)]) = _
          simp only [str_int]
          rfl
        refine ⟨_, D, [[100, 105, 118, 105, 100, 101, 100], intL x, intL y, intL w0].map S, rfl, rfl, .inl (SqL.of hD2), ?_, ?_⟩
        · simp only [List.map_cons, List.map_nil, List.sum_cons, List.sum_nil, S_len, List.length_cons, List.length_nil]
          rw [show (Str.ofString " ").length = 1 from rfl]
          omega
        · rw [show (Str.ofString " ") = S [32] from rfl, join_S]
          exact k _ (sq.trans s')
    | lo s1 s2 =>
      obtain ⟨b, c, h1, h2, h3⟩ := pa
      obtain ⟨o1, o2, n6, _⟩ := id ok
      have n1 : s1.cnt + s2.cnt ≤ n + 1 := hn
      have p1 := Rl.cnt_pos s1
      have p2 := Rl.cnt_pos s2
      have t1 := Rl.tx_len o1
      have t2 := Rl.tx_len o2
      have big : ∀ a b : List Nat, a.length + b.length ≤ 2000 → (S a).length + (S b).length ≤ sizeLine := fun a b h => by rw [S_len, S_len]; exact Nat.le_trans h (by decide)
      refine ⟨_, rfl, a, _, 0, _, rfl, rfl, SqT.of h1, rfl, (by show 2 ≤ sizeLine; decide), fun q hq => ⟨q, _, rfl, .inr (SqT.of upd_same), rfl, rfl, _, rfl, iteF' (by decide +kernel) ?_⟩⟩
      dsimp only [tNext]
      have sq := same_new (o := HO.tup [V.str (Str.ofString "fixed"), .str (Str.ofString "divided")]) hq
      have g1 := sq _ _ h1
      refine ⟨_, rfl, a, _, 1, _, rfl, rfl, SqT.of g1, rfl, b, s1, rfl, h2.on (tt_same sq), o1, by omega, fun H2 sm2 => ?_⟩
      rw [ofS [40, 32] "( " rfl]
      refine ⟨_, _, rfl, rfl, big _ _ (by simp only [List.length_cons, List.length_nil]; omega), ?_⟩
      rw [S_cat, ofS [32] " " rfl]
      refine ⟨_, _, rfl, rfl, big _ _ (by simp only [List.length_append, List.length_cons, List.length_nil]; omega), ?_⟩
      rw [S_cat]
      refine ⟨_, rfl, a, _, 0, _, rfl, rfl, SqT.of (sm2 _ _ g1), rfl, ?_⟩
      rw [ofS [38] "&" rfl]
      refine ⟨_, _, rfl, rfl, big _ _ (by simp only [List.length_append, List.length_cons, List.length_nil]; omega), ?_⟩
      rw [S_cat]
      refine ⟨_, _, rfl, rfl, big _ _ (by simp only [List.length_append, List.length_cons, List.length_nil]; omega), ?_⟩
      rw [S_cat]
      refine ⟨_, rfl, a, _, 2, _, rfl, rfl, SqT.of (sm2 _ _ g1), rfl, c, s2, rfl, h3.on (tt_same (sq.trans sm2)), o2, by omega, fun H3 sm3 => ?_⟩
      refine ⟨_, _, rfl, rfl, big _ _ (by simp only [List.length_append, List.length_cons, List.length_nil]; omega), ?_⟩
      rw [S_cat, ofS [32, 41] " )" rfl]
      refine ⟨_, _, rfl, rfl, big _ _ (by simp only [List.length_append, List.length_cons, List.length_nil]; omega), ?_⟩
      rw [S_cat]
      have e : ((((((([40, 32] ++ s1.tx) ++ [32]) ++ [38]) ++ [32]) ++ s2.tx)) ++ [32, 41]) = (Rl.lo s1 s2).tx := by
        show _ = joinL [32] ([40] :: (s1.ws ++ ([38] :: (s2.ws ++ [[41]]))))
        rw [join_two]
        simp
      rw [e]
      exact k _ ((sq.trans sm2).trans sm3)
    | hi s1 s2 =>
      obtain ⟨b, c, h1, h2, h3⟩ := pa
      obtain ⟨o1, o2, n6, _⟩ := id ok
      have n1 : s1.cnt + s2.cnt ≤ n + 1 := hn
      have p1 := Rl.cnt_pos s1
      have p2 := Rl.cnt_pos s2
      have t1 := Rl.tx_len o1
      have t2 := Rl.tx_len o2
      have big : ∀ a b : List Nat, a.length + b.length ≤ 2000 → (S a).length + (S b).length ≤ sizeLine := fun a b h => by rw [S_len, S_len]; exact Nat.le_trans h (by decide)
      refine ⟨_, rfl, a, _, 0, _, rfl, rfl, SqT.of h1, rfl, (by show 2 ≤ sizeLine; decide), fun q hq => ⟨q, _, rfl, .inr (SqT.of upd_same), rfl, rfl, _, rfl, iteF' (by decide +kernel) ?_⟩⟩
      dsimp only [tNext]
      have sq := same_new (o := HO.tup [V.str (Str.ofString "fixed"), .str (Str.ofString "divided")]) hq
      have g1 := sq _ _ h1
      refine ⟨_, rfl, a, _, 1, _, rfl, rfl, SqT.of g1, rfl, b, s1, rfl, h2.on (tt_same sq), o1, by omega, fun H2 sm2 => ?_⟩
      rw [ofS [40, 32] "( " rfl]
      refine ⟨_, _, rfl, rfl, big _ _ (by simp only [List.length_cons, List.length_nil]; omega), ?_⟩
      rw [S_cat, ofS [32] " " rfl]
      refine ⟨_, _, rfl, rfl, big _ _ (by simp only [List.length_append, List.length_cons, List.length_nil]; omega), ?_⟩
      rw [S_cat]
      refine ⟨_, rfl, a, _, 0, _, rfl, rfl, SqT.of (sm2 _ _ g1), rfl, ?_⟩
      rw [ofS [124] "|" rfl]
      refine ⟨_, _, rfl, rfl, big _ _ (by simp only [List.length_append, List.length_cons, List.length_nil]; omega), ?_⟩
      rw [S_cat]
      refine ⟨_, _, rfl, rfl, big _ _ (by simp only [List.length_append, List.length_cons, List.length_nil]; omega), ?_⟩
      rw [S_cat]
      refine ⟨_, rfl, a, _, 2, _, rfl, rfl, SqT.of (sm2 _ _ g1), rfl, c, s2, rfl, h3.on (tt_same (sq.trans sm2)), o2, by omega, fun H3 sm3 => ?_⟩
      refine ⟨_, _, rfl, rfl, big _ _ (by simp only [List.length_append, List.length_cons, List.length_nil]; omega), ?_⟩
      rw [S_cat, ofS [32, 41] " )" rfl]
      refine ⟨_, _, rfl, rfl, big _ _ (by simp only [List.length_append, List.length_cons, List.length_nil]; omega), ?_⟩
      rw [S_cat]
      have e : ((((((([40, 32] ++ s1.tx) ++ [32]) ++ [124]) ++ [32]) ++ s2.tx)) ++ [32, 41]) = (Rl.hi s1 s2).tx := by
        show _ = joinL [32] ([40] :: (s1.ws ++ ([124] :: (s2.ws ++ [[41]]))))
        rw [join_two]
        simp
      rw [e]
      exact k _ ((sq.trans sm2).trans sm3)
theorem cal_tx {f : Addr} {fd : FuncData} (F : C8.Def K mg "_law_text" sTx f fd) (b : Binds K fd ["_law_plain_here"] []) (T : Txt mg) : ∀ n, C8.Cal P w K mg base n "_law_text" (spTx n) []
  | 0 => ⟨f, fd, _, [], ⟨fun vs H Q E ⟨_, t, _, _, _, h, _⟩ => absurd h (by have := Rl.cnt_pos t; omega), fun _ _ _ _ _ _ _ _ _ _ _ _ _ ⟨_, t, _, _, _, h, _⟩ => absurd h (by have := Rl.cnt_pos t; omega)⟩, F.mgf, F.kp, b, .nil⟩
  | n + 1 => cal_tx1 F b T (cal_tx F b T n)
end
end Lw
namespace Lw
open PySem PySem.Spec PyProof.Rows L2
open SX PySem.NumText TL LamX ClX StX
set_option pp.maxSteps 900
/-! ### _law_other: a rule near another one -/
def spOt (n : Nat) : Sp := fun vs H Q _ => ∃ (p pl : Addr) (k : Nat) (a : Addr) (t : Rl), vs = [.ref p, .ref a] ∧ Pen H p pl k ∧ k + n ≤ 900000 ∧ PlAt H t a ∧ t.Lf ∧ t.cnt ≤ n ∧ ∀ t' a' H', t'.Lf → t'.cnt = t.cnt → PlAt H' t' a' → Pen H' p pl (k + n) → Kp p H H' → Q (.ref a') H'
theorem cons_hd {te : TE} {ta : TA} {σ : L2.St} {H : Hp} {Q : List V → Hp → Prop} (h : te σ H fun x H1 => ta σ H1 fun xs H2 => Q (x :: xs) H2) : tCons te ta σ H Q := h
theorem and_int {ta tb : TE} {σ : L2.St} {H : Hp} {Q : VK} (c d : Bool) (ha : ∀ R : VK, R (.bl c) H → ta σ H R) (hb : ∀ R : VK, R (.bl d) H → tb σ H R) (q : ∀ i : Int, (i = 0 ∨ (i = 1 ∧ d = true)) → Q (.int i) H) :
    tCB (fun xs H Q => (∃ i, xs = [.int i] ∧ Q (.int i) H) ∨ ∃ k, xs = [.bl k] ∧ Q (.int (if k then 1 else 0)) H) (tCons (tAndV ta tb) tNil) σ H Q := by
  refine ha _ ⟨c, rfl, ?_⟩
  cases c with
  | false => exact iteF' rfl (.inr ⟨false, rfl, q 0 (.inl rfl)⟩)
  | true =>
    refine iteT' rfl (hb _ (.inr ⟨d, rfl, ?_⟩))
    cases d with
    | false => exact q 0 (.inl rfl)
    | true => exact q 1 (.inr ⟨rfl, rfl⟩)
section
variable {P : Program} {w : World} {K : PySem.W.Frag} {mg : Str → Option Value} {base : Heap} {FC VC LC GC : Addr}
theorem scOt : FnScope ["_law_pen_here", "_law_plain_here", "_law_way", "_law_more"] ["_law_pen_here", "_law_plain_here"] (C8.fnScope sOt) := C8.fnScope_by (by decide +kernel)
theorem cal_ot1 {n : Nat} {f : Addr} {fd : FuncData} (F : C8.Def K mg "_law_other" sOt f fd) (b : Binds K fd ["_law_pen_here", "_law_plain_here"] []) (T : Txt mg) (D0 : C8.Cal P w K mg base 1 "_law_draw" spDraw []) (W : C8.Cal P w K mg base (1 + n) "_law_other" (spOt n) []) : C8.Cal P w K mg base (2 + n) "_law_other" (spOt (n + 1)) [] := by
  rw [show 2 + n = (1 + n) + 1 by omega]
  refine C8.cal0 F b .nil scOt (fun vs H Q E h => ?_) (fun cdv A outer st H0 vs Q E hr h => ?_)
  · obtain ⟨p, pl, k0, a, t, rfl, _⟩ := h
    rfl
  · obtain ⟨p, pl, k0, a, t, rfl, hp, hk, pa0, lf, hn, k⟩ := h
    refine ⟨_, (pss_cons (ps_set (i := 2) scOt.nd rfl (Or.inl rfl) (C8.pe_c D0 hr (by omega) (by rfl) (pa_cons (pv 0) (pa_cons pe_int pa_nil))))
  (pss_cons (ps_if (pt_cmpR op_eq (pe_ix ix_tup (pv 1) pe_int (fun _ _ => rfl)) pe_str (nomark _)) (pss_one (ps_ret (pe_tup (pa_cons pe_str (pa_cons (pe_op op_add (pe_ix ix_tup (pv 1) pe_int (fun _ _ => rfl)) (pe_callTy call_int1 (by rfl) T.n_int (by decide +kernel) (pa_cons (pe_and (pe_cmpR op_gt (pv 2) pe_int (nomark _)) (pe_one (pe_cmpR op_lt (pe_ix ix_tup (pv 1) pe_int (fun _ _ => rfl)) pe_int (nomark _)))) pa_nil))) pa_nil))))) pss_nil)
  (pss_cons (ps_if (pt_cmpR op_eq (pe_ix ix_tup (pv 1) pe_int (fun _ _ => rfl)) pe_str (nomark _)) (pss_cons (ps_set (i := 3) scOt.nd rfl (Or.inl rfl) (pe_lst (pa_cons (pe_callTy call_int1 (by rfl) T.n_int (by decide +kernel) (pa_cons (pe_and (pe_cmpR op_eq (pv 2) pe_int (nomark _)) (pe_one (pe_cmpR op_lt (pe_ix ix_tup (pv 1) pe_int (fun _ _ => rfl)) pe_int (nomark _)))) pa_nil)) (pa_cons (pe_callTy call_int1 (by rfl) T.n_int (by decide +kernel) (pa_cons (pe_and (pe_cmpR op_eq (pv 2) pe_int (nomark _)) (pe_one (pe_cmpR op_lt (pe_ix ix_tup (pv 1) pe_int (fun _ _ => rfl)) pe_int (nomark _)))) pa_nil)) (pa_cons (pe_callTy call_int1 (by rfl) T.n_int (by decide +kernel) (pa_cons (pe_and (pe_cmpR op_eq (pv 2) pe_int (nomark _)) (pe_one (pe_cmpR op_lt (pe_ix ix_tup (pv 1) pe_int (fun _ _ => rfl)) pe_int (nomark _)))) pa_nil)) pa_nil)))))
  (pss_one (ps_ret (pe_tup (pa_cons pe_str (pa_cons (pe_op op_add (pe_ix ix_tup (pv 1) pe_int (fun _ _ => rfl)) (pe_ix ix_list (pv 3) pe_int (fun _ _ => rfl))) (pa_cons (pe_op op_add (pe_ix ix_tup (pv 1) pe_int (fun _ _ => rfl)) (pe_ix ix_list (pv 3) pe_int (fun _ _ => rfl))) (pa_cons (pe_op op_add (pe_ix ix_tup (pv 1) pe_int (fun _ _ => rfl)) (pe_ix ix_list (pv 3) pe_int (fun _ _ => rfl))) pa_nil)))))))) pss_nil)
  (pss_cons (ps_if (pt_cmpR op_eq (pv 2) pe_int (nomark _)) (pss_one (ps_ret (pe_tup (pa_cons (pe_ifExp (pt_cmpR op_eq (pe_ix ix_tup (pv 1) pe_int (fun _ _ => rfl)) pe_str (nomark _)) pe_str pe_str) (pa_cons (pe_ix ix_tup (pv 1) pe_int (fun _ _ => rfl)) (pa_cons (pe_ix ix_tup (pv 1) pe_int (fun _ _ => rfl)) pa_nil)))))) pss_nil)
  (pss_cons (ps_if (pt_cmpR op_eq (pv 2) pe_int (nomark _)) (pss_one (ps_ret (pe_tup (pa_cons (pe_ix ix_tup (pv 1) pe_int (fun _ _ => rfl)) (pa_cons (pe_ix ix_tup (pv 1) pe_int (fun _ _ => rfl)) (pa_cons (pe_ix ix_tup (pv 1) pe_int (fun _ _ => rfl)) pa_nil)))))) pss_nil)
  (pss_cons (ps_if (PW.pt (pw_and (pt_cmpR op_eq (pv 2) pe_int (nomark _)) (pw_and1 (pt_cmpR op_in_seq (pe_ix ix_tup (pe_ix ix_tup (pv 1) pe_int (fun _ _ => rfl)) pe_int (fun _ _ => rfl)) (pe_tup (pa_cons pe_str (pa_cons pe_str pa_nil))) (by rfl))))) (pss_one (ps_ret (pe_tup (pa_cons (pe_ix ix_tup (pe_ix ix_tup (pv 1) pe_int (fun _ _ => rfl)) pe_int (fun _ _ => rfl)) (pa_cons (pe_ix ix_tup (pe_ix ix_tup (pv 1) pe_int (fun _ _ => rfl)) pe_int (fun _ _ => rfl)) (pa_cons (pe_tup (pa_cons (pe_ix ix_tup (pv 1) pe_int (fun _ _ => rfl)) (pa_cons (pe_ix ix_tup (pe_ix ix_tup (pv 1) pe_int (fun _ _ => rfl)) pe_int (fun _ _ => rfl)) (pa_cons (pe_ix ix_tup (pv 1) pe_int (fun _ _ => rfl)) pa_nil)))) pa_nil)))))) pss_nil)
  (pss_one (ps_ret (pe_tup (pa_cons (pe_ix ix_tup (pv 1) pe_int (fun _ _ => rfl)) (pa_cons (C8.pe_c W hr (Nat.le_refl _) (by rfl) (pa_cons (pv 0) (pa_cons (pe_ix ix_tup (pv 1) pe_int (fun _ _ => rfl)) pa_nil))) (pa_cons (pe_ix ix_tup (pv 1) pe_int (fun _ _ => rfl)) pa_nil)))))))))))), ?_⟩
    refine ⟨_, rfl, p, pl, _, 5, rfl, by decide, by decide, hp, by omega, fun r H r0 r1 hp1 kp1 => ?_⟩
    dsimp only [gName, tSeq]
    have pa := pa0.on (tt_kp hp kp1)
    have di : ∀ i j : Int, decide (V.int i = V.int j) = decide (i = j) := fun i j => decide_eq_decide.mpr ⟨fun e => V.int.inj e, fun e => by rw [e]⟩
    cases t with
    | fx m =>
      obtain ⟨m1, m2⟩ := lf
      refine ⟨_, rfl, a, _, 0, _, rfl, rfl, SqT.of pa, rfl, rfl, _, rfl, iteT' (decide_eq_true rfl) ?_⟩
      refine ⟨_, rfl, a, _, 1, _, rfl, rfl, SqT.of pa, rfl, and_int _ _ (fun R y => ⟨_, rfl, _, _, rfl, rfl, y⟩) (fun R y => ⟨_, rfl, a, _, 1, _, rfl, rfl, SqT.of pa, rfl, _, _, rfl, rfl, y⟩) (fun i hi => ?_)⟩
      refine ⟨_, _, rfl, rfl, (by show 2 ≤ sizeLine; decide), fun u hu => ?_⟩
      have sm := same_new (o := HO.tup [V.str (Str.ofString "fixed"), V.int (m + i)]) hu
      refine k (.fx (m + i)) u _ ⟨?_, ?_⟩ rfl upd_same ((hp1.keep sm).more (by omega)) (kp_trans kp1 (kp_same sm))
      · rcases hi with rfl | ⟨rfl, _⟩ <;> omega
      · rcases hi with rfl | ⟨rfl, hd⟩
        · omega
        · have := of_decide_eq_true hd
          exact Int.le_trans (by omega : m + 1 ≤ 99) (by decide)
    | dv x y q =>
      obtain ⟨x0, x1, y0, y1, q0, q1⟩ := lf
      refine ⟨_, rfl, a, _, 0, _, rfl, rfl, SqT.of pa, rfl, rfl, _, rfl, iteF' st_df ?_⟩
      dsimp only [tNext]
      refine ⟨_, rfl, a, _, 0, _, rfl, rfl, SqT.of pa, rfl, rfl, _, rfl, iteT' (decide_eq_true rfl) ?_⟩
      dsimp only [tSeq, tAsg, tLst]
      refine cons_hd ?_
      refine and_int _ _ (fun R y => ⟨_, rfl, rfl, y⟩) (fun R y => ⟨_, rfl, a, _, 1, _, rfl, rfl, SqT.of pa, rfl, _, _, rfl, rfl, y⟩) (fun i hi => ?_)
      refine cons_hd ?_
      refine and_int _ _ (fun R y => ⟨_, rfl, rfl, y⟩) (fun R y => ⟨_, rfl, a, _, 2, _, rfl, rfl, SqT.of pa, rfl, _, _, rfl, rfl, y⟩) (fun j hj => ?_)
      refine cons_hd ?_
      refine and_int _ _ (fun R y => ⟨_, rfl, rfl, y⟩) (fun R y => ⟨_, rfl, a, _, 3, _, rfl, rfl, SqT.of pa, rfl, _, _, rfl, rfl, y⟩) (fun l hl => ?_)
      refine ⟨(by show 3 ≤ sizeLine; decide), fun ql hq => ?_⟩
      have sq := same_new (o := HO.lst [V.int i, V.int j, V.int l]) hq
      have pa2 := sq _ _ pa
      have hql : upd H ql (.lst [V.int i, V.int j, V.int l]) ql = some (.lst [V.int i, V.int j, V.int l]) := upd_same
      have hp2 := hp1.keep sq
      generalize upd H ql (.lst [V.int i, V.int j, V.int l]) = H2 at sq pa2 hql hp2 ⊢
      dsimp only [gName, tSeq]
      refine ⟨_, rfl, a, _, 1, _, rfl, rfl, SqT.of pa2, rfl, _, rfl, ql, _, 0, _, rfl, rfl, SqL.of hql, rfl, _, _, rfl, rfl, ?_⟩
      refine ⟨_, rfl, a, _, 2, _, rfl, rfl, SqT.of pa2, rfl, _, rfl, ql, _, 1, _, rfl, rfl, SqL.of hql, rfl, _, _, rfl, rfl, ?_⟩
      refine ⟨_, rfl, a, _, 3, _, rfl, rfl, SqT.of pa2, rfl, _, rfl, ql, _, 2, _, rfl, rfl, SqL.of hql, rfl, _, _, rfl, rfl, ?_⟩
      refine ⟨(by show 4 ≤ sizeLine; decide), fun u hu => ?_⟩
      have sm := same_new (o := HO.tup [V.str (Str.ofString "divided"), V.int (x + i), V.int (y + j), V.int (q + l)]) hu
      have b1 : ∀ {v e h : Int}, (e = 0 ∨ (e = 1 ∧ decide (v < h) = true)) → v ≤ h → v ≤ v + e ∧ v + e ≤ h := fun {v e h} z hv => by
        rcases z with rfl | ⟨rfl, z⟩
        · omega
        · have := of_decide_eq_true z
          omega
      have ex := b1 hi x1
      have ey := b1 hj y1
      have eq := b1 hl q1
      exact k (.dv (x + i) (y + j) (q + l)) u _ ⟨by omega, by omega, by omega, by omega, by omega, by omega⟩ rfl upd_same ((hp2.keep sm).more (by omega)) (kp_trans kp1 (kp_trans (kp_same sq) (kp_same sm)))
    | lo s1 s2 =>
      obtain ⟨b, c, h1, h2, h3⟩ := pa
      obtain ⟨lf1, lf2⟩ := lf
      have n1 : s1.cnt + s2.cnt ≤ n + 1 := hn
      have p1 := Rl.cnt_pos s1
      have p2 := Rl.cnt_pos s2
      refine ⟨_, rfl, a, _, 0, _, rfl, rfl, SqT.of h1, rfl, rfl, _, rfl, iteF' st_af ?_⟩
      dsimp only [tNext]
      refine ⟨_, rfl, a, _, 0, _, rfl, rfl, SqT.of h1, rfl, rfl, _, rfl, iteF' st_ad ?_⟩
      dsimp only [tNext]
      refine ⟨_, rfl, rfl, _, rfl, ite2 (fun e0 => ?_) (fun n0 => ?_)⟩
      · refine ⟨_, rfl, a, _, 0, _, rfl, rfl, SqT.of h1, rfl, rfl, _, rfl, iteF' (by decide +kernel) ?_⟩
        refine ⟨_, rfl, a, _, 1, _, rfl, rfl, SqT.of h1, rfl, _, rfl, a, _, 2, _, rfl, rfl, SqT.of h1, rfl, (by show 3 ≤ sizeLine; decide), fun u hu => ?_⟩
        have sm := same_new (o := HO.tup [V.str (Str.ofString "|"), V.ref b, V.ref c]) hu
        exact k (.hi s1 s2) u _ ⟨lf1, lf2⟩ rfl ⟨b, c, upd_same, h2.on (tt_same sm), h3.on (tt_same sm)⟩ ((hp1.keep sm).more (by omega)) (kp_trans kp1 (kp_same sm))
      dsimp only [tNext]
      refine ⟨_, rfl, rfl, _, rfl, ite2 (fun e1 => ?_) (fun n1' => ?_)⟩
      · refine ⟨_, rfl, a, _, 0, _, rfl, rfl, SqT.of h1, rfl, ?_⟩
        refine ⟨_, rfl, a, _, 2, _, rfl, rfl, SqT.of h1, rfl, _, rfl, a, _, 1, _, rfl, rfl, SqT.of h1, rfl, (by show 3 ≤ sizeLine; decide), fun u hu => ?_⟩
        have sm := same_new (o := HO.tup [V.str (Str.ofString "&"), V.ref c, V.ref b]) hu
        exact k (.lo s2 s1) u _ ⟨lf2, lf1⟩ (by show s2.cnt + s1.cnt = s1.cnt + s2.cnt; omega) ⟨c, b, upd_same, h3.on (tt_same sm), h2.on (tt_same sm)⟩ ((hp1.keep sm).more (by omega)) (kp_trans kp1 (kp_same sm))
      dsimp only [tNext]
      have last : ∀ H2, Same H H2 → tRet (tTup (tCons (tOp (rIxT K) (tVar 1) (tC (.int 0))) (tCons (tCall (spOt n) [] C8.E0 (tCons (tVar 0) (tCons (tOp (rIxT K) (tVar 1) (tC (.int 1))) tNil))) (tCons (tOp (rIxT K) (tVar 1) (tC (.int 2))) tNil)))) { nx := fun x H' => Q V.non H', rt := Q } [some (.ref p), some (.ref a), some (.int r), none] H2 := fun H2 s2' => by
        have h1' := s2' _ _ h1
        refine ⟨_, rfl, a, _, 0, _, rfl, rfl, SqT.of h1', rfl, ?_⟩
        refine ⟨_, rfl, _, rfl, a, _, 1, _, rfl, rfl, SqT.of h1', rfl, p, pl, k0 + 1, b, s1, rfl, (hp1.keep s2').more (by omega), by omega, h2.on (tt_same s2'), lf1, by omega, fun t' a' H3 lf' ct' pa' hp3 kp3 => ?_⟩
        have tt3 := tt_kp (hp1.keep s2') kp3
        refine ⟨_, rfl, a, _, 2, _, rfl, rfl, SqT.of (tt3 _ _ h1'), rfl, (by show 3 ≤ sizeLine; decide), fun u hu => ?_⟩
        have sm := same_new (o := HO.tup [V.str (Str.ofString "&"), V.ref a', V.ref c]) hu
        exact k (.lo t' s2) u _ ⟨lf', lf2⟩ (by show t'.cnt + s2.cnt = s1.cnt + s2.cnt; omega) ⟨a', c, upd_same, pa'.on (tt_same sm), ((h3.on (tt_same s2')).on tt3).on (tt_same sm)⟩ ((hp3.keep sm).more (by omega)) (kp_trans kp1 (kp_trans (kp_same s2') (kp_trans kp3 (kp_same sm))))
      refine ⟨_, rfl, rfl, _, rfl, ite2 (fun e2 => ?_) (fun n2 => iteF' rfl (last _ (Same.refl _)))⟩
      cases s1 with
      | fx m =>
        refine ⟨_, rfl, a, _, 1, _, rfl, rfl, SqT.of h1, rfl, b, _, 0, _, rfl, rfl, SqT.of h2, rfl, (by show 2 ≤ sizeLine; decide), fun qt hqt => ⟨qt, _, rfl, .inr (SqT.of upd_same), rfl, rfl, _, rfl, iteF' (by decide +kernel) ?_⟩⟩
        have sq := same_new (o := HO.tup [V.str (Str.ofString "&"), .str (Str.ofString "|")]) hqt
        exact last _ sq
      | dv x y q =>
        refine ⟨_, rfl, a, _, 1, _, rfl, rfl, SqT.of h1, rfl, b, _, 0, _, rfl, rfl, SqT.of h2, rfl, (by show 2 ≤ sizeLine; decide), fun qt hqt => ⟨qt, _, rfl, .inr (SqT.of upd_same), rfl, rfl, _, rfl, iteF' (by decide +kernel) ?_⟩⟩
        have sq := same_new (o := HO.tup [V.str (Str.ofString "&"), .str (Str.ofString "|")]) hqt
        exact last _ sq
      | lo u1 u2 =>
        obtain ⟨d, e, g1, g2, g3⟩ := h2
        obtain ⟨l1, l2⟩ := lf1
        refine ⟨_, rfl, a, _, 1, _, rfl, rfl, SqT.of h1, rfl, b, _, 0, _, rfl, rfl, SqT.of g1, rfl, (by show 2 ≤ sizeLine; decide), fun qt hqt => ⟨qt, _, rfl, .inr (SqT.of upd_same), rfl, rfl, _, rfl, iteT' (by decide +kernel) ?_⟩⟩
        have sq := same_new (o := HO.tup [V.str (Str.ofString "&"), .str (Str.ofString "|")]) hqt
        have h1' := sq _ _ h1
        have g1' := sq _ _ g1
        have g2' := g2.on (tt_same sq)
        have g3' := g3.on (tt_same sq)
        have h3' := h3.on (tt_same sq)
        have hp2 := hp1.keep sq
        generalize upd H qt (HO.tup [V.str (Str.ofString "&"), .str (Str.ofString "|")]) = H2 at sq h1' g1' g2' g3' h3' hp2 ⊢
        refine ⟨_, rfl, a, _, 1, _, rfl, rfl, SqT.of h1', rfl, b, _, 0, _, rfl, rfl, SqT.of g1', rfl, ?_⟩
        refine ⟨_, rfl, a, _, 1, _, rfl, rfl, SqT.of h1', rfl, b, _, 1, _, rfl, rfl, SqT.of g1', rfl, ?_⟩
        refine ⟨_, rfl, a, _, 0, _, rfl, rfl, SqT.of h1', rfl, ?_⟩
        refine ⟨_, rfl, a, _, 1, _, rfl, rfl, SqT.of h1', rfl, b, _, 2, _, rfl, rfl, SqT.of g1', rfl, ?_⟩
        refine ⟨_, rfl, a, _, 2, _, rfl, rfl, SqT.of h1', rfl, (by show 3 ≤ sizeLine; decide), fun v hv => ?_⟩
        have sv := same_new (o := HO.tup [V.str (Str.ofString "&"), V.ref e, V.ref c]) hv
        refine ⟨(by show 3 ≤ sizeLine; decide), fun z hz => ?_⟩
        have sz := same_new (o := HO.tup [V.str (Str.ofString "&"), V.ref d, V.ref v]) hz
        exact k (.lo u1 (.lo u2 s2)) z _ ⟨l1, l2, lf2⟩ (by show u1.cnt + (u2.cnt + s2.cnt) = (u1.cnt + u2.cnt) + s2.cnt; omega) ⟨d, v, upd_same, g2'.on (tt_same (sv.trans sz)), e, c, sz _ _ upd_same, g3'.on (tt_same (sv.trans sz)), h3'.on (tt_same (sv.trans sz))⟩ (((hp2.keep sv).keep sz).more (by omega)) (kp_trans kp1 (kp_same ((sq.trans sv).trans sz)))
      | hi u1 u2 =>
        obtain ⟨d, e, g1, g2, g3⟩ := h2
        obtain ⟨l1, l2⟩ := lf1
        refine ⟨_, rfl, a, _, 1, _, rfl, rfl, SqT.of h1, rfl, b, _, 0, _, rfl, rfl, SqT.of g1, rfl, (by show 2 ≤ sizeLine; decide), fun qt hqt => ⟨qt, _, rfl, .inr (SqT.of upd_same), rfl, rfl, _, rfl, iteT' (by decide +kernel) ?_⟩⟩
        have sq := same_new (o := HO.tup [V.str (Str.ofString "&"), .str (Str.ofString "|")]) hqt
        have h1' := sq _ _ h1
        have g1' := sq _ _ g1
        have g2' := g2.on (tt_same sq)
        have g3' := g3.on (tt_same sq)
        have h3' := h3.on (tt_same sq)
        have hp2 := hp1.keep sq
        generalize upd H qt (HO.tup [V.str (Str.ofString "&"), .str (Str.ofString "|")]) = H2 at sq h1' g1' g2' g3' h3' hp2 ⊢
        refine ⟨_, rfl, a, _, 1, _, rfl, rfl, SqT.of h1', rfl, b, _, 0, _, rfl, rfl, SqT.of g1', rfl, ?_⟩
        refine ⟨_, rfl, a, _, 1, _, rfl, rfl, SqT.of h1', rfl, b, _, 1, _, rfl, rfl, SqT.of g1', rfl, ?_⟩
        refine ⟨_, rfl, a, _, 0, _, rfl, rfl, SqT.of h1', rfl, ?_⟩
        refine ⟨_, rfl, a, _, 1, _, rfl, rfl, SqT.of h1', rfl, b, _, 2, _, rfl, rfl, SqT.of g1', rfl, ?_⟩
        refine ⟨_, rfl, a, _, 2, _, rfl, rfl, SqT.of h1', rfl, (by show 3 ≤ sizeLine; decide), fun v hv => ?_⟩
        have sv := same_new (o := HO.tup [V.str (Str.ofString "&"), V.ref e, V.ref c]) hv
        refine ⟨(by show 3 ≤ sizeLine; decide), fun z hz => ?_⟩
        have sz := same_new (o := HO.tup [V.str (Str.ofString "|"), V.ref d, V.ref v]) hz
        exact k (.hi u1 (.lo u2 s2)) z _ ⟨l1, l2, lf2⟩ (by show u1.cnt + (u2.cnt + s2.cnt) = (u1.cnt + u2.cnt) + s2.cnt; omega) ⟨d, v, upd_same, g2'.on (tt_same (sv.trans sz)), e, c, sz _ _ upd_same, g3'.on (tt_same (sv.trans sz)), h3'.on (tt_same (sv.trans sz))⟩ (((hp2.keep sv).keep sz).more (by omega)) (kp_trans kp1 (kp_same ((sq.trans sv).trans sz)))
    | hi s1 s2 =>
      obtain ⟨b, c, h1, h2, h3⟩ := pa
      obtain ⟨lf1, lf2⟩ := lf
      have n1 : s1.cnt + s2.cnt ≤ n + 1 := hn
      have p1 := Rl.cnt_pos s1
      have p2 := Rl.cnt_pos s2
      refine ⟨_, rfl, a, _, 0, _, rfl, rfl, SqT.of h1, rfl, rfl, _, rfl, iteF' st_of ?_⟩
      dsimp only [tNext]
      refine ⟨_, rfl, a, _, 0, _, rfl, rfl, SqT.of h1, rfl, rfl, _, rfl, iteF' st_od ?_⟩
      dsimp only [tNext]
      refine ⟨_, rfl, rfl, _, rfl, ite2 (fun e0 => ?_) (fun n0 => ?_)⟩
      · refine ⟨_, rfl, a, _, 0, _, rfl, rfl, SqT.of h1, rfl, rfl, _, rfl, iteT' (decide_eq_true rfl) ?_⟩
        refine ⟨_, rfl, a, _, 1, _, rfl, rfl, SqT.of h1, rfl, _, rfl, a, _, 2, _, rfl, rfl, SqT.of h1, rfl, (by show 3 ≤ sizeLine; decide), fun u hu => ?_⟩
        have sm := same_new (o := HO.tup [V.str (Str.ofString "&"), V.ref b, V.ref c]) hu
        exact k (.lo s1 s2) u _ ⟨lf1, lf2⟩ rfl ⟨b, c, upd_same, h2.on (tt_same sm), h3.on (tt_same sm)⟩ ((hp1.keep sm).more (by omega)) (kp_trans kp1 (kp_same sm))
      dsimp only [tNext]
      refine ⟨_, rfl, rfl, _, rfl, ite2 (fun e1 => ?_) (fun n1' => ?_)⟩
      · refine ⟨_, rfl, a, _, 0, _, rfl, rfl, SqT.of h1, rfl, ?_⟩
        refine ⟨_, rfl, a, _, 2, _, rfl, rfl, SqT.of h1, rfl, _, rfl, a, _, 1, _, rfl, rfl, SqT.of h1, rfl, (by show 3 ≤ sizeLine; decide), fun u hu => ?_⟩
        have sm := same_new (o := HO.tup [V.str (Str.ofString "|"), V.ref c, V.ref b]) hu
        exact k (.hi s2 s1) u _ ⟨lf2, lf1⟩ (by show s2.cnt + s1.cnt = s1.cnt + s2.cnt; omega) ⟨c, b, upd_same, h3.on (tt_same sm), h2.on (tt_same sm)⟩ ((hp1.keep sm).more (by omega)) (kp_trans kp1 (kp_same sm))
      dsimp only [tNext]
      have last : ∀ H2, Same H H2 → tRet (tTup (tCons (tOp (rIxT K) (tVar 1) (tC (.int 0))) (tCons (tCall (spOt n) [] C8.E0 (tCons (tVar 0) (tCons (tOp (rIxT K) (tVar 1) (tC (.int 1))) tNil))) (tCons (tOp (rIxT K) (tVar 1) (tC (.int 2))) tNil)))) { nx := fun x H' => Q V.non H', rt := Q } [some (.ref p), some (.ref a), some (.int r), none] H2 := fun H2 s2' => by
        have h1' := s2' _ _ h1
        refine ⟨_, rfl, a, _, 0, _, rfl, rfl, SqT.of h1', rfl, ?_⟩
        refine ⟨_, rfl, _, rfl, a, _, 1, _, rfl, rfl, SqT.of h1', rfl, p, pl, k0 + 1, b, s1, rfl, (hp1.keep s2').more (by omega), by omega, h2.on (tt_same s2'), lf1, by omega, fun t' a' H3 lf' ct' pa' hp3 kp3 => ?_⟩
        have tt3 := tt_kp (hp1.keep s2') kp3
        refine ⟨_, rfl, a, _, 2, _, rfl, rfl, SqT.of (tt3 _ _ h1'), rfl, (by show 3 ≤ sizeLine; decide), fun u hu => ?_⟩
        have sm := same_new (o := HO.tup [V.str (Str.ofString "|"), V.ref a', V.ref c]) hu
        exact k (.hi t' s2) u _ ⟨lf', lf2⟩ (by show t'.cnt + s2.cnt = s1.cnt + s2.cnt; omega) ⟨a', c, upd_same, pa'.on (tt_same sm), ((h3.on (tt_same s2')).on tt3).on (tt_same sm)⟩ ((hp3.keep sm).more (by omega)) (kp_trans kp1 (kp_trans (kp_same s2') (kp_trans kp3 (kp_same sm))))
      refine ⟨_, rfl, rfl, _, rfl, ite2 (fun e2 => ?_) (fun n2 => iteF' rfl (last _ (Same.refl _)))⟩
      cases s1 with
      | fx m =>
        refine ⟨_, rfl, a, _, 1, _, rfl, rfl, SqT.of h1, rfl, b, _, 0, _, rfl, rfl, SqT.of h2, rfl, (by show 2 ≤ sizeLine; decide), fun qt hqt => ⟨qt, _, rfl, .inr (SqT.of upd_same), rfl, rfl, _, rfl, iteF' (by decide +kernel) ?_⟩⟩
        have sq := same_new (o := HO.tup [V.str (Str.ofString "&"), .str (Str.ofString "|")]) hqt
        exact last _ sq
      | dv x y q =>
        refine ⟨_, rfl, a, _, 1, _, rfl, rfl, SqT.of h1, rfl, b, _, 0, _, rfl, rfl, SqT.of h2, rfl, (by show 2 ≤ sizeLine; decide), fun qt hqt => ⟨qt, _, rfl, .inr (SqT.of upd_same), rfl, rfl, _, rfl, iteF' (by decide +kernel) ?_⟩⟩
        have sq := same_new (o := HO.tup [V.str (Str.ofString "&"), .str (Str.ofString "|")]) hqt
        exact last _ sq
      | lo u1 u2 =>
        obtain ⟨d, e, g1, g2, g3⟩ := h2
        obtain ⟨l1, l2⟩ := lf1
        refine ⟨_, rfl, a, _, 1, _, rfl, rfl, SqT.of h1, rfl, b, _, 0, _, rfl, rfl, SqT.of g1, rfl, (by show 2 ≤ sizeLine; decide), fun qt hqt => ⟨qt, _, rfl, .inr (SqT.of upd_same), rfl, rfl, _, rfl, iteT' (by decide +kernel) ?_⟩⟩
        have sq := same_new (o := HO.tup [V.str (Str.ofString "&"), .str (Str.ofString "|")]) hqt
        have h1' := sq _ _ h1
        have g1' := sq _ _ g1
        have g2' := g2.on (tt_same sq)
        have g3' := g3.on (tt_same sq)
        have h3' := h3.on (tt_same sq)
        have hp2 := hp1.keep sq
        generalize upd H qt (HO.tup [V.str (Str.ofString "&"), .str (Str.ofString "|")]) = H2 at sq h1' g1' g2' g3' h3' hp2 ⊢
        refine ⟨_, rfl, a, _, 1, _, rfl, rfl, SqT.of h1', rfl, b, _, 0, _, rfl, rfl, SqT.of g1', rfl, ?_⟩
        refine ⟨_, rfl, a, _, 1, _, rfl, rfl, SqT.of h1', rfl, b, _, 1, _, rfl, rfl, SqT.of g1', rfl, ?_⟩
        refine ⟨_, rfl, a, _, 0, _, rfl, rfl, SqT.of h1', rfl, ?_⟩
        refine ⟨_, rfl, a, _, 1, _, rfl, rfl, SqT.of h1', rfl, b, _, 2, _, rfl, rfl, SqT.of g1', rfl, ?_⟩
        refine ⟨_, rfl, a, _, 2, _, rfl, rfl, SqT.of h1', rfl, (by show 3 ≤ sizeLine; decide), fun v hv => ?_⟩
        have sv := same_new (o := HO.tup [V.str (Str.ofString "|"), V.ref e, V.ref c]) hv
        refine ⟨(by show 3 ≤ sizeLine; decide), fun z hz => ?_⟩
        have sz := same_new (o := HO.tup [V.str (Str.ofString "&"), V.ref d, V.ref v]) hz
        exact k (.lo u1 (.hi u2 s2)) z _ ⟨l1, l2, lf2⟩ (by show u1.cnt + (u2.cnt + s2.cnt) = (u1.cnt + u2.cnt) + s2.cnt; omega) ⟨d, v, upd_same, g2'.on (tt_same (sv.trans sz)), e, c, sz _ _ upd_same, g3'.on (tt_same (sv.trans sz)), h3'.on (tt_same (sv.trans sz))⟩ (((hp2.keep sv).keep sz).more (by omega)) (kp_trans kp1 (kp_same ((sq.trans sv).trans sz)))
      | hi u1 u2 =>
        obtain ⟨d, e, g1, g2, g3⟩ := h2
        obtain ⟨l1, l2⟩ := lf1
        refine ⟨_, rfl, a, _, 1, _, rfl, rfl, SqT.of h1, rfl, b, _, 0, _, rfl, rfl, SqT.of g1, rfl, (by show 2 ≤ sizeLine; decide), fun qt hqt => ⟨qt, _, rfl, .inr (SqT.of upd_same), rfl, rfl, _, rfl, iteT' (by decide +kernel) ?_⟩⟩
        have sq := same_new (o := HO.tup [V.str (Str.ofString "&"), .str (Str.ofString "|")]) hqt
        have h1' := sq _ _ h1
        have g1' := sq _ _ g1
        have g2' := g2.on (tt_same sq)
        have g3' := g3.on (tt_same sq)
        have h3' := h3.on (tt_same sq)
        have hp2 := hp1.keep sq
        generalize upd H qt (HO.tup [V.str (Str.ofString "&"), .str (Str.ofString "|")]) = H2 at sq h1' g1' g2' g3' h3' hp2 ⊢
        refine ⟨_, rfl, a, _, 1, _, rfl, rfl, SqT.of h1', rfl, b, _, 0, _, rfl, rfl, SqT.of g1', rfl, ?_⟩
        refine ⟨_, rfl, a, _, 1, _, rfl, rfl, SqT.of h1', rfl, b, _, 1, _, rfl, rfl, SqT.of g1', rfl, ?_⟩
        refine ⟨_, rfl, a, _, 0, _, rfl, rfl, SqT.of h1', rfl, ?_⟩
        refine ⟨_, rfl, a, _, 1, _, rfl, rfl, SqT.of h1', rfl, b, _, 2, _, rfl, rfl, SqT.of g1', rfl, ?_⟩
        refine ⟨_, rfl, a, _, 2, _, rfl, rfl, SqT.of h1', rfl, (by show 3 ≤ sizeLine; decide), fun v hv => ?_⟩
        have sv := same_new (o := HO.tup [V.str (Str.ofString "|"), V.ref e, V.ref c]) hv
        refine ⟨(by show 3 ≤ sizeLine; decide), fun z hz => ?_⟩
        have sz := same_new (o := HO.tup [V.str (Str.ofString "|"), V.ref d, V.ref v]) hz
        exact k (.hi u1 (.hi u2 s2)) z _ ⟨l1, l2, lf2⟩ (by show u1.cnt + (u2.cnt + s2.cnt) = (u1.cnt + u2.cnt) + s2.cnt; omega) ⟨d, v, upd_same, g2'.on (tt_same (sv.trans sz)), e, c, sz _ _ upd_same, g3'.on (tt_same (sv.trans sz)), h3'.on (tt_same (sv.trans sz))⟩ (((hp2.keep sv).keep sz).more (by omega)) (kp_trans kp1 (kp_same ((sq.trans sv).trans sz)))
theorem cal_ot {f : Addr} {fd : FuncData} (F : C8.Def K mg "_law_other" sOt f fd) (b : Binds K fd ["_law_pen_here", "_law_plain_here"] []) (T : Txt mg) (D0 : C8.Cal P w K mg base 1 "_law_draw" spDraw []) : ∀ n, C8.Cal P w K mg base (1 + n) "_law_other" (spOt n) []
  | 0 => ⟨f, fd, _, [], ⟨fun vs H Q E ⟨_, _, _, _, t, _, _, _, _, _, h, _⟩ => absurd h (by have := Rl.cnt_pos t; omega), fun _ _ _ _ _ _ _ _ _ _ _ _ _ ⟨_, _, _, _, t, _, _, _, _, _, h, _⟩ => absurd h (by have := Rl.cnt_pos t; omega)⟩, F.mgf, F.kp, b, .nil⟩
  | n + 1 => by
    have := cal_ot1 F b T D0 (cal_ot F b T D0 n)
    rwa [show 1 + (n + 1) = 2 + n by omega]
end
end Lw
namespace Lw
open PySem PySem.Spec PyProof.Rows L2
open SX PySem.NumText TL LamX ClX StX
set_option pp.maxSteps 900
abbrev sRig : Stmt := top 57
/-! ### a rule == a text or a tuple -/
/-- texts and tuples are no rules -/
structure OtC (K : PySem.W.Frag) (FC VC LC GC : Addr) : Prop where
  s : ∀ C, Rk FC VC LC GC C → PySem.W.kitOne K (.type "str") (.ref C) = some false
  t : ∀ C, Rk FC VC LC GC C → PySem.W.kitOne K (.type "tuple") (.ref C) = some false
def spTn (K : PySem.W.Frag) (FC VC LC GC : Addr) (C : Addr) : Sp := fun vs H Q _ => ∃ a s y, vs = [.ref a, y] ∧ s.cls FC VC LC GC = C ∧ RlAt FC VC LC GC H s a ∧ s.Ok ∧ (∃ ty, L2.TyX K H y ty ∧ PySem.W.kitOne K ty (.ref C) = some false) ∧ Q (.bl false) H
section
variable {P : Program} {w : World} {K : PySem.W.Frag} {mg : Str → Option Value} {base : Heap} {FC VC LC GC : Addr}
theorem fn_loN {f : Addr} {fd : FuncData} (F : C8.Fun K "__eq__" "Lesser.__eq__" sLoq f fd) (T : Txt mg) (Z : RlZ K mg FC VC LC GC) {n : Nat} (W : MetP P w K mg base (1 + n) (Rk FC VC LC GC) "__eq__" (spTe FC VC LC GC n)) : FnOk P w K mg base (L2.CX P w) (2 + n) f fd ["self", "other"] (spTn K FC VC LC GC LC) := by
  obtain ⟨oc, od, dV, kV, doc, pm, an, cdv, ct, osl, rfl, lk, hcd⟩ := F.ex
  rw [show 2 + n = (1 + n) + 1 by omega]
  refine fn_of lk hcd scLoq (fun vs H Q E h => ?_) fun A outer s H vs Q E hr h => ?_
  · obtain ⟨a, s, y, rfl, _⟩ := h
    rfl
  · obtain ⟨a, s, y, rfl, hc, ha, os, ⟨ty, h1, h2⟩, q⟩ := h
    refine ⟨_, (pss_one (ps_ret (pe_and (pe_callB L2.call_isi (by rfl) T.n_isinstance (by decide +kernel) (pa_cons (pv 1) (pa_cons (pe_glob (v := .ref LC) (by rfl) Z.hL rfl) pa_nil))) (pe_and (pe_cmpR (op_eqPE K rfl W (passes_call takes0 (fun _ _ _ _ z => z)) hr (Nat.le_refl _)) (pe_fldK K rfl (pv 0) rfl) (pe_fldK K rfl (pv 1) rfl) (nomark _)) (pe_one (pe_cmpR (op_eqPE K rfl W (passes_call takes0 (fun _ _ _ _ z => z)) hr (Nat.le_refl _)) (pe_fldK K rfl (pv 0) rfl) (pe_fldK K rfl (pv 1) rfl) (nomark _))))))), ?_⟩
    exact ⟨_, rfl, _, .ref LC, _, .ref LC, false, rfl, .own LC, h1, h2, _, rfl, iteF q⟩
theorem fn_hiN {f : Addr} {fd : FuncData} (F : C8.Fun K "__eq__" "Greater.__eq__" sHiq f fd) (T : Txt mg) (Z : RlZ K mg FC VC LC GC) {n : Nat} (W : MetP P w K mg base (1 + n) (Rk FC VC LC GC) "__eq__" (spTe FC VC LC GC n)) : FnOk P w K mg base (L2.CX P w) (2 + n) f fd ["self", "other"] (spTn K FC VC LC GC GC) := by
  obtain ⟨oc, od, dV, kV, doc, pm, an, cdv, ct, osl, rfl, lk, hcd⟩ := F.ex
  rw [show 2 + n = (1 + n) + 1 by omega]
  refine fn_of lk hcd scHiq (fun vs H Q E h => ?_) fun A outer s H vs Q E hr h => ?_
  · obtain ⟨a, s, y, rfl, _⟩ := h
    rfl
  · obtain ⟨a, s, y, rfl, hc, ha, os, ⟨ty, h1, h2⟩, q⟩ := h
    refine ⟨_, (pss_one (ps_ret (pe_and (pe_callB L2.call_isi (by rfl) T.n_isinstance (by decide +kernel) (pa_cons (pv 1) (pa_cons (pe_glob (v := .ref GC) (by rfl) Z.hG rfl) pa_nil))) (pe_and (pe_cmpR (op_eqPE K rfl W (passes_call takes0 (fun _ _ _ _ z => z)) hr (Nat.le_refl _)) (pe_fldK K rfl (pv 0) rfl) (pe_fldK K rfl (pv 1) rfl) (nomark _)) (pe_one (pe_cmpR (op_eqPE K rfl W (passes_call takes0 (fun _ _ _ _ z => z)) hr (Nat.le_refl _)) (pe_fldK K rfl (pv 0) rfl) (pe_fldK K rfl (pv 1) rfl) (nomark _))))))), ?_⟩
    exact ⟨_, rfl, _, .ref GC, _, .ref GC, false, rfl, .own GC, h1, h2, _, rfl, iteF q⟩
theorem eqN (T : Txt mg) (Z : RlZ K mg FC VC LC GC) {f1 f2 f3 f4 : Addr} {d1 d2 d3 d4 : FuncData}
    (F1 : C8.Fun K "__eq__" "Fixed.__eq__" sFxe f1 d1) (m1 : Meth K FC "__eq__" f1) (b1 : Binds K d1 ["self", "other"] []) (F2 : C8.Fun K "__eq__" "Divided.__eq__" sDve f2 d2) (m2 : Meth K VC "__eq__" f2) (b2 : Binds K d2 ["self", "other"] [])
    (F3 : C8.Fun K "__eq__" "Lesser.__eq__" sLoq f3 d3) (m3 : Meth K LC "__eq__" f3) (b3 : Binds K d3 ["self", "other"] []) (F4 : C8.Fun K "__eq__" "Greater.__eq__" sHiq f4 d4) (m4 : Meth K GC "__eq__" f4) (b4 : Binds K d4 ["self", "other"] [])
    {n : Nat} (W : MetP P w K mg base (1 + n) (Rk FC VC LC GC) "__eq__" (spTe FC VC LC GC n)) : MetP P w K mg base (2 + n) (Rk FC VC LC GC) "__eq__" (spTn K FC VC LC GC) := ⟨fun C hC => by
  rcases hC with rfl | rfl | rfl | rfl
  · refine ⟨_, _, _, m1, ((fn_fxe F1 T Z.F Z.hF (Z.ins _ (.inl rfl))).imp fun vs H Q E h => ?_).mono (by omega), b1⟩
    obtain ⟨a, s, y, rfl, hc, ha, os, ⟨ty, h1, h2⟩, q⟩ := h
    cases s with
    | fx m => exact ⟨a, y, m, rfl, ha, .inl ⟨⟨ty, .x h1, h2⟩, q⟩⟩
    | dv x y w => exact absurd hc.symm Z.d1
    | lo x y => exact absurd hc.symm Z.d2
    | hi x y => exact absurd hc.symm Z.d3
  · refine ⟨_, _, _, m2, ((fn_dve F2 T Z.V Z.hV (Z.ins _ (.inr (.inl rfl)))).imp fun vs H Q E h => ?_).mono (by omega), b2⟩
    obtain ⟨a, s, y, rfl, hc, ha, os, ⟨ty, h1, h2⟩, q⟩ := h
    cases s with
    | fx m => exact absurd hc Z.d1
    | dv u v w => exact ⟨a, y, u, v, w, rfl, ha, .inl ⟨⟨ty, .x h1, h2⟩, q⟩⟩
    | lo x y => exact absurd hc.symm Z.d4
    | hi x y => exact absurd hc.symm Z.d5
  · exact ⟨_, _, _, m3, fn_loN F3 T Z W, b3⟩
  · exact ⟨_, _, _, m4, fn_hiN F4 T Z W, b4⟩⟩
end
/-! ### plain rules as data -/
def Rl.dat : Rl → PyData
  | .fx n => .tuple [.str (Str.ofString "fixed"), .int n]
  | .dv x y w => .tuple [.str (Str.ofString "divided"), .int x, .int y, .int w]
  | .lo a b => .tuple [.str (Str.ofString "&"), a.dat, b.dat]
  | .hi a b => .tuple [.str (Str.ofString "|"), a.dat, b.dat]
theorem dp_dat {K : PySem.W.Frag} {H : Hp} : ∀ {t : Rl} {a : Addr}, PlAt H t a → Dp K H (.ref a) t.dat
  | .fx _, _, h => .tup (SqT.of h) (.cons (.str _) (.cons (.int _) .nil))
  | .dv _ _ _, _, h => .tup (SqT.of h) (.cons (.str _) (.cons (.int _) (.cons (.int _) (.cons (.int _) .nil))))
  | .lo _ _, _, ⟨_, _, h, g1, g2⟩ => .tup (SqT.of h) (.cons (.str _) (.cons (dp_dat g1) (.cons (dp_dat g2) .nil)))
  | .hi _ _, _, ⟨_, _, h, g1, g2⟩ => .tup (SqT.of h) (.cons (.str _) (.cons (dp_dat g1) (.cons (dp_dat g2) .nil)))
theorem Rl.lay : ∀ t : Rl, t.dat.canLay0 = true
  | .fx n => by
    show (PyData.canLay0 (.str (Str.ofString "fixed")) && (PyData.canLay0 (.int n) && true)) = true
    rw [show PyData.canLay0 (.str (Str.ofString "fixed")) = true by decide +kernel]; rfl
  | .dv x y w => by
    show (PyData.canLay0 (.str (Str.ofString "divided")) && (PyData.canLay0 (.int x) && (PyData.canLay0 (.int y) && (PyData.canLay0 (.int w) && true)))) = true
    rw [show PyData.canLay0 (.str (Str.ofString "divided")) = true by decide +kernel]; rfl
  | .lo a b => by
    show (PyData.canLay0 (.str (Str.ofString "&")) && (a.dat.canLay0 && (b.dat.canLay0 && true))) = true
    rw [Rl.lay a, Rl.lay b]
    decide +kernel
  | .hi a b => by
    show (PyData.canLay0 (.str (Str.ofString "|")) && (a.dat.canLay0 && (b.dat.canLay0 && true))) = true
    rw [Rl.lay a, Rl.lay b]
    decide +kernel
theorem Rl.dep : ∀ t : Rl, t.dat.depth ≤ t.cnt
  | .fx _ => Nat.le_refl 1
  | .dv _ _ _ => Nat.le_refl 1
  | .lo a b => by
    have h1 := Rl.dep a
    have h2 := Rl.dep b
    have p1 := Rl.cnt_pos a
    have p2 := Rl.cnt_pos b
    show max 0 (max a.dat.depth (max b.dat.depth 0)) + 1 ≤ a.cnt + b.cnt
    omega
  | .hi a b => by
    have h1 := Rl.dep a
    have h2 := Rl.dep b
    have p1 := Rl.cnt_pos a
    have p2 := Rl.cnt_pos b
    show max 0 (max a.dat.depth (max b.dat.depth 0)) + 1 ≤ a.cnt + b.cnt
    omega
theorem Rl.shp {t : Rl} (h : t.cnt ≤ 64) : SeqAt.shaped t.dat = true := by
  unfold SeqAt.shaped
  rw [t.lay, decide_eq_true (Nat.le_trans t.dep h)]
  rfl
theorem ev_ne {a b : Str} {xs ys : List PyData} (h : (a == b) = false) : PyData.eqv (.tuple (.str a :: xs)) (.tuple (.str b :: ys)) = false := by
  show ((a == b) && PyData.eqvAll xs ys) = false
  rw [h]; rfl
theorem Rl.ev : ∀ s t : Rl, PyData.eqv s.dat t.dat = s.eqb t
  | .fx m, .fx n => by
    show ((Str.ofString "fixed" == Str.ofString "fixed") && ((m == n) && true)) = decide (m = n)
    rw [beq_self_eq_true, Bool.true_and, Bool.and_true]; rfl
  | .dv x y w, .dv x' y' w' => by
    show ((Str.ofString "divided" == Str.ofString "divided") && ((x == x') && ((y == y') && ((w == w') && true)))) = (decide (x = x') && (decide (y = y') && decide (w = w')))
    rw [beq_self_eq_true, Bool.true_and, Bool.and_true]; rfl
  | .lo a b, .lo c d => by
    show ((Str.ofString "&" == Str.ofString "&") && (PyData.eqv a.dat c.dat && (PyData.eqv b.dat d.dat && true))) = (a.eqb c && b.eqb d)
    rw [beq_self_eq_true, Bool.true_and, Bool.and_true, Rl.ev a c, Rl.ev b d]
  | .hi a b, .hi c d => by
    show ((Str.ofString "|" == Str.ofString "|") && (PyData.eqv a.dat c.dat && (PyData.eqv b.dat d.dat && true))) = (a.eqb c && b.eqb d)
    rw [beq_self_eq_true, Bool.true_and, Bool.and_true, Rl.ev a c, Rl.ev b d]
  | .fx _, .dv _ _ _ => ev_ne (by decide +kernel)
  | .fx _, .lo _ _ => ev_ne (by decide +kernel)
  | .fx _, .hi _ _ => ev_ne (by decide +kernel)
  | .dv _ _ _, .fx _ => ev_ne (by decide +kernel)
  | .dv _ _ _, .lo _ _ => ev_ne (by decide +kernel)
  | .dv _ _ _, .hi _ _ => ev_ne (by decide +kernel)
  | .lo _ _, .fx _ => ev_ne (by decide +kernel)
  | .lo _ _, .dv _ _ _ => ev_ne (by decide +kernel)
  | .lo _ _, .hi _ _ => ev_ne (by decide +kernel)
  | .hi _ _, .fx _ => ev_ne (by decide +kernel)
  | .hi _ _, .dv _ _ _ => ev_ne (by decide +kernel)
  | .hi _ _, .lo _ _ => ev_ne (by decide +kernel)
end Lw
namespace Lw
open PySem PySem.Spec PyProof.Rows L2
open SX PySem.NumText TL LamX ClX StX
set_option pp.maxSteps 900
theorem Rl.Ok.lf : ∀ {t : Rl}, t.Ok → t.Lf
  | .fx _, h => h
  | .dv _ _ _, h => h
  | .lo _ _, h => ⟨Rl.Ok.lf h.1, Rl.Ok.lf h.2.1⟩
  | .hi _ _, h => ⟨Rl.Ok.lf h.1, Rl.Ok.lf h.2.1⟩
theorem eqb_self : ∀ t : Rl, t.eqb t = true
  | .fx _ => decide_eq_true rfl
  | .dv _ _ _ => by show (decide _ && (decide _ && decide _)) = true; rw [decide_eq_true rfl, decide_eq_true rfl, decide_eq_true rfl]; rfl
  | .lo a b => by show (a.eqb a && b.eqb b) = true; rw [eqb_self a, eqb_self b]; rfl
  | .hi a b => by show (a.eqb a && b.eqb b) = true; rw [eqb_self a, eqb_self b]; rfl
theorem dec_comm (i j : Int) : decide (i = j) = decide (j = i) := decide_eq_decide.mpr ⟨Eq.symm, Eq.symm⟩
theorem eqb_comm : ∀ s t : Rl, s.eqb t = t.eqb s
  | .fx m, .fx n => dec_comm m n
  | .dv x y w, .dv x' y' w' => by
    show (decide (x = x') && (decide (y = y') && decide (w = w'))) = (decide (x' = x) && (decide (y' = y) && decide (w' = w)))
    rw [dec_comm x, dec_comm y, dec_comm w]
  | .lo a b, .lo c d => by show (a.eqb c && b.eqb d) = (c.eqb a && d.eqb b); rw [eqb_comm a c, eqb_comm b d]
  | .hi a b, .hi c d => by show (a.eqb c && b.eqb d) = (c.eqb a && d.eqb b); rw [eqb_comm a c, eqb_comm b d]
  | .fx _, .dv _ _ _ => rfl | .fx _, .lo _ _ => rfl | .fx _, .hi _ _ => rfl
  | .dv _ _ _, .fx _ => rfl | .dv _ _ _, .lo _ _ => rfl | .dv _ _ _, .hi _ _ => rfl
  | .lo _ _, .fx _ => rfl | .lo _ _, .dv _ _ _ => rfl | .lo _ _, .hi _ _ => rfl
  | .hi _ _, .fx _ => rfl | .hi _ _, .dv _ _ _ => rfl | .hi _ _, .lo _ _ => rfl
theorem pl_tup {H : Hp} : ∀ {t : Rl} {a : Addr}, PlAt H t a → ∃ xs, H a = some (.tup xs)
  | .fx _, _, h => ⟨_, h⟩
  | .dv _ _ _, _, h => ⟨_, h⟩
  | .lo _ _, _, ⟨_, _, h, _⟩ => ⟨_, h⟩
  | .hi _ _, _, ⟨_, _, h, _⟩ => ⟨_, h⟩
def d4 (x : Bool) : PyData := .list [.bool x, .bool (!x), .bool false, .bool false]
theorem rp_d4 {K : PySem.W.Frag} {H : Hp} {q : Addr} {x : Bool} (h : H q = some (.lst [.bl x, .bl (!x), .bl false, .bl false])) : Rp K H (.ref q) (d4 x).shown :=
  .data (.lst (SqL.of h) (.cons (.bl _) (.cons (.bl _) (.cons (.bl _) (.cons (.bl _) .nil))))) (by cases x <;> decide +kernel) (by cases x <;> decide +kernel) (by cases x <;> decide +kernel) (by cases x <;> decide +kernel)
def spRig : Sp := fun vs H Q _ => ∃ (p pl : Addr) (k : Nat), vs = [.ref p] ∧ Pen H p pl k ∧ k ≤ 600000 ∧ ∀ H', Pen H' p pl (k + 500) → Kp p H H' → Q (.bl true) H'
section
variable {P : Program} {w : World} {K : PySem.W.Frag} {mg : Str → Option Value} {base : Heap} {FC VC LC GC UC pR gR : Addr} {fdR : FuncData} {gU : List Value → List Value → List Value}
theorem scRig : FnScope ["_law_pen_here", "_law_plain_here", "_law_near", "_law_told_so", "_law_made_here", "_law_page"] ["_law_pen_here"] (C8.fnScope sRig) := C8.fnScope_by (by decide +kernel)
theorem cal_rig {f : Addr} {fd : FuncData} (F : C8.Def K mg "_law_right" sRig f fd) (b : Binds K fd ["_law_pen_here"] []) (T : Txt mg) (Z : RlZ K mg FC VC LC GC) (OT : OtC K FC VC LC GC) (hUC : mg "Rule" = some (.ref UC)) (RR : RrM P w K mg base FC VC LC GC UC pR gR fdR gU)
    (SP : MetP P w K mg base 13 (Rk FC VC LC GC) "__str__" (spSt FC VC LC GC 6)) (QE : MetP P w K mg base 7 (Rk FC VC LC GC) "__eq__" (spTe FC VC LC GC 6)) (QN : MetP P w K mg base 8 (Rk FC VC LC GC) "__eq__" (spTn K FC VC LC GC)) (NC : ∀ C, Rk FC VC LC GC C → NeC K C)
    (nf : ∀ C D, Rk FC VC LC GC C → Rk FC VC LC GC D → PySem.W.notFirst K C (.ref D) = true) (nfs : ∀ C, Rk FC VC LC GC C → PySem.W.notFirst K C (.type "str") = true) (nft : ∀ C, Rk FC VC LC GC C → PySem.W.notFirst K C (.type "tuple") = true)
    (DFt : C8.Cal P w K mg base 12 "_law_fitting" spFit []) (DMa : C8.Cal P w K mg base 14 "_law_made" (spMd FC VC LC GC 6) []) (DMd : C8.Cal P w K mg base 11 "_law_modulus" spMdl []) (DTx : C8.Cal P w K mg base 6 "_law_text" (spTx 6) []) (DOt : C8.Cal P w K mg base 7 "_law_other" (spOt 6) []) : CalG P w K mg base 16 "_law_right" spRig [] := by
  refine calG F b .nil scRig (fun vs H Q E h => ?_) (fun cdv A outer st H vs Q E hG hr h => ?_)
  · obtain ⟨p, pl, k0, rfl, _⟩ := h
    rfl
  · obtain ⟨p, pl, k0, rfl, hp, hk, k⟩ := h
    refine ⟨_, (pss_cons (ps_set (i := 1) scRig.nd rfl (Or.inl rfl) (C8.pe_c DFt hr (by decide) (by rfl) (pa_cons (pv 0) (pa_cons pe_int pa_nil))))
  (pss_cons (ps_par (i := 4) (j := 5) rfl scRig.nd rfl rfl (by decide) rfl rfl (pa_cons (C8.pe_c DMa hr (by decide) (by rfl) (pa_cons (pv 1) pa_nil)) (pa_cons (C8.pe_c DTx hr (by decide) (by rfl) (pa_cons (pv 1) pa_nil)) pa_nil)) (by rfl))
  (pss_cons (ps_if (PW.pt (pw_or (pt_cmpR op_ne (pe_callTy (call_strP (E := C8.E0) SP (passes_call takes0 (fun _ _ _ _ z => z)) hr (by decide)) (by rfl) T.n_str (by decide +kernel) (pa_cons (pv 4) pa_nil)) (pv 5) (nomark _)) (pw_or (pt_cmpR op_ne (pe_callTy (call_strP (E := C8.E0) SP (passes_call takes0 (fun _ _ _ _ z => z)) hr (by decide)) (by rfl) T.n_str (by decide +kernel) (pa_cons (pe_static (E := C8.E0) (pe_glob (v := .ref UC) (by rfl) hUC rfl) RR.S RR.F (hr.mono (by decide)) RR.b .nil (passes_call takes0 (fun _ _ _ _ z => z)) (pa_cons (pv 5) pa_nil)) pa_nil)) (pv 5) (nomark _)) (pw_or1 (pt_not (pt_cmpR (op_eqPE (E := C8.E0) K rfl QE (passes_call takes0 (fun _ _ _ _ z => z)) hr (by decide)) (pe_staticK (E := C8.E0) (pe_glob (v := .ref UC) (by rfl) hUC rfl) RR.S RR.F (hr.mono (by decide)) RR.KB (passes_call takes0 (fun _ _ _ _ z => z)) (pk_cons (pv 5) pk_nil)) (pv 4) (nomark _))))))) (pss_one (ps_ret pe_bl)) pss_nil)
  (pss_cons (ps_set (i := 2) scRig.nd rfl (Or.inl rfl) (C8.pe_c DOt hr (by decide) (by rfl) (pa_cons (pv 0) (pa_cons (pv 1) pa_nil))))
  (pss_cons (ps_if (pt_cmpR op_gt (C8.pe_c DMd hr (by decide) (by rfl) (pa_cons (pv 2) pa_nil)) pe_int (nomark _)) (pss_one (ps_ret pe_bl)) pss_nil)
  (pss_cons (ps_set (i := 3) scRig.nd rfl (Or.inl rfl) (pe_lst (pa_cons (pe_cmpR (op_eqPE (E := C8.E0) K rfl QE (passes_call takes0 (fun _ _ _ _ z => z)) hr (by decide)) (pv 4) (C8.pe_c DMa hr (by decide) (by rfl) (pa_cons (pv 2) pa_nil)) (nomark _)) (pa_cons (pe_cmpR (op_nePE (E := C8.E0) K rfl NC QE (passes_call takes0 (fun _ _ _ _ z => z)) hr (by decide)) (pv 4) (C8.pe_c DMa hr (by decide) (by rfl) (pa_cons (pv 2) pa_nil)) (nomark _)) (pa_cons (pe_cmpR (op_eqPE (E := C8.E0) K rfl QN (passes_call takes0 (fun _ _ _ _ z => z)) hr (by decide)) (pv 4) (pv 5) (nomark _)) (pa_cons (pe_cmpR (op_eqPE (E := C8.E0) K rfl QN (passes_call takes0 (fun _ _ _ _ z => z)) hr (by decide)) (pv 4) (pv 1) (nomark _)) pa_nil))))))
  (pss_one (ps_ret (pe_cmpR op_eq (pe_callB (call_reprX hG (hr.mono (by decide))) (by rfl) T.n_repr (by decide +kernel) (pa_cons (pv 3) pa_nil)) (pe_callB (call_reprX hG (hr.mono (by decide))) (by rfl) T.n_repr (by decide +kernel) (pa_cons (pe_lst (pa_cons (pe_cmpR (op_eqD hr.units) (pv 2) (pv 1) (nomark _)) (pa_cons (pe_cmpR (op_neD hr.units) (pv 2) (pv 1) (nomark _)) (pa_cons pe_bl (pa_cons pe_bl pa_nil))))) pa_nil)) (nomark _)))))))))), ?_⟩
    dsimp only [tSeq]
    refine ⟨_, rfl, p, pl, _, 6, rfl, by decide, by decide, hp, by omega, fun t a H1 ok c6 pa hp1 k1 => ?_⟩
    dsimp only [gName, List.set]
    refine ⟨_, rfl, a, t, rfl, pa, ok, c6, fun b H2 s2 rb => ?_⟩
    have pa2 := pa.on (tt_same s2)
    refine ⟨_, rfl, a, t, rfl, pa2, ok, c6, fun H3 s3 => ?_⟩
    refine ⟨_, _, rfl, ?_⟩
    dsimp only [gName, List.set]
    have rb3 := rb.on s3
    obtain ⟨d3, f3, _, _, hb3, _⟩ := rb3.has ok
    refine ⟨_, rfl, b, _, d3, f3, rfl, Rk.of t, hb3, b, t, rfl, rfl, rb3, ok, c6, _, rfl, _, rfl, rfl, _, rfl, iteF' (by simp) ?_⟩
    refine ⟨rfl, _, rfl, t, rfl, ok, fun a4 H4 s4 ra4 => ?_⟩
    obtain ⟨d4_, f4, _, _, ha4, _⟩ := ra4.has ok
    refine ⟨a4, _, d4_, f4, rfl, Rk.of t, ha4, a4, t, rfl, rfl, ra4, ok, c6, _, rfl, _, rfl, rfl, _, rfl, iteF' (by simp) ?_⟩
    refine ⟨rfl, _, rfl, rfl, t, rfl, ok, fun a5 H5 s5 ra5 => ?_⟩
    obtain ⟨d5, f5, _, _, ha5, _⟩ := ra5.has ok
    have rb5 := rb3.on (s4.trans s5)
    refine ⟨_, rfl, a5, _, d5, f5, _, rfl, Rk.of t, ha5, Z.tz rb5 ok, nf _ _ (Rk.of t) (Rk.of t), a5, b, t, t, rfl, rfl, ra5, rb5, ok, ok, c6, _, rfl, iteF' (by rw [eqb_self]; rfl) ?_⟩
    dsimp only [tNext]
    have s25 := (s3.trans s4).trans s5
    have hp5 := hp1.keep (s2.trans s25)
    have pa5 := pa2.on (tt_same s25)
    have k5 := kp_trans k1 (kp_same (s2.trans s25))
    clear hp1 pa2 pa k1 s2 s3 s4 s5 s25 hp ra4 ra5 rb3 rb
    refine ⟨_, rfl, _, rfl, p, pl, k0 + 400, a, t, rfl, hp5, by omega, pa5, ok.lf, c6, fun t' a' H6 lf' ct' pa' hp6 k6 => ?_⟩
    dsimp only [gName, List.set]
    have rb6 := rb5.tr (tr_pen hp5 k6)
    have pa6 := pa5.on (tt_kp hp5 k6)
    have kk := kp_trans k5 k6
    clear rb5 pa5 k5 k6 hp5
    refine ⟨_, rfl, a', t', rfl, pa', lf', by omega, fun H7 s7 => ⟨_, _, rfl, rfl, _, rfl, ite2 (fun _ => ?_) (fun c => ?_)⟩⟩
    · exact k H7 ((hp6.keep s7).more (by omega)) (kp_trans kk (kp_same s7))
    dsimp only [tNext]
    have m5 : t'.mdl ≤ 5000 := by
      have := of_decide_eq_false (Bool.eq_false_iff.mpr c)
      omega
    have ok' := Rl.Lf.ok lf' (by omega) m5
    have c6' := Rl.Ok.cnt6 ok'
    have rb7 := rb6.on s7
    have pa7 := pa6.on (tt_same s7)
    have pn7 := pa'.on (tt_same s7)
    refine ⟨_, rfl, _, rfl, a', t', rfl, pn7, ok', c6', fun m1 H8 s8 rm1 => ?_⟩
    have rb8 := rb7.on s8
    obtain ⟨d8, f8, _, _, hb8, _⟩ := rb8.has ok
    refine ⟨b, _, d8, f8, _, rfl, Rk.of t, hb8, Z.tz rm1 ok', nf _ _ (Rk.of t) (Rk.of t'), b, m1, t, t', rfl, rfl, rb8, rm1, ok, ok', c6, ?_⟩
    refine ⟨_, rfl, _, rfl, a', t', rfl, pn7.on (tt_same s8), ok', c6', fun m2 H9 s9 rm2 => ?_⟩
    have rb9 := rb8.on s9
    obtain ⟨d9, f9, _, _, hb9, _⟩ := rb9.has ok
    refine ⟨b, _, d9, f9, _, rfl, Rk.of t, hb9, Z.tz rm2 ok', nf _ _ (Rk.of t) (Rk.of t'), b, m2, t, t', rfl, rfl, rb9, rm2, ok, ok', c6, _, rfl, ?_⟩
    refine ⟨_, rfl, _, rfl, b, _, d9, f9, _, rfl, Rk.of t, hb9, .base (.str _), nfs _ (Rk.of t), b, t, _, rfl, rfl, rb9, ok, ⟨_, .base (.str _), OT.s _ (Rk.of t)⟩, ?_⟩
    have pa9 := pa7.on (tt_same (s8.trans s9))
    have pn9 := pn7.on (tt_same (s8.trans s9))
    obtain ⟨xs9, hx9⟩ := pl_tup pa9
    refine ⟨_, rfl, _, rfl, b, _, d9, f9, _, rfl, Rk.of t, hb9, .base (.tup hx9), nft _ (Rk.of t), b, t, _, rfl, rfl, rb9, ok, ⟨_, .base (.tup hx9), OT.t _ (Rk.of t)⟩, ?_⟩
    refine ⟨(by show 4 ≤ sizeLine; decide), fun q hq => ?_⟩
    have sq := same_new (o := HO.lst [V.bl (t.eqb t'), V.bl (!t.eqb t'), V.bl false, V.bl false]) hq
    have hq1 : upd H9 q (.lst [V.bl (t.eqb t'), V.bl (!t.eqb t'), V.bl false, V.bl false]) q = _ := upd_same
    generalize upd H9 q _ = HA at sq hq1 ⊢
    have paA := pa9.on (tt_same sq)
    have pnA := pn9.on (tt_same sq)
    dsimp only [gName, List.set]
    refine ⟨_, rfl, _, _, rfl, rp_d4 hq1, ?_⟩
    refine ⟨_, rfl, _, rfl, _, _, dp_dat pnA, dp_dat paA, Rl.shp (by omega), Rl.shp (by omega), ?_⟩
    refine ⟨_, rfl, _, rfl, _, _, dp_dat pnA, dp_dat paA, Rl.shp (by omega), Rl.shp (by omega), ?_⟩
    refine ⟨(by show 4 ≤ sizeLine; decide), fun q2 hq2 => ?_⟩
    rw [Rl.ev, eqb_comm t' t] at *
    have sq2 := same_new (o := HO.lst [V.bl (t.eqb t'), V.bl (!t.eqb t'), V.bl false, V.bl false]) hq2
    refine ⟨_, _, rfl, rp_d4 upd_same, rfl, ?_⟩
    rw [decide_eq_true rfl]
    exact k _ ((hp6.keep ((((s7.trans s8).trans s9).trans sq).trans sq2)).more (by omega)) (kp_trans kk (kp_same ((((s7.trans s8).trans s9).trans sq).trans sq2)))
end
end Lw
namespace Lw
open PySem PySem.Spec PyProof.Rows L2
open SX PySem.NumText TL LamX ClX StX
set_option pp.maxSteps 900
abbrev sLaw : Stmt := top 58
/-- the law's def, its code object known -/
structure LawC (K : PySem.W.Frag) (x : Str) (st : Stmt) (f : Addr) (fd : FuncData) (c : Addr) : Prop where
  ex : ∃ (oc : Value) (od : Option Addr) (dV kV doc pm : Value) (an : Option Addr) (ct : Value) (osl : Array (Option Value)),
    fd = PySem.W.fnOf x x (C8.fnArgs st) (C8.fnBody st) (C8.fnScope st) dV kV doc pm an (.ref c) ct ∧ K.lookup f = some ⟨oc, od, .func fd, osl⟩ ∧ PySem.W.codeIn K (.ref c) x = true
theorem fnGC {P : Program} {w : World} {K : PySem.W.Frag} {mg : Str → Option Value} {base : Heap} {x : Str} {st : Stmt} {f c : Addr} {fd : FuncData} {N ps : List Str} {k : Nat} {sp : Sp} (F : LawC K x st f fd c) (S : FnScope N ps (C8.fnScope st)) (len : ∀ vs H Q E, sp vs H Q E → vs.length = ps.length)
    (body : ∀ (A : Around) (outer : List Env) (s : Shared) (H : Hp) (vs : List V) (Q : VK) (E : XK), (A.deeper (envOfC x (C8.fnScope st) s.heap.objs.size f (.ref c))).guards = some [] → Room k (A.deeper (envOfC x (C8.fnScope st) s.heap.objs.size f (.ref c))) → sp vs H Q E →
      ∃ t, PSs (cxOf C8.CX0 P w K mg base N x (C8.fnScope st) f (.ref c) A outer s H E).nox (C8.fnBody st) t ∧ t { nx := fun _ H' => Q .non H', rt := Q } (start N vs) H) : FnG P w K mg base (k + 1) f fd ps sp := by
  refine ⟨len, ?_⟩
  intro A outer s H args us vs Q E hg hr e0 hb r hs
  obtain ⟨oc, od, dV, kV, doc, pm, an, ct, osl, rfl, lk, hcd⟩ := F.ex
  refine LamX.run_ofS lk hcd S hr e0 hb r (len _ _ _ _ hs) fun hr' => ?_
  obtain ⟨t, h1, h2⟩ := body A outer s H vs Q E hg hr' hs
  exact ⟨t, h1.nox, h2⟩
structure TabOf (T : List (Addr × Str)) (B : Addr) (x : Str) : Prop where
  mem : (B, (x ++ (".<locals>." : Str)) ++ ("<lambda>" : Str)) ∈ T
  own : ∀ p ∈ T, p.1 = B → p.2 = (x ++ (".<locals>." : Str)) ++ ("<lambda>" : Str)
theorem by_ok {BC : Addr} {H : Hp} {E : XK} {R : Hp → Prop} {v : V} {x dx : Addr} (hx : H x = none) (hdx : H dx = none) (ne : dx ≠ x) (k : ∀ H', Same H H' → ByAt BC H' x v → R H') :
    spByi BC [.ref x, v] (upd (upd H dx (.own x)) x (.ins BC dx [])) (fun v H2 => v = .non ∧ R H2) E := by
  have s1 : Same H (upd H dx (.own x)) := same_new hdx
  have hx1 : upd H dx (.own x) x = none := by rw [upd_ne ne.symm]; exact hx
  have s2 := s1.trans (same_new (o := HO.ins BC dx []) hx1)
  exact ⟨x, dx, v, rfl, upd_same, fun p H' kp hx' hp => ⟨rfl, k H' (fun b o e => kp _ _ (ne_of_none e hx) (s2 _ _ e)) ⟨dx, p, hx', hp⟩⟩⟩
theorem rp_join {K : PySem.W.Frag} {FC VC LC GC DU DM : Addr} {g : Rl → Rl → Rl} {E : XK} {H : Hp} {Q : VK} {s t : Rl} {a b : Addr} (r1 : RlAt FC VC LC GC H s a) (r2 : RlAt FC VC LC GC H t b) (o1 : s.Ok) (o2 : t.Ok) (c : s.cnt + t.cnt ≤ 6) (m : Nat.lcm s.mdl t.mdl ≤ 5000)
    (k : ∀ z H', Same H H' → H z = none → RlAt FC VC LC GC H' (g s t) z → Q (.ref z) H') : rP (Rk FC VC LC GC) (fun _ => spAn K FC VC LC GC DU DM g) E (.ref a) (.ref b) H Q := by
  obtain ⟨d1, f1, _, _, g1, _⟩ := r1.has o1
  obtain ⟨d2, f2, _, _, g2, _⟩ := r2.has o2
  exact ⟨a, _, d1, f1, b, _, d2, f2, rfl, rfl, Rk.of s, Rk.of t, g1, g2, _, _, rfl, some s, some t, ⟨a, rfl, r1, o1⟩, ⟨b, rfl, r2, o2⟩, (fun e => by cases e), (fun _ _ e => by cases e), fun x y e1 e2 => by
    cases e1
    cases e2
    exact ⟨fun c' => absurd c (by omega), fun _ c' => absurd m (by omega), fun _ _ => k⟩⟩
theorem ifs_no {tt : TT} {a : TS} {D : Ends} {σ : L2.St} {H : Hp} (Pj : Hp → Prop) (rest : ∀ H', Pj H' → D.nx σ H') (test : ∀ QQ : Bool → Hp → Prop, (∀ H', Pj H' → QQ false H') → tt σ H QQ) : tIfS tt a tNext D σ H :=
  test _ fun H' h => iteF (rest H' h)
def spLaw (K : PySem.W.Frag) (TS : List (Addr × Str)) : Sp := fun vs H Q _ => ∃ (a : Addr) (ns : List Int), vs = [.ref a] ∧ SqL K H a (ns.map V.int) ∧ ns.length ≤ 63 ∧ Tabs TS H ∧ ∀ H', Q (.bl true) H'
section
variable {P : Program} {w : World} {K : PySem.W.Frag} {mg : Str → Option Value} {base : Heap} {FC VC LC GC BC UC DU DS DM_ fF fD fB c0 B pR gR : Addr} {fdF fdD fdB fdR : FuncData} {TS : List (Addr × Str)} {gU : List Value → List Value → List Value}
theorem scLaw : FnScope ["_law_script", "_law_pen_here", "_law_lap", "_law_told_so", "_law_some"] ["_law_script"] (C8.fnScope sLaw) := C8.fnScope_by (by decide +kernel)
set_option maxHeartbeats 4000000 in
theorem fn_law {f : Addr} {fd : FuncData} (F : LawC K "law" sLaw f fd c0) (TB : TabB base mg c0 B) (TO : TabOf TS B "law") (T : Txt mg) (Z : RlZ K mg FC VC LC GC) (FM : FixM P w K mg base FC DS fF fdF) (DM : DivM P w K mg base VC DU fD fdD) (BM : ByM P w K mg base BC fB fdB) (hUC : mg "Rule" = some (.ref UC)) (RR : RrM P w K mg base FC VC LC GC UC pR gR fdR gU)
    (LA : MetP P w K mg base 7 (Rk FC VC LC GC) (PySem.dunder "and") (fun _ => spAn K FC VC LC GC DU DM_ .lo)) (OA : OpP K (Rk FC VC LC GC) .BitAnd) (LO : MetP P w K mg base 7 (Rk FC VC LC GC) (PySem.dunder "or") (fun _ => spAn K FC VC LC GC DU DM_ .hi)) (OO : OpP K (Rk FC VC LC GC) .BitOr)
    (SP : MetP P w K mg base 13 (Rk FC VC LC GC) "__str__" (spSt FC VC LC GC 6)) (MB : MetX P w K mg base 1 BC "__str__" spBs)
    (D0 : C8.Cal P w K mg base 1 "_law_pen" (spPen K) []) (DRg : CalG P w K mg base 16 "_law_right" spRig []) : FnG P w K mg base 17 f fd ["_law_script"] (spLaw K TS) := by
  refine fnGC F scLaw (fun vs H Q E h => ?_) (fun A outer st H vs Q E hG hr h => ?_)
  · obtain ⟨a, ns, rfl, _⟩ := h
    rfl
  · obtain ⟨a, ns, rfl, hs, hl, ht, k⟩ := h
    refine ⟨_, (pss_cons (ps_set (i := 1) scLaw.nd rfl (Or.inl rfl) (C8.pe_c D0 hr (by decide) (by rfl) (pa_cons (pv 0) pa_nil)))
  (pss_cons (ps_for PassesOwn.never rfl (pi_range1 (by rfl) T.n_range (pa_cons pe_int pa_nil)) (pg_name (i := 2) scLaw.nd rfl (Or.inl rfl)) (pss_one (ps_if (pt_not (pt_val (pe_g DRg hG hr (by decide) (by rfl) (pa_cons (pv 1) pa_nil)))) (pss_one (ps_ret pe_bl)) pss_nil)))
  (pss_cons (ps_set (i := 3) scLaw.nd rfl (Or.inl rfl) (pe_lst (pa_cons (pe_callTy (call_strP (E := C8.E0) SP (passes_call takes0 (fun _ _ _ _ z => z)) hr (by decide)) (by rfl) T.n_str (by decide +kernel) (pa_cons (pe_op (op_P LA OA (passes_call takes0 (fun _ _ _ _ z => z)) hr (by decide)) (pe_make (E := C8.E0) FM.M FM.F (hr.mono (by decide)) (by rfl) FM.hm FM.b .nil (passes_call takes0 (fun _ _ _ _ z => z)) (pa_cons pe_int pa_nil)) (pe_make (E := C8.E0) DM.M DM.F (hr.mono (by decide)) (by rfl) DM.hm DM.b .nil (passes_call takes0 (fun _ _ _ _ z => z)) (pa_cons pe_int (pa_cons pe_int (pa_cons pe_int pa_nil))))) pa_nil)) (pa_cons (pe_callTy (call_strP (E := C8.E0) SP (passes_call takes0 (fun _ _ _ _ z => z)) hr (by decide)) (by rfl) T.n_str (by decide +kernel) (pa_cons (pe_op (op_P LO OO (passes_call takes0 (fun _ _ _ _ z => z)) hr (by decide)) (pe_make (E := C8.E0) DM.M DM.F (hr.mono (by decide)) (by rfl) DM.hm DM.b .nil (passes_call takes0 (fun _ _ _ _ z => z)) (pa_cons pe_int (pa_cons (pe_un un_neg pe_int) (pa_cons pe_int pa_nil)))) (pe_make (E := C8.E0) FM.M FM.F (hr.mono (by decide)) (by rfl) FM.hm FM.b .nil (passes_call takes0 (fun _ _ _ _ z => z)) (pa_cons (pe_op op_pow pe_int pe_int) pa_nil))) pa_nil)) pa_nil))))
  (pss_cons (ps_expr (pe_bm PySem.F.plainAttrs_list PySem.F.slot_list_append PySem.F.type_list_append mt_append (pv 3) (pa_cons (pe_callTy (call_strOwn (E := C8.E0) MB (passes_call takes0 (fun _ _ _ _ z => z)) hr (by decide)) (by rfl) T.n_str (by decide +kernel) (pa_cons (pe_make (E := C8.E0) BM.M BM.F (hr.mono (by decide)) (by rfl) BM.hm BM.b .nil (passes_call takes0 (fun _ _ _ _ z => z)) (pa_cons (pe_lamV (T := TS) TB rfl TO.mem TO.own rfl (by decide)) pa_nil)) pa_nil)) pa_nil)))
  (pss_cons (ps_if (pt_cmpR (op_neD hr.units) (pv 3) (pe_lst (pa_cons pe_str (pa_cons (pe_op op_add_str (pe_op op_add_str pe_str (pe_op op_mulS pe_str pe_int)) pe_str) (pa_cons pe_str pa_nil)))) (nomark _)) (pss_one (ps_ret pe_bl)) pss_nil)
  (pss_cons (ps_set (i := 4) scLaw.nd rfl (Or.inl rfl) (pe_lst (pa_cons (pe_static (E := C8.E0) (pe_glob (v := .ref UC) (by rfl) hUC rfl) RR.S RR.F (hr.mono (by decide)) RR.b .nil (passes_call takes0 (fun _ _ _ _ z => z)) (pa_cons pe_str pa_nil)) (pa_cons (pe_static (E := C8.E0) (pe_glob (v := .ref UC) (by rfl) hUC rfl) RR.S RR.F (hr.mono (by decide)) RR.b .nil (passes_call takes0 (fun _ _ _ _ z => z)) (pa_cons pe_str pa_nil)) (pa_cons (pe_static (E := C8.E0) (pe_glob (v := .ref UC) (by rfl) hUC rfl) RR.S RR.F (hr.mono (by decide)) RR.b .nil (passes_call takes0 (fun _ _ _ _ z => z)) (pa_cons pe_str pa_nil)) pa_nil)))))
  (pss_cons (ps_expr (pe_bm PySem.F.plainAttrs_list PySem.F.slot_list_append PySem.F.type_list_append mt_append (pv 4) (pa_cons (pe_static (E := C8.E0) (pe_glob (v := .ref UC) (by rfl) hUC rfl) RR.S RR.F (hr.mono (by decide)) RR.b .nil (passes_call takes0 (fun _ _ _ _ z => z)) (pa_cons pe_str pa_nil)) pa_nil)))
  (pss_cons (ps_if (PW.pt (pw_or (pt_cmpR (op_neD hr.units) (pe_lst (pa_cons (pe_fldK K rfl (pe_ix ix_list (pv 4) pe_int (fun _ _ => rfl)) rfl) (pa_cons (pe_fldK K rfl (pe_ix ix_list (pv 4) pe_int (fun _ _ => rfl)) rfl) (pa_cons (pe_fldK K rfl (pe_ix ix_list (pv 4) pe_int (fun _ _ => rfl)) rfl) (pa_cons (pe_fldK K rfl (pe_ix ix_list (pv 4) pe_int (fun _ _ => rfl)) rfl) pa_nil))))) (pe_lst (pa_cons pe_int (pa_cons pe_int (pa_cons (pe_un un_neg pe_int) (pa_cons pe_int pa_nil))))) (nomark _)) (pw_or1 (pt_not (pt_val (pe_callB L2.call_isi (by rfl) T.n_isinstance (by decide +kernel) (pa_cons (pe_ix ix_list (pv 4) pe_int (fun _ _ => rfl)) (pa_cons (pe_glob (v := .ref LC) (by rfl) Z.hL rfl) pa_nil)))))))) (pss_one (ps_ret pe_bl)) pss_nil)
  (pss_one (ps_ret (pe_and (pe_callB L2.call_isi (by rfl) T.n_isinstance (by decide +kernel) (pa_cons (pe_ix ix_list (pv 4) pe_int (fun _ _ => rfl)) (pa_cons (pe_glob (v := .ref GC) (by rfl) Z.hG rfl) pa_nil))) (pe_and (pe_callB L2.call_isi (by rfl) T.n_isinstance (by decide +kernel) (pa_cons (pe_ix ix_list (pv 4) pe_int (fun _ _ => rfl)) (pa_cons (pe_glob (v := .ref FC) (by rfl) Z.hF rfl) pa_nil))) (pe_one (pe_callB L2.call_isi (by rfl) T.n_isinstance (by decide +kernel) (pa_cons (pe_ix ix_list (pv 4) pe_int (fun _ _ => rfl)) (pa_cons (pe_glob (v := .ref VC) (by rfl) Z.hV rfl) pa_nil)))))))))))))))), ?_⟩
    refine ⟨_, rfl, a, ns, rfl, hs, hl, fun p pl H1 hp1 s1 _ => ?_⟩
    dsimp only [gName, tSeq]
    refine ⟨_, rfl, by decide, by decide, for_range (fun i σ' H' => ∃ x2, σ' = [some (V.ref a), some (V.ref p), x2, none, none] ∧ Pen H' p pl (500 * i) ∧ Tabs TS H') ⟨_, rfl, hp1, ht.ext s1⟩ ?_ ?_⟩
    · rintro i σ1 H2 hi ⟨x2, rfl, hp2, ht2⟩
      have hi5 : i < 10 := hi
      dsimp only [gName]
      refine ifs_no (fun H' => Pen H' p pl (500 * i + 500) ∧ Tabs TS H') (fun H3 ⟨hp3, ht3⟩ => ⟨_, rfl, hp3.more (by omega), ht3⟩) (fun QQ go => ?_)
      exact ⟨_, rfl, p, pl, _, rfl, hp2, by omega, fun H3 hp3 k3 => ⟨_, rfl, go _ ⟨hp3.more (by omega), Lw.Tabs.kp ht2 hp2 k3⟩⟩⟩
    · rintro σ1 H2 ⟨x2, rfl, hp2, ht2⟩
      clear hp1 s1 hs ht
      dsimp only [gName, tSeq]
      have o4 : (Rl.fx 4).Ok := ⟨by decide, by decide⟩
      have o30 : (Rl.fx (10 ^ (30 : Int).toNat)).Ok := ⟨by decide, by decide⟩
      have o112 : (Rl.dv 1 1 2).Ok := ⟨by decide, by decide, by decide, by decide, by decide, by decide⟩
      have o0 : (Rl.dv 0 (-1000) 24).Ok := ⟨by decide, by decide, by decide, by decide, by decide, by decide⟩
      have oA : (Rl.lo (.fx 4) (.dv 1 1 2)).Ok := ⟨o4, o112, by decide, by decide⟩
      have oB : (Rl.hi (.dv 0 (-1000) 24) (.fx (10 ^ (30 : Int).toNat))).Ok := ⟨o0, o30, by decide, by decide⟩
      refine fun x d hx hd n => fx_ok (by decide) (by decide) hx hd n fun Ha sa fa => fun x d hx hd n => dv_ok (by decide) (by decide) (by decide) (by decide) (by decide) (by decide) hx hd n fun Hb sb fb => rp_join (s := .fx 4) (t := .dv 1 1 2) (fa.on sb) fb o4 o112 (by decide) (by decide) fun zA Hc sc nc rA => ?_
      obtain ⟨dA, fA, _, _, hA, _⟩ := rA.has oA
      refine ⟨zA, _, dA, fA, rfl, Rk.of (.lo (.fx 4) (.dv 1 1 2)), hA, zA, _, rfl, rfl, rA, oA, by decide, _, rfl, ?_⟩
      refine ⟨_, rfl, fun x d hx hd n => dv_ok (by decide) (by decide) (by decide) (by decide) (by decide) (by decide) hx hd n fun Hd sd fd_ => ?_⟩
      refine ⟨_, _, rfl, rfl, (by unfold CPow; decide), fun x d hx hd n => fx_ok (by decide) (by decide) hx hd n fun He se fe => rp_join (s := .dv 0 (-1000) 24) (t := .fx (10 ^ (30 : Int).toNat)) (fd_.on se) fe o0 o30 (by decide) (by decide) fun zB Hf sf nf rB => ?_⟩
      obtain ⟨dB, fB_, _, _, hB, _⟩ := rB.has oB
      refine ⟨zB, _, dB, fB_, rfl, Rk.of (.hi (.dv 0 (-1000) 24) (.fx (10 ^ (30 : Int).toNat))), hB, zB, _, rfl, rfl, rB, oB, by decide, _, rfl, ?_⟩
      refine ⟨(by show 2 ≤ sizeLine; decide), fun ql hq => ?_⟩
      have sx := ((((sa.trans sb).trans sc).trans sd).trans se).trans sf
      have ht3 := (ht2.ext sx).ext (same_new (o := HO.lst [V.str (S (Rl.lo (.fx 4) (.dv 1 1 2)).tx), V.str (S (Rl.hi (.dv 0 (-1000) 24) (.fx (10 ^ (30 : Int).toNat))).tx)]) hq)
      have hq1 : upd Hf ql (.lst [V.str (S (Rl.lo (.fx 4) (.dv 1 1 2)).tx), V.str (S (Rl.hi (.dv 0 (-1000) 24) (.fx (10 ^ (30 : Int).toNat))).tx)]) ql = _ := upd_same
      generalize upd Hf ql _ = Hg at ht3 hq1 ⊢
      clear sx sa sb sc sd se sf fa fb fd_ fe rA rB hA hB nc nf hq
      dsimp only [gName, tSeq, List.set]
      refine ⟨_, rfl, .inl ⟨rfl, _, SqL.of hq1⟩, ht3, fun g1 H3 x3 t3 n3 => ?_⟩
      refine fun x dx hx hdx ne => by_ok hx hdx ne fun H4 s4 by4 => ?_
      obtain ⟨d4_, p4, hb4, hp4⟩ := id by4
      have hq3 : H3 ql = _ := x3 _ _ hq1 (fun _ z => by cases z)
      have hq4 := s4 _ _ (same_new (o := FnO g1) n3 _ _ hq3)
      refine ⟨x, d4_, _, rfl, hb4, rfl, _, rfl, ql, _, _, rfl, rfl, hq4, (by show 2 < sizeLine; decide), ?_⟩
      clear hp4 by4 hb4 hq3 hq1 s4 t3 x3 n3 hx hdx ne hq4
      have hq5 : upd H4 ql (.lst ([V.str (S (Rl.lo (.fx 4) (.dv 1 1 2)).tx), V.str (S (Rl.hi (.dv 0 (-1000) 24) (.fx (10 ^ (30 : Int).toNat))).tx)] ++ [V.str (Str.ofString "by")])) ql = some (.lst [V.str (S (Rl.lo (.fx 4) (.dv 1 1 2)).tx), V.str (S (Rl.hi (.dv 0 (-1000) 24) (.fx (10 ^ (30 : Int).toNat))).tx), V.str (Str.ofString "by")]) := upd_same
      generalize upd H4 ql _ = H5 at hq5 ⊢
      dsimp only [gName, tSeq, List.set]
      have dA : ∀ {H' : Hp}, H' ql = some (.lst [V.str (S (Rl.lo (.fx 4) (.dv 1 1 2)).tx), V.str (S (Rl.hi (.dv 0 (-1000) 24) (.fx (10 ^ (30 : Int).toNat))).tx), V.str (Str.ofString "by")]) → Dp K H' (.ref ql) (.list [.str (S (Rl.lo (.fx 4) (.dv 1 1 2)).tx), .str (S (Rl.hi (.dv 0 (-1000) 24) (.fx (10 ^ (30 : Int).toNat))).tx), .str (Str.ofString "by")]) := fun h => .lst (SqL.of h) (.cons (.str _) (.cons (.str _) (.cons (.str _) .nil)))
      have ev : PyData.eqv (.list [.str (S (Rl.lo (.fx 4) (.dv 1 1 2)).tx), .str (S (Rl.hi (.dv 0 (-1000) 24) (.fx (10 ^ (30 : Int).toNat))).tx), .str (Str.ofString "by")]) (.list [.str (Str.ofString "( fixed 4 & divided 1 1 2 )"), .str ((Str.ofString "( divided 0 -1000 24 | fixed 1" ++ S (List.replicate (30 : Int).toNat [48]).flatten) ++ Str.ofString " )"), .str (Str.ofString "by")]) = true := by decide +kernel
      have sh1 : SeqAt.shaped (.list [.str (S (Rl.lo (.fx 4) (.dv 1 1 2)).tx), .str (S (Rl.hi (.dv 0 (-1000) 24) (.fx (10 ^ (30 : Int).toNat))).tx), .str (Str.ofString "by")]) = true := by decide +kernel
      have sh2 : SeqAt.shaped (.list [.str (Str.ofString "( fixed 4 & divided 1 1 2 )"), .str ((Str.ofString "( divided 0 -1000 24 | fixed 1" ++ S (List.replicate (30 : Int).toNat [48]).flatten) ++ Str.ofString " )"), .str (Str.ofString "by")]) = true := by decide +kernel
      refine ⟨_, rfl, ⟨[48], 30, rfl, rfl, by decide, by decide, by decide, ?_⟩⟩
      refine ⟨_, _, rfl, rfl, (by decide +kernel), ?_⟩
      refine ⟨_, _, rfl, rfl, (by decide +kernel), ?_⟩
      refine ⟨(by show 3 ≤ sizeLine; decide), fun q2 hq2 => ?_⟩
      have s6 := same_new (o := HO.lst [V.str (Str.ofString "( fixed 4 & divided 1 1 2 )"), V.str ((Str.ofString "( divided 0 -1000 24 | fixed 1" ++ S (List.replicate (30 : Int).toNat [48]).flatten) ++ Str.ofString " )"), V.str (Str.ofString "by")]) hq2
      refine ⟨_, _, dA (s6 _ _ hq5), .lst (SqL.of upd_same) (.cons (.str _) (.cons (.str _) (.cons (.str _) .nil))), sh1, sh2, _, rfl, iteF' (by rw [ev]; rfl) ?_⟩
      clear dA ev sh1 sh2 hq5
      dsimp only [tNext]
      generalize upd H5 q2 _ = H6 at s6 ⊢
      clear s6 hq2
      have e1 : [V.str (Str.ofString "fixed 7")] = [V.str (S (Rl.fx 7).tx)] := by decide +kernel
      have e2 : [V.str (Str.ofString "divided 24 -5 1")] = [V.str (S (Rl.dv 24 (-5) 1).tx)] := by decide +kernel
      have e3 : [V.str (Str.ofString "( fixed 1 & fixed 1 )")] = [V.str (S (Rl.lo (.fx 1) (.fx 1)).tx)] := by decide +kernel
      have e4 : [V.str (Str.ofString "( fixed 1 | fixed 2 )")] = [V.str (S (Rl.hi (.fx 1) (.fx 2)).tx)] := by decide +kernel
      have o1 : (Rl.fx 1).Ok := ⟨by decide, by decide⟩
      have o2 : (Rl.fx 2).Ok := ⟨by decide, by decide⟩
      have o7 : (Rl.fx 7).Ok := ⟨by decide, by decide⟩
      have oV : (Rl.dv 24 (-5) 1).Ok := ⟨by decide, by decide, by decide, by decide, by decide, by decide⟩
      have oL : (Rl.lo (.fx 1) (.fx 1)).Ok := ⟨o1, o1, by decide, by decide⟩
      have oG : (Rl.hi (.fx 1) (.fx 2)).Ok := ⟨o1, o2, by decide, by decide⟩
      refine ⟨rfl, .fx 7, e1, o7, fun r1 H7 s7 ra1 => ?_⟩
      refine ⟨rfl, .dv 24 (-5) 1, e2, oV, fun r2 H8 s8 ra2 => ?_⟩
      refine ⟨rfl, .lo (.fx 1) (.fx 1), e3, oL, fun r3 H9 s9 ra3 => ?_⟩
      refine ⟨(by show 3 ≤ sizeLine; decide), fun q3 hq3 => ?_⟩
      have sA := same_new (o := HO.lst [V.ref r1, V.ref r2, V.ref r3]) hq3
      have hA1 : upd H9 q3 (.lst [V.ref r1, V.ref r2, V.ref r3]) q3 = _ := upd_same
      have ra1 := ra1.on ((s8.trans s9).trans sA)
      have ra2 := ra2.on (s9.trans sA)
      have ra3 := ra3.on sA
      generalize upd H9 q3 _ = HA at sA hA1 ra1 ra2 ra3 ⊢
      clear s7 s8 s9 sA hq3
      dsimp only [gName, tSeq, List.set]
      refine ⟨_, rfl, .inl ⟨rfl, _, SqL.of hA1⟩, rfl, .hi (.fx 1) (.fx 2), e4, oG, fun r4 HB sB ra4 => ?_⟩
      have hB1 := sB _ _ hA1
      refine ⟨q3, _, _, rfl, rfl, hB1, (by show 3 < sizeLine; decide), ?_⟩
      have tr := tr_lst (ys := [V.ref r1, V.ref r2, V.ref r3] ++ [V.ref r4]) hB1
      have ra1 := (ra1.on sB).tr tr
      have ra2 := (ra2.on sB).tr tr
      have ra3 := (ra3.on sB).tr tr
      have ra4 := ra4.tr tr
      have hC : upd HB q3 (.lst ([V.ref r1, V.ref r2, V.ref r3] ++ [V.ref r4])) q3 = some (.lst [V.ref r1, V.ref r2, V.ref r3, V.ref r4]) := upd_same
      generalize upd HB q3 _ = HC at ra1 ra2 ra3 ra4 hC ⊢
      clear sB hB1 hA1 tr
      dsimp only [gName, tSeq, List.set]
      obtain ⟨x1, y1, i1, j1⟩ := id ra1
      obtain ⟨x2', y2, i2, j2⟩ := id ra2
      refine ⟨_, rfl, q3, _, 0, _, rfl, rfl, SqL.of hC, rfl, r1, FC, x1, _, _, rfl, i1, Z.F.cl, Z.F.n1, fxP_size _ _, ?_⟩
      refine ⟨_, rfl, q3, _, 1, _, rfl, rfl, SqL.of hC, rfl, r2, VC, x2', _, _, rfl, i2, Z.V.cl, Z.V.n1, dvP_x _ _ _ _, ?_⟩
      refine ⟨_, rfl, q3, _, 1, _, rfl, rfl, SqL.of hC, rfl, r2, VC, x2', _, _, rfl, i2, Z.V.cl, Z.V.n2, dvP_y _ _ _ _, ?_⟩
      refine ⟨_, rfl, q3, _, 1, _, rfl, rfl, SqL.of hC, rfl, r2, VC, x2', _, _, rfl, i2, Z.V.cl, Z.V.n3, dvP_w _ _ _ _, ?_⟩
      refine ⟨(by show 4 ≤ sizeLine; decide), fun qa ha => ?_⟩
      refine ⟨_, rfl, (by show 4 ≤ sizeLine; decide), fun qb hb => ?_⟩
      have sa := same_new (o := HO.lst [V.int 7, V.int 24, V.int (-5), V.int 1]) ha
      have sb := same_new (o := HO.lst [V.int 7, V.int 24, V.int (-5), V.int 1]) hb
      have c4 : ∀ {H' : Hp}, DpAll K H' [V.int 7, V.int 24, V.int (-5), V.int 1] [PyData.int 7, .int 24, .int (-5), .int 1] := fun {H'} => .cons (.int _) (.cons (.int _) (.cons (.int _) (.cons (.int _) .nil)))
      have ev : PyData.eqv (.list [PyData.int 7, .int 24, .int (-5), .int 1]) (.list [PyData.int 7, .int 24, .int (-5), .int 1]) = true := by decide +kernel
      have hq : upd HC qa (HO.lst [V.int 7, V.int 24, V.int (-5), V.int 1]) qa = some (.lst [V.int 7, V.int 24, V.int (-5), V.int 1]) := upd_same
      refine ⟨_, _, .lst (SqL.of (sb _ _ hq)) c4, .lst (SqL.of upd_same) c4, by decide +kernel, by decide +kernel, _, rfl, iteF' (by rw [ev]; rfl) ?_⟩
      have hD := (sa.trans sb) _ _ hC
      have ra1 := ra1.on (sa.trans sb)
      have ra2 := ra2.on (sa.trans sb)
      have ra3 := ra3.on (sa.trans sb)
      have ra4 := ra4.on (sa.trans sb)
      have kt : ∀ s : Rl, PySem.W.kitOne K (.ref (s.cls FC VC LC GC)) (.ref (s.cls FC VC LC GC)) = some true := fun s => by rw [Z.kit _ _ (Rk.of s) (Rk.of s), decide_eq_true rfl]
      refine ⟨_, rfl, q3, _, 2, _, rfl, rfl, SqL.of hD, rfl, _, .ref LC, _, .ref LC, true, rfl, .own LC, Z.tz ra3 oL, kt (.lo (.fx 1) (.fx 1)), _, rfl, iteF' rfl ?_⟩
      dsimp only [tNext]
      refine ⟨_, rfl, q3, _, 3, _, rfl, rfl, SqL.of hD, rfl, _, .ref GC, _, .ref GC, true, rfl, .own GC, Z.tz ra4 oG, kt (.hi (.fx 1) (.fx 2)), _, rfl, iteT' rfl ?_⟩
      refine ⟨_, rfl, q3, _, 0, _, rfl, rfl, SqL.of hD, rfl, _, .ref FC, _, .ref FC, true, rfl, .own FC, Z.tz (t := .fx 7) ra1 o7, kt (.fx 7), _, rfl, iteT' rfl ?_⟩
      exact ⟨_, rfl, q3, _, 1, _, rfl, rfl, SqL.of hD, rfl, _, .ref VC, _, .ref VC, true, rfl, .own VC, Z.tz (t := .dv 24 (-5) 1) ra2 oV, kt (.dv 24 (-5) 1), k _⟩
end
end Lw
namespace Lw
open PySem PySem.Spec PyProof.Rows L2
open LamX
/-! ### the call of the law where nothing is being shown, with tables of code objects -/
/-- what is tracked when the law is entered: the tables, and the script unless it is written -/
def Entry (K : PySem.W.Frag) (h : Heap) (a : Addr) (Bs : List Addr) (ns : List Int) (H : Hp) : Prop :=
  (∀ B ∈ Bs, H B = some (.tbl #[])) ∧ SqL K H a (ns.map V.int) ∧ (∀ b u, H b = some u → (b ∈ Bs ∧ u = .tbl #[]) ∨ (b = a ∧ K.lookup a = none ∧ ∃ o xs, u = .frz o (.lst xs) ∧ h.get? a = some o))
theorem entry {P : Program} {w : World} {K : PySem.W.Frag} {h : Heap} {a : Addr} {Bs : List Addr} {vs : List Value} {ns : List Int} (KX : K.In h) (hT : ∀ B ∈ Bs, h.get? B = some { cls := .none, data := .fields #[] }) (ha : h.get? a = some { cls := .type "list", data := .seq vs.toArray }) (hi : IntsAre vs ns) (hl : ns.length ≤ sizeLine) :
    a ∉ Bs ∧ ∃ H, Entry K h a Bs ns H ∧ HOk P w H h := by
  have rv := vals_ints hi
  have lv := hi.length
  have ne : a ∉ Bs := fun e => by
    have hT := hT a e
    rw [ha] at hT
    have z : Data.seq vs.toArray _ = Data.fields #[] := congrArg Obj.data (Option.some.inj hT)
    cases z
  refine ⟨ne, ?_⟩
  cases hk : K.lookup a with
  | some o =>
    have e := KX a o hk
    rw [ha] at e
    cases e
    refine ⟨fun b => if b ∈ Bs then some (.tbl #[]) else none, ⟨fun B hB => if_pos hB, .inr ⟨_, vs.toArray, _, hk, rfl, rfl, rfl, by rw [List.size_toArray, lv]; exact hl, by simpa using rv⟩, fun b u z => ?_⟩, fun b u z => ?_⟩
    · by_cases q : b ∈ Bs
      · exact .inl ⟨q, (Option.some.inj ((if_pos q).symm.trans z)).symm⟩
      · cases (if_neg q).symm.trans z
    · by_cases q : b ∈ Bs
      · cases (if_pos q).symm.trans z
        exact hT b q
      · cases (if_neg q).symm.trans z
  | none =>
    refine ⟨fun b => if b ∈ Bs then some (.tbl #[]) else if b = a then some (.frz { cls := .type "list", data := .seq vs.toArray } (.lst (ns.map V.int))) else none,
      ⟨fun B hB => if_pos hB, .inl (.inr ⟨_, (if_neg ne).trans (if_pos rfl)⟩), fun b u z => ?_⟩, fun b u z => ?_⟩
    · by_cases q : b ∈ Bs
      · exact .inl ⟨q, (Option.some.inj ((if_pos q).symm.trans z)).symm⟩
      · have z2 := (if_neg q).symm.trans z
        by_cases q2 : b = a
        · exact .inr ⟨q2, hk, _, _, (Option.some.inj ((if_pos q2).symm.trans z2)).symm, ha⟩
        · cases (if_neg q2).symm.trans z2
    · by_cases q : b ∈ Bs
      · cases (if_pos q).symm.trans z
        exact hT b q
      · have z2 := (if_neg q).symm.trans z
        by_cases q2 : b = a
        · cases (if_pos q2).symm.trans z2
          rw [q2]
          exact ⟨ha, by rw [List.length_map]; exact hl, vs, _, rv, ha⟩
        · cases (if_neg q2).symm.trans z2
theorem law_end {P : Program} {w : World} {K : PySem.W.Frag} {mg mb : Str → Option Value} {k : Nat} {fa a : Addr} {Bs : List Addr} {fd : FuncData} {x : Str} {sp : Sp} {s₁ : Shared} {vs : List Value} {ns : List Int}
    (KX : K.In s₁.heap) (hns : s₁.heap.Ns mainGlobals mg) (hb : s₁.heap.Ns builtinsNs mb) (hbb : ∀ x : Str, x ≠ "__name__" → mb x = bootBuiltins x) (hlim : s₁.heap.NoLimit) (hg : s₁.gens = #[])
    (hT : ∀ B ∈ Bs, s₁.heap.get? B = some { cls := .none, data := .fields #[] }) (nT : ∀ B ∈ Bs, K.lookup B = none) (C : ∀ B ∈ Bs, ∃ c, PySem.W.CodeHd s₁.heap c B)
    (hbm : ∃ (bm : Addr) (ob : Obj), mg "__builtins__" = some (.ref bm) ∧ bm ≠ builtinsNs ∧ s₁.heap.get? bm = some ob ∧ ob.cls = .type "module" ∧ ob.dict = some builtinsNs ∧ ob.data = .plain)
    (ha : s₁.heap.get? a = some { cls := .type "list", data := .seq vs.toArray }) (hi : IntsAre vs ns) (hl : ns.length ≤ sizeLine) (hr : Room k callerA)
    (F : ∀ base : Heap, K.In base → base.Ns mainGlobals mg → (∀ B ∈ Bs, ∀ c, PySem.W.CodeHd s₁.heap c B → TabB base mg c B) → FnG P w K mg base k fa fd [x] sp) (hbind : ∀ (s : Shared) (u : Value), BindsTo s fd ⟨[u], []⟩ [(x, u)])
    (hsp : ∀ H : Hp, (∀ B ∈ Bs, H B = some (.tbl #[])) → SqL K H a (ns.map V.int) → sp [.ref a] H (fun v _ => v = .bl true) C8.E0) :
    codeAny (model P w) callerA (.call (.ref fa) ⟨[.ref a], []⟩) (fun r s' => r = .ok (.ret (.bool true)) ∧ OldK s₁.heap s'.heap ∧ s'.os = s₁.os ∧ AllBare s'.gens) s₁ := by
  obtain ⟨ne, H, ⟨hB, hS, hA⟩, hok⟩ := entry (P := P) (w := w) KX hT ha hi hl
  -- what is neither a table nor the script is untracked
  have free : ∀ {b : Addr} {o : Obj}, s₁.heap.get? b = some o → (∀ vs n, o.data ≠ .seq vs n) → o.data ≠ .fields #[] → H b = none := fun {b o} e h1 h2 => by
    cases q : H b with
    | none => rfl
    | some u =>
      rcases hA b u q with ⟨e', _⟩ | ⟨e', _⟩
      · rw [hT b e'] at e
        cases e
        exact absurd rfl h2
      · rw [e', ha] at e
        cases e
        exact absurd rfl (h1 _ _)
  have through : ∀ {b : Addr} {o : Obj}, s₁.heap.get? b = some o → H b = none → (hidT s₁.heap H).get? b = some o := fun e n => hidT_get e n
  have nsT : ∀ {b : Addr} {m : Str → Option Value}, s₁.heap.Ns b m → (hidT s₁.heap H).Ns b m := fun {b m} ⟨o, es, ep, e, d, r⟩ => by
    refine ⟨o, es, ep, through e (free e (fun vs n z => ?_) fun z => ?_), d, r⟩ <;> · rw [d] at z; cases z
  have inT : K.In (hidT s₁.heap H) := fun b o e => by
    refine through (KX b o e) ?_
    cases q : H b with
    | none => rfl
    | some u =>
      rcases hA b u q with ⟨e', _⟩ | ⟨e', n, _⟩
      · rw [nT b e'] at e; cases e
      · rw [e', n] at e; cases e
  have modT : L2.Mod K mg (hidT s₁.heap H) := by
    obtain ⟨mc, h1, h2⟩ := hlim
    exact ⟨inT, nsT hns, ⟨mb, nsT hb, hbb⟩, ⟨mc, nsT h1, h2⟩⟩
  have tabT : ∀ B ∈ Bs, ∀ c, PySem.W.CodeHd s₁.heap c B → TabB (hidT s₁.heap H) mg c B := fun B hBs c C => by
    refine ⟨?_, ?_, fun z => ?_⟩
    · obtain ⟨o, us, file, tf, flags, tg, inF, text, tt, e1, r1, r2, r3, r4⟩ := C
      refine ⟨o, us, file, tf, flags, tg, inF, text, tt, through e1 (free e1 (fun vs n z => ?_) fun z => ?_), r1, r2, r3, r4⟩
      · rw [r2] at z; cases z
      · rw [r2] at z; cases z
        simp at r3
    · obtain ⟨bm, ob, b1, b2, b3, b4, b5, b6⟩ := hbm
      refine ⟨bm, ob, b1, b2, fun q => ?_, fun q => ?_, through b3 (free b3 (fun vs n z => ?_) fun z => ?_), b4, b5, b6⟩
      · obtain ⟨o, es, ep, e, d, _⟩ := hns
        rw [q, e] at b3
        cases b3
        rw [d] at b6
        cases b6
      · rw [q, hT B hBs] at b3
        cases b3
        cases b6
      · rw [b6] at z; cases z
      · rw [b6] at z; cases z
    · obtain ⟨o, es, ep, e, d, _⟩ := hns
      rw [z, hT B hBs] at e
      cases e
      cases d
  have e0 : Env0 P w K mg (hidT s₁.heap H) callerA [] s₁ H := ⟨rfl, modT, fun b o e => of_hidT e, Nat.le_of_eq (hidT_size _ _), trivial, fun b hb => absurd (show b ∈ ([] : List Addr) from hb) (by simp), hok, .of_eq hg⟩
  refine codeAny_mono ((F _ inT (nsT hns) tabT).run callerA [] s₁ H ⟨[.ref a], []⟩ [.ref a] [.ref a] _ _ rfl hr e0 (hbind s₁ (.ref a)) (.cons rfl .nil) (hsp H hB hS)) fun r s' q => ?_
  match r, q with
  | .error e, q => exact (show False from q).elim
  | .ok .next, q => exact (show False from q).elim
  | .ok .brk, q => exact (show False from q).elim
  | .ok .cont, q => exact (show False from q).elim
  | .ok (.ret u), q =>
    obtain ⟨v, H', os, bare, un, hok', r', qv⟩ := q
    have qv' : v = .bl true := qv
    subst qv'
    obtain rfl : u = Value.bool true := r'
    have same : ∀ b o, b ∉ Bs → s₁.heap.get? b = some o → s'.heap.get? b = some o := fun b o nb e => by
      cases q : H b with
      | none => exact un.keep b o e q (by intro z; exact absurd (show b ∈ ([] : List Addr) from z) (by simp)) (by simp)
      | some u =>
        rcases hA b u q with ⟨z, _⟩ | ⟨e', _, ob, xs, rfl, hob⟩
        · exact absurd z nb
        · obtain ⟨e2, _⟩ := hok' b _ (un.frzs b ob _ q)
          rw [e', hob] at e
          cases e
          exact e2
    refine ⟨rfl, ⟨fun b o e => ?_, fun b o e => ?_⟩, os, bare⟩
    · by_cases hb : b ∈ Bs
      · obtain ⟨more, hmore⟩ := un.tbls b #[] (hB b hb)
        have atB := hok' b _ hmore
        obtain ⟨c, C⟩ := C b hb
        have hT := hT b hb
        rw [hT] at e
        cases e
        exact .inr (.inl ⟨(C.tab hT).isCodeTable, rfl, #[], _, rfl, atB⟩)
      · exact .inl (same b o hb e)
    · by_cases hb : b ∈ Bs
      · obtain ⟨more, hmore⟩ := un.tbls b #[] (hB b hb)
        exact ⟨_, hok' b _ hmore⟩
      · exact ⟨o, same b o hb e⟩
theorem tabIn_of {K : PySem.W.Frag} {x : Str} {f c B : Addr} {oc occ : Value} {od odc : Option Addr} {fd : FuncData} {sl slc : Array (Option Value)} {us : Array Value} (h1 : PySem.W.nsIn K mainGlobals x = some (some (.ref f))) (h2 : K.lookup f = some ⟨oc, od, .func fd, sl⟩) (hc : fd.code = .ref c)
    (h3 : K.lookup c = some ⟨occ, odc, .fields us, slc⟩) (h4 : us[11]? = some (.ref B)) : PySem.W.tabIn K x = some (c, B) := by
  unfold PySem.W.tabIn
  rw [h1]
  dsimp only
  rw [h2]
  dsimp only
  rw [hc]
  dsimp only
  rw [h3]
  dsimp only
  rw [h4]
/-- the walk's end, with any number of tables of code objects (tb: the def's name, its code object, its table) -/
theorem walk_endL {l : PySem.W.OpenLaw} {n k : Nat} {q : Program} {loose : List Str} {XP : (Str → Option Value) → Heap → Prop} {YP : World → Heap → Prop} {d : DefRec} {K : Params → PySem.W.Frag} {x : Str} {xts : List Str}
    (hn : l.most = some n) (hn2 : n ≤ 63) (hdf : d.params.defaults = []) (hr : Room k callerA) (hY : ∀ (w : World) (h : Heap), YP w h → (K w.params).In h) (hrec : (xts.all fun xt => ((recsOf q).find? fun e => e.name == xt).isSome) = true)
    (F : ∀ (w : World) (mg : Str → Option Value) (fa : Addr) (h : Heap), (K w.params).In h → h.Ns mainGlobals mg → mg d.name = some (.ref fa) → ∃ (fd : FuncData) (tb : List (Str × Addr × Addr)) (sp : Sp), (∀ e ∈ tb, e.1 ∈ xts ∧ PySem.W.tabIn (K w.params) e.1 = some (e.2.1, e.2.2) ∧ (K w.params).lookup e.2.2 = none) ∧ (∀ (s : Shared) (u : Value), BindsTo s fd ⟨[u], []⟩ [(x, u)]) ∧
      (∀ base : Heap, (K w.params).In base → base.Ns mainGlobals mg → (∀ e ∈ tb, TabB base mg e.2.1 e.2.2) → FnG l.prog w (K w.params) mg base k fa fd [x] sp) ∧
      ∀ (H : Hp) (a : Addr) (ns : List Int), (∀ e ∈ tb, H e.2.2 = some (.tbl #[])) → SqL (K w.params) H a (ns.map V.int) → ns.length ≤ 63 → sp [.ref a] H (fun v _ => v = .bl true) C8.E0) :
    PySem.W.WalkO q loose XP YP l.row.toRowW d [] (fun f vs => PySem.call f vs) := by
  refine Att.attach_callB hn hdf fun w s₀ s₁ mg mb fa o pm cd doc a vs ns G Y ho hd hcd hmg hobj hints hlen hbits hg => ?_
  have KX := hY w _ Y
  obtain ⟨fd, tb, sp, ht, hb, hF, hsp⟩ := F w mg fa _ KX G.T.g hmg
  have tab : ∀ e ∈ tb, PySem.W.CodeHd s₁.heap e.2.1 e.2.2 ∧ s₁.heap.get? e.2.2 = some { cls := .none, data := .fields #[] } := fun e he => by
    obtain ⟨h1, h2, h3⟩ := ht e he
    obtain ⟨dr, hdr⟩ := Option.isSome_iff_exists.mp (List.all_eq_true.mp hrec _ h1)
    exact PySem.W.tab_of G.T KX hdr h2
  have mem : ∀ {p : Addr → Prop}, (∀ e ∈ tb, p e.2.2) → ∀ b ∈ tb.map (·.2.2), p b := fun {p} h b hb => by
    obtain ⟨e, he, rfl⟩ := List.mem_map.mp hb
    exact h e he
  exact law_end (Bs := tb.map (·.2.2)) KX G.T.g G.T.b G.T.builtins G.T.nolimit hg (mem fun e he => (tab e he).2) (mem fun e he => (ht e he).2.2) (mem fun e he => ⟨_, (tab e he).1⟩) G.T.bmain hobj hints (Nat.le_trans (Nat.le_trans hlen hn2) (by decide)) hr
    (fun base kin ns' tbb => hF base kin ns' fun e he => tbb e.2.2 (List.mem_map.mpr ⟨e, he, rfl⟩) e.2.1 (tab e he).1) hb fun H hB hS => hsp H a ns (fun e he => hB e.2.2 (List.mem_map.mpr ⟨e, he, rfl⟩)) hS (Nat.le_trans hlen hn2)
end Lw
namespace Lw
open PySem PySem.Spec PyProof.Rows L2

open LamX ClX StX
set_option pp.maxSteps 900
def tab1 (B0 : Addr) : List (Addr × Str) := [(B0, ((("law" : Str) ++ (".<locals>." : Str)) ++ ("<lambda>" : Str)))]
theorem tab1_0 {B0 : Addr} : TabOf (tab1 B0) B0 "law" := ⟨by simp [tab1], fun p hp e => by
  simp only [tab1, List.mem_cons, List.not_mem_nil, or_false] at hp
  subst hp
  rfl⟩
theorem kb_same {K : PySem.W.Frag} {x q : Str} {st : Stmt} {f : Addr} {fd : FuncData} {ps ks : List Str} (F : C8.Fun K x q st f fd) (df : fd.defaults = .none) (h : ∀ (kV doc pm : Value) (an : Option Addr) (cdv ct : Value) (us ws : List Value), us.length = 0 → ws.length = ks.length → bindArgs (PySem.W.fnOf x q (C8.fnArgs st) (C8.fnBody st) (C8.fnScope st) .none kV doc pm an cdv ct) ⟨us, ks.zip ws⟩ = pure (ps.zip ws)) :
    KBn K fd ps 0 ks (fun _ ws => ws) (fun _ zs => zs) := by
  obtain ⟨oc, od, dV, kV, doc, pm, an, cdv, ct, osl, rfl, lk, hcd⟩ := F.ex
  have e : dV = .none := df
  subst e
  exact ⟨fun s us ws X h1 h2 => .of_eq (h kV doc pm an cdv ct us ws h1 h2), fun r1 r2 => r2⟩
abbrev sBruE : Stmt := inClass (top 11) 0
theorem scBruE : FnScope ["self", "part"] ["self", "part"] (C8.fnScope sBruE) := C8.fnScope_by (by decide +kernel)
theorem fn_BruE {P : Program} {w : World} {K : PySem.W.Frag} {mg : Str → Option Value} {base : Heap} {C f : Addr} {fd : FuncData} (F : C8.Fun K "__init__" "BadRule.__init__" sBruE f fd) (T : OexC K C) (no1 : PySem.W.findIn K (.ref C) "part" = some none) : FnOk P w K mg base C8.CX0 1 f fd ["self", "part"] (spE1 C "part") := by
  refine C8.fn0 F scBruE (fun vs H Q E h => ?_) (fun cdv A outer st H vs Q E hr h => ?_)
  · obtain ⟨a, v1, rfl, _⟩ := h
    rfl
  · obtain ⟨a, v1, rfl, ha, k⟩ := h
    refine ⟨_, (pss_one (ps_ost (pv 0) (pv 1))), ?_⟩
    exact ⟨_, rfl, _, rfl, a, C, rfl, T, no1, .inl ⟨ha, fun dx h1 h2 => k dx h1 h2 _ (by rw [lookup_put, if_pos rfl])⟩⟩
abbrev sBszE : Stmt := inClass (top 9) 0
theorem scBszE : FnScope ["self", "value"] ["self", "value"] (C8.fnScope sBszE) := C8.fnScope_by (by decide +kernel)
theorem fn_BszE {P : Program} {w : World} {K : PySem.W.Frag} {mg : Str → Option Value} {base : Heap} {C f : Addr} {fd : FuncData} (F : C8.Fun K "__init__" "BadSize.__init__" sBszE f fd) (T : OexC K C) (no1 : PySem.W.findIn K (.ref C) "value" = some none) : FnOk P w K mg base C8.CX0 1 f fd ["self", "value"] (spE1 C "value") := by
  refine C8.fn0 F scBszE (fun vs H Q E h => ?_) (fun cdv A outer st H vs Q E hr h => ?_)
  · obtain ⟨a, v1, rfl, _⟩ := h
    rfl
  · obtain ⟨a, v1, rfl, ha, k⟩ := h
    refine ⟨_, (pss_one (ps_ost (pv 0) (pv 1))), ?_⟩
    exact ⟨_, rfl, _, rfl, a, C, rfl, T, no1, .inl ⟨ha, fun dx h1 h2 => k dx h1 h2 _ (by rw [lookup_put, if_pos rfl])⟩⟩
abbrev sSize : Stmt := top 6
section
variable {P : Program} {w : World} {K : PySem.W.Frag} {mg : Str → Option Value} {base : Heap}
theorem scSize : FnScope ["value"] ["value"] (C8.fnScope sSize) := C8.fnScope_by (by decide +kernel)
theorem cal_sz {f : Addr} {fd : FuncData} (F : C8.Def K mg "is_size" sSize f fd) (b : Binds K fd ["value"] []) (hGS : ∃ t, mg "GREATEST_SIZE" = some (.int (10 ^ 30) t)) (DW : C8.Cal P w K mg base 2 "is_within" (spWithin K) []) : C8.Cal P w K mg base 3 "is_size" (spSize K) [] := by
  obtain ⟨tf, hGS⟩ := hGS
  refine C8.cal0 F b .nil scSize (fun vs H Q E h => ?_) (fun cdv A outer st H vs Q E hr h => ?_)
  · obtain ⟨x, rfl, _⟩ := h
    rfl
  · obtain ⟨x, rfl, ax, k⟩ := h
    refine ⟨_, (pss_one (ps_ret (C8.pe_c DW hr (by decide) (by rfl) (pa_cons (pv 0) (pa_cons pe_int (pa_cons (pe_glob (v := .int (10 ^ 30)) rfl hGS ⟨_, rfl⟩) pa_nil)))))), ?_⟩
    exact ⟨_, rfl, x, _, _, rfl, ax, k⟩
theorem cal_mad {FC VC LC GC DU DS DM_ fF fD f : Addr} {fdF fdD fd : FuncData} (F : C8.Def K mg "_law_made" sMad f fd) (b : Binds K fd ["_law_plain_here"] []) (Z : RlZ K mg FC VC LC GC) (FM : FixM P w K mg base FC DS fF fdF) (DM : DivM P w K mg base VC DU fD fdD)
    (LA : MetP P w K mg base 7 (Rk FC VC LC GC) (PySem.dunder "and") (fun _ => spAn K FC VC LC GC DU DM_ .lo)) (OA : OpP K (Rk FC VC LC GC) .BitAnd) (LO : MetP P w K mg base 7 (Rk FC VC LC GC) (PySem.dunder "or") (fun _ => spAn K FC VC LC GC DU DM_ .hi)) (OO : OpP K (Rk FC VC LC GC) .BitOr) :
    ∀ n, C8.Cal P w K mg base (8 + n) "_law_made" (spMd FC VC LC GC n) []
  | 0 => ⟨f, fd, _, [], ⟨fun vs H Q E ⟨_, t, _, _, _, h, _⟩ => absurd h (by have := Rl.cnt_pos t; omega), fun _ _ _ _ _ _ _ _ _ _ _ _ _ ⟨_, t, _, _, _, h, _⟩ => absurd h (by have := Rl.cnt_pos t; omega)⟩, F.mgf, F.kp, b, .nil⟩
  | n + 1 => by
    rw [show 8 + (n + 1) = 9 + n by omega]
    exact cal_mad1 F b Z FM DM LA OA LO OO (cal_mad F b Z FM DM LA OA LO OO n)
end

theorem all_known {l : PySem.W.OpenLaw} {w : World} {K : PySem.W.Frag} {h : Heap} {mg : Str → Option Value} {fa : Addr} (X : K.In h) (G : h.Ns mainGlobals mg) (hfa : mg "law" = some (.ref fa))
    {fii : Addr} {ocii kVii dcii pmii ctii cdii : Value} {odii anii : Option Addr} {slii : Array (Option Value)}
    {fiw : Addr} {ociw kViw dciw pmiw ctiw cdiw : Value} {odiw aniw : Option Addr} {sliw : Array (Option Value)}
    {fiz : Addr} {ociz kViz dciz pmiz ctiz cdiz : Value} {odiz aniz : Option Addr} {sliz : Array (Option Value)}
    {fjf : Addr} {ocjf kVjf dcjf pmjf ctjf cdjf : Value} {odjf anjf : Option Addr} {sljf : Array (Option Value)}
    {fis : Addr} {ocis kVis dcis pmis ctis cdis : Value} {odis anis : Option Addr} {slis : Array (Option Value)}
    {fio : Addr} {ocio kVio dcio pmio ctio cdio : Value} {odio anio : Option Addr} {slio : Array (Option Value)}
    {fnu : Addr} {ocnu kVnu dcnu pmnu ctnu cdnu : Value} {odnu annu : Option Addr} {slnu : Array (Option Value)}
    {fwr : Addr} {ocwr kVwr dcwr pmwr ctwr cdwr : Value} {odwr anwr : Option Addr} {slwr : Array (Option Value)}
    {fwp : Addr} {ocwp kVwp dcwp pmwp ctwp cdwp : Value} {odwp anwp : Option Addr} {slwp : Array (Option Value)}
    {fws : Addr} {ocws kVws dcws pmws ctws cdws : Value} {odws anws : Option Addr} {slws : Array (Option Value)}
    {fwo : Addr} {ocwo kVwo dcwo pmwo ctwo cdwo : Value} {odwo anwo : Option Addr} {slwo : Array (Option Value)}
    {fmo : Addr} {ocmo kVmo dcmo pmmo ctmo cdmo : Value} {odmo anmo : Option Addr} {slmo : Array (Option Value)}
    {fjo : Addr} {ocjo kVjo dcjo pmjo ctjo cdjo : Value} {odjo anjo : Option Addr} {sljo : Array (Option Value)}
    {flp : Addr} {oclp kVlp dclp pmlp ctlp cdlp : Value} {odlp anlp : Option Addr} {sllp : Array (Option Value)}
    {fld : Addr} {ocld kVld dcld pmld ctld cdld : Value} {odld anld : Option Addr} {slld : Array (Option Value)}
    {flk : Addr} {oclk kVlk dclk pmlk ctlk cdlk : Value} {odlk anlk : Option Addr} {sllk : Array (Option Value)}
    {fle : Addr} {ocle kVle dcle pmle ctle cdle : Value} {odle anle : Option Addr} {slle : Array (Option Value)}
    {flq : Addr} {oclq kVlq dclq pmlq ctlq cdlq : Value} {odlq anlq : Option Addr} {sllq : Array (Option Value)}
    {flm : Addr} {oclm kVlm dclm pmlm ctlm cdlm : Value} {odlm anlm : Option Addr} {sllm : Array (Option Value)}
    {fls : Addr} {ocls kVls dcls pmls ctls cdls : Value} {odls anls : Option Addr} {slls : Array (Option Value)}
    {flo : Addr} {oclo kVlo dclo pmlo ctlo cdlo : Value} {odlo anlo : Option Addr} {sllo : Array (Option Value)}
    {flf : Addr} {oclf kVlf dclf pmlf ctlf cdlf : Value} {odlf anlf : Option Addr} {sllf : Array (Option Value)}
    {flt : Addr} {oclt kVlt dclt pmlt ctlt cdlt : Value} {odlt anlt : Option Addr} {sllt : Array (Option Value)}
    {fln : Addr} {ocln kVln dcln pmln ctln cdln : Value} {odln anln : Option Addr} {slln : Array (Option Value)}
    {flr : Addr} {oclr kVlr dclr pmlr ctlr cdlr : Value} {odlr anlr : Option Addr} {sllr : Array (Option Value)}
    {fla : Addr} {ocla kVla dcla pmla ctla : Value} {odla anla : Option Addr} {slla : Array (Option Value)}
    {c0 B0 : Addr} {oc_c0 : Value} {od_c0 : Option Addr} {us_c0 : Array Value} {sl_c0 : Array (Option Value)}
    {FC : Addr}
    {VC : Addr}
    {LC : Addr}
    {GC : Addr}
    {BC : Addr}
    {UC : Addr} {mcUC : Value}
    {fur : Addr} {ocur kVur dcur pmur ctur cdur : Value} {odur anur : Option Addr} {slur : Array (Option Value)}
    {pur : Addr} {rsur : List Value}
    {ffi : Addr} {ocfi kVfi dcfi pmfi ctfi cdfi : Value} {odfi anfi : Option Addr} {slfi : Array (Option Value)}
    {fvi : Addr} {ocvi kVvi dcvi pmvi ctvi cdvi : Value} {odvi anvi : Option Addr} {slvi : Array (Option Value)}
    {fgi0 : Addr} {ocgi0 kVgi0 dcgi0 pmgi0 ctgi0 cdgi0 : Value} {odgi0 angi0 : Option Addr} {slgi0 : Array (Option Value)}
    {fgi1 : Addr} {ocgi1 kVgi1 dcgi1 pmgi1 ctgi1 cdgi1 : Value} {odgi1 angi1 : Option Addr} {slgi1 : Array (Option Value)}
    {fbi : Addr} {ocbi kVbi dcbi pmbi ctbi cdbi : Value} {odbi anbi : Option Addr} {slbi : Array (Option Value)}
    {fft : Addr} {ocft kVft dcft pmft ctft cdft : Value} {odft anft : Option Addr} {slft : Array (Option Value)}
    {ffa : Addr} {ocfa kVfa dcfa pmfa ctfa cdfa : Value} {odfa anfa : Option Addr} {slfa : Array (Option Value)}
    {ffo : Addr} {ocfo kVfo dcfo pmfo ctfo cdfo : Value} {odfo anfo : Option Addr} {slfo : Array (Option Value)}
    {ffe : Addr} {ocfe kVfe dcfe pmfe ctfe cdfe : Value} {odfe anfe : Option Addr} {slfe : Array (Option Value)}
    {fvt : Addr} {ocvt kVvt dcvt pmvt ctvt cdvt : Value} {odvt anvt : Option Addr} {slvt : Array (Option Value)}
    {fva : Addr} {ocva kVva dcva pmva ctva cdva : Value} {odva anva : Option Addr} {slva : Array (Option Value)}
    {fvo : Addr} {ocvo kVvo dcvo pmvo ctvo cdvo : Value} {odvo anvo : Option Addr} {slvo : Array (Option Value)}
    {fve : Addr} {ocve kVve dcve pmve ctve cdve : Value} {odve anve : Option Addr} {slve : Array (Option Value)}
    {fqt : Addr} {ocqt kVqt dcqt pmqt ctqt cdqt : Value} {odqt anqt : Option Addr} {slqt : Array (Option Value)}
    {fqa : Addr} {ocqa kVqa dcqa pmqa ctqa cdqa : Value} {odqa anqa : Option Addr} {slqa : Array (Option Value)}
    {fqo : Addr} {ocqo kVqo dcqo pmqo ctqo cdqo : Value} {odqo anqo : Option Addr} {slqo : Array (Option Value)}
    {fqe : Addr} {ocqe kVqe dcqe pmqe ctqe cdqe : Value} {odqe anqe : Option Addr} {slqe : Array (Option Value)}
    {fgt : Addr} {ocgt kVgt dcgt pmgt ctgt cdgt : Value} {odgt angt : Option Addr} {slgt : Array (Option Value)}
    {fga : Addr} {ocga kVga dcga pmga ctga cdga : Value} {odga anga : Option Addr} {slga : Array (Option Value)}
    {fgo : Addr} {ocgo kVgo dcgo pmgo ctgo cdgo : Value} {odgo ango : Option Addr} {slgo : Array (Option Value)}
    {fge : Addr} {ocge kVge dcge pmge ctge cdge : Value} {odge ange : Option Addr} {slge : Array (Option Value)}
    {fbt : Addr} {ocbt kVbt dcbt pmbt ctbt cdbt : Value} {odbt anbt : Option Addr} {slbt : Array (Option Value)}
    {R : Addr}
    {fri : Addr} {ocri kVri dcri pmri ctri cdri : Value} {odri anri : Option Addr} {slri : Array (Option Value)}
    {Tdri : Addr} {ocDri : Value} {odDri : Option Addr} {slDri : Array (Option Value)} {tDri : Tok} {nDri : Nat}
    {frh : Addr} {ocrh kVrh dcrh pmrh ctrh cdrh : Value} {odrh anrh : Option Addr} {slrh : Array (Option Value)}
    {fry : Addr} {ocry kVry dcry pmry ctry cdry : Value} {odry anry : Option Addr} {slry : Array (Option Value)}
    {frk : Addr} {ocrk kVrk dcrk pmrk ctrk cdrk : Value} {odrk anrk : Option Addr} {slrk : Array (Option Value)}
    {frx : Addr} {ocrx kVrx dcrx pmrx ctrx cdrx : Value} {odrx anrx : Option Addr} {slrx : Array (Option Value)}
    {frf : Addr} {ocrf kVrf dcrf pmrf ctrf cdrf : Value} {odrf anrf : Option Addr} {slrf : Array (Option Value)}
    {frn : Addr} {ocrn kVrn dcrn pmrn ctrn cdrn : Value} {odrn anrn : Option Addr} {slrn : Array (Option Value)}
    {DU fEu : Addr} {ocEu kVEu dcEu pmEu cdEu ctEu : Value} {odEu anEu : Option Addr} {slEu : Array (Option Value)} {nmDu qDu : Str} {NDu : Addr} {bsDu bmDu : List Value} {snDu : List Str} {subDu : List Value} {abDu : Bool} {colDu : Option Bool} {ddDu : Option Addr} {e0u e1u e2u e3u e5u : Option Value}
    {DS fEs : Addr} {ocEs kVEs dcEs pmEs cdEs ctEs : Value} {odEs anEs : Option Addr} {slEs : Array (Option Value)} {nmDs qDs : Str} {NDs : Addr} {bsDs bmDs : List Value} {snDs : List Str} {subDs : List Value} {abDs : Bool} {colDs : Option Bool} {ddDs : Option Addr} {e0s e1s e2s e3s e5s : Option Value}
    {DX fEx : Addr} {ocEx kVEx dcEx pmEx cdEx ctEx : Value} {odEx anEx : Option Addr} {slEx : Array (Option Value)} {nmDx qDx : Str} {NDx : Addr} {bsDx bmDx : List Value} {snDx : List Str} {subDx : List Value} {abDx : Bool} {colDx : Option Bool} {ddDx : Option Addr} {e0x e1x e2x e3x e5x : Option Value}
    {DM fEm : Addr} {ocEm kVEm dcEm pmEm cdEm ctEm : Value} {odEm anEm : Option Addr} {slEm : Array (Option Value)} {nmDm qDm : Str} {NDm : Addr} {bsDm bmDm : List Value} {snDm : List Str} {subDm : List Value} {abDm : Bool} {colDm : Option Bool} {ddDm : Option Addr} {e0m e1m e2m e3m e5m : Option Value}
    {tMF : Tok} {vMF : Int}
    {tMS : Tok} {vMS : Int}
    {tGS : Tok} {vGS : Int}
    {tMP : Tok} {vMP : Int}
    {tMR : Tok} {vMR : Int}
    {tPF : Tok} {vPF : Int}
    {tPW : Tok} {vPW : Int}
    {SG : Addr} {odG : Option Addr} {wsG : Array Value} {nG : Nat} {slG : Array (Option Value)}
    (aii : PySem.W.nsIn K mainGlobals "is_integer" = some (some (.ref fii)))
    (lii : K.lookup fii = some ⟨ocii, odii, .func (PySem.W.fnOf "is_integer" "is_integer" (C8.fnArgs sIsInt) (C8.fnBody sIsInt) (C8.fnScope sIsInt) .none kVii dcii pmii anii cdii ctii), slii⟩)
    (cii : PySem.W.codeIn K cdii "is_integer" = true)
    (kii : PySem.W.keepIn K (.ref fii) = true)
    (aiw : PySem.W.nsIn K mainGlobals "is_within" = some (some (.ref fiw)))
    (liw : K.lookup fiw = some ⟨ociw, odiw, .func (PySem.W.fnOf "is_within" "is_within" (C8.fnArgs sWithin) (C8.fnBody sWithin) (C8.fnScope sWithin) .none kViw dciw pmiw aniw cdiw ctiw), sliw⟩)
    (ciw : PySem.W.codeIn K cdiw "is_within" = true)
    (kiw : PySem.W.keepIn K (.ref fiw) = true)
    (aiz : PySem.W.nsIn K mainGlobals "is_size" = some (some (.ref fiz)))
    (liz : K.lookup fiz = some ⟨ociz, odiz, .func (PySem.W.fnOf "is_size" "is_size" (C8.fnArgs sSize) (C8.fnBody sSize) (C8.fnScope sSize) .none kViz dciz pmiz aniz cdiz ctiz), sliz⟩)
    (ciz : PySem.W.codeIn K cdiz "is_size" = true)
    (kiz : PySem.W.keepIn K (.ref fiz) = true)
    (ajf : PySem.W.nsIn K mainGlobals "is_factor" = some (some (.ref fjf)))
    (ljf : K.lookup fjf = some ⟨ocjf, odjf, .func (PySem.W.fnOf "is_factor" "is_factor" (C8.fnArgs sFac) (C8.fnBody sFac) (C8.fnScope sFac) .none kVjf dcjf pmjf anjf cdjf ctjf), sljf⟩)
    (cjf : PySem.W.codeIn K cdjf "is_factor" = true)
    (kjf : PySem.W.keepIn K (.ref fjf) = true)
    (ais : PySem.W.nsIn K mainGlobals "is_start" = some (some (.ref fis)))
    (lis : K.lookup fis = some ⟨ocis, odis, .func (PySem.W.fnOf "is_start" "is_start" (C8.fnArgs sSta) (C8.fnBody sSta) (C8.fnScope sSta) .none kVis dcis pmis anis cdis ctis), slis⟩)
    (cis : PySem.W.codeIn K cdis "is_start" = true)
    (kis : PySem.W.keepIn K (.ref fis) = true)
    (aio : PySem.W.nsIn K mainGlobals "integer_of" = some (some (.ref fio)))
    (lio : K.lookup fio = some ⟨ocio, odio, .func (PySem.W.fnOf "integer_of" "integer_of" (C8.fnArgs sIntOf) (C8.fnBody sIntOf) (C8.fnScope sIntOf) .none kVio dcio pmio anio cdio ctio), slio⟩)
    (cio : PySem.W.codeIn K cdio "integer_of" = true)
    (kio : PySem.W.keepIn K (.ref fio) = true)
    (anu : PySem.W.nsIn K mainGlobals "number_of" = some (some (.ref fnu)))
    (lnu : K.lookup fnu = some ⟨ocnu, odnu, .func (PySem.W.fnOf "number_of" "number_of" (C8.fnArgs sNumOf) (C8.fnBody sNumOf) (C8.fnScope sNumOf) .none kVnu dcnu pmnu annu cdnu ctnu), slnu⟩)
    (cnu : PySem.W.codeIn K cdnu "number_of" = true)
    (knu : PySem.W.keepIn K (.ref fnu) = true)
    (awr : PySem.W.nsIn K mainGlobals "read_rule" = some (some (.ref fwr)))
    (lwr : K.lookup fwr = some ⟨ocwr, odwr, .func (PySem.W.fnOf "read_rule" "read_rule" (C8.fnArgs sRr) (C8.fnBody sRr) (C8.fnScope sRr) .none kVwr dcwr pmwr anwr cdwr ctwr), slwr⟩)
    (cwr : PySem.W.codeIn K cdwr "read_rule" = true)
    (kwr : PySem.W.keepIn K (.ref fwr) = true)
    (awp : PySem.W.nsIn K mainGlobals "read_part" = some (some (.ref fwp)))
    (lwp : K.lookup fwp = some ⟨ocwp, odwp, .func (PySem.W.fnOf "read_part" "read_part" (C8.fnArgs sRp) (C8.fnBody sRp) (C8.fnScope sRp) .none kVwp dcwp pmwp anwp cdwp ctwp), slwp⟩)
    (cwp : PySem.W.codeIn K cdwp "read_part" = true)
    (kwp : PySem.W.keepIn K (.ref fwp) = true)
    (aws : PySem.W.nsIn K mainGlobals "read_sign" = some (some (.ref fws)))
    (lws : K.lookup fws = some ⟨ocws, odws, .func (PySem.W.fnOf "read_sign" "read_sign" (C8.fnArgs sRs) (C8.fnBody sRs) (C8.fnScope sRs) .none kVws dcws pmws anws cdws ctws), slws⟩)
    (cws : PySem.W.codeIn K cdws "read_sign" = true)
    (kws : PySem.W.keepIn K (.ref fws) = true)
    (awo : PySem.W.nsIn K mainGlobals "rule_of" = some (some (.ref fwo)))
    (lwo : K.lookup fwo = some ⟨ocwo, odwo, .func (PySem.W.fnOf "rule_of" "rule_of" (C8.fnArgs sRo) (C8.fnBody sRo) (C8.fnScope sRo) .none kVwo dcwo pmwo anwo cdwo ctwo), slwo⟩)
    (cwo : PySem.W.codeIn K cdwo "rule_of" = true)
    (kwo : PySem.W.keepIn K (.ref fwo) = true)
    (amo : PySem.W.nsIn K mainGlobals "check_modulus" = some (some (.ref fmo)))
    (lmo : K.lookup fmo = some ⟨ocmo, odmo, .func (PySem.W.fnOf "check_modulus" "check_modulus" (C8.fnArgs sMo) (C8.fnBody sMo) (C8.fnScope sMo) .none kVmo dcmo pmmo anmo cdmo ctmo), slmo⟩)
    (cmo : PySem.W.codeIn K cdmo "check_modulus" = true)
    (kmo : PySem.W.keepIn K (.ref fmo) = true)
    (ajo : PySem.W.nsIn K mainGlobals "check_joined" = some (some (.ref fjo)))
    (ljo : K.lookup fjo = some ⟨ocjo, odjo, .func (PySem.W.fnOf "check_joined" "check_joined" (C8.fnArgs sJo) (C8.fnBody sJo) (C8.fnScope sJo) .none kVjo dcjo pmjo anjo cdjo ctjo), sljo⟩)
    (cjo : PySem.W.codeIn K cdjo "check_joined" = true)
    (kjo : PySem.W.keepIn K (.ref fjo) = true)
    (alp : PySem.W.nsIn K mainGlobals "_law_pen" = some (some (.ref flp)))
    (llp : K.lookup flp = some ⟨oclp, odlp, .func (PySem.W.fnOf "_law_pen" "_law_pen" (C8.fnArgs sPen) (C8.fnBody sPen) (C8.fnScope sPen) .none kVlp dclp pmlp anlp cdlp ctlp), sllp⟩)
    (clp : PySem.W.codeIn K cdlp "_law_pen" = true)
    (klp : PySem.W.keepIn K (.ref flp) = true)
    (ald : PySem.W.nsIn K mainGlobals "_law_draw" = some (some (.ref fld)))
    (lld : K.lookup fld = some ⟨ocld, odld, .func (PySem.W.fnOf "_law_draw" "_law_draw" (C8.fnArgs sDraw) (C8.fnBody sDraw) (C8.fnScope sDraw) .none kVld dcld pmld anld cdld ctld), slld⟩)
    (cld : PySem.W.codeIn K cdld "_law_draw" = true)
    (kld : PySem.W.keepIn K (.ref fld) = true)
    (alk : PySem.W.nsIn K mainGlobals "_law_pick" = some (some (.ref flk)))
    (llk : K.lookup flk = some ⟨oclk, odlk, .func (PySem.W.fnOf "_law_pick" "_law_pick" (C8.fnArgs sPick) (C8.fnBody sPick) (C8.fnScope sPick) .none kVlk dclk pmlk anlk cdlk ctlk), sllk⟩)
    (clk : PySem.W.codeIn K cdlk "_law_pick" = true)
    (klk : PySem.W.keepIn K (.ref flk) = true)
    (ale : PySem.W.nsIn K mainGlobals "_law_leaf" = some (some (.ref fle)))
    (lle : K.lookup fle = some ⟨ocle, odle, .func (PySem.W.fnOf "_law_leaf" "_law_leaf" (C8.fnArgs sLef) (C8.fnBody sLef) (C8.fnScope sLef) .none kVle dcle pmle anle cdle ctle), slle⟩)
    (cle : PySem.W.codeIn K cdle "_law_leaf" = true)
    (kle : PySem.W.keepIn K (.ref fle) = true)
    (alq : PySem.W.nsIn K mainGlobals "_law_plain" = some (some (.ref flq)))
    (llq : K.lookup flq = some ⟨oclq, odlq, .func (PySem.W.fnOf "_law_plain" "_law_plain" (C8.fnArgs sPla) (C8.fnBody sPla) (C8.fnScope sPla) .none kVlq dclq pmlq anlq cdlq ctlq), sllq⟩)
    (clq : PySem.W.codeIn K cdlq "_law_plain" = true)
    (klq : PySem.W.keepIn K (.ref flq) = true)
    (alm : PySem.W.nsIn K mainGlobals "_law_made" = some (some (.ref flm)))
    (llm : K.lookup flm = some ⟨oclm, odlm, .func (PySem.W.fnOf "_law_made" "_law_made" (C8.fnArgs sMad) (C8.fnBody sMad) (C8.fnScope sMad) .none kVlm dclm pmlm anlm cdlm ctlm), sllm⟩)
    (clm : PySem.W.codeIn K cdlm "_law_made" = true)
    (klm : PySem.W.keepIn K (.ref flm) = true)
    (als : PySem.W.nsIn K mainGlobals "_law_leaves" = some (some (.ref fls)))
    (lls : K.lookup fls = some ⟨ocls, odls, .func (PySem.W.fnOf "_law_leaves" "_law_leaves" (C8.fnArgs sLvs) (C8.fnBody sLvs) (C8.fnScope sLvs) .none kVls dcls pmls anls cdls ctls), slls⟩)
    (cls : PySem.W.codeIn K cdls "_law_leaves" = true)
    (kls : PySem.W.keepIn K (.ref fls) = true)
    (alo : PySem.W.nsIn K mainGlobals "_law_modulus" = some (some (.ref flo)))
    (llo : K.lookup flo = some ⟨oclo, odlo, .func (PySem.W.fnOf "_law_modulus" "_law_modulus" (C8.fnArgs sMdl) (C8.fnBody sMdl) (C8.fnScope sMdl) .none kVlo dclo pmlo anlo cdlo ctlo), sllo⟩)
    (clo : PySem.W.codeIn K cdlo "_law_modulus" = true)
    (klo : PySem.W.keepIn K (.ref flo) = true)
    (alf : PySem.W.nsIn K mainGlobals "_law_fitting" = some (some (.ref flf)))
    (llf : K.lookup flf = some ⟨oclf, odlf, .func (PySem.W.fnOf "_law_fitting" "_law_fitting" (C8.fnArgs sFit) (C8.fnBody sFit) (C8.fnScope sFit) .none kVlf dclf pmlf anlf cdlf ctlf), sllf⟩)
    (clf : PySem.W.codeIn K cdlf "_law_fitting" = true)
    (klf : PySem.W.keepIn K (.ref flf) = true)
    (alt : PySem.W.nsIn K mainGlobals "_law_text" = some (some (.ref flt)))
    (llt : K.lookup flt = some ⟨oclt, odlt, .func (PySem.W.fnOf "_law_text" "_law_text" (C8.fnArgs sTx) (C8.fnBody sTx) (C8.fnScope sTx) .none kVlt dclt pmlt anlt cdlt ctlt), sllt⟩)
    (clt : PySem.W.codeIn K cdlt "_law_text" = true)
    (klt : PySem.W.keepIn K (.ref flt) = true)
    (aln : PySem.W.nsIn K mainGlobals "_law_other" = some (some (.ref fln)))
    (lln : K.lookup fln = some ⟨ocln, odln, .func (PySem.W.fnOf "_law_other" "_law_other" (C8.fnArgs sOt) (C8.fnBody sOt) (C8.fnScope sOt) .none kVln dcln pmln anln cdln ctln), slln⟩)
    (cln : PySem.W.codeIn K cdln "_law_other" = true)
    (kln : PySem.W.keepIn K (.ref fln) = true)
    (alr : PySem.W.nsIn K mainGlobals "_law_right" = some (some (.ref flr)))
    (llr : K.lookup flr = some ⟨oclr, odlr, .func (PySem.W.fnOf "_law_right" "_law_right" (C8.fnArgs sRig) (C8.fnBody sRig) (C8.fnScope sRig) .none kVlr dclr pmlr anlr cdlr ctlr), sllr⟩)
    (clr : PySem.W.codeIn K cdlr "_law_right" = true)
    (klr : PySem.W.keepIn K (.ref flr) = true)
    (ala : PySem.W.nsIn K mainGlobals "law" = some (some (.ref fla)))
    (lla : K.lookup fla = some ⟨ocla, odla, .func (PySem.W.fnOf "law" "law" (C8.fnArgs sLaw) (C8.fnBody sLaw) (C8.fnScope sLaw) .none kVla dcla pmla anla (.ref c0) ctla), slla⟩)
    (cla : PySem.W.codeIn K (.ref c0) "law" = true)
    (kla : PySem.W.keepIn K (.ref fla) = true)
    (ltla : K.lookup c0 = some ⟨oc_c0, od_c0, .fields us_c0, sl_c0⟩)
    (vtla : us_c0[11]? = some (.ref B0))
    (ntla : K.lookup B0 = none)
    (aFC : PySem.W.nsIn K mainGlobals "Fixed" = some (some (.ref FC)))
    (pgFC : PySem.W.plainGet K FC Str.empty = true)
    (hdFC : PySem.W.hasDictIn K FC = true)
    (poFC : PySem.W.plainOver K FC = true)
    (saFC : PySem.W.findIn K (.ref FC) "__setattr__" = some (some (.builtin "object.__setattr__")))
    (mkFC : PySem.W.makesIn K FC = true)
    (kCFC : PySem.W.keepIn K (.ref FC) = true)
    (noFC_size : PySem.W.findIn K (.ref FC) "size" = some none)
    (noFC_parts : PySem.W.findIn K (.ref FC) "parts" = some none)
    (noFC_modulus : PySem.W.findIn K (.ref FC) "modulus" = some none)
    (hCFC : PySem.W.findIn K (.ref FC) "__class__" = some (some (.builtin "object.__class__")))
    (hMFC : PySem.W.mroIn K FC (.type "object") = some true)
    (hG : PySem.W.specialIn K (.builtin "object.__class__") "__get__" = some (some (.builtin "getset_descriptor.__get__")))
    (hK : PySem.W.takesIn K (.builtin "object.__class__") = some true)
    (nEFC : PySem.W.findIn K (.ref FC) "__ne__" = some (some (.builtin "object.__ne__")))
    (aVC : PySem.W.nsIn K mainGlobals "Divided" = some (some (.ref VC)))
    (pgVC : PySem.W.plainGet K VC Str.empty = true)
    (hdVC : PySem.W.hasDictIn K VC = true)
    (poVC : PySem.W.plainOver K VC = true)
    (saVC : PySem.W.findIn K (.ref VC) "__setattr__" = some (some (.builtin "object.__setattr__")))
    (mkVC : PySem.W.makesIn K VC = true)
    (kCVC : PySem.W.keepIn K (.ref VC) = true)
    (noVC_x : PySem.W.findIn K (.ref VC) "x" = some none)
    (noVC_y : PySem.W.findIn K (.ref VC) "y" = some none)
    (noVC_w : PySem.W.findIn K (.ref VC) "w" = some none)
    (noVC_parts : PySem.W.findIn K (.ref VC) "parts" = some none)
    (noVC_modulus : PySem.W.findIn K (.ref VC) "modulus" = some none)
    (hCVC : PySem.W.findIn K (.ref VC) "__class__" = some (some (.builtin "object.__class__")))
    (hMVC : PySem.W.mroIn K VC (.type "object") = some true)
    (nEVC : PySem.W.findIn K (.ref VC) "__ne__" = some (some (.builtin "object.__ne__")))
    (aLC : PySem.W.nsIn K mainGlobals "Lesser" = some (some (.ref LC)))
    (pgLC : PySem.W.plainGet K LC Str.empty = true)
    (hdLC : PySem.W.hasDictIn K LC = true)
    (poLC : PySem.W.plainOver K LC = true)
    (saLC : PySem.W.findIn K (.ref LC) "__setattr__" = some (some (.builtin "object.__setattr__")))
    (mkLC : PySem.W.makesIn K LC = true)
    (kCLC : PySem.W.keepIn K (.ref LC) = true)
    (noLC_one : PySem.W.findIn K (.ref LC) "one" = some none)
    (noLC_other : PySem.W.findIn K (.ref LC) "other" = some none)
    (noLC_parts : PySem.W.findIn K (.ref LC) "parts" = some none)
    (noLC_modulus : PySem.W.findIn K (.ref LC) "modulus" = some none)
    (hCLC : PySem.W.findIn K (.ref LC) "__class__" = some (some (.builtin "object.__class__")))
    (hMLC : PySem.W.mroIn K LC (.type "object") = some true)
    (nELC : PySem.W.findIn K (.ref LC) "__ne__" = some (some (.builtin "object.__ne__")))
    (aGC : PySem.W.nsIn K mainGlobals "Greater" = some (some (.ref GC)))
    (pgGC : PySem.W.plainGet K GC Str.empty = true)
    (hdGC : PySem.W.hasDictIn K GC = true)
    (poGC : PySem.W.plainOver K GC = true)
    (saGC : PySem.W.findIn K (.ref GC) "__setattr__" = some (some (.builtin "object.__setattr__")))
    (mkGC : PySem.W.makesIn K GC = true)
    (kCGC : PySem.W.keepIn K (.ref GC) = true)
    (noGC_one : PySem.W.findIn K (.ref GC) "one" = some none)
    (noGC_other : PySem.W.findIn K (.ref GC) "other" = some none)
    (noGC_parts : PySem.W.findIn K (.ref GC) "parts" = some none)
    (noGC_modulus : PySem.W.findIn K (.ref GC) "modulus" = some none)
    (hCGC : PySem.W.findIn K (.ref GC) "__class__" = some (some (.builtin "object.__class__")))
    (hMGC : PySem.W.mroIn K GC (.type "object") = some true)
    (nEGC : PySem.W.findIn K (.ref GC) "__ne__" = some (some (.builtin "object.__ne__")))
    (aBC : PySem.W.nsIn K mainGlobals "By" = some (some (.ref BC)))
    (pgBC : PySem.W.plainGet K BC Str.empty = true)
    (hdBC : PySem.W.hasDictIn K BC = true)
    (poBC : PySem.W.plainOver K BC = true)
    (saBC : PySem.W.findIn K (.ref BC) "__setattr__" = some (some (.builtin "object.__setattr__")))
    (mkBC : PySem.W.makesIn K BC = true)
    (kCBC : PySem.W.keepIn K (.ref BC) = true)
    (noBC_function : PySem.W.findIn K (.ref BC) "function" = some none)
    (noBC_parts : PySem.W.findIn K (.ref BC) "parts" = some none)
    (noBC_modulus : PySem.W.findIn K (.ref BC) "modulus" = some none)
    (aUC : PySem.W.nsIn K mainGlobals "Rule" = some (some (.ref UC)))
    (sTUC : PySem.W.typeIn K (.ref UC) = some mcUC)
    (sRUC : PySem.W.readsIn K UC mcUC = true)
    (sGUC : PySem.W.specialIn K (.ref UC) "__getattribute__" = some (some (.builtin "type.__getattribute__")))
    (pgUC : PySem.W.plainGet K UC Str.empty = true)
    (hdUC : PySem.W.hasDictIn K UC = true)
    (poUC : PySem.W.plainOver K UC = true)
    (saUC : PySem.W.findIn K (.ref UC) "__setattr__" = some (some (.builtin "object.__setattr__")))
    (mkUC : PySem.W.makesIn K UC = true)
    (kCUC : PySem.W.keepIn K (.ref UC) = true)
    (lur : K.lookup fur = some ⟨ocur, odur, .func (PySem.W.fnOf "read" "Rule.read" (C8.fnArgs sRd) (C8.fnBody sRd) (C8.fnScope sRd) .none kVur dcur pmur anur cdur ctur), slur⟩)
    (cur : PySem.W.codeIn K cdur "Rule.read" = true)
    (kur : PySem.W.keepIn K (.ref fur) = true)
    (sur : PySem.W.findCls K (.ref UC) mcUC "read" = some (.get (.builtin "staticmethod.__get__") (.ref pur) .none (.ref UC)))
    (rur : PySem.W.recIn K pur "staticmethod" = some (.ref fur :: rsur))
    (afi : PySem.W.findIn K (.ref FC) "__init__" = some (some (.ref ffi)))
    (ifi : PySem.W.isFn K (.ref ffi) = true)
    (lfi : K.lookup ffi = some ⟨ocfi, odfi, .func (PySem.W.fnOf "__init__" "Fixed.__init__" (C8.fnArgs sFxi) (C8.fnBody sFxi) (C8.fnScope sFxi) .none kVfi dcfi pmfi anfi cdfi ctfi), slfi⟩)
    (cfi : PySem.W.codeIn K cdfi "Fixed.__init__" = true)
    (kfi : PySem.W.keepIn K (.ref ffi) = true)
    (avi : PySem.W.findIn K (.ref VC) "__init__" = some (some (.ref fvi)))
    (ivi : PySem.W.isFn K (.ref fvi) = true)
    (lvi : K.lookup fvi = some ⟨ocvi, odvi, .func (PySem.W.fnOf "__init__" "Divided.__init__" (C8.fnArgs sDvi) (C8.fnBody sDvi) (C8.fnScope sDvi) .none kVvi dcvi pmvi anvi cdvi ctvi), slvi⟩)
    (cvi : PySem.W.codeIn K cdvi "Divided.__init__" = true)
    (kvi : PySem.W.keepIn K (.ref fvi) = true)
    (agi0 : PySem.W.findIn K (.ref LC) "__init__" = some (some (.ref fgi0)))
    (igi0 : PySem.W.isFn K (.ref fgi0) = true)
    (lgi0 : K.lookup fgi0 = some ⟨ocgi0, odgi0, .func (PySem.W.fnOf "__init__" "Lesser.__init__" (C8.fnArgs sLoi) (C8.fnBody sLoi) (C8.fnScope sLoi) .none kVgi0 dcgi0 pmgi0 angi0 cdgi0 ctgi0), slgi0⟩)
    (cgi0 : PySem.W.codeIn K cdgi0 "Lesser.__init__" = true)
    (kgi0 : PySem.W.keepIn K (.ref fgi0) = true)
    (agi1 : PySem.W.findIn K (.ref GC) "__init__" = some (some (.ref fgi1)))
    (igi1 : PySem.W.isFn K (.ref fgi1) = true)
    (lgi1 : K.lookup fgi1 = some ⟨ocgi1, odgi1, .func (PySem.W.fnOf "__init__" "Greater.__init__" (C8.fnArgs sHii) (C8.fnBody sHii) (C8.fnScope sHii) .none kVgi1 dcgi1 pmgi1 angi1 cdgi1 ctgi1), slgi1⟩)
    (cgi1 : PySem.W.codeIn K cdgi1 "Greater.__init__" = true)
    (kgi1 : PySem.W.keepIn K (.ref fgi1) = true)
    (abi : PySem.W.findIn K (.ref BC) "__init__" = some (some (.ref fbi)))
    (ibi : PySem.W.isFn K (.ref fbi) = true)
    (lbi : K.lookup fbi = some ⟨ocbi, odbi, .func (PySem.W.fnOf "__init__" "By.__init__" (C8.fnArgs sByi) (C8.fnBody sByi) (C8.fnScope sByi) .none kVbi dcbi pmbi anbi cdbi ctbi), slbi⟩)
    (cbi : PySem.W.codeIn K cdbi "By.__init__" = true)
    (kbi : PySem.W.keepIn K (.ref fbi) = true)
    (aft : PySem.W.findIn K (.ref FC) "__str__" = some (some (.ref fft)))
    (ift : PySem.W.isFn K (.ref fft) = true)
    (lft : K.lookup fft = some ⟨ocft, odft, .func (PySem.W.fnOf "__str__" "Fixed.__str__" (C8.fnArgs sFxs) (C8.fnBody sFxs) (C8.fnScope sFxs) .none kVft dcft pmft anft cdft ctft), slft⟩)
    (cft : PySem.W.codeIn K cdft "Fixed.__str__" = true)
    (kft : PySem.W.keepIn K (.ref fft) = true)
    (afa : PySem.W.findIn K (.ref FC) "__and__" = some (some (.ref ffa)))
    (ifa : PySem.W.isFn K (.ref ffa) = true)
    (lfa : K.lookup ffa = some ⟨ocfa, odfa, .func (PySem.W.fnOf "__and__" "Fixed.__and__" (C8.fnArgs sFxa) (C8.fnBody sFxa) (C8.fnScope sFxa) .none kVfa dcfa pmfa anfa cdfa ctfa), slfa⟩)
    (cfa : PySem.W.codeIn K cdfa "Fixed.__and__" = true)
    (kfa : PySem.W.keepIn K (.ref ffa) = true)
    (afo : PySem.W.findIn K (.ref FC) "__or__" = some (some (.ref ffo)))
    (ifo : PySem.W.isFn K (.ref ffo) = true)
    (lfo : K.lookup ffo = some ⟨ocfo, odfo, .func (PySem.W.fnOf "__or__" "Fixed.__or__" (C8.fnArgs sFxo) (C8.fnBody sFxo) (C8.fnScope sFxo) .none kVfo dcfo pmfo anfo cdfo ctfo), slfo⟩)
    (cfo : PySem.W.codeIn K cdfo "Fixed.__or__" = true)
    (kfo : PySem.W.keepIn K (.ref ffo) = true)
    (afe : PySem.W.findIn K (.ref FC) "__eq__" = some (some (.ref ffe)))
    (ife : PySem.W.isFn K (.ref ffe) = true)
    (lfe : K.lookup ffe = some ⟨ocfe, odfe, .func (PySem.W.fnOf "__eq__" "Fixed.__eq__" (C8.fnArgs sFxe) (C8.fnBody sFxe) (C8.fnScope sFxe) .none kVfe dcfe pmfe anfe cdfe ctfe), slfe⟩)
    (cfe : PySem.W.codeIn K cdfe "Fixed.__eq__" = true)
    (kfe : PySem.W.keepIn K (.ref ffe) = true)
    (avt : PySem.W.findIn K (.ref VC) "__str__" = some (some (.ref fvt)))
    (ivt : PySem.W.isFn K (.ref fvt) = true)
    (lvt : K.lookup fvt = some ⟨ocvt, odvt, .func (PySem.W.fnOf "__str__" "Divided.__str__" (C8.fnArgs sDvs) (C8.fnBody sDvs) (C8.fnScope sDvs) .none kVvt dcvt pmvt anvt cdvt ctvt), slvt⟩)
    (cvt : PySem.W.codeIn K cdvt "Divided.__str__" = true)
    (kvt : PySem.W.keepIn K (.ref fvt) = true)
    (ava : PySem.W.findIn K (.ref VC) "__and__" = some (some (.ref fva)))
    (iva : PySem.W.isFn K (.ref fva) = true)
    (lva : K.lookup fva = some ⟨ocva, odva, .func (PySem.W.fnOf "__and__" "Divided.__and__" (C8.fnArgs sDva) (C8.fnBody sDva) (C8.fnScope sDva) .none kVva dcva pmva anva cdva ctva), slva⟩)
    (cva : PySem.W.codeIn K cdva "Divided.__and__" = true)
    (kva : PySem.W.keepIn K (.ref fva) = true)
    (avo : PySem.W.findIn K (.ref VC) "__or__" = some (some (.ref fvo)))
    (ivo : PySem.W.isFn K (.ref fvo) = true)
    (lvo : K.lookup fvo = some ⟨ocvo, odvo, .func (PySem.W.fnOf "__or__" "Divided.__or__" (C8.fnArgs sDvo) (C8.fnBody sDvo) (C8.fnScope sDvo) .none kVvo dcvo pmvo anvo cdvo ctvo), slvo⟩)
    (cvo : PySem.W.codeIn K cdvo "Divided.__or__" = true)
    (kvo : PySem.W.keepIn K (.ref fvo) = true)
    (ave : PySem.W.findIn K (.ref VC) "__eq__" = some (some (.ref fve)))
    (ive : PySem.W.isFn K (.ref fve) = true)
    (lve : K.lookup fve = some ⟨ocve, odve, .func (PySem.W.fnOf "__eq__" "Divided.__eq__" (C8.fnArgs sDve) (C8.fnBody sDve) (C8.fnScope sDve) .none kVve dcve pmve anve cdve ctve), slve⟩)
    (cve : PySem.W.codeIn K cdve "Divided.__eq__" = true)
    (kve : PySem.W.keepIn K (.ref fve) = true)
    (aqt : PySem.W.findIn K (.ref LC) "__str__" = some (some (.ref fqt)))
    (iqt : PySem.W.isFn K (.ref fqt) = true)
    (lqt : K.lookup fqt = some ⟨ocqt, odqt, .func (PySem.W.fnOf "__str__" "Lesser.__str__" (C8.fnArgs sLos) (C8.fnBody sLos) (C8.fnScope sLos) .none kVqt dcqt pmqt anqt cdqt ctqt), slqt⟩)
    (cqt : PySem.W.codeIn K cdqt "Lesser.__str__" = true)
    (kqt : PySem.W.keepIn K (.ref fqt) = true)
    (aqa : PySem.W.findIn K (.ref LC) "__and__" = some (some (.ref fqa)))
    (iqa : PySem.W.isFn K (.ref fqa) = true)
    (lqa : K.lookup fqa = some ⟨ocqa, odqa, .func (PySem.W.fnOf "__and__" "Lesser.__and__" (C8.fnArgs sLoa) (C8.fnBody sLoa) (C8.fnScope sLoa) .none kVqa dcqa pmqa anqa cdqa ctqa), slqa⟩)
    (cqa : PySem.W.codeIn K cdqa "Lesser.__and__" = true)
    (kqa : PySem.W.keepIn K (.ref fqa) = true)
    (aqo : PySem.W.findIn K (.ref LC) "__or__" = some (some (.ref fqo)))
    (iqo : PySem.W.isFn K (.ref fqo) = true)
    (lqo : K.lookup fqo = some ⟨ocqo, odqo, .func (PySem.W.fnOf "__or__" "Lesser.__or__" (C8.fnArgs sLoo) (C8.fnBody sLoo) (C8.fnScope sLoo) .none kVqo dcqo pmqo anqo cdqo ctqo), slqo⟩)
    (cqo : PySem.W.codeIn K cdqo "Lesser.__or__" = true)
    (kqo : PySem.W.keepIn K (.ref fqo) = true)
    (aqe : PySem.W.findIn K (.ref LC) "__eq__" = some (some (.ref fqe)))
    (iqe : PySem.W.isFn K (.ref fqe) = true)
    (lqe : K.lookup fqe = some ⟨ocqe, odqe, .func (PySem.W.fnOf "__eq__" "Lesser.__eq__" (C8.fnArgs sLoq) (C8.fnBody sLoq) (C8.fnScope sLoq) .none kVqe dcqe pmqe anqe cdqe ctqe), slqe⟩)
    (cqe : PySem.W.codeIn K cdqe "Lesser.__eq__" = true)
    (kqe : PySem.W.keepIn K (.ref fqe) = true)
    (agt : PySem.W.findIn K (.ref GC) "__str__" = some (some (.ref fgt)))
    (igt : PySem.W.isFn K (.ref fgt) = true)
    (lgt : K.lookup fgt = some ⟨ocgt, odgt, .func (PySem.W.fnOf "__str__" "Greater.__str__" (C8.fnArgs sHis) (C8.fnBody sHis) (C8.fnScope sHis) .none kVgt dcgt pmgt angt cdgt ctgt), slgt⟩)
    (cgt : PySem.W.codeIn K cdgt "Greater.__str__" = true)
    (kgt : PySem.W.keepIn K (.ref fgt) = true)
    (aga : PySem.W.findIn K (.ref GC) "__and__" = some (some (.ref fga)))
    (iga : PySem.W.isFn K (.ref fga) = true)
    (lga : K.lookup fga = some ⟨ocga, odga, .func (PySem.W.fnOf "__and__" "Greater.__and__" (C8.fnArgs sHia) (C8.fnBody sHia) (C8.fnScope sHia) .none kVga dcga pmga anga cdga ctga), slga⟩)
    (cga : PySem.W.codeIn K cdga "Greater.__and__" = true)
    (kga : PySem.W.keepIn K (.ref fga) = true)
    (ago : PySem.W.findIn K (.ref GC) "__or__" = some (some (.ref fgo)))
    (igo : PySem.W.isFn K (.ref fgo) = true)
    (lgo : K.lookup fgo = some ⟨ocgo, odgo, .func (PySem.W.fnOf "__or__" "Greater.__or__" (C8.fnArgs sHio) (C8.fnBody sHio) (C8.fnScope sHio) .none kVgo dcgo pmgo ango cdgo ctgo), slgo⟩)
    (cgo : PySem.W.codeIn K cdgo "Greater.__or__" = true)
    (kgo : PySem.W.keepIn K (.ref fgo) = true)
    (age : PySem.W.findIn K (.ref GC) "__eq__" = some (some (.ref fge)))
    (ige : PySem.W.isFn K (.ref fge) = true)
    (lge : K.lookup fge = some ⟨ocge, odge, .func (PySem.W.fnOf "__eq__" "Greater.__eq__" (C8.fnArgs sHiq) (C8.fnBody sHiq) (C8.fnScope sHiq) .none kVge dcge pmge ange cdge ctge), slge⟩)
    (cge : PySem.W.codeIn K cdge "Greater.__eq__" = true)
    (kge : PySem.W.keepIn K (.ref fge) = true)
    (abt : PySem.W.findIn K (.ref BC) "__str__" = some (some (.ref fbt)))
    (ibt : PySem.W.isFn K (.ref fbt) = true)
    (lbt : K.lookup fbt = some ⟨ocbt, odbt, .func (PySem.W.fnOf "__str__" "By.__str__" (C8.fnArgs sBys) (C8.fnBody sBys) (C8.fnScope sBys) .none kVbt dcbt pmbt anbt cdbt ctbt), slbt⟩)
    (cbt : PySem.W.codeIn K cdbt "By.__str__" = true)
    (kbt : PySem.W.keepIn K (.ref fbt) = true)
    (aR : PySem.W.nsIn K mainGlobals "Reader" = some (some (.ref R)))
    (pgR : PySem.W.plainGet K R Str.empty = true)
    (hdR : PySem.W.hasDictIn K R = true)
    (poR : PySem.W.plainOver K R = true)
    (saR : PySem.W.findIn K (.ref R) "__setattr__" = some (some (.builtin "object.__setattr__")))
    (mkR : PySem.W.makesIn K R = true)
    (kCR : PySem.W.keepIn K (.ref R) = true)
    (noR__words : PySem.W.findIn K (.ref R) "_words" = some none)
    (noR__row : PySem.W.findIn K (.ref R) "_row" = some none)
    (noR__at : PySem.W.findIn K (.ref R) "_at" = some none)
    (ari : PySem.W.findIn K (.ref R) "__init__" = some (some (.ref fri)))
    (iri : PySem.W.isFn K (.ref fri) = true)
    (lri : K.lookup fri = some ⟨ocri, odri, .func (PySem.W.fnOf "__init__" "Reader.__init__" (C8.fnArgs sRI) (C8.fnBody sRI) (C8.fnScope sRI) (.ref Tdri) kVri dcri pmri anri cdri ctri), slri⟩)
    (cri : PySem.W.codeIn K cdri "Reader.__init__" = true)
    (kri : PySem.W.keepIn K (.ref fri) = true)
    (lDri : K.lookup Tdri = some ⟨ocDri, odDri, .seq #[.int 0 tDri] nDri, slDri⟩)
    (arh : PySem.W.findIn K (.ref R) "at_hand" = some (some (.ref frh)))
    (irh : PySem.W.isFn K (.ref frh) = true)
    (lrh : K.lookup frh = some ⟨ocrh, odrh, .func (PySem.W.fnOf "at_hand" "Reader.at_hand" (C8.fnArgs sRah) (C8.fnBody sRah) (C8.fnScope sRah) .none kVrh dcrh pmrh anrh cdrh ctrh), slrh⟩)
    (crh : PySem.W.codeIn K cdrh "Reader.at_hand" = true)
    (krh : PySem.W.keepIn K (.ref frh) = true)
    (ary : PySem.W.findIn K (.ref R) "refuse" = some (some (.ref fry)))
    (iry : PySem.W.isFn K (.ref fry) = true)
    (lry : K.lookup fry = some ⟨ocry, odry, .func (PySem.W.fnOf "refuse" "Reader.refuse" (C8.fnArgs sRrf) (C8.fnBody sRrf) (C8.fnScope sRrf) .none kVry dcry pmry anry cdry ctry), slry⟩)
    (cry : PySem.W.codeIn K cdry "Reader.refuse" = true)
    (kry : PySem.W.keepIn K (.ref fry) = true)
    (ark : PySem.W.findIn K (.ref R) "take" = some (some (.ref frk)))
    (irk : PySem.W.isFn K (.ref frk) = true)
    (lrk : K.lookup frk = some ⟨ocrk, odrk, .func (PySem.W.fnOf "take" "Reader.take" (C8.fnArgs sRtk) (C8.fnBody sRtk) (C8.fnScope sRtk) .none kVrk dcrk pmrk anrk cdrk ctrk), slrk⟩)
    (crk : PySem.W.codeIn K cdrk "Reader.take" = true)
    (krk : PySem.W.keepIn K (.ref frk) = true)
    (arx : PySem.W.findIn K (.ref R) "expect" = some (some (.ref frx)))
    (irx : PySem.W.isFn K (.ref frx) = true)
    (lrx : K.lookup frx = some ⟨ocrx, odrx, .func (PySem.W.fnOf "expect" "Reader.expect" (C8.fnArgs sRex) (C8.fnBody sRex) (C8.fnScope sRex) .none kVrx dcrx pmrx anrx cdrx ctrx), slrx⟩)
    (crx : PySem.W.codeIn K cdrx "Reader.expect" = true)
    (krx : PySem.W.keepIn K (.ref frx) = true)
    (arf : PySem.W.findIn K (.ref R) "finish" = some (some (.ref frf)))
    (irf : PySem.W.isFn K (.ref frf) = true)
    (lrf : K.lookup frf = some ⟨ocrf, odrf, .func (PySem.W.fnOf "finish" "Reader.finish" (C8.fnArgs sRfi) (C8.fnBody sRfi) (C8.fnScope sRfi) .none kVrf dcrf pmrf anrf cdrf ctrf), slrf⟩)
    (crf : PySem.W.codeIn K cdrf "Reader.finish" = true)
    (krf : PySem.W.keepIn K (.ref frf) = true)
    (arn : PySem.W.findIn K (.ref R) "integer" = some (some (.ref frn)))
    (irn : PySem.W.isFn K (.ref frn) = true)
    (lrn : K.lookup frn = some ⟨ocrn, odrn, .func (PySem.W.fnOf "integer" "Reader.integer" (C8.fnArgs sRin) (C8.fnBody sRin) (C8.fnScope sRin) .none kVrn dcrn pmrn anrn cdrn ctrn), slrn⟩)
    (crn : PySem.W.codeIn K cdrn "Reader.integer" = true)
    (krn : PySem.W.keepIn K (.ref frn) = true)
    (fsFC : PySem.W.selfFirst K FC = true)
    (raFC : PySem.W.findIn K (.ref FC) "__rand__" = some none)
    (roFC : PySem.W.findIn K (.ref FC) "__ror__" = some none)
    (fmFC : PySem.W.findIn K (.ref FC) "__format__" = some (some (.builtin "object.__format__")))
    (sbFCVC : PySem.W.subIn K (.ref VC) (.ref FC) = some false)
    (sbFCLC : PySem.W.subIn K (.ref LC) (.ref FC) = some false)
    (sbFCGC : PySem.W.subIn K (.ref GC) (.ref FC) = some false)
    (neFCVC : FC ≠ VC)
    (neFCLC : FC ≠ LC)
    (neFCGC : FC ≠ GC)
    (fsVC : PySem.W.selfFirst K VC = true)
    (raVC : PySem.W.findIn K (.ref VC) "__rand__" = some none)
    (roVC : PySem.W.findIn K (.ref VC) "__ror__" = some none)
    (fmVC : PySem.W.findIn K (.ref VC) "__format__" = some (some (.builtin "object.__format__")))
    (sbVCFC : PySem.W.subIn K (.ref FC) (.ref VC) = some false)
    (sbVCLC : PySem.W.subIn K (.ref LC) (.ref VC) = some false)
    (sbVCGC : PySem.W.subIn K (.ref GC) (.ref VC) = some false)
    (neVCLC : VC ≠ LC)
    (neVCGC : VC ≠ GC)
    (fsLC : PySem.W.selfFirst K LC = true)
    (raLC : PySem.W.findIn K (.ref LC) "__rand__" = some none)
    (roLC : PySem.W.findIn K (.ref LC) "__ror__" = some none)
    (fmLC : PySem.W.findIn K (.ref LC) "__format__" = some (some (.builtin "object.__format__")))
    (sbLCFC : PySem.W.subIn K (.ref FC) (.ref LC) = some false)
    (sbLCVC : PySem.W.subIn K (.ref VC) (.ref LC) = some false)
    (sbLCGC : PySem.W.subIn K (.ref GC) (.ref LC) = some false)
    (neLCGC : LC ≠ GC)
    (fsGC : PySem.W.selfFirst K GC = true)
    (raGC : PySem.W.findIn K (.ref GC) "__rand__" = some none)
    (roGC : PySem.W.findIn K (.ref GC) "__ror__" = some none)
    (fmGC : PySem.W.findIn K (.ref GC) "__format__" = some (some (.builtin "object.__format__")))
    (sbGCFC : PySem.W.subIn K (.ref FC) (.ref GC) = some false)
    (sbGCVC : PySem.W.subIn K (.ref VC) (.ref GC) = some false)
    (sbGCLC : PySem.W.subIn K (.ref LC) (.ref GC) = some false)
    (kkFCVC : PySem.W.kitOne K (.ref FC) (.ref VC) = some false)
    (nfFCVC : PySem.W.notFirst K FC (.ref VC) = true)
    (kkFCLC : PySem.W.kitOne K (.ref FC) (.ref LC) = some false)
    (nfFCLC : PySem.W.notFirst K FC (.ref LC) = true)
    (kkFCGC : PySem.W.kitOne K (.ref FC) (.ref GC) = some false)
    (nfFCGC : PySem.W.notFirst K FC (.ref GC) = true)
    (kbSFC : PySem.W.kitOne K (.type "str") (.ref FC) = some false)
    (nbSFC : PySem.W.notFirst K FC (.type "str") = true)
    (kbTFC : PySem.W.kitOne K (.type "tuple") (.ref FC) = some false)
    (nbTFC : PySem.W.notFirst K FC (.type "tuple") = true)
    (kkVCFC : PySem.W.kitOne K (.ref VC) (.ref FC) = some false)
    (nfVCFC : PySem.W.notFirst K VC (.ref FC) = true)
    (kkVCLC : PySem.W.kitOne K (.ref VC) (.ref LC) = some false)
    (nfVCLC : PySem.W.notFirst K VC (.ref LC) = true)
    (kkVCGC : PySem.W.kitOne K (.ref VC) (.ref GC) = some false)
    (nfVCGC : PySem.W.notFirst K VC (.ref GC) = true)
    (kbSVC : PySem.W.kitOne K (.type "str") (.ref VC) = some false)
    (nbSVC : PySem.W.notFirst K VC (.type "str") = true)
    (kbTVC : PySem.W.kitOne K (.type "tuple") (.ref VC) = some false)
    (nbTVC : PySem.W.notFirst K VC (.type "tuple") = true)
    (kkLCFC : PySem.W.kitOne K (.ref LC) (.ref FC) = some false)
    (nfLCFC : PySem.W.notFirst K LC (.ref FC) = true)
    (kkLCVC : PySem.W.kitOne K (.ref LC) (.ref VC) = some false)
    (nfLCVC : PySem.W.notFirst K LC (.ref VC) = true)
    (kkLCGC : PySem.W.kitOne K (.ref LC) (.ref GC) = some false)
    (nfLCGC : PySem.W.notFirst K LC (.ref GC) = true)
    (kbSLC : PySem.W.kitOne K (.type "str") (.ref LC) = some false)
    (nbSLC : PySem.W.notFirst K LC (.type "str") = true)
    (kbTLC : PySem.W.kitOne K (.type "tuple") (.ref LC) = some false)
    (nbTLC : PySem.W.notFirst K LC (.type "tuple") = true)
    (kkGCFC : PySem.W.kitOne K (.ref GC) (.ref FC) = some false)
    (nfGCFC : PySem.W.notFirst K GC (.ref FC) = true)
    (kkGCVC : PySem.W.kitOne K (.ref GC) (.ref VC) = some false)
    (nfGCVC : PySem.W.notFirst K GC (.ref VC) = true)
    (kkGCLC : PySem.W.kitOne K (.ref GC) (.ref LC) = some false)
    (nfGCLC : PySem.W.notFirst K GC (.ref LC) = true)
    (kbSGC : PySem.W.kitOne K (.type "str") (.ref GC) = some false)
    (nbSGC : PySem.W.notFirst K GC (.type "str") = true)
    (kbTGC : PySem.W.kitOne K (.type "tuple") (.ref GC) = some false)
    (nbTGC : PySem.W.notFirst K GC (.type "tuple") = true)
    (aLCM : PySem.W.nsIn K mainGlobals "lcm" = some (some (.builtin "math.lcm")))
    (aDu : PySem.W.nsIn K mainGlobals "BadRule" = some (some (.ref DU)))
    (xDu : K.lookup DU = some (excClassObj nmDu qDu DU NDu bsDu bmDu true snDu subDu abDu colDu ddDu e0u e1u e2u e3u e5u "ValueError.__new__"))
    (xBu : PySem.HandSPX.refsVE bmDu = true)
    (xsu : PySem.W.findIn K (.ref DU) "__setattr__" = some (some (.builtin "object.__setattr__")))
    (xeu : PySem.W.subIn K (.ref DU) (.type "BaseException") = some true)
    (xtu : PySem.W.typeIn K (.ref DU) = some (.type "type"))
    (xku : PySem.W.keepIn K (.ref DU) = true)
    (xiu : PySem.W.findIn K (.ref DU) "__init__" = some (some (.ref fEu)))
    (xfu : PySem.W.typeIn K (.ref fEu) = some (.type "function"))
    (lEu : K.lookup fEu = some ⟨ocEu, odEu, .func (PySem.W.fnOf "__init__" "BadRule.__init__" (C8.fnArgs sBruE) (C8.fnBody sBruE) (C8.fnScope sBruE) .none kVEu dcEu pmEu anEu cdEu ctEu), slEu⟩)
    (cEu : PySem.W.codeIn K cdEu "BadRule.__init__" = true)
    (xvu0 : PySem.W.findIn K (.ref DU) "part" = some none)
    (aDs : PySem.W.nsIn K mainGlobals "BadSize" = some (some (.ref DS)))
    (xDs : K.lookup DS = some (excClassObj nmDs qDs DS NDs bsDs bmDs true snDs subDs abDs colDs ddDs e0s e1s e2s e3s e5s "ValueError.__new__"))
    (xBs : PySem.HandSPX.refsVE bmDs = true)
    (xss : PySem.W.findIn K (.ref DS) "__setattr__" = some (some (.builtin "object.__setattr__")))
    (xes : PySem.W.subIn K (.ref DS) (.type "BaseException") = some true)
    (xts : PySem.W.typeIn K (.ref DS) = some (.type "type"))
    (xks : PySem.W.keepIn K (.ref DS) = true)
    (xis : PySem.W.findIn K (.ref DS) "__init__" = some (some (.ref fEs)))
    (xfs : PySem.W.typeIn K (.ref fEs) = some (.type "function"))
    (lEs : K.lookup fEs = some ⟨ocEs, odEs, .func (PySem.W.fnOf "__init__" "BadSize.__init__" (C8.fnArgs sBszE) (C8.fnBody sBszE) (C8.fnScope sBszE) .none kVEs dcEs pmEs anEs cdEs ctEs), slEs⟩)
    (cEs : PySem.W.codeIn K cdEs "BadSize.__init__" = true)
    (xvs0 : PySem.W.findIn K (.ref DS) "value" = some none)
    (aDx : PySem.W.nsIn K mainGlobals "BadText" = some (some (.ref DX)))
    (xDx : K.lookup DX = some (excClassObj nmDx qDx DX NDx bsDx bmDx true snDx subDx abDx colDx ddDx e0x e1x e2x e3x e5x "ValueError.__new__"))
    (xBx : PySem.HandSPX.refsVE bmDx = true)
    (xsx : PySem.W.findIn K (.ref DX) "__setattr__" = some (some (.builtin "object.__setattr__")))
    (xex : PySem.W.subIn K (.ref DX) (.type "BaseException") = some true)
    (xtx : PySem.W.typeIn K (.ref DX) = some (.type "type"))
    (xkx : PySem.W.keepIn K (.ref DX) = true)
    (xix : PySem.W.findIn K (.ref DX) "__init__" = some (some (.ref fEx)))
    (xfx : PySem.W.typeIn K (.ref fEx) = some (.type "function"))
    (lEx : K.lookup fEx = some ⟨ocEx, odEx, .func (PySem.W.fnOf "__init__" "BadText.__init__" (C8.fnArgs sTxE) (C8.fnBody sTxE) (C8.fnScope sTxE) .none kVEx dcEx pmEx anEx cdEx ctEx), slEx⟩)
    (cEx : PySem.W.codeIn K cdEx "BadText.__init__" = true)
    (xvx0 : PySem.W.findIn K (.ref DX) "line" = some none)
    (xvx1 : PySem.W.findIn K (.ref DX) "word" = some none)
    (aDm : PySem.W.nsIn K mainGlobals "TooMany" = some (some (.ref DM)))
    (xDm : K.lookup DM = some (excClassObj nmDm qDm DM NDm bsDm bmDm true snDm subDm abDm colDm ddDm e0m e1m e2m e3m e5m "ValueError.__new__"))
    (xBm : PySem.HandSPX.refsVE bmDm = true)
    (xsm : PySem.W.findIn K (.ref DM) "__setattr__" = some (some (.builtin "object.__setattr__")))
    (xem : PySem.W.subIn K (.ref DM) (.type "BaseException") = some true)
    (xtm : PySem.W.typeIn K (.ref DM) = some (.type "type"))
    (xkm : PySem.W.keepIn K (.ref DM) = true)
    (xim : PySem.W.findIn K (.ref DM) "__init__" = some (some (.ref fEm)))
    (xfm : PySem.W.typeIn K (.ref fEm) = some (.type "function"))
    (lEm : K.lookup fEm = some ⟨ocEm, odEm, .func (PySem.W.fnOf "__init__" "TooMany.__init__" (C8.fnArgs sMnE) (C8.fnBody sMnE) (C8.fnScope sMnE) .none kVEm dcEm pmEm anEm cdEm ctEm), slEm⟩)
    (cEm : PySem.W.codeIn K cdEm "TooMany.__init__" = true)
    (xvm0 : PySem.W.findIn K (.ref DM) "what" = some none)
    (xvm1 : PySem.W.findIn K (.ref DM) "most" = some none)
    (gMF : PySem.W.nsIn K mainGlobals "MOST_FACTOR" = some (some (.int vMF tMF)))
    (eMF : vMF = 24)
    (gMS : PySem.W.nsIn K mainGlobals "MOST_START" = some (some (.int vMS tMS)))
    (eMS : vMS = 1000)
    (gGS : PySem.W.nsIn K mainGlobals "GREATEST_SIZE" = some (some (.int vGS tGS)))
    (eGS : vGS = 10 ^ 30)
    (gMP : PySem.W.nsIn K mainGlobals "MOST_PARTS" = some (some (.int vMP tMP)))
    (eMP : vMP = 6)
    (gMR : PySem.W.nsIn K mainGlobals "MOST_RESIDUES" = some (some (.int vMR tMR)))
    (eMR : vMR = 5000)
    (gPF : PySem.W.nsIn K mainGlobals "PIECE_FIGURES" = some (some (.int vPF tPF)))
    (ePF : vPF = 60)
    (gPW : PySem.W.nsIn K mainGlobals "PIECE_WORTH" = some (some (.int vPW tPW)))
    (ePW : vPW = 10 ^ 60)
    (gSG : PySem.W.nsIn K mainGlobals "SIGNS" = some (some (.ref SG)))
    (lSG : K.lookup SG = some ⟨.type "tuple", odG, .seq wsG nG, slG⟩)
    (sSG : wsG.size ≤ 100)
    (vSG : Vals [.str "&", .str "|"] wsG.toList)
    (z_int : PySem.W.nsIn K mainGlobals "int" = some none)
    (z_list : PySem.W.nsIn K mainGlobals "list" = some none)
    (z_len : PySem.W.nsIn K mainGlobals "len" = some none)
    (z_abs : PySem.W.nsIn K mainGlobals "abs" = some none)
    (z_bool : PySem.W.nsIn K mainGlobals "bool" = some none)
    (z_str : PySem.W.nsIn K mainGlobals "str" = some none)
    (z_isinstance : PySem.W.nsIn K mainGlobals "isinstance" = some none)
    (z_range : PySem.W.nsIn K mainGlobals "range" = some none)
    (z_repr : PySem.W.nsIn K mainGlobals "repr" = some none)
    (z_all : PySem.W.nsIn K mainGlobals "all" = some none) :
    ∃ (fd : FuncData) (tb : List (Str × Addr × Addr)) (sp : Sp), (∀ e ∈ tb, e.1 ∈ (["law"] : List Str) ∧ PySem.W.tabIn K e.1 = some (e.2.1, e.2.2) ∧ K.lookup e.2.2 = none) ∧ (∀ (s : Shared) (u : Value), BindsTo s fd ⟨[u], []⟩ [("_law_script", u)]) ∧
      (∀ base : Heap, K.In base → base.Ns mainGlobals mg → (∀ e ∈ tb, TabB base mg e.2.1 e.2.2) → FnG l.prog w K mg base 17 fa fd ["_law_script"] sp) ∧
      ∀ (H : Hp) (a : Addr) (ns : List Int), (∀ e ∈ tb, H e.2.2 = some (.tbl #[])) → SqL K H a (ns.map V.int) → ns.length ≤ 63 → sp [.ref a] H (fun v _ => v = .bl true) C8.E0 := by
  have e := hfa.symm.trans (PySem.W.mg_of X G ala)
  cases e
  subst eMF eMS eGS eMP eMR ePF ePW
  have Fii : C8.Def K mg "is_integer" sIsInt fii _ := ⟨⟨_, _, _, _, _, _, _, _, _, _, rfl, lii, cii⟩, PySem.W.mg_of X G aii, kii⟩
  have bii : Binds K _ ["value"] [] := Fii.fn.binds rfl fun _ _ _ _ _ _ us hl => match us, hl with | [_], _ => rfl
  have Fiw : C8.Def K mg "is_within" sWithin fiw _ := ⟨⟨_, _, _, _, _, _, _, _, _, _, rfl, liw, ciw⟩, PySem.W.mg_of X G aiw, kiw⟩
  have biw : Binds K _ ["value", "least", "most"] [] := Fiw.fn.binds rfl fun _ _ _ _ _ _ us hl => match us, hl with | [_, _, _], _ => rfl
  have Fiz : C8.Def K mg "is_size" sSize fiz _ := ⟨⟨_, _, _, _, _, _, _, _, _, _, rfl, liz, ciz⟩, PySem.W.mg_of X G aiz, kiz⟩
  have biz : Binds K _ ["value"] [] := Fiz.fn.binds rfl fun _ _ _ _ _ _ us hl => match us, hl with | [_], _ => rfl
  have Fjf : C8.Def K mg "is_factor" sFac fjf _ := ⟨⟨_, _, _, _, _, _, _, _, _, _, rfl, ljf, cjf⟩, PySem.W.mg_of X G ajf, kjf⟩
  have bjf : Binds K _ ["value", "least"] [] := Fjf.fn.binds rfl fun _ _ _ _ _ _ us hl => match us, hl with | [_, _], _ => rfl
  have Fis : C8.Def K mg "is_start" sSta fis _ := ⟨⟨_, _, _, _, _, _, _, _, _, _, rfl, lis, cis⟩, PySem.W.mg_of X G ais, kis⟩
  have bis : Binds K _ ["value"] [] := Fis.fn.binds rfl fun _ _ _ _ _ _ us hl => match us, hl with | [_], _ => rfl
  have Fio : C8.Def K mg "integer_of" sIntOf fio _ := ⟨⟨_, _, _, _, _, _, _, _, _, _, rfl, lio, cio⟩, PySem.W.mg_of X G aio, kio⟩
  have bio : Binds K _ ["word"] [] := Fio.fn.binds rfl fun _ _ _ _ _ _ us hl => match us, hl with | [_], _ => rfl
  have Fnu : C8.Def K mg "number_of" sNumOf fnu _ := ⟨⟨_, _, _, _, _, _, _, _, _, _, rfl, lnu, cnu⟩, PySem.W.mg_of X G anu, knu⟩
  have bnu : Binds K _ ["word", "least", "most"] [] := Fnu.fn.binds rfl fun _ _ _ _ _ _ us hl => match us, hl with | [_, _, _], _ => rfl
  have Fwr : C8.Def K mg "read_rule" sRr fwr _ := ⟨⟨_, _, _, _, _, _, _, _, _, _, rfl, lwr, cwr⟩, PySem.W.mg_of X G awr, kwr⟩
  have bwr : Binds K _ ["reader"] [] := Fwr.fn.binds rfl fun _ _ _ _ _ _ us hl => match us, hl with | [_], _ => rfl
  have Fwp : C8.Def K mg "read_part" sRp fwp _ := ⟨⟨_, _, _, _, _, _, _, _, _, _, rfl, lwp, cwp⟩, PySem.W.mg_of X G awp, kwp⟩
  have bwp : Binds K _ ["reader"] [] := Fwp.fn.binds rfl fun _ _ _ _ _ _ us hl => match us, hl with | [_], _ => rfl
  have Fws : C8.Def K mg "read_sign" sRs fws _ := ⟨⟨_, _, _, _, _, _, _, _, _, _, rfl, lws, cws⟩, PySem.W.mg_of X G aws, kws⟩
  have bws : Binds K _ ["reader"] [] := Fws.fn.binds rfl fun _ _ _ _ _ _ us hl => match us, hl with | [_], _ => rfl
  have Fwo : C8.Def K mg "rule_of" sRo fwo _ := ⟨⟨_, _, _, _, _, _, _, _, _, _, rfl, lwo, cwo⟩, PySem.W.mg_of X G awo, kwo⟩
  have bwo : Binds K _ ["told"] [] := Fwo.fn.binds rfl fun _ _ _ _ _ _ us hl => match us, hl with | [_], _ => rfl
  have Fmo : C8.Def K mg "check_modulus" sMo fmo _ := ⟨⟨_, _, _, _, _, _, _, _, _, _, rfl, lmo, cmo⟩, PySem.W.mg_of X G amo, kmo⟩
  have bmo : Binds K _ ["modulus"] [] := Fmo.fn.binds rfl fun _ _ _ _ _ _ us hl => match us, hl with | [_], _ => rfl
  have Fjo : C8.Def K mg "check_joined" sJo fjo _ := ⟨⟨_, _, _, _, _, _, _, _, _, _, rfl, ljo, cjo⟩, PySem.W.mg_of X G ajo, kjo⟩
  have bjo : Binds K _ ["one", "other"] [] := Fjo.fn.binds rfl fun _ _ _ _ _ _ us hl => match us, hl with | [_, _], _ => rfl
  have Flp : C8.Def K mg "_law_pen" sPen flp _ := ⟨⟨_, _, _, _, _, _, _, _, _, _, rfl, llp, clp⟩, PySem.W.mg_of X G alp, klp⟩
  have blp : Binds K _ ["_law_script"] [] := Flp.fn.binds rfl fun _ _ _ _ _ _ us hl => match us, hl with | [_], _ => rfl
  have Fld : C8.Def K mg "_law_draw" sDraw fld _ := ⟨⟨_, _, _, _, _, _, _, _, _, _, rfl, lld, cld⟩, PySem.W.mg_of X G ald, kld⟩
  have bld : Binds K _ ["_law_pen_here", "_law_many"] [] := Fld.fn.binds rfl fun _ _ _ _ _ _ us hl => match us, hl with | [_, _], _ => rfl
  have Flk : C8.Def K mg "_law_pick" sPick flk _ := ⟨⟨_, _, _, _, _, _, _, _, _, _, rfl, llk, clk⟩, PySem.W.mg_of X G alk, klk⟩
  have blk : Binds K _ ["_law_pen_here", "_law_some"] [] := Flk.fn.binds rfl fun _ _ _ _ _ _ us hl => match us, hl with | [_, _], _ => rfl
  have Fle : C8.Def K mg "_law_leaf" sLef fle _ := ⟨⟨_, _, _, _, _, _, _, _, _, _, rfl, lle, cle⟩, PySem.W.mg_of X G ale, kle⟩
  have ble : Binds K _ ["_law_pen_here"] [] := Fle.fn.binds rfl fun _ _ _ _ _ _ us hl => match us, hl with | [_], _ => rfl
  have Flq : C8.Def K mg "_law_plain" sPla flq _ := ⟨⟨_, _, _, _, _, _, _, _, _, _, rfl, llq, clq⟩, PySem.W.mg_of X G alq, klq⟩
  have blq : Binds K _ ["_law_pen_here", "_law_many"] [] := Flq.fn.binds rfl fun _ _ _ _ _ _ us hl => match us, hl with | [_, _], _ => rfl
  have Flm : C8.Def K mg "_law_made" sMad flm _ := ⟨⟨_, _, _, _, _, _, _, _, _, _, rfl, llm, clm⟩, PySem.W.mg_of X G alm, klm⟩
  have blm : Binds K _ ["_law_plain_here"] [] := Flm.fn.binds rfl fun _ _ _ _ _ _ us hl => match us, hl with | [_], _ => rfl
  have Fls : C8.Def K mg "_law_leaves" sLvs fls _ := ⟨⟨_, _, _, _, _, _, _, _, _, _, rfl, lls, cls⟩, PySem.W.mg_of X G als, kls⟩
  have bls : Binds K _ ["_law_plain_here"] [] := Fls.fn.binds rfl fun _ _ _ _ _ _ us hl => match us, hl with | [_], _ => rfl
  have Flo : C8.Def K mg "_law_modulus" sMdl flo _ := ⟨⟨_, _, _, _, _, _, _, _, _, _, rfl, llo, clo⟩, PySem.W.mg_of X G alo, klo⟩
  have blo : Binds K _ ["_law_plain_here"] [] := Flo.fn.binds rfl fun _ _ _ _ _ _ us hl => match us, hl with | [_], _ => rfl
  have Flf : C8.Def K mg "_law_fitting" sFit flf _ := ⟨⟨_, _, _, _, _, _, _, _, _, _, rfl, llf, clf⟩, PySem.W.mg_of X G alf, klf⟩
  have blf : Binds K _ ["_law_pen_here", "_law_many"] [] := Flf.fn.binds rfl fun _ _ _ _ _ _ us hl => match us, hl with | [_, _], _ => rfl
  have Flt : C8.Def K mg "_law_text" sTx flt _ := ⟨⟨_, _, _, _, _, _, _, _, _, _, rfl, llt, clt⟩, PySem.W.mg_of X G alt, klt⟩
  have blt : Binds K _ ["_law_plain_here"] [] := Flt.fn.binds rfl fun _ _ _ _ _ _ us hl => match us, hl with | [_], _ => rfl
  have Fln : C8.Def K mg "_law_other" sOt fln _ := ⟨⟨_, _, _, _, _, _, _, _, _, _, rfl, lln, cln⟩, PySem.W.mg_of X G aln, kln⟩
  have bln : Binds K _ ["_law_pen_here", "_law_plain_here"] [] := Fln.fn.binds rfl fun _ _ _ _ _ _ us hl => match us, hl with | [_, _], _ => rfl
  have Flr : C8.Def K mg "_law_right" sRig flr _ := ⟨⟨_, _, _, _, _, _, _, _, _, _, rfl, llr, clr⟩, PySem.W.mg_of X G alr, klr⟩
  have blr : Binds K _ ["_law_pen_here"] [] := Flr.fn.binds rfl fun _ _ _ _ _ _ us hl => match us, hl with | [_], _ => rfl
  have Fla : LawC K "law" sLaw fa _ c0 := ⟨⟨_, _, _, _, _, _, _, _, _, rfl, lla, cla⟩⟩
  have clFC : Cls K FC := ⟨pgFC, hdFC, poFC, saFC⟩
  have IFC : C8.InsC K FC := ⟨clFC, hCFC, hG, hK, hMFC, by unfold PySem.W.kitOne; rw [if_pos (by simp)]⟩
  have clVC : Cls K VC := ⟨pgVC, hdVC, poVC, saVC⟩
  have IVC : C8.InsC K VC := ⟨clVC, hCVC, hG, hK, hMVC, by unfold PySem.W.kitOne; rw [if_pos (by simp)]⟩
  have clLC : Cls K LC := ⟨pgLC, hdLC, poLC, saLC⟩
  have ILC : C8.InsC K LC := ⟨clLC, hCLC, hG, hK, hMLC, by unfold PySem.W.kitOne; rw [if_pos (by simp)]⟩
  have clGC : Cls K GC := ⟨pgGC, hdGC, poGC, saGC⟩
  have IGC : C8.InsC K GC := ⟨clGC, hCGC, hG, hK, hMGC, by unfold PySem.W.kitOne; rw [if_pos (by simp)]⟩
  have clBC : Cls K BC := ⟨pgBC, hdBC, poBC, saBC⟩
  have rUC : CRead K UC mcUC := ⟨sRUC, sGUC⟩
  have clUC : Cls K UC := ⟨pgUC, hdUC, poUC, saUC⟩
  have Fur : C8.Fun K "read" "Rule.read" sRd fur _ := ⟨_, _, _, _, _, _, _, _, _, _, rfl, lur, cur⟩
  have bur : Binds K _ ["text"] [] := Fur.binds rfl fun _ _ _ _ _ _ us hl => match us, hl with | [_], _ => rfl
  have Sur : SMet K UC "read" pur fur := ⟨⟨_, sTUC, sRUC, sur⟩, sGUC, ⟨_, rur⟩, kur⟩
  have Ffi : C8.Fun K "__init__" "Fixed.__init__" sFxi ffi _ := ⟨_, _, _, _, _, _, _, _, _, _, rfl, lfi, cfi⟩
  have bfi : Binds K _ ["self", "size"] [] := Ffi.binds rfl fun _ _ _ _ _ _ us hl => match us, hl with | [_, _], _ => rfl
  have tfi : Meth K FC "__init__" ffi := ⟨afi, ifi, kfi⟩
  have Fvi : C8.Fun K "__init__" "Divided.__init__" sDvi fvi _ := ⟨_, _, _, _, _, _, _, _, _, _, rfl, lvi, cvi⟩
  have bvi : Binds K _ ["self", "x", "y", "w"] [] := Fvi.binds rfl fun _ _ _ _ _ _ us hl => match us, hl with | [_, _, _, _], _ => rfl
  have tvi : Meth K VC "__init__" fvi := ⟨avi, ivi, kvi⟩
  have Fgi0 : C8.Fun K "__init__" "Lesser.__init__" sLoi fgi0 _ := ⟨_, _, _, _, _, _, _, _, _, _, rfl, lgi0, cgi0⟩
  have bgi0 : Binds K _ ["self", "one", "other"] [] := Fgi0.binds rfl fun _ _ _ _ _ _ us hl => match us, hl with | [_, _, _], _ => rfl
  have tgi0 : Meth K LC "__init__" fgi0 := ⟨agi0, igi0, kgi0⟩
  have Fgi1 : C8.Fun K "__init__" "Greater.__init__" sHii fgi1 _ := ⟨_, _, _, _, _, _, _, _, _, _, rfl, lgi1, cgi1⟩
  have bgi1 : Binds K _ ["self", "one", "other"] [] := Fgi1.binds rfl fun _ _ _ _ _ _ us hl => match us, hl with | [_, _, _], _ => rfl
  have tgi1 : Meth K GC "__init__" fgi1 := ⟨agi1, igi1, kgi1⟩
  have Fbi : C8.Fun K "__init__" "By.__init__" sByi fbi _ := ⟨_, _, _, _, _, _, _, _, _, _, rfl, lbi, cbi⟩
  have bbi : Binds K _ ["self", "function"] [] := Fbi.binds rfl fun _ _ _ _ _ _ us hl => match us, hl with | [_, _], _ => rfl
  have tbi : Meth K BC "__init__" fbi := ⟨abi, ibi, kbi⟩
  have Fft : C8.Fun K "__str__" "Fixed.__str__" sFxs fft _ := ⟨_, _, _, _, _, _, _, _, _, _, rfl, lft, cft⟩
  have bft : Binds K _ ["self"] [] := Fft.binds rfl fun _ _ _ _ _ _ us hl => match us, hl with | [_], _ => rfl
  have tft : Meth K FC "__str__" fft := ⟨aft, ift, kft⟩
  have Ffa : C8.Fun K "__and__" "Fixed.__and__" sFxa ffa _ := ⟨_, _, _, _, _, _, _, _, _, _, rfl, lfa, cfa⟩
  have bfa : Binds K _ ["self", "other"] [] := Ffa.binds rfl fun _ _ _ _ _ _ us hl => match us, hl with | [_, _], _ => rfl
  have tfa : Meth K FC "__and__" ffa := ⟨afa, ifa, kfa⟩
  have Ffo : C8.Fun K "__or__" "Fixed.__or__" sFxo ffo _ := ⟨_, _, _, _, _, _, _, _, _, _, rfl, lfo, cfo⟩
  have bfo : Binds K _ ["self", "other"] [] := Ffo.binds rfl fun _ _ _ _ _ _ us hl => match us, hl with | [_, _], _ => rfl
  have tfo : Meth K FC "__or__" ffo := ⟨afo, ifo, kfo⟩
  have Ffe : C8.Fun K "__eq__" "Fixed.__eq__" sFxe ffe _ := ⟨_, _, _, _, _, _, _, _, _, _, rfl, lfe, cfe⟩
  have bfe : Binds K _ ["self", "other"] [] := Ffe.binds rfl fun _ _ _ _ _ _ us hl => match us, hl with | [_, _], _ => rfl
  have tfe : Meth K FC "__eq__" ffe := ⟨afe, ife, kfe⟩
  have Fvt : C8.Fun K "__str__" "Divided.__str__" sDvs fvt _ := ⟨_, _, _, _, _, _, _, _, _, _, rfl, lvt, cvt⟩
  have bvt : Binds K _ ["self"] [] := Fvt.binds rfl fun _ _ _ _ _ _ us hl => match us, hl with | [_], _ => rfl
  have tvt : Meth K VC "__str__" fvt := ⟨avt, ivt, kvt⟩
  have Fva : C8.Fun K "__and__" "Divided.__and__" sDva fva _ := ⟨_, _, _, _, _, _, _, _, _, _, rfl, lva, cva⟩
  have bva : Binds K _ ["self", "other"] [] := Fva.binds rfl fun _ _ _ _ _ _ us hl => match us, hl with | [_, _], _ => rfl
  have tva : Meth K VC "__and__" fva := ⟨ava, iva, kva⟩
  have Fvo : C8.Fun K "__or__" "Divided.__or__" sDvo fvo _ := ⟨_, _, _, _, _, _, _, _, _, _, rfl, lvo, cvo⟩
  have bvo : Binds K _ ["self", "other"] [] := Fvo.binds rfl fun _ _ _ _ _ _ us hl => match us, hl with | [_, _], _ => rfl
  have tvo : Meth K VC "__or__" fvo := ⟨avo, ivo, kvo⟩
  have Fve : C8.Fun K "__eq__" "Divided.__eq__" sDve fve _ := ⟨_, _, _, _, _, _, _, _, _, _, rfl, lve, cve⟩
  have bve : Binds K _ ["self", "other"] [] := Fve.binds rfl fun _ _ _ _ _ _ us hl => match us, hl with | [_, _], _ => rfl
  have tve : Meth K VC "__eq__" fve := ⟨ave, ive, kve⟩
  have Fqt : C8.Fun K "__str__" "Lesser.__str__" sLos fqt _ := ⟨_, _, _, _, _, _, _, _, _, _, rfl, lqt, cqt⟩
  have bqt : Binds K _ ["self"] [] := Fqt.binds rfl fun _ _ _ _ _ _ us hl => match us, hl with | [_], _ => rfl
  have tqt : Meth K LC "__str__" fqt := ⟨aqt, iqt, kqt⟩
  have Fqa : C8.Fun K "__and__" "Lesser.__and__" sLoa fqa _ := ⟨_, _, _, _, _, _, _, _, _, _, rfl, lqa, cqa⟩
  have bqa : Binds K _ ["self", "other"] [] := Fqa.binds rfl fun _ _ _ _ _ _ us hl => match us, hl with | [_, _], _ => rfl
  have tqa : Meth K LC "__and__" fqa := ⟨aqa, iqa, kqa⟩
  have Fqo : C8.Fun K "__or__" "Lesser.__or__" sLoo fqo _ := ⟨_, _, _, _, _, _, _, _, _, _, rfl, lqo, cqo⟩
  have bqo : Binds K _ ["self", "other"] [] := Fqo.binds rfl fun _ _ _ _ _ _ us hl => match us, hl with | [_, _], _ => rfl
  have tqo : Meth K LC "__or__" fqo := ⟨aqo, iqo, kqo⟩
  have Fqe : C8.Fun K "__eq__" "Lesser.__eq__" sLoq fqe _ := ⟨_, _, _, _, _, _, _, _, _, _, rfl, lqe, cqe⟩
  have bqe : Binds K _ ["self", "other"] [] := Fqe.binds rfl fun _ _ _ _ _ _ us hl => match us, hl with | [_, _], _ => rfl
  have tqe : Meth K LC "__eq__" fqe := ⟨aqe, iqe, kqe⟩
  have Fgt : C8.Fun K "__str__" "Greater.__str__" sHis fgt _ := ⟨_, _, _, _, _, _, _, _, _, _, rfl, lgt, cgt⟩
  have bgt : Binds K _ ["self"] [] := Fgt.binds rfl fun _ _ _ _ _ _ us hl => match us, hl with | [_], _ => rfl
  have tgt : Meth K GC "__str__" fgt := ⟨agt, igt, kgt⟩
  have Fga : C8.Fun K "__and__" "Greater.__and__" sHia fga _ := ⟨_, _, _, _, _, _, _, _, _, _, rfl, lga, cga⟩
  have bga : Binds K _ ["self", "other"] [] := Fga.binds rfl fun _ _ _ _ _ _ us hl => match us, hl with | [_, _], _ => rfl
  have tga : Meth K GC "__and__" fga := ⟨aga, iga, kga⟩
  have Fgo : C8.Fun K "__or__" "Greater.__or__" sHio fgo _ := ⟨_, _, _, _, _, _, _, _, _, _, rfl, lgo, cgo⟩
  have bgo : Binds K _ ["self", "other"] [] := Fgo.binds rfl fun _ _ _ _ _ _ us hl => match us, hl with | [_, _], _ => rfl
  have tgo : Meth K GC "__or__" fgo := ⟨ago, igo, kgo⟩
  have Fge : C8.Fun K "__eq__" "Greater.__eq__" sHiq fge _ := ⟨_, _, _, _, _, _, _, _, _, _, rfl, lge, cge⟩
  have bge : Binds K _ ["self", "other"] [] := Fge.binds rfl fun _ _ _ _ _ _ us hl => match us, hl with | [_, _], _ => rfl
  have tge : Meth K GC "__eq__" fge := ⟨age, ige, kge⟩
  have Fbt : C8.Fun K "__str__" "By.__str__" sBys fbt _ := ⟨_, _, _, _, _, _, _, _, _, _, rfl, lbt, cbt⟩
  have bbt : Binds K _ ["self"] [] := Fbt.binds rfl fun _ _ _ _ _ _ us hl => match us, hl with | [_], _ => rfl
  have tbt : Meth K BC "__str__" fbt := ⟨abt, ibt, kbt⟩
  have clR : Cls K R := ⟨pgR, hdR, poR, saR⟩
  have Fri : C8.Fun K "__init__" "Reader.__init__" sRI fri _ := ⟨_, _, _, _, _, _, _, _, _, _, rfl, lri, cri⟩
  have FDri : FunD K "__init__" "Reader.__init__" (C8.fnArgs sRI) (C8.fnBody sRI) (C8.fnScope sRI) [.int 0] [] fri _ := ⟨⟨_, _, _, _, _, _, _, _, _, _, rfl, lri, cri, .inr ⟨by simp, Tdri, _, [.int 0 tDri], nDri, rfl, lDri, rfl, .cons ⟨_, rfl⟩ .nil⟩, .inl rfl⟩, kri⟩
  have Frh : C8.Fun K "at_hand" "Reader.at_hand" sRah frh _ := ⟨_, _, _, _, _, _, _, _, _, _, rfl, lrh, crh⟩
  have brh : Binds K _ ["self"] [] := Frh.binds rfl fun _ _ _ _ _ _ us hl => match us, hl with | [_], _ => rfl
  have trh : Meth K R "at_hand" frh := ⟨arh, irh, krh⟩
  have Fry : C8.Fun K "refuse" "Reader.refuse" sRrf fry _ := ⟨_, _, _, _, _, _, _, _, _, _, rfl, lry, cry⟩
  have bry : Binds K _ ["self"] [] := Fry.binds rfl fun _ _ _ _ _ _ us hl => match us, hl with | [_], _ => rfl
  have tryM : Meth K R "refuse" fry := ⟨ary, iry, kry⟩
  have Frk : C8.Fun K "take" "Reader.take" sRtk frk _ := ⟨_, _, _, _, _, _, _, _, _, _, rfl, lrk, crk⟩
  have brk : Binds K _ ["self", "worth"] [] := Frk.binds rfl fun _ _ _ _ _ _ us hl => match us, hl with | [_, _], _ => rfl
  have trk : Meth K R "take" frk := ⟨ark, irk, krk⟩
  have Frx : C8.Fun K "expect" "Reader.expect" sRex frx _ := ⟨_, _, _, _, _, _, _, _, _, _, rfl, lrx, crx⟩
  have brx : Binds K _ ["self", "sign"] [] := Frx.binds rfl fun _ _ _ _ _ _ us hl => match us, hl with | [_, _], _ => rfl
  have trx : Meth K R "expect" frx := ⟨arx, irx, krx⟩
  have Frf : C8.Fun K "finish" "Reader.finish" sRfi frf _ := ⟨_, _, _, _, _, _, _, _, _, _, rfl, lrf, crf⟩
  have brf : Binds K _ ["self"] [] := Frf.binds rfl fun _ _ _ _ _ _ us hl => match us, hl with | [_], _ => rfl
  have trf : Meth K R "finish" frf := ⟨arf, irf, krf⟩
  have Frn : C8.Fun K "integer" "Reader.integer" sRin frn _ := ⟨_, _, _, _, _, _, _, _, _, _, rfl, lrn, crn⟩
  have brn : Binds K _ ["self", "least", "most"] [] := Frn.binds rfl fun _ _ _ _ _ _ us hl => match us, hl with | [_, _, _], _ => rfl
  have trn : Meth K R "integer" frn := ⟨arn, irn, krn⟩
  have FEu : C8.Fun K "__init__" "BadRule.__init__" sBruE fEu _ := ⟨_, _, _, _, _, _, _, _, _, _, rfl, lEu, cEu⟩
  have bEu : Binds K _ ["self", "part"] [] := FEu.binds rfl fun _ _ _ _ _ _ us hl => match us, hl with | [_, _], _ => rfl
  have OXu : OexC K DU := ⟨⟨_, _, _, _, _, _, _, _, _, _, _, _, _, _, _, xDu, xBu⟩, xsu, xeu, xtu, xku⟩
  have FEs : C8.Fun K "__init__" "BadSize.__init__" sBszE fEs _ := ⟨_, _, _, _, _, _, _, _, _, _, rfl, lEs, cEs⟩
  have bEs : Binds K _ ["self", "value"] [] := FEs.binds rfl fun _ _ _ _ _ _ us hl => match us, hl with | [_, _], _ => rfl
  have OXs : OexC K DS := ⟨⟨_, _, _, _, _, _, _, _, _, _, _, _, _, _, _, xDs, xBs⟩, xss, xes, xts, xks⟩
  have FEx : C8.Fun K "__init__" "BadText.__init__" sTxE fEx _ := ⟨_, _, _, _, _, _, _, _, _, _, rfl, lEx, cEx⟩
  have bEx : Binds K _ ["self", "line", "word"] [] := FEx.binds rfl fun _ _ _ _ _ _ us hl => match us, hl with | [_, _, _], _ => rfl
  have OXx : OexC K DX := ⟨⟨_, _, _, _, _, _, _, _, _, _, _, _, _, _, _, xDx, xBx⟩, xsx, xex, xtx, xkx⟩
  have FEm : C8.Fun K "__init__" "TooMany.__init__" sMnE fEm _ := ⟨_, _, _, _, _, _, _, _, _, _, rfl, lEm, cEm⟩
  have bEm : Binds K _ ["self", "what", "most"] [] := FEm.binds rfl fun _ _ _ _ _ _ us hl => match us, hl with | [_, _, _], _ => rfl
  have OXm : OexC K DM := ⟨⟨_, _, _, _, _, _, _, _, _, _, _, _, _, _, _, xDm, xBm⟩, xsm, xem, xtm, xkm⟩
  have T : Txt mg := { n_int := PySem.W.mg_none_of X G z_int, n_list := PySem.W.mg_none_of X G z_list, n_len := PySem.W.mg_none_of X G z_len, n_abs := PySem.W.mg_none_of X G z_abs, n_bool := PySem.W.mg_none_of X G z_bool, n_str := PySem.W.mg_none_of X G z_str, n_isinstance := PySem.W.mg_none_of X G z_isinstance, n_range := PySem.W.mg_none_of X G z_range, n_repr := PySem.W.mg_none_of X G z_repr, n_all := PySem.W.mg_none_of X G z_all }
  have TN : TxtN mg := { toTxt := T, c_PF := ⟨_, PySem.W.mg_of X G gPF⟩, c_PW := ⟨_, PySem.W.mg_of X G gPW⟩ }
  have TO0 : TabOf (tab1 B0) B0 "law" := tab1_0
  have KBR : KBn K _ ["text"] 0 ["text"] (fun _ ws => ws) (fun _ zs => zs) := kb_same Fur rfl fun _ _ _ _ _ _ us ws h1 h2 => match us, ws, h1, h2 with | [], [_], _, _ => rfl
  obtain ⟨ds, vds, bri⟩ := FDri.binds1 (ps := ["self", "text", "row"]) 2 0 (by simp) rfl (fun Tq kVq dcq pmq anq cdq ctq us its h1 h2 => match us, its, h1, h2 with | [_, _], [_], _, _ => ⟨_, rfl, rfl⟩)
  refine ⟨PySem.W.fnOf "law" "law" (C8.fnArgs sLaw) (C8.fnBody sLaw) (C8.fnScope sLaw) .none kVla dcla pmla anla (.ref c0) ctla, [("law", c0, B0)], spLaw K (tab1 B0), ?tbs, fun s u => .of_eq rfl, fun base KB GB TBS => ?_, ?hsp⟩
  case tbs =>
    exact fun e he => by
      simp only [List.mem_cons, List.not_mem_nil, or_false] at he
      rcases he with rfl
      · exact ⟨by simp, tabIn_of ala lla rfl ltla vtla, ntla⟩
  case hsp =>
    exact fun H a ns hB hS hl => ⟨a, ns, rfl, hS, hl, fun p hp => by
      simp only [tab1, List.mem_cons, List.not_mem_nil, or_false] at hp
      subst hp
      exact TabS.nil (hB _ (List.Mem.head _)), fun _ => rfl⟩
  have TBla : TabB base mg c0 B0 := TBS ("law", c0, B0) (by simp)
  have ERu : Err1 "BadRule" "part" l.prog w K mg base DU fEu _ := ⟨OXu, xiu, xfu, fn_BruE FEu OXu xvu0, bEu, PySem.W.mg_of X G aDu⟩
  have ERs : Err1 "BadSize" "value" l.prog w K mg base DS fEs _ := ⟨OXs, xis, xfs, fn_BszE FEs OXs xvs0, bEs, PySem.W.mg_of X G aDs⟩
  have ERm : Err2 "TooMany" "what" "most" l.prog w K mg base DM fEm _ := ⟨OXm, xim, xfm, fn_mnE FEm OXm xvm0 xvm1, bEm, PySem.W.mg_of X G aDm⟩
  have ERx : Err2 "BadText" "line" "word" l.prog w K mg base DX fEx _ := ⟨OXx, xix, xfx, fn_txE FEx OXx xvx0 xvx1, bEx, PySem.W.mg_of X G aDx⟩
  have Dii := cal_isint (P := l.prog) (w := w) (base := base) Fii bii T
  have Diw := cal_within Fiw biw T Dii
  have Diz := cal_sz (P := l.prog) (w := w) (base := base) Fiz biz ⟨_, PySem.W.mg_of X G gGS⟩ Diw
  have Dif := cal_fac (P := l.prog) (w := w) (base := base) Fjf bjf ⟨_, PySem.W.mg_of X G gMF⟩ Diw
  have Dis := cal_sta (P := l.prog) (w := w) (base := base) Fis bis ⟨_, PySem.W.mg_of X G gMS⟩ Diw
  have Dio := cal_intof (P := l.prog) (w := w) (base := base) Fio bio TN
  have Dno := cal_numof Fnu bnu Dio Diw
  have ZF : FxC K FC := ⟨clFC, noFC_size, noFC_parts, noFC_modulus⟩
  have ZV : DvC K VC := ⟨clVC, noVC_x, noVC_y, noVC_w, noVC_parts, noVC_modulus⟩
  have ZL : JnC K LC := ⟨clLC, noLC_one, noLC_other, noLC_parts, noLC_modulus⟩
  have ZG : JnC K GC := ⟨clGC, noGC_one, noGC_other, noGC_parts, noGC_modulus⟩
  have ZB : ByC K BC := ⟨clBC, noBC_function, noBC_parts, noBC_modulus⟩
  have hF := PySem.W.mg_of X G aFC
  have hV := PySem.W.mg_of X G aVC
  have hL := PySem.W.mg_of X G aLC
  have hGr := PySem.W.mg_of X G aGC
  have hB := PySem.W.mg_of X G aBC
  have hlc := PySem.W.mg_of X G aLCM
  have hU := PySem.W.mg_of X G aUC
  have kit : ∀ C D, Rk FC VC LC GC C → Rk FC VC LC GC D → PySem.W.kitOne K (.ref C) (.ref D) = some (decide (C = D)) := fun C D hC hD => by
    rcases hC with rfl | rfl | rfl | rfl <;> rcases hD with rfl | rfl | rfl | rfl
    · exact (by rw [IFC.me]; simp)
    · exact (by rw [kkFCVC, decide_eq_false (neFCVC)])
    · exact (by rw [kkFCLC, decide_eq_false (neFCLC)])
    · exact (by rw [kkFCGC, decide_eq_false (neFCGC)])
    · exact (by rw [kkVCFC, decide_eq_false (neFCVC.symm)])
    · exact (by rw [IVC.me]; simp)
    · exact (by rw [kkVCLC, decide_eq_false (neVCLC)])
    · exact (by rw [kkVCGC, decide_eq_false (neVCGC)])
    · exact (by rw [kkLCFC, decide_eq_false (neFCLC.symm)])
    · exact (by rw [kkLCVC, decide_eq_false (neVCLC.symm)])
    · exact (by rw [ILC.me]; simp)
    · exact (by rw [kkLCGC, decide_eq_false (neLCGC)])
    · exact (by rw [kkGCFC, decide_eq_false (neFCGC.symm)])
    · exact (by rw [kkGCVC, decide_eq_false (neVCGC.symm)])
    · exact (by rw [kkGCLC, decide_eq_false (neLCGC.symm)])
    · exact (by rw [IGC.me]; simp)
  have ins : ∀ C, Rk FC VC LC GC C → C8.InsC K C := fun C hC => by
    rcases hC with rfl | rfl | rfl | rfl
    · exact IFC
    · exact IVC
    · exact ILC
    · exact IGC
  have Z : RlZ K mg FC VC LC GC := ⟨ZF, ZV, ZL, ZG, hF, hV, hL, hGr, neFCVC, neFCLC, neFCGC, neVCLC, neVCGC, neLCGC, ins, kit⟩
  have FM : FixM l.prog w K mg base FC DS ffi _ := ⟨⟨mkFC, afi, ifi, kCFC⟩, fn_fxi Ffi ZF ERs Diz, hF, bfi⟩
  have DM1 : DivM l.prog w K mg base VC DU fvi _ := ⟨⟨mkVC, avi, ivi, kCVC⟩, fn_dvi Fvi ZV ERu Dif Dis, hV, bvi⟩
  have BM : ByM l.prog w K mg base BC fbi _ := ⟨⟨mkBC, abi, ibi, kCBC⟩, fn_byi Fbi ZB, hB, bbi⟩
  have DMo : CalX l.prog w K mg base 3 "check_modulus" (spMo DM) := ⟨_, _, _, fn_mo Fmo ERm ⟨_, PySem.W.mg_of X G gMR⟩, Fmo.mgf, Fmo.kp, bmo⟩
  have DJo : CalX l.prog w K mg base 4 "check_joined" (spJo K FC VC LC GC DU DM) := ⟨_, _, _, fn_jo Fjo T Z ERu ERm ⟨_, PySem.W.mg_of X G gMP⟩ hlc DMo, Fjo.mgf, Fjo.kp, bjo⟩
  have LM : JnM "Lesser" .lo l.prog w K mg base FC VC LC GC DU DM LC fgi0 _ := ⟨⟨mkLC, agi0, igi0, kCLC⟩, fn_loi Fgi0 Z hlc DJo, hL, bgi0⟩
  have GM : JnM "Greater" .hi l.prog w K mg base FC VC LC GC DU DM GC fgi1 _ := ⟨⟨mkGC, agi1, igi1, kCGC⟩, fn_hii Fgi1 Z hlc DJo, hGr, bgi1⟩
  have LA : MetP l.prog w K mg base 7 (Rk FC VC LC GC) (PySem.dunder "and") (fun _ => spAn K FC VC LC GC DU DM .lo) := andP LM Ffa tfa bfa Fva tva bva Fqa tqa bqa Fga tga bga
  have LO : MetP l.prog w K mg base 7 (Rk FC VC LC GC) (PySem.dunder "or") (fun _ => spAn K FC VC LC GC DU DM .hi) := orP GM Ffo tfo bfo Fvo tvo bvo Fqo tqo bqo Fgo tgo bgo
  have OA : OpP K (Rk FC VC LC GC) .BitAnd := ⟨fun C hC => by
    rcases hC with rfl | rfl | rfl | rfl
    · exact fsFC
    · exact fsVC
    · exact fsLC
    · exact fsGC
, fun C hC => by
    rcases hC with rfl | rfl | rfl | rfl
    · exact raFC
    · exact raVC
    · exact raLC
    · exact raGC
, fun C D hC hD ne => by
    rcases hC with rfl | rfl | rfl | rfl <;> rcases hD with rfl | rfl | rfl | rfl
    · exact absurd rfl ne
    · exact sbFCVC
    · exact sbFCLC
    · exact sbFCGC
    · exact sbVCFC
    · exact absurd rfl ne
    · exact sbVCLC
    · exact sbVCGC
    · exact sbLCFC
    · exact sbLCVC
    · exact absurd rfl ne
    · exact sbLCGC
    · exact sbGCFC
    · exact sbGCVC
    · exact sbGCLC
    · exact absurd rfl ne
⟩
  have OO : OpP K (Rk FC VC LC GC) .BitOr := ⟨fun C hC => by
    rcases hC with rfl | rfl | rfl | rfl
    · exact fsFC
    · exact fsVC
    · exact fsLC
    · exact fsGC
, fun C hC => by
    rcases hC with rfl | rfl | rfl | rfl
    · exact roFC
    · exact roVC
    · exact roLC
    · exact roGC
, fun C D hC hD ne => by
    rcases hC with rfl | rfl | rfl | rfl <;> rcases hD with rfl | rfl | rfl | rfl
    · exact absurd rfl ne
    · exact sbFCVC
    · exact sbFCLC
    · exact sbFCGC
    · exact sbVCFC
    · exact absurd rfl ne
    · exact sbVCLC
    · exact sbVCGC
    · exact sbLCFC
    · exact sbLCVC
    · exact absurd rfl ne
    · exact sbLCGC
    · exact sbGCFC
    · exact sbGCVC
    · exact sbGCLC
    · exact absurd rfl ne
⟩
  have nf : ∀ C D, Rk FC VC LC GC C → Rk FC VC LC GC D → PySem.W.notFirst K C (.ref D) = true := fun C D hC hD => by
    rcases hC with rfl | rfl | rfl | rfl <;> rcases hD with rfl | rfl | rfl | rfl
    · exact (by simp [PySem.W.notFirst])
    · exact nfFCVC
    · exact nfFCLC
    · exact nfFCGC
    · exact nfVCFC
    · exact (by simp [PySem.W.notFirst])
    · exact nfVCLC
    · exact nfVCGC
    · exact nfLCFC
    · exact nfLCVC
    · exact (by simp [PySem.W.notFirst])
    · exact nfLCGC
    · exact nfGCFC
    · exact nfGCVC
    · exact nfGCLC
    · exact (by simp [PySem.W.notFirst])
  have NE : ∀ C, Rk FC VC LC GC C → NeC K C := fun C hC => by
    rcases hC with rfl | rfl | rfl | rfl
    · exact ⟨hMFC, nEFC⟩
    · exact ⟨hMVC, nEVC⟩
    · exact ⟨hMLC, nELC⟩
    · exact ⟨hMGC, nEGC⟩
  have nfs : ∀ C, Rk FC VC LC GC C → PySem.W.notFirst K C (.type "str") = true := fun C hC => by
    rcases hC with rfl | rfl | rfl | rfl
    · exact nbSFC
    · exact nbSVC
    · exact nbSLC
    · exact nbSGC
  have nft : ∀ C, Rk FC VC LC GC C → PySem.W.notFirst K C (.type "tuple") = true := fun C hC => by
    rcases hC with rfl | rfl | rfl | rfl
    · exact nbTFC
    · exact nbTVC
    · exact nbTLC
    · exact nbTGC
  have OT : OtC K FC VC LC GC := ⟨fun C hC => by
    rcases hC with rfl | rfl | rfl | rfl
    · exact kbSFC
    · exact kbSVC
    · exact kbSLC
    · exact kbSGC
, fun C hC => by
    rcases hC with rfl | rfl | rfl | rfl
    · exact kbTFC
    · exact kbTVC
    · exact kbTLC
    · exact kbTGC
⟩
  have FP : FmP K (Rk FC VC LC GC) := ⟨fun C hC => by
    rcases hC with rfl | rfl | rfl | rfl
    · exact fmFC
    · exact fmVC
    · exact fmLC
    · exact fmGC
, fun C hC => by
    rcases hC with rfl | rfl | rfl | rfl
    · exact hMFC
    · exact hMVC
    · exact hMLC
    · exact hMGC
⟩
  have WE : MetP l.prog w K mg base 7 (Rk FC VC LC GC) "__eq__" (spTe FC VC LC GC 6) := eqP T Z nf Ffe tfe bfe Fve tve bve Fqe tqe bqe Fge tge bge 6
  have WN : MetP l.prog w K mg base 8 (Rk FC VC LC GC) "__eq__" (spTn K FC VC LC GC) := eqN T Z Ffe tfe bfe Fve tve bve Fqe tqe bqe Fge tge bge (n := 6) WE
  have SP : MetP l.prog w K mg base 13 (Rk FC VC LC GC) "__str__" (spSt FC VC LC GC 6) := strP Z FP Fft tft bft Fvt tvt bvt Fqt tqt bqt Fgt tgt bgt 6
  have MB : MetX l.prog w K mg base 1 BC "__str__" spBs := ⟨_, _, _, tbt, fn_bys Fbt, bbt⟩
  have RC : RdC K R := ⟨clR, noR__words, noR__row, noR__at⟩
  have Mrh : MetX l.prog w K mg base 1 R "at_hand" (spRah R) := ⟨_, _, _, trh, fn_rah Frh T RC, brh⟩
  have Mry : MetX l.prog w K mg base 3 R "refuse" (spRrf R DX) := ⟨_, _, _, tryM, fn_rrf Fry RC ERx, bry⟩
  have Mrk : MetX l.prog w K mg base 5 R "take" (spRtk R DX) := ⟨_, _, _, trk, fn_rtk Frk RC Mry, brk⟩
  have Mrx : MetX l.prog w K mg base 7 R "expect" (spRex R) := ⟨_, _, _, trx, fn_rex Frx RC Mrh Mrk, brx⟩
  have Mrf : MetX l.prog w K mg base 5 R "finish" (spRfi R DX) := ⟨_, _, _, trf, fn_rfi Frf T RC Mry, brf⟩
  have Mrn : MetX l.prog w K mg base 7 R "integer" (spRin R DX) := ⟨_, _, _, trn, fn_rin Frn RC Mrh Mrk Dno, brn⟩
  have RM : RdR l.prog w K mg base R DX := ⟨RC, Mrh, Mrk, Mrx, Mrn, Mrf⟩
  have RK : RdK l.prog w K mg base R DX fri _ ds := ⟨⟨mkR, ari, iri, kCR⟩, fn_ri Fri T RC ERx, PySem.W.mg_of X G aR, bri, vds⟩
  have DWp := cal_rp (P := l.prog) (w := w) (base := base) Fwp bwp RM ⟨_, PySem.W.mg_of X G gGS⟩ ⟨_, PySem.W.mg_of X G gMF⟩ ⟨_, PySem.W.mg_of X G gMS⟩
  have tSG : ∀ H, SqT K H SG [.str (SX.S [38]), .str (SX.S [124])] := fun H => .inr ⟨_, _, _, lSG, rfl, rfl, Nat.le_trans sSG (by decide), vSG⟩
  have DWs := cal_rs (P := l.prog) (w := w) (base := base) Fws bws RM (PySem.W.mg_of X G gSG) tSG
  have DWr := cal_rr Fwr bwr RM ⟨_, PySem.W.mg_of X G gMP⟩ DWp DWs
  have DWo := cal_ro Fwo bwo T Z FM DM1 LA OA LO OO
  have RR : RrM l.prog w K mg base FC VC LC GC UC pur fur _ (fun _ ws => ws) := ⟨Sur, fn_rd Fur RK RM DWr DWo, bur, KBR⟩
  have D1 := cal_draw (P := l.prog) (w := w) (K := K) (base := base) Fld bld T.toTxt0
  have D2 := cal_pick Flk blk T.toTxt0 D1
  have D0 := cal_pen (P := l.prog) (w := w) (base := base) Flp blp T.toTxt0
  have DLe := cal_lef Fle ble D1 D2
  have DPl := cal_pla Flq blq D1 D2 DLe 6
  have DMa := cal_mad Flm blm Z FM DM1 LA OA LO OO 6
  have DLs := cal_lvs (P := l.prog) (w := w) (base := base) Fls bls 10
  have DMd := cal_mdl Flo blo DLs
  have DFt := cal_fit Flf blf T D1 DPl DMd
  have DTx := cal_tx (P := l.prog) (w := w) (base := base) Flt blt T 6
  have DOt : C8.Cal l.prog w K mg base 7 "_law_other" (spOt 6) [] := cal_ot Fln bln T D1 6
  have DRg := cal_rig Flr blr T Z OT hU RR SP WE WN NE nf nfs nft DFt DMa DMd DTx DOt
  exact fn_law Fla TBla TO0 T Z FM DM1 BM hU RR LA OA LO OO SP MB D0 DRg
end Lw
namespace Lw
open PySem PySem.Spec PyProof.Rows L2
open LamX
theorem tab_parts {K : PySem.W.Frag} {c P : Addr} (h : PySem.W.codeHdIn K c P = true) : ∃ (oc : Value) (od : Option Addr) (us : Array Value) (sl : Array (Option Value)), K.lookup c = some ⟨oc, od, .fields us, sl⟩ ∧ us[11]? = some (.ref P) := by
  unfold PySem.W.codeHdIn at h
  split at h
  · rename_i od vs sl hk
    refine ⟨_, _, _, _, hk, ?_⟩
    have h1 := (Bool.and_eq_true_iff.mp (Bool.and_eq_true_iff.mp (Bool.and_eq_true_iff.mp (Bool.and_eq_true_iff.mp (Bool.and_eq_true_iff.mp h).1).1).1).1).1
    split at h1
    · rename_i P' e
      rw [e, beq_iff_eq.mp h1]
    · cases h1
  · cases h
/-- the walk's end over a Hook that tells of some K -/
theorem walk_endX {l : PySem.W.OpenLaw} {n k : Nat} {q : Program} {loose : List Str} {XP : (Str → Option Value) → Heap → Prop} {YP : World → Heap → Prop} {d : DefRec} {x : Str} {xts : List Str}
    (hn : l.most = some n) (hn2 : n ≤ 63) (hdf : d.params.defaults = []) (hr : Room k callerA)
    (F : ∀ (w : World) (mg : Str → Option Value) (fa : Addr) (h : Heap), YP w h → h.Ns mainGlobals mg → mg d.name = some (.ref fa) → ∃ (K : PySem.W.Frag) (fd : FuncData) (tb : List (Str × Addr × Addr)) (sp : Sp), K.In h ∧ (∀ y ∈ xts, ∃ c B, PySem.W.tabIn K y = some (c, B) ∧ PySem.W.codeHdIn K c B = true ∧ h.get? B = some { cls := .none, data := .fields #[] }) ∧
      (∀ e ∈ tb, e.1 ∈ xts ∧ PySem.W.tabIn K e.1 = some (e.2.1, e.2.2) ∧ K.lookup e.2.2 = none) ∧ (∀ (s : Shared) (u : Value), BindsTo s fd ⟨[u], []⟩ [(x, u)]) ∧
      (∀ base : Heap, K.In base → base.Ns mainGlobals mg → (∀ e ∈ tb, TabB base mg e.2.1 e.2.2) → FnG l.prog w K mg base k fa fd [x] sp) ∧
      ∀ (H : Hp) (a : Addr) (ns : List Int), (∀ e ∈ tb, H e.2.2 = some (.tbl #[])) → SqL K H a (ns.map V.int) → ns.length ≤ 63 → sp [.ref a] H (fun v _ => v = .bl true) C8.E0) :
    PySem.W.WalkO q loose XP YP l.row.toRowW d [] (fun f vs => PySem.call f vs) := by
  refine Att.attach_callB hn hdf fun w s₀ s₁ mg mb fa o pm cd doc a vs ns G Y ho hd hcd hmg hobj hints hlen hbits hg => ?_
  obtain ⟨K, fd, tb, sp, KX, hx, ht, hb, hF, hsp⟩ := F w mg fa _ Y G.T.g hmg
  have tab : ∀ e ∈ tb, PySem.W.CodeHd s₁.heap e.2.1 e.2.2 ∧ s₁.heap.get? e.2.2 = some { cls := .none, data := .fields #[] } := fun e he => by
    obtain ⟨h1, h2, h3⟩ := ht e he
    obtain ⟨c, B, g1, g2, g3⟩ := hx _ h1
    rw [g1] at h2
    obtain ⟨z1, z2⟩ := Prod.mk.inj (Option.some.inj h2)
    rw [← z1, ← z2]
    exact ⟨PySem.W.codeHd_of_K KX g2, g3⟩
  have mem : ∀ {p : Addr → Prop}, (∀ e ∈ tb, p e.2.2) → ∀ b ∈ tb.map (·.2.2), p b := fun {p} h b hb => by
    obtain ⟨e, he, rfl⟩ := List.mem_map.mp hb
    exact h e he
  exact law_end (Bs := tb.map (·.2.2)) KX G.T.g G.T.b G.T.builtins G.T.nolimit hg (mem fun e he => (tab e he).2) (mem fun e he => (ht e he).2.2) (mem fun e he => ⟨_, (tab e he).1⟩) G.T.bmain hobj hints (Nat.le_trans (Nat.le_trans hlen hn2) (by decide)) hr
    (fun base kin ns' tbb => hF base kin ns' fun e he => tbb e.2.2 (List.mem_map.mpr ⟨e, he, rfl⟩) e.2.1 (tab e he).1) hb fun H hB hS => hsp H a ns (fun e he => hB e.2.2 (List.mem_map.mpr ⟨e, he, rfl⟩)) hS (Nat.le_trans hlen hn2)
theorem known {l : PySem.W.OpenLaw} {w : World} {K : PySem.W.Frag} {h : Heap} {mg : Str → Option Value} {fa : Addr} (X : K.In h) (G : h.Ns mainGlobals mg) (hfa' : mg "law" = some (.ref fa)) (c : Hz.SaysZ hfn htf exK h K) :
    ∃ (K : PySem.W.Frag) (fd : FuncData) (tb : List (Str × Addr × Addr)) (sp : Sp), K.In h ∧ (∀ y ∈ (["law"] : List Str), ∃ c B, PySem.W.tabIn K y = some (c, B) ∧ PySem.W.codeHdIn K c B = true ∧ h.get? B = some { cls := .none, data := .fields #[] }) ∧
      (∀ e ∈ tb, e.1 ∈ (["law"] : List Str) ∧ PySem.W.tabIn K e.1 = some (e.2.1, e.2.2) ∧ K.lookup e.2.2 = none) ∧ (∀ (s : Shared) (u : Value), BindsTo s fd ⟨[u], []⟩ [("_law_script", u)]) ∧
      (∀ base : Heap, K.In base → base.Ns mainGlobals mg → (∀ e ∈ tb, TabB base mg e.2.1 e.2.2) → FnG l.prog w K mg base 17 fa fd ["_law_script"] sp) ∧
      ∀ (H : Hp) (a : Addr) (ns : List Int), (∀ e ∈ tb, H e.2.2 = some (.tbl #[])) → SqL K H a (ns.map V.int) → ns.length ≤ 63 → sp [.ref a] H (fun v _ => v = .bl true) C8.E0 := by
  have e0 : (exK K).all (fun l => l.all id) = true := c.more
  obtain ⟨_, _, _, _, _, _, cd_ii, _, _, l_ii, c_ii⟩ := (show ∃ oc od kV dc pm an cd ct sl, K.lookup (He.ga K "is_integer") = some ⟨oc, od, .func (PySem.W.fnOf "is_integer" "is_integer" (C8.fnArgs sIsInt) (C8.fnBody sIsInt) (C8.fnScope sIsInt) .none kV dc pm an cd ct), sl⟩ ∧ PySem.W.codeIn K cd "is_integer" = true from c.get0 0 (d := hd0) rfl rfl)
  obtain ⟨_, _, _, _, _, _, cd_iw, _, _, l_iw, c_iw⟩ := (show ∃ oc od kV dc pm an cd ct sl, K.lookup (He.ga K "is_within") = some ⟨oc, od, .func (PySem.W.fnOf "is_within" "is_within" (C8.fnArgs sWithin) (C8.fnBody sWithin) (C8.fnScope sWithin) .none kV dc pm an cd ct), sl⟩ ∧ PySem.W.codeIn K cd "is_within" = true from c.get0 1 (d := hd1) rfl rfl)
  obtain ⟨_, _, _, _, _, _, cd_iz, _, _, l_iz, c_iz⟩ := (show ∃ oc od kV dc pm an cd ct sl, K.lookup (He.ga K "is_size") = some ⟨oc, od, .func (PySem.W.fnOf "is_size" "is_size" (C8.fnArgs sSize) (C8.fnBody sSize) (C8.fnScope sSize) .none kV dc pm an cd ct), sl⟩ ∧ PySem.W.codeIn K cd "is_size" = true from c.get0 2 (d := hd2) rfl rfl)
  obtain ⟨_, _, _, _, _, _, cd_jf, _, _, l_jf, c_jf⟩ := (show ∃ oc od kV dc pm an cd ct sl, K.lookup (He.ga K "is_factor") = some ⟨oc, od, .func (PySem.W.fnOf "is_factor" "is_factor" (C8.fnArgs sFac) (C8.fnBody sFac) (C8.fnScope sFac) .none kV dc pm an cd ct), sl⟩ ∧ PySem.W.codeIn K cd "is_factor" = true from c.get0 3 (d := hd3) rfl rfl)
  obtain ⟨_, _, _, _, _, _, cd_is, _, _, l_is, c_is⟩ := (show ∃ oc od kV dc pm an cd ct sl, K.lookup (He.ga K "is_start") = some ⟨oc, od, .func (PySem.W.fnOf "is_start" "is_start" (C8.fnArgs sSta) (C8.fnBody sSta) (C8.fnScope sSta) .none kV dc pm an cd ct), sl⟩ ∧ PySem.W.codeIn K cd "is_start" = true from c.get0 4 (d := hd4) rfl rfl)
  obtain ⟨_, _, _, _, _, _, cd_io, _, _, l_io, c_io⟩ := (show ∃ oc od kV dc pm an cd ct sl, K.lookup (He.ga K "integer_of") = some ⟨oc, od, .func (PySem.W.fnOf "integer_of" "integer_of" (C8.fnArgs sIntOf) (C8.fnBody sIntOf) (C8.fnScope sIntOf) .none kV dc pm an cd ct), sl⟩ ∧ PySem.W.codeIn K cd "integer_of" = true from c.get0 5 (d := hd5) rfl rfl)
  obtain ⟨_, _, _, _, _, _, cd_nu, _, _, l_nu, c_nu⟩ := (show ∃ oc od kV dc pm an cd ct sl, K.lookup (He.ga K "number_of") = some ⟨oc, od, .func (PySem.W.fnOf "number_of" "number_of" (C8.fnArgs sNumOf) (C8.fnBody sNumOf) (C8.fnScope sNumOf) .none kV dc pm an cd ct), sl⟩ ∧ PySem.W.codeIn K cd "number_of" = true from c.get0 6 (d := hd6) rfl rfl)
  obtain ⟨_, _, _, _, _, _, cd_wr, _, _, l_wr, c_wr⟩ := (show ∃ oc od kV dc pm an cd ct sl, K.lookup (He.ga K "read_rule") = some ⟨oc, od, .func (PySem.W.fnOf "read_rule" "read_rule" (C8.fnArgs sRr) (C8.fnBody sRr) (C8.fnScope sRr) .none kV dc pm an cd ct), sl⟩ ∧ PySem.W.codeIn K cd "read_rule" = true from c.get0 7 (d := hd7) rfl rfl)
  obtain ⟨_, _, _, _, _, _, cd_wp, _, _, l_wp, c_wp⟩ := (show ∃ oc od kV dc pm an cd ct sl, K.lookup (He.ga K "read_part") = some ⟨oc, od, .func (PySem.W.fnOf "read_part" "read_part" (C8.fnArgs sRp) (C8.fnBody sRp) (C8.fnScope sRp) .none kV dc pm an cd ct), sl⟩ ∧ PySem.W.codeIn K cd "read_part" = true from c.get0 8 (d := hd8) rfl rfl)
  obtain ⟨_, _, _, _, _, _, cd_ws, _, _, l_ws, c_ws⟩ := (show ∃ oc od kV dc pm an cd ct sl, K.lookup (He.ga K "read_sign") = some ⟨oc, od, .func (PySem.W.fnOf "read_sign" "read_sign" (C8.fnArgs sRs) (C8.fnBody sRs) (C8.fnScope sRs) .none kV dc pm an cd ct), sl⟩ ∧ PySem.W.codeIn K cd "read_sign" = true from c.get0 9 (d := hd9) rfl rfl)
  obtain ⟨_, _, _, _, _, _, cd_wo, _, _, l_wo, c_wo⟩ := (show ∃ oc od kV dc pm an cd ct sl, K.lookup (He.ga K "rule_of") = some ⟨oc, od, .func (PySem.W.fnOf "rule_of" "rule_of" (C8.fnArgs sRo) (C8.fnBody sRo) (C8.fnScope sRo) .none kV dc pm an cd ct), sl⟩ ∧ PySem.W.codeIn K cd "rule_of" = true from c.get0 10 (d := hd10) rfl rfl)
  obtain ⟨_, _, _, _, _, _, cd_mo, _, _, l_mo, c_mo⟩ := (show ∃ oc od kV dc pm an cd ct sl, K.lookup (He.ga K "check_modulus") = some ⟨oc, od, .func (PySem.W.fnOf "check_modulus" "check_modulus" (C8.fnArgs sMo) (C8.fnBody sMo) (C8.fnScope sMo) .none kV dc pm an cd ct), sl⟩ ∧ PySem.W.codeIn K cd "check_modulus" = true from c.get0 11 (d := hd11) rfl rfl)
  obtain ⟨_, _, _, _, _, _, cd_jo, _, _, l_jo, c_jo⟩ := (show ∃ oc od kV dc pm an cd ct sl, K.lookup (He.ga K "check_joined") = some ⟨oc, od, .func (PySem.W.fnOf "check_joined" "check_joined" (C8.fnArgs sJo) (C8.fnBody sJo) (C8.fnScope sJo) .none kV dc pm an cd ct), sl⟩ ∧ PySem.W.codeIn K cd "check_joined" = true from c.get0 12 (d := hd12) rfl rfl)
  obtain ⟨_, _, _, _, _, _, cd_lp, _, _, l_lp, c_lp⟩ := (show ∃ oc od kV dc pm an cd ct sl, K.lookup (He.ga K "_law_pen") = some ⟨oc, od, .func (PySem.W.fnOf "_law_pen" "_law_pen" (C8.fnArgs sPen) (C8.fnBody sPen) (C8.fnScope sPen) .none kV dc pm an cd ct), sl⟩ ∧ PySem.W.codeIn K cd "_law_pen" = true from c.get0 13 (d := hd13) rfl rfl)
  obtain ⟨_, _, _, _, _, _, cd_ld, _, _, l_ld, c_ld⟩ := (show ∃ oc od kV dc pm an cd ct sl, K.lookup (He.ga K "_law_draw") = some ⟨oc, od, .func (PySem.W.fnOf "_law_draw" "_law_draw" (C8.fnArgs sDraw) (C8.fnBody sDraw) (C8.fnScope sDraw) .none kV dc pm an cd ct), sl⟩ ∧ PySem.W.codeIn K cd "_law_draw" = true from c.get0 14 (d := hd14) rfl rfl)
  obtain ⟨_, _, _, _, _, _, cd_lk, _, _, l_lk, c_lk⟩ := (show ∃ oc od kV dc pm an cd ct sl, K.lookup (He.ga K "_law_pick") = some ⟨oc, od, .func (PySem.W.fnOf "_law_pick" "_law_pick" (C8.fnArgs sPick) (C8.fnBody sPick) (C8.fnScope sPick) .none kV dc pm an cd ct), sl⟩ ∧ PySem.W.codeIn K cd "_law_pick" = true from c.get0 15 (d := hd15) rfl rfl)
  obtain ⟨_, _, _, _, _, _, cd_le, _, _, l_le, c_le⟩ := (show ∃ oc od kV dc pm an cd ct sl, K.lookup (He.ga K "_law_leaf") = some ⟨oc, od, .func (PySem.W.fnOf "_law_leaf" "_law_leaf" (C8.fnArgs sLef) (C8.fnBody sLef) (C8.fnScope sLef) .none kV dc pm an cd ct), sl⟩ ∧ PySem.W.codeIn K cd "_law_leaf" = true from c.get0 16 (d := hd16) rfl rfl)
  obtain ⟨_, _, _, _, _, _, cd_lq, _, _, l_lq, c_lq⟩ := (show ∃ oc od kV dc pm an cd ct sl, K.lookup (He.ga K "_law_plain") = some ⟨oc, od, .func (PySem.W.fnOf "_law_plain" "_law_plain" (C8.fnArgs sPla) (C8.fnBody sPla) (C8.fnScope sPla) .none kV dc pm an cd ct), sl⟩ ∧ PySem.W.codeIn K cd "_law_plain" = true from c.get0 17 (d := hd17) rfl rfl)
  obtain ⟨_, _, _, _, _, _, cd_lm, _, _, l_lm, c_lm⟩ := (show ∃ oc od kV dc pm an cd ct sl, K.lookup (He.ga K "_law_made") = some ⟨oc, od, .func (PySem.W.fnOf "_law_made" "_law_made" (C8.fnArgs sMad) (C8.fnBody sMad) (C8.fnScope sMad) .none kV dc pm an cd ct), sl⟩ ∧ PySem.W.codeIn K cd "_law_made" = true from c.get0 18 (d := hd18) rfl rfl)
  obtain ⟨_, _, _, _, _, _, cd_ls, _, _, l_ls, c_ls⟩ := (show ∃ oc od kV dc pm an cd ct sl, K.lookup (He.ga K "_law_leaves") = some ⟨oc, od, .func (PySem.W.fnOf "_law_leaves" "_law_leaves" (C8.fnArgs sLvs) (C8.fnBody sLvs) (C8.fnScope sLvs) .none kV dc pm an cd ct), sl⟩ ∧ PySem.W.codeIn K cd "_law_leaves" = true from c.get0 19 (d := hd19) rfl rfl)
  obtain ⟨_, _, _, _, _, _, cd_lo, _, _, l_lo, c_lo⟩ := (show ∃ oc od kV dc pm an cd ct sl, K.lookup (He.ga K "_law_modulus") = some ⟨oc, od, .func (PySem.W.fnOf "_law_modulus" "_law_modulus" (C8.fnArgs sMdl) (C8.fnBody sMdl) (C8.fnScope sMdl) .none kV dc pm an cd ct), sl⟩ ∧ PySem.W.codeIn K cd "_law_modulus" = true from c.get0 20 (d := hd20) rfl rfl)
  obtain ⟨_, _, _, _, _, _, cd_lf, _, _, l_lf, c_lf⟩ := (show ∃ oc od kV dc pm an cd ct sl, K.lookup (He.ga K "_law_fitting") = some ⟨oc, od, .func (PySem.W.fnOf "_law_fitting" "_law_fitting" (C8.fnArgs sFit) (C8.fnBody sFit) (C8.fnScope sFit) .none kV dc pm an cd ct), sl⟩ ∧ PySem.W.codeIn K cd "_law_fitting" = true from c.get0 21 (d := hd21) rfl rfl)
  obtain ⟨_, _, _, _, _, _, cd_lt, _, _, l_lt, c_lt⟩ := (show ∃ oc od kV dc pm an cd ct sl, K.lookup (He.ga K "_law_text") = some ⟨oc, od, .func (PySem.W.fnOf "_law_text" "_law_text" (C8.fnArgs sTx) (C8.fnBody sTx) (C8.fnScope sTx) .none kV dc pm an cd ct), sl⟩ ∧ PySem.W.codeIn K cd "_law_text" = true from c.get0 22 (d := hd22) rfl rfl)
  obtain ⟨_, _, _, _, _, _, cd_ln, _, _, l_ln, c_ln⟩ := (show ∃ oc od kV dc pm an cd ct sl, K.lookup (He.ga K "_law_other") = some ⟨oc, od, .func (PySem.W.fnOf "_law_other" "_law_other" (C8.fnArgs sOt) (C8.fnBody sOt) (C8.fnScope sOt) .none kV dc pm an cd ct), sl⟩ ∧ PySem.W.codeIn K cd "_law_other" = true from c.get0 23 (d := hd23) rfl rfl)
  obtain ⟨_, _, _, _, _, _, cd_lr, _, _, l_lr, c_lr⟩ := (show ∃ oc od kV dc pm an cd ct sl, K.lookup (He.ga K "_law_right") = some ⟨oc, od, .func (PySem.W.fnOf "_law_right" "_law_right" (C8.fnArgs sRig) (C8.fnBody sRig) (C8.fnScope sRig) .none kV dc pm an cd ct), sl⟩ ∧ PySem.W.codeIn K cd "_law_right" = true from c.get0 24 (d := hd24) rfl rfl)
  obtain ⟨_, _, _, _, _, _, cd_la, _, _, l_la, c_la⟩ := (show ∃ oc od kV dc pm an cd ct sl, K.lookup (He.ga K "law") = some ⟨oc, od, .func (PySem.W.fnOf "law" "law" (C8.fnArgs sLaw) (C8.fnBody sLaw) (C8.fnScope sLaw) .none kV dc pm an cd ct), sl⟩ ∧ PySem.W.codeIn K cd "law" = true from c.get0 25 (d := hd25) rfl rfl)
  obtain ⟨c1_la, rfl⟩ := He.codeIn_ref c_la
  have ec_la : He.codeOf K ("law", none) = c1_la := He.codeOf_eq (K := K) (p := ("law", none)) l_la rfl
  subst ec_la
  obtain ⟨_, _, _, _, lt_la, vt_la⟩ := tab_parts (c.hd ("law", none) (List.Mem.head _))
  obtain ⟨_, _, _, _, _, _, cd_ur, _, _, l_ur, c_ur⟩ := (show ∃ oc od kV dc pm an cd ct sl, K.lookup (Hz.rAd K (Hz.pAd K (He.ga K "Rule") "read") "staticmethod") = some ⟨oc, od, .func (PySem.W.fnOf "read" "Rule.read" (C8.fnArgs sRd) (C8.fnBody sRd) (C8.fnScope sRd) .none kV dc pm an cd ct), sl⟩ ∧ PySem.W.codeIn K cd "Rule.read" = true from c.get0 26 (d := hd26) rfl rfl)
  obtain ⟨_, _, _, _, _, _, cd_fi, _, _, l_fi, c_fi⟩ := (show ∃ oc od kV dc pm an cd ct sl, K.lookup (He.ma K (He.ga K "Fixed") "__init__") = some ⟨oc, od, .func (PySem.W.fnOf "__init__" "Fixed.__init__" (C8.fnArgs sFxi) (C8.fnBody sFxi) (C8.fnScope sFxi) .none kV dc pm an cd ct), sl⟩ ∧ PySem.W.codeIn K cd "Fixed.__init__" = true from c.get0 27 (d := hd27) rfl rfl)
  obtain ⟨_, _, _, _, _, _, cd_vi, _, _, l_vi, c_vi⟩ := (show ∃ oc od kV dc pm an cd ct sl, K.lookup (He.ma K (He.ga K "Divided") "__init__") = some ⟨oc, od, .func (PySem.W.fnOf "__init__" "Divided.__init__" (C8.fnArgs sDvi) (C8.fnBody sDvi) (C8.fnScope sDvi) .none kV dc pm an cd ct), sl⟩ ∧ PySem.W.codeIn K cd "Divided.__init__" = true from c.get0 28 (d := hd28) rfl rfl)
  obtain ⟨_, _, _, _, _, _, cd_gi0, _, _, l_gi0, c_gi0⟩ := (show ∃ oc od kV dc pm an cd ct sl, K.lookup (He.ma K (He.ga K "Lesser") "__init__") = some ⟨oc, od, .func (PySem.W.fnOf "__init__" "Lesser.__init__" (C8.fnArgs sLoi) (C8.fnBody sLoi) (C8.fnScope sLoi) .none kV dc pm an cd ct), sl⟩ ∧ PySem.W.codeIn K cd "Lesser.__init__" = true from c.get0 29 (d := hd29) rfl rfl)
  obtain ⟨_, _, _, _, _, _, cd_gi1, _, _, l_gi1, c_gi1⟩ := (show ∃ oc od kV dc pm an cd ct sl, K.lookup (He.ma K (He.ga K "Greater") "__init__") = some ⟨oc, od, .func (PySem.W.fnOf "__init__" "Greater.__init__" (C8.fnArgs sHii) (C8.fnBody sHii) (C8.fnScope sHii) .none kV dc pm an cd ct), sl⟩ ∧ PySem.W.codeIn K cd "Greater.__init__" = true from c.get0 30 (d := hd30) rfl rfl)
  obtain ⟨_, _, _, _, _, _, cd_bi, _, _, l_bi, c_bi⟩ := (show ∃ oc od kV dc pm an cd ct sl, K.lookup (He.ma K (He.ga K "By") "__init__") = some ⟨oc, od, .func (PySem.W.fnOf "__init__" "By.__init__" (C8.fnArgs sByi) (C8.fnBody sByi) (C8.fnScope sByi) .none kV dc pm an cd ct), sl⟩ ∧ PySem.W.codeIn K cd "By.__init__" = true from c.get0 31 (d := hd31) rfl rfl)
  obtain ⟨_, _, _, _, _, _, cd_ft, _, _, l_ft, c_ft⟩ := (show ∃ oc od kV dc pm an cd ct sl, K.lookup (He.ma K (He.ga K "Fixed") "__str__") = some ⟨oc, od, .func (PySem.W.fnOf "__str__" "Fixed.__str__" (C8.fnArgs sFxs) (C8.fnBody sFxs) (C8.fnScope sFxs) .none kV dc pm an cd ct), sl⟩ ∧ PySem.W.codeIn K cd "Fixed.__str__" = true from c.get0 32 (d := hd32) rfl rfl)
  obtain ⟨_, _, _, _, _, _, cd_fa, _, _, l_fa, c_fa⟩ := (show ∃ oc od kV dc pm an cd ct sl, K.lookup (He.ma K (He.ga K "Fixed") "__and__") = some ⟨oc, od, .func (PySem.W.fnOf "__and__" "Fixed.__and__" (C8.fnArgs sFxa) (C8.fnBody sFxa) (C8.fnScope sFxa) .none kV dc pm an cd ct), sl⟩ ∧ PySem.W.codeIn K cd "Fixed.__and__" = true from c.get0 33 (d := hd33) rfl rfl)
  obtain ⟨_, _, _, _, _, _, cd_fo, _, _, l_fo, c_fo⟩ := (show ∃ oc od kV dc pm an cd ct sl, K.lookup (He.ma K (He.ga K "Fixed") "__or__") = some ⟨oc, od, .func (PySem.W.fnOf "__or__" "Fixed.__or__" (C8.fnArgs sFxo) (C8.fnBody sFxo) (C8.fnScope sFxo) .none kV dc pm an cd ct), sl⟩ ∧ PySem.W.codeIn K cd "Fixed.__or__" = true from c.get0 34 (d := hd34) rfl rfl)
  obtain ⟨_, _, _, _, _, _, cd_fe, _, _, l_fe, c_fe⟩ := (show ∃ oc od kV dc pm an cd ct sl, K.lookup (He.ma K (He.ga K "Fixed") "__eq__") = some ⟨oc, od, .func (PySem.W.fnOf "__eq__" "Fixed.__eq__" (C8.fnArgs sFxe) (C8.fnBody sFxe) (C8.fnScope sFxe) .none kV dc pm an cd ct), sl⟩ ∧ PySem.W.codeIn K cd "Fixed.__eq__" = true from c.get0 35 (d := hd35) rfl rfl)
  obtain ⟨_, _, _, _, _, _, cd_vt, _, _, l_vt, c_vt⟩ := (show ∃ oc od kV dc pm an cd ct sl, K.lookup (He.ma K (He.ga K "Divided") "__str__") = some ⟨oc, od, .func (PySem.W.fnOf "__str__" "Divided.__str__" (C8.fnArgs sDvs) (C8.fnBody sDvs) (C8.fnScope sDvs) .none kV dc pm an cd ct), sl⟩ ∧ PySem.W.codeIn K cd "Divided.__str__" = true from c.get0 36 (d := hd36) rfl rfl)
  obtain ⟨_, _, _, _, _, _, cd_va, _, _, l_va, c_va⟩ := (show ∃ oc od kV dc pm an cd ct sl, K.lookup (He.ma K (He.ga K "Divided") "__and__") = some ⟨oc, od, .func (PySem.W.fnOf "__and__" "Divided.__and__" (C8.fnArgs sDva) (C8.fnBody sDva) (C8.fnScope sDva) .none kV dc pm an cd ct), sl⟩ ∧ PySem.W.codeIn K cd "Divided.__and__" = true from c.get0 37 (d := hd37) rfl rfl)
  obtain ⟨_, _, _, _, _, _, cd_vo, _, _, l_vo, c_vo⟩ := (show ∃ oc od kV dc pm an cd ct sl, K.lookup (He.ma K (He.ga K "Divided") "__or__") = some ⟨oc, od, .func (PySem.W.fnOf "__or__" "Divided.__or__" (C8.fnArgs sDvo) (C8.fnBody sDvo) (C8.fnScope sDvo) .none kV dc pm an cd ct), sl⟩ ∧ PySem.W.codeIn K cd "Divided.__or__" = true from c.get0 38 (d := hd38) rfl rfl)
  obtain ⟨_, _, _, _, _, _, cd_ve, _, _, l_ve, c_ve⟩ := (show ∃ oc od kV dc pm an cd ct sl, K.lookup (He.ma K (He.ga K "Divided") "__eq__") = some ⟨oc, od, .func (PySem.W.fnOf "__eq__" "Divided.__eq__" (C8.fnArgs sDve) (C8.fnBody sDve) (C8.fnScope sDve) .none kV dc pm an cd ct), sl⟩ ∧ PySem.W.codeIn K cd "Divided.__eq__" = true from c.get0 39 (d := hd39) rfl rfl)
  obtain ⟨_, _, _, _, _, _, cd_qt, _, _, l_qt, c_qt⟩ := (show ∃ oc od kV dc pm an cd ct sl, K.lookup (He.ma K (He.ga K "Lesser") "__str__") = some ⟨oc, od, .func (PySem.W.fnOf "__str__" "Lesser.__str__" (C8.fnArgs sLos) (C8.fnBody sLos) (C8.fnScope sLos) .none kV dc pm an cd ct), sl⟩ ∧ PySem.W.codeIn K cd "Lesser.__str__" = true from c.get0 40 (d := hd40) rfl rfl)
  obtain ⟨_, _, _, _, _, _, cd_qa, _, _, l_qa, c_qa⟩ := (show ∃ oc od kV dc pm an cd ct sl, K.lookup (He.ma K (He.ga K "Lesser") "__and__") = some ⟨oc, od, .func (PySem.W.fnOf "__and__" "Lesser.__and__" (C8.fnArgs sLoa) (C8.fnBody sLoa) (C8.fnScope sLoa) .none kV dc pm an cd ct), sl⟩ ∧ PySem.W.codeIn K cd "Lesser.__and__" = true from c.get0 41 (d := hd41) rfl rfl)
  obtain ⟨_, _, _, _, _, _, cd_qo, _, _, l_qo, c_qo⟩ := (show ∃ oc od kV dc pm an cd ct sl, K.lookup (He.ma K (He.ga K "Lesser") "__or__") = some ⟨oc, od, .func (PySem.W.fnOf "__or__" "Lesser.__or__" (C8.fnArgs sLoo) (C8.fnBody sLoo) (C8.fnScope sLoo) .none kV dc pm an cd ct), sl⟩ ∧ PySem.W.codeIn K cd "Lesser.__or__" = true from c.get0 42 (d := hd42) rfl rfl)
  obtain ⟨_, _, _, _, _, _, cd_qe, _, _, l_qe, c_qe⟩ := (show ∃ oc od kV dc pm an cd ct sl, K.lookup (He.ma K (He.ga K "Lesser") "__eq__") = some ⟨oc, od, .func (PySem.W.fnOf "__eq__" "Lesser.__eq__" (C8.fnArgs sLoq) (C8.fnBody sLoq) (C8.fnScope sLoq) .none kV dc pm an cd ct), sl⟩ ∧ PySem.W.codeIn K cd "Lesser.__eq__" = true from c.get0 43 (d := hd43) rfl rfl)
  obtain ⟨_, _, _, _, _, _, cd_gt, _, _, l_gt, c_gt⟩ := (show ∃ oc od kV dc pm an cd ct sl, K.lookup (He.ma K (He.ga K "Greater") "__str__") = some ⟨oc, od, .func (PySem.W.fnOf "__str__" "Greater.__str__" (C8.fnArgs sHis) (C8.fnBody sHis) (C8.fnScope sHis) .none kV dc pm an cd ct), sl⟩ ∧ PySem.W.codeIn K cd "Greater.__str__" = true from c.get0 44 (d := hd44) rfl rfl)
  obtain ⟨_, _, _, _, _, _, cd_ga, _, _, l_ga, c_ga⟩ := (show ∃ oc od kV dc pm an cd ct sl, K.lookup (He.ma K (He.ga K "Greater") "__and__") = some ⟨oc, od, .func (PySem.W.fnOf "__and__" "Greater.__and__" (C8.fnArgs sHia) (C8.fnBody sHia) (C8.fnScope sHia) .none kV dc pm an cd ct), sl⟩ ∧ PySem.W.codeIn K cd "Greater.__and__" = true from c.get0 45 (d := hd45) rfl rfl)
  obtain ⟨_, _, _, _, _, _, cd_go, _, _, l_go, c_go⟩ := (show ∃ oc od kV dc pm an cd ct sl, K.lookup (He.ma K (He.ga K "Greater") "__or__") = some ⟨oc, od, .func (PySem.W.fnOf "__or__" "Greater.__or__" (C8.fnArgs sHio) (C8.fnBody sHio) (C8.fnScope sHio) .none kV dc pm an cd ct), sl⟩ ∧ PySem.W.codeIn K cd "Greater.__or__" = true from c.get0 46 (d := hd46) rfl rfl)
  obtain ⟨_, _, _, _, _, _, cd_ge, _, _, l_ge, c_ge⟩ := (show ∃ oc od kV dc pm an cd ct sl, K.lookup (He.ma K (He.ga K "Greater") "__eq__") = some ⟨oc, od, .func (PySem.W.fnOf "__eq__" "Greater.__eq__" (C8.fnArgs sHiq) (C8.fnBody sHiq) (C8.fnScope sHiq) .none kV dc pm an cd ct), sl⟩ ∧ PySem.W.codeIn K cd "Greater.__eq__" = true from c.get0 47 (d := hd47) rfl rfl)
  obtain ⟨_, _, _, _, _, _, cd_bt, _, _, l_bt, c_bt⟩ := (show ∃ oc od kV dc pm an cd ct sl, K.lookup (He.ma K (He.ga K "By") "__str__") = some ⟨oc, od, .func (PySem.W.fnOf "__str__" "By.__str__" (C8.fnArgs sBys) (C8.fnBody sBys) (C8.fnScope sBys) .none kV dc pm an cd ct), sl⟩ ∧ PySem.W.codeIn K cd "By.__str__" = true from c.get0 48 (d := hd48) rfl rfl)
  obtain ⟨_, _, _, _, _, _, _, _, _, _, _, _, its_ri, _, _, l_ri, c_ri, lD_ri, v_ri⟩ := (show ∃ oc od T kV dc pm an cd ct sl oT odT its n slT, K.lookup (He.ma K (He.ga K "Reader") "__init__") = some ⟨oc, od, .func (PySem.W.fnOf "__init__" "Reader.__init__" (C8.fnArgs sRI) (C8.fnBody sRI) (C8.fnScope sRI) (.ref T) kV dc pm an cd ct), sl⟩ ∧ PySem.W.codeIn K cd "Reader.__init__" = true ∧ K.lookup T = some ⟨oT, odT, .seq (List.toArray its) n, slT⟩ ∧ Vals [V.int 0] its from c.getD 49 (d := hd49) rfl (by simp [hd49]))
  obtain ⟨_, rfl⟩ := Hz.ints1 v_ri
  obtain ⟨_, _, _, _, _, _, cd_rh, _, _, l_rh, c_rh⟩ := (show ∃ oc od kV dc pm an cd ct sl, K.lookup (He.ma K (He.ga K "Reader") "at_hand") = some ⟨oc, od, .func (PySem.W.fnOf "at_hand" "Reader.at_hand" (C8.fnArgs sRah) (C8.fnBody sRah) (C8.fnScope sRah) .none kV dc pm an cd ct), sl⟩ ∧ PySem.W.codeIn K cd "Reader.at_hand" = true from c.get0 50 (d := hd50) rfl rfl)
  obtain ⟨_, _, _, _, _, _, cd_ry, _, _, l_ry, c_ry⟩ := (show ∃ oc od kV dc pm an cd ct sl, K.lookup (He.ma K (He.ga K "Reader") "refuse") = some ⟨oc, od, .func (PySem.W.fnOf "refuse" "Reader.refuse" (C8.fnArgs sRrf) (C8.fnBody sRrf) (C8.fnScope sRrf) .none kV dc pm an cd ct), sl⟩ ∧ PySem.W.codeIn K cd "Reader.refuse" = true from c.get0 51 (d := hd51) rfl rfl)
  obtain ⟨_, _, _, _, _, _, cd_rk, _, _, l_rk, c_rk⟩ := (show ∃ oc od kV dc pm an cd ct sl, K.lookup (He.ma K (He.ga K "Reader") "take") = some ⟨oc, od, .func (PySem.W.fnOf "take" "Reader.take" (C8.fnArgs sRtk) (C8.fnBody sRtk) (C8.fnScope sRtk) .none kV dc pm an cd ct), sl⟩ ∧ PySem.W.codeIn K cd "Reader.take" = true from c.get0 52 (d := hd52) rfl rfl)
  obtain ⟨_, _, _, _, _, _, cd_rx, _, _, l_rx, c_rx⟩ := (show ∃ oc od kV dc pm an cd ct sl, K.lookup (He.ma K (He.ga K "Reader") "expect") = some ⟨oc, od, .func (PySem.W.fnOf "expect" "Reader.expect" (C8.fnArgs sRex) (C8.fnBody sRex) (C8.fnScope sRex) .none kV dc pm an cd ct), sl⟩ ∧ PySem.W.codeIn K cd "Reader.expect" = true from c.get0 53 (d := hd53) rfl rfl)
  obtain ⟨_, _, _, _, _, _, cd_rf, _, _, l_rf, c_rf⟩ := (show ∃ oc od kV dc pm an cd ct sl, K.lookup (He.ma K (He.ga K "Reader") "finish") = some ⟨oc, od, .func (PySem.W.fnOf "finish" "Reader.finish" (C8.fnArgs sRfi) (C8.fnBody sRfi) (C8.fnScope sRfi) .none kV dc pm an cd ct), sl⟩ ∧ PySem.W.codeIn K cd "Reader.finish" = true from c.get0 54 (d := hd54) rfl rfl)
  obtain ⟨_, _, _, _, _, _, cd_rn, _, _, l_rn, c_rn⟩ := (show ∃ oc od kV dc pm an cd ct sl, K.lookup (He.ma K (He.ga K "Reader") "integer") = some ⟨oc, od, .func (PySem.W.fnOf "integer" "Reader.integer" (C8.fnArgs sRin) (C8.fnBody sRin) (C8.fnScope sRin) .none kV dc pm an cd ct), sl⟩ ∧ PySem.W.codeIn K cd "Reader.integer" = true from c.get0 55 (d := hd55) rfl rfl)
  obtain ⟨_, _, _, _, _, _, cd_Eu, _, _, l_Eu, c_Eu⟩ := (show ∃ oc od kV dc pm an cd ct sl, K.lookup (He.ma K (He.ga K "BadRule") "__init__") = some ⟨oc, od, .func (PySem.W.fnOf "__init__" "BadRule.__init__" (C8.fnArgs sBruE) (C8.fnBody sBruE) (C8.fnScope sBruE) .none kV dc pm an cd ct), sl⟩ ∧ PySem.W.codeIn K cd "BadRule.__init__" = true from c.get0 56 (d := hd56) rfl rfl)
  obtain ⟨_, _, _, _, _, _, cd_Es, _, _, l_Es, c_Es⟩ := (show ∃ oc od kV dc pm an cd ct sl, K.lookup (He.ma K (He.ga K "BadSize") "__init__") = some ⟨oc, od, .func (PySem.W.fnOf "__init__" "BadSize.__init__" (C8.fnArgs sBszE) (C8.fnBody sBszE) (C8.fnScope sBszE) .none kV dc pm an cd ct), sl⟩ ∧ PySem.W.codeIn K cd "BadSize.__init__" = true from c.get0 57 (d := hd57) rfl rfl)
  obtain ⟨_, _, _, _, _, _, cd_Ex, _, _, l_Ex, c_Ex⟩ := (show ∃ oc od kV dc pm an cd ct sl, K.lookup (He.ma K (He.ga K "BadText") "__init__") = some ⟨oc, od, .func (PySem.W.fnOf "__init__" "BadText.__init__" (C8.fnArgs sTxE) (C8.fnBody sTxE) (C8.fnScope sTxE) .none kV dc pm an cd ct), sl⟩ ∧ PySem.W.codeIn K cd "BadText.__init__" = true from c.get0 58 (d := hd58) rfl rfl)
  obtain ⟨_, _, _, _, _, _, cd_Em, _, _, l_Em, c_Em⟩ := (show ∃ oc od kV dc pm an cd ct sl, K.lookup (He.ma K (He.ga K "TooMany") "__init__") = some ⟨oc, od, .func (PySem.W.fnOf "__init__" "TooMany.__init__" (C8.fnArgs sMnE) (C8.fnBody sMnE) (C8.fnScope sMnE) .none kV dc pm an cd ct), sl⟩ ∧ PySem.W.codeIn K cd "TooMany.__init__" = true from c.get0 59 (d := hd59) rfl rfl)
  obtain ⟨_, y_rur⟩ := Hz.recB_ok (Hz.at_ e0 3 12 rfl rfl)
  obtain ⟨_, _, _, _, _, _, _, _, _, _, _, _, _, _, _, y_xDu, y_xBu⟩ := Hz.exB_ok (Hz.at_ e0 7 26 rfl rfl)
  obtain ⟨_, _, _, _, _, _, _, _, _, _, _, _, _, _, _, y_xDs, y_xBs⟩ := Hz.exB_ok (Hz.at_ e0 7 35 rfl rfl)
  obtain ⟨_, _, _, _, _, _, _, _, _, _, _, _, _, _, _, y_xDx, y_xBx⟩ := Hz.exB_ok (Hz.at_ e0 8 4 rfl rfl)
  obtain ⟨_, _, _, _, _, _, _, _, _, _, _, _, _, _, _, y_xDm, y_xBm⟩ := Hz.exB_ok (Hz.at_ e0 8 14 rfl rfl)
  obtain ⟨_, y_gMF⟩ := Hz.intB_ok (Hz.at_ e0 8 23 rfl rfl)
  obtain ⟨_, y_gMS⟩ := Hz.intB_ok (Hz.at_ e0 8 24 rfl rfl)
  obtain ⟨_, y_gGS⟩ := Hz.intB_ok (Hz.at_ e0 8 25 rfl rfl)
  obtain ⟨_, y_gMP⟩ := Hz.intB_ok (Hz.at_ e0 8 26 rfl rfl)
  obtain ⟨_, y_gMR⟩ := Hz.intB_ok (Hz.at_ e0 8 27 rfl rfl)
  obtain ⟨_, y_gPF⟩ := Hz.intB_ok (Hz.at_ e0 8 28 rfl rfl)
  obtain ⟨_, y_gPW⟩ := Hz.intB_ok (Hz.at_ e0 8 29 rfl rfl)
  obtain ⟨_, _, _, _, y_lSG, y_vSG, y_sSG⟩ := Hz.tupB_ok (Hz.at_ e0 8 31 rfl rfl)
  obtain ⟨fd, tb, sp, r1, r2, r3, r4⟩ := all_known (l := l) (w := w) X G hfa' (of_decide_eq_true (Hz.at_ e0 0 0 rfl rfl)) l_ii c_ii (Hz.at_ e0 0 1 rfl rfl) (of_decide_eq_true (Hz.at_ e0 0 2 rfl rfl)) l_iw c_iw (Hz.at_ e0 0 3 rfl rfl) (of_decide_eq_true (Hz.at_ e0 0 4 rfl rfl)) l_iz c_iz (Hz.at_ e0 0 5 rfl rfl) (of_decide_eq_true (Hz.at_ e0 0 6 rfl rfl)) l_jf c_jf (Hz.at_ e0 0 7 rfl rfl) (of_decide_eq_true (Hz.at_ e0 0 8 rfl rfl)) l_is c_is (Hz.at_ e0 0 9 rfl rfl) (of_decide_eq_true (Hz.at_ e0 0 10 rfl rfl)) l_io c_io (Hz.at_ e0 0 11 rfl rfl) (of_decide_eq_true (Hz.at_ e0 0 12 rfl rfl)) l_nu c_nu (Hz.at_ e0 0 13 rfl rfl) (of_decide_eq_true (Hz.at_ e0 0 14 rfl rfl)) l_wr c_wr (Hz.at_ e0 0 15 rfl rfl) (of_decide_eq_true (Hz.at_ e0 0 16 rfl rfl)) l_wp c_wp (Hz.at_ e0 0 17 rfl rfl) (of_decide_eq_true (Hz.at_ e0 0 18 rfl rfl)) l_ws c_ws (Hz.at_ e0 0 19 rfl rfl) (of_decide_eq_true (Hz.at_ e0 0 20 rfl rfl)) l_wo c_wo (Hz.at_ e0 0 21 rfl rfl) (of_decide_eq_true (Hz.at_ e0 0 22 rfl rfl)) l_mo c_mo (Hz.at_ e0 0 23 rfl rfl) (of_decide_eq_true (Hz.at_ e0 0 24 rfl rfl)) l_jo c_jo (Hz.at_ e0 0 25 rfl rfl) (of_decide_eq_true (Hz.at_ e0 0 26 rfl rfl)) l_lp c_lp (Hz.at_ e0 0 27 rfl rfl) (of_decide_eq_true (Hz.at_ e0 0 28 rfl rfl)) l_ld c_ld (Hz.at_ e0 0 29 rfl rfl) (of_decide_eq_true (Hz.at_ e0 0 30 rfl rfl)) l_lk c_lk (Hz.at_ e0 0 31 rfl rfl) (of_decide_eq_true (Hz.at_ e0 0 32 rfl rfl)) l_le c_le (Hz.at_ e0 0 33 rfl rfl) (of_decide_eq_true (Hz.at_ e0 0 34 rfl rfl)) l_lq c_lq (Hz.at_ e0 0 35 rfl rfl) (of_decide_eq_true (Hz.at_ e0 0 36 rfl rfl)) l_lm c_lm (Hz.at_ e0 0 37 rfl rfl) (of_decide_eq_true (Hz.at_ e0 0 38 rfl rfl)) l_ls c_ls (Hz.at_ e0 0 39 rfl rfl) (of_decide_eq_true (Hz.at_ e0 1 0 rfl rfl)) l_lo c_lo (Hz.at_ e0 1 1 rfl rfl) (of_decide_eq_true (Hz.at_ e0 1 2 rfl rfl)) l_lf c_lf (Hz.at_ e0 1 3 rfl rfl) (of_decide_eq_true (Hz.at_ e0 1 4 rfl rfl)) l_lt c_lt (Hz.at_ e0 1 5 rfl rfl) (of_decide_eq_true (Hz.at_ e0 1 6 rfl rfl)) l_ln c_ln (Hz.at_ e0 1 7 rfl rfl) (of_decide_eq_true (Hz.at_ e0 1 8 rfl rfl)) l_lr c_lr (Hz.at_ e0 1 9 rfl rfl) (of_decide_eq_true (Hz.at_ e0 1 10 rfl rfl)) l_la c_la (Hz.at_ e0 1 11 rfl rfl) lt_la vt_la (c.out ("law", none) (List.Mem.head _)) (of_decide_eq_true (Hz.at_ e0 1 12 rfl rfl)) (Hz.at_ e0 1 13 rfl rfl) (Hz.at_ e0 1 14 rfl rfl) (Hz.at_ e0 1 15 rfl rfl) (of_decide_eq_true (Hz.at_ e0 1 16 rfl rfl)) (Hz.at_ e0 1 17 rfl rfl) (Hz.at_ e0 1 18 rfl rfl) (of_decide_eq_true (Hz.at_ e0 1 19 rfl rfl)) (of_decide_eq_true (Hz.at_ e0 1 20 rfl rfl)) (of_decide_eq_true (Hz.at_ e0 1 21 rfl rfl)) (of_decide_eq_true (Hz.at_ e0 1 22 rfl rfl)) (of_decide_eq_true (Hz.at_ e0 1 23 rfl rfl)) (of_decide_eq_true (Hz.at_ e0 1 24 rfl rfl)) (of_decide_eq_true (Hz.at_ e0 1 25 rfl rfl)) (of_decide_eq_true (Hz.at_ e0 1 26 rfl rfl)) (of_decide_eq_true (Hz.at_ e0 1 27 rfl rfl)) (Hz.at_ e0 1 28 rfl rfl) (Hz.at_ e0 1 29 rfl rfl) (Hz.at_ e0 1 30 rfl rfl) (of_decide_eq_true (Hz.at_ e0 1 31 rfl rfl)) (Hz.at_ e0 1 32 rfl rfl) (Hz.at_ e0 1 33 rfl rfl) (of_decide_eq_true (Hz.at_ e0 1 34 rfl rfl)) (of_decide_eq_true (Hz.at_ e0 1 35 rfl rfl)) (of_decide_eq_true (Hz.at_ e0 1 36 rfl rfl)) (of_decide_eq_true (Hz.at_ e0 1 37 rfl rfl)) (of_decide_eq_true (Hz.at_ e0 1 38 rfl rfl)) (of_decide_eq_true (Hz.at_ e0 1 39 rfl rfl)) (of_decide_eq_true (Hz.at_ e0 2 0 rfl rfl)) (of_decide_eq_true (Hz.at_ e0 2 1 rfl rfl)) (of_decide_eq_true (Hz.at_ e0 2 2 rfl rfl)) (Hz.at_ e0 2 3 rfl rfl) (Hz.at_ e0 2 4 rfl rfl) (Hz.at_ e0 2 5 rfl rfl) (of_decide_eq_true (Hz.at_ e0 2 6 rfl rfl)) (Hz.at_ e0 2 7 rfl rfl) (Hz.at_ e0 2 8 rfl rfl) (of_decide_eq_true (Hz.at_ e0 2 9 rfl rfl)) (of_decide_eq_true (Hz.at_ e0 2 10 rfl rfl)) (of_decide_eq_true (Hz.at_ e0 2 11 rfl rfl)) (of_decide_eq_true (Hz.at_ e0 2 12 rfl rfl)) (of_decide_eq_true (Hz.at_ e0 2 13 rfl rfl)) (of_decide_eq_true (Hz.at_ e0 2 14 rfl rfl)) (of_decide_eq_true (Hz.at_ e0 2 15 rfl rfl)) (of_decide_eq_true (Hz.at_ e0 2 16 rfl rfl)) (Hz.at_ e0 2 17 rfl rfl) (Hz.at_ e0 2 18 rfl rfl) (Hz.at_ e0 2 19 rfl rfl) (of_decide_eq_true (Hz.at_ e0 2 20 rfl rfl)) (Hz.at_ e0 2 21 rfl rfl) (Hz.at_ e0 2 22 rfl rfl) (of_decide_eq_true (Hz.at_ e0 2 23 rfl rfl)) (of_decide_eq_true (Hz.at_ e0 2 24 rfl rfl)) (of_decide_eq_true (Hz.at_ e0 2 25 rfl rfl)) (of_decide_eq_true (Hz.at_ e0 2 26 rfl rfl)) (of_decide_eq_true (Hz.at_ e0 2 27 rfl rfl)) (of_decide_eq_true (Hz.at_ e0 2 28 rfl rfl)) (of_decide_eq_true (Hz.at_ e0 2 29 rfl rfl)) (of_decide_eq_true (Hz.at_ e0 2 30 rfl rfl)) (Hz.at_ e0 2 31 rfl rfl) (Hz.at_ e0 2 32 rfl rfl) (Hz.at_ e0 2 33 rfl rfl) (of_decide_eq_true (Hz.at_ e0 2 34 rfl rfl)) (Hz.at_ e0 2 35 rfl rfl) (Hz.at_ e0 2 36 rfl rfl) (of_decide_eq_true (Hz.at_ e0 2 37 rfl rfl)) (of_decide_eq_true (Hz.at_ e0 2 38 rfl rfl)) (of_decide_eq_true (Hz.at_ e0 2 39 rfl rfl)) (of_decide_eq_true (Hz.at_ e0 3 0 rfl rfl)) (Hz.typB_ok (Hz.at_ e0 3 1 rfl rfl)) (Hz.at_ e0 3 2 rfl rfl) (of_decide_eq_true (Hz.at_ e0 3 3 rfl rfl)) (Hz.at_ e0 3 4 rfl rfl) (Hz.at_ e0 3 5 rfl rfl) (Hz.at_ e0 3 6 rfl rfl) (of_decide_eq_true (Hz.at_ e0 3 7 rfl rfl)) (Hz.at_ e0 3 8 rfl rfl) (Hz.at_ e0 3 9 rfl rfl) l_ur c_ur (Hz.at_ e0 3 10 rfl rfl) (Hz.getB_ok (Hz.at_ e0 3 11 rfl rfl)) y_rur (of_decide_eq_true (Hz.at_ e0 3 13 rfl rfl)) (Hz.at_ e0 3 14 rfl rfl) l_fi c_fi (Hz.at_ e0 3 15 rfl rfl) (of_decide_eq_true (Hz.at_ e0 3 16 rfl rfl)) (Hz.at_ e0 3 17 rfl rfl) l_vi c_vi (Hz.at_ e0 3 18 rfl rfl) (of_decide_eq_true (Hz.at_ e0 3 19 rfl rfl)) (Hz.at_ e0 3 20 rfl rfl) l_gi0 c_gi0 (Hz.at_ e0 3 21 rfl rfl) (of_decide_eq_true (Hz.at_ e0 3 22 rfl rfl)) (Hz.at_ e0 3 23 rfl rfl) l_gi1 c_gi1 (Hz.at_ e0 3 24 rfl rfl) (of_decide_eq_true (Hz.at_ e0 3 25 rfl rfl)) (Hz.at_ e0 3 26 rfl rfl) l_bi c_bi (Hz.at_ e0 3 27 rfl rfl) (of_decide_eq_true (Hz.at_ e0 3 28 rfl rfl)) (Hz.at_ e0 3 29 rfl rfl) l_ft c_ft (Hz.at_ e0 3 30 rfl rfl) (of_decide_eq_true (Hz.at_ e0 3 31 rfl rfl)) (Hz.at_ e0 3 32 rfl rfl) l_fa c_fa (Hz.at_ e0 3 33 rfl rfl) (of_decide_eq_true (Hz.at_ e0 3 34 rfl rfl)) (Hz.at_ e0 3 35 rfl rfl) l_fo c_fo (Hz.at_ e0 3 36 rfl rfl) (of_decide_eq_true (Hz.at_ e0 3 37 rfl rfl)) (Hz.at_ e0 3 38 rfl rfl) l_fe c_fe (Hz.at_ e0 3 39 rfl rfl) (of_decide_eq_true (Hz.at_ e0 4 0 rfl rfl)) (Hz.at_ e0 4 1 rfl rfl) l_vt c_vt (Hz.at_ e0 4 2 rfl rfl) (of_decide_eq_true (Hz.at_ e0 4 3 rfl rfl)) (Hz.at_ e0 4 4 rfl rfl) l_va c_va (Hz.at_ e0 4 5 rfl rfl) (of_decide_eq_true (Hz.at_ e0 4 6 rfl rfl)) (Hz.at_ e0 4 7 rfl rfl) l_vo c_vo (Hz.at_ e0 4 8 rfl rfl) (of_decide_eq_true (Hz.at_ e0 4 9 rfl rfl)) (Hz.at_ e0 4 10 rfl rfl) l_ve c_ve (Hz.at_ e0 4 11 rfl rfl) (of_decide_eq_true (Hz.at_ e0 4 12 rfl rfl)) (Hz.at_ e0 4 13 rfl rfl) l_qt c_qt (Hz.at_ e0 4 14 rfl rfl) (of_decide_eq_true (Hz.at_ e0 4 15 rfl rfl)) (Hz.at_ e0 4 16 rfl rfl) l_qa c_qa (Hz.at_ e0 4 17 rfl rfl) (of_decide_eq_true (Hz.at_ e0 4 18 rfl rfl)) (Hz.at_ e0 4 19 rfl rfl) l_qo c_qo (Hz.at_ e0 4 20 rfl rfl) (of_decide_eq_true (Hz.at_ e0 4 21 rfl rfl)) (Hz.at_ e0 4 22 rfl rfl) l_qe c_qe (Hz.at_ e0 4 23 rfl rfl) (of_decide_eq_true (Hz.at_ e0 4 24 rfl rfl)) (Hz.at_ e0 4 25 rfl rfl) l_gt c_gt (Hz.at_ e0 4 26 rfl rfl) (of_decide_eq_true (Hz.at_ e0 4 27 rfl rfl)) (Hz.at_ e0 4 28 rfl rfl) l_ga c_ga (Hz.at_ e0 4 29 rfl rfl) (of_decide_eq_true (Hz.at_ e0 4 30 rfl rfl)) (Hz.at_ e0 4 31 rfl rfl) l_go c_go (Hz.at_ e0 4 32 rfl rfl) (of_decide_eq_true (Hz.at_ e0 4 33 rfl rfl)) (Hz.at_ e0 4 34 rfl rfl) l_ge c_ge (Hz.at_ e0 4 35 rfl rfl) (of_decide_eq_true (Hz.at_ e0 4 36 rfl rfl)) (Hz.at_ e0 4 37 rfl rfl) l_bt c_bt (Hz.at_ e0 4 38 rfl rfl) (of_decide_eq_true (Hz.at_ e0 4 39 rfl rfl)) (Hz.at_ e0 5 0 rfl rfl) (Hz.at_ e0 5 1 rfl rfl) (Hz.at_ e0 5 2 rfl rfl) (of_decide_eq_true (Hz.at_ e0 5 3 rfl rfl)) (Hz.at_ e0 5 4 rfl rfl) (Hz.at_ e0 5 5 rfl rfl) (of_decide_eq_true (Hz.at_ e0 5 6 rfl rfl)) (of_decide_eq_true (Hz.at_ e0 5 7 rfl rfl)) (of_decide_eq_true (Hz.at_ e0 5 8 rfl rfl)) (of_decide_eq_true (Hz.at_ e0 5 9 rfl rfl)) (Hz.at_ e0 5 10 rfl rfl) l_ri c_ri (Hz.at_ e0 5 11 rfl rfl) lD_ri (of_decide_eq_true (Hz.at_ e0 5 12 rfl rfl)) (Hz.at_ e0 5 13 rfl rfl) l_rh c_rh (Hz.at_ e0 5 14 rfl rfl) (of_decide_eq_true (Hz.at_ e0 5 15 rfl rfl)) (Hz.at_ e0 5 16 rfl rfl) l_ry c_ry (Hz.at_ e0 5 17 rfl rfl) (of_decide_eq_true (Hz.at_ e0 5 18 rfl rfl)) (Hz.at_ e0 5 19 rfl rfl) l_rk c_rk (Hz.at_ e0 5 20 rfl rfl) (of_decide_eq_true (Hz.at_ e0 5 21 rfl rfl)) (Hz.at_ e0 5 22 rfl rfl) l_rx c_rx (Hz.at_ e0 5 23 rfl rfl) (of_decide_eq_true (Hz.at_ e0 5 24 rfl rfl)) (Hz.at_ e0 5 25 rfl rfl) l_rf c_rf (Hz.at_ e0 5 26 rfl rfl) (of_decide_eq_true (Hz.at_ e0 5 27 rfl rfl)) (Hz.at_ e0 5 28 rfl rfl) l_rn c_rn (Hz.at_ e0 5 29 rfl rfl) (Hz.at_ e0 5 30 rfl rfl) (of_decide_eq_true (Hz.at_ e0 5 31 rfl rfl)) (of_decide_eq_true (Hz.at_ e0 5 32 rfl rfl)) (of_decide_eq_true (Hz.at_ e0 5 33 rfl rfl)) (of_decide_eq_true (Hz.at_ e0 5 34 rfl rfl)) (of_decide_eq_true (Hz.at_ e0 5 35 rfl rfl)) (of_decide_eq_true (Hz.at_ e0 5 36 rfl rfl)) (of_decide_eq_true (Hz.at_ e0 5 37 rfl rfl)) (of_decide_eq_true (Hz.at_ e0 5 38 rfl rfl)) (of_decide_eq_true (Hz.at_ e0 5 39 rfl rfl)) (Hz.at_ e0 6 0 rfl rfl) (of_decide_eq_true (Hz.at_ e0 6 1 rfl rfl)) (of_decide_eq_true (Hz.at_ e0 6 2 rfl rfl)) (of_decide_eq_true (Hz.at_ e0 6 3 rfl rfl)) (of_decide_eq_true (Hz.at_ e0 6 4 rfl rfl)) (of_decide_eq_true (Hz.at_ e0 6 5 rfl rfl)) (of_decide_eq_true (Hz.at_ e0 6 6 rfl rfl)) (of_decide_eq_true (Hz.at_ e0 6 7 rfl rfl)) (of_decide_eq_true (Hz.at_ e0 6 8 rfl rfl)) (Hz.at_ e0 6 9 rfl rfl) (of_decide_eq_true (Hz.at_ e0 6 10 rfl rfl)) (of_decide_eq_true (Hz.at_ e0 6 11 rfl rfl)) (of_decide_eq_true (Hz.at_ e0 6 12 rfl rfl)) (of_decide_eq_true (Hz.at_ e0 6 13 rfl rfl)) (of_decide_eq_true (Hz.at_ e0 6 14 rfl rfl)) (of_decide_eq_true (Hz.at_ e0 6 15 rfl rfl)) (of_decide_eq_true (Hz.at_ e0 6 16 rfl rfl)) (Hz.at_ e0 6 17 rfl rfl) (of_decide_eq_true (Hz.at_ e0 6 18 rfl rfl)) (of_decide_eq_true (Hz.at_ e0 6 19 rfl rfl)) (of_decide_eq_true (Hz.at_ e0 6 20 rfl rfl)) (of_decide_eq_true (Hz.at_ e0 6 21 rfl rfl)) (of_decide_eq_true (Hz.at_ e0 6 22 rfl rfl)) (of_decide_eq_true (Hz.at_ e0 6 23 rfl rfl)) (of_decide_eq_true (Hz.at_ e0 6 24 rfl rfl)) (Hz.at_ e0 6 25 rfl rfl) (of_decide_eq_true (Hz.at_ e0 6 26 rfl rfl)) (Hz.at_ e0 6 27 rfl rfl) (of_decide_eq_true (Hz.at_ e0 6 28 rfl rfl)) (Hz.at_ e0 6 29 rfl rfl) (of_decide_eq_true (Hz.at_ e0 6 30 rfl rfl)) (Hz.at_ e0 6 31 rfl rfl) (of_decide_eq_true (Hz.at_ e0 6 32 rfl rfl)) (Hz.at_ e0 6 33 rfl rfl) (of_decide_eq_true (Hz.at_ e0 6 34 rfl rfl)) (Hz.at_ e0 6 35 rfl rfl) (of_decide_eq_true (Hz.at_ e0 6 36 rfl rfl)) (Hz.at_ e0 6 37 rfl rfl) (of_decide_eq_true (Hz.at_ e0 6 38 rfl rfl)) (Hz.at_ e0 6 39 rfl rfl) (of_decide_eq_true (Hz.at_ e0 7 0 rfl rfl)) (Hz.at_ e0 7 1 rfl rfl) (of_decide_eq_true (Hz.at_ e0 7 2 rfl rfl)) (Hz.at_ e0 7 3 rfl rfl) (of_decide_eq_true (Hz.at_ e0 7 4 rfl rfl)) (Hz.at_ e0 7 5 rfl rfl) (of_decide_eq_true (Hz.at_ e0 7 6 rfl rfl)) (Hz.at_ e0 7 7 rfl rfl) (of_decide_eq_true (Hz.at_ e0 7 8 rfl rfl)) (Hz.at_ e0 7 9 rfl rfl) (of_decide_eq_true (Hz.at_ e0 7 10 rfl rfl)) (Hz.at_ e0 7 11 rfl rfl) (of_decide_eq_true (Hz.at_ e0 7 12 rfl rfl)) (Hz.at_ e0 7 13 rfl rfl) (of_decide_eq_true (Hz.at_ e0 7 14 rfl rfl)) (Hz.at_ e0 7 15 rfl rfl) (of_decide_eq_true (Hz.at_ e0 7 16 rfl rfl)) (Hz.at_ e0 7 17 rfl rfl) (of_decide_eq_true (Hz.at_ e0 7 18 rfl rfl)) (Hz.at_ e0 7 19 rfl rfl) (of_decide_eq_true (Hz.at_ e0 7 20 rfl rfl)) (Hz.at_ e0 7 21 rfl rfl) (of_decide_eq_true (Hz.at_ e0 7 22 rfl rfl)) (Hz.at_ e0 7 23 rfl rfl) (of_decide_eq_true (Hz.at_ e0 7 24 rfl rfl)) (of_decide_eq_true (Hz.at_ e0 7 25 rfl rfl)) y_xDu y_xBu (of_decide_eq_true (Hz.at_ e0 7 27 rfl rfl)) (of_decide_eq_true (Hz.at_ e0 7 28 rfl rfl)) (of_decide_eq_true (Hz.at_ e0 7 29 rfl rfl)) (Hz.at_ e0 7 30 rfl rfl) (of_decide_eq_true (Hz.at_ e0 7 31 rfl rfl)) (of_decide_eq_true (Hz.at_ e0 7 32 rfl rfl)) l_Eu c_Eu (of_decide_eq_true (Hz.at_ e0 7 33 rfl rfl)) (of_decide_eq_true (Hz.at_ e0 7 34 rfl rfl)) y_xDs y_xBs (of_decide_eq_true (Hz.at_ e0 7 36 rfl rfl)) (of_decide_eq_true (Hz.at_ e0 7 37 rfl rfl)) (of_decide_eq_true (Hz.at_ e0 7 38 rfl rfl)) (Hz.at_ e0 7 39 rfl rfl) (of_decide_eq_true (Hz.at_ e0 8 0 rfl rfl)) (of_decide_eq_true (Hz.at_ e0 8 1 rfl rfl)) l_Es c_Es (of_decide_eq_true (Hz.at_ e0 8 2 rfl rfl)) (of_decide_eq_true (Hz.at_ e0 8 3 rfl rfl)) y_xDx y_xBx (of_decide_eq_true (Hz.at_ e0 8 5 rfl rfl)) (of_decide_eq_true (Hz.at_ e0 8 6 rfl rfl)) (of_decide_eq_true (Hz.at_ e0 8 7 rfl rfl)) (Hz.at_ e0 8 8 rfl rfl) (of_decide_eq_true (Hz.at_ e0 8 9 rfl rfl)) (of_decide_eq_true (Hz.at_ e0 8 10 rfl rfl)) l_Ex c_Ex (of_decide_eq_true (Hz.at_ e0 8 11 rfl rfl)) (of_decide_eq_true (Hz.at_ e0 8 12 rfl rfl)) (of_decide_eq_true (Hz.at_ e0 8 13 rfl rfl)) y_xDm y_xBm (of_decide_eq_true (Hz.at_ e0 8 15 rfl rfl)) (of_decide_eq_true (Hz.at_ e0 8 16 rfl rfl)) (of_decide_eq_true (Hz.at_ e0 8 17 rfl rfl)) (Hz.at_ e0 8 18 rfl rfl) (of_decide_eq_true (Hz.at_ e0 8 19 rfl rfl)) (of_decide_eq_true (Hz.at_ e0 8 20 rfl rfl)) l_Em c_Em (of_decide_eq_true (Hz.at_ e0 8 21 rfl rfl)) (of_decide_eq_true (Hz.at_ e0 8 22 rfl rfl)) y_gMF rfl y_gMS rfl y_gGS rfl y_gMP rfl y_gMR rfl y_gPF rfl y_gPW rfl (of_decide_eq_true (Hz.at_ e0 8 30 rfl rfl)) y_lSG (Nat.le_trans (Nat.le_of_eq y_sSG) (by decide)) y_vSG (of_decide_eq_true (Hz.at_ e0 8 32 rfl rfl)) (of_decide_eq_true (Hz.at_ e0 8 33 rfl rfl)) (of_decide_eq_true (Hz.at_ e0 8 34 rfl rfl)) (of_decide_eq_true (Hz.at_ e0 8 35 rfl rfl)) (of_decide_eq_true (Hz.at_ e0 8 36 rfl rfl)) (of_decide_eq_true (Hz.at_ e0 8 37 rfl rfl)) (of_decide_eq_true (Hz.at_ e0 8 38 rfl rfl)) (of_decide_eq_true (Hz.at_ e0 8 39 rfl rfl)) (of_decide_eq_true (Hz.at_ e0 9 0 rfl rfl)) (of_decide_eq_true (Hz.at_ e0 9 1 rfl rfl))
  refine ⟨K, fd, tb, sp, X, fun y hy => ?_, r1, r2, r3, r4⟩
  simp only [List.mem_cons, List.not_mem_nil, or_false] at hy
  rcases hy with rfl
  · exact ⟨_, _, of_decide_eq_true (Hz.at_ e0 9 2 rfl rfl), c.hd _ (List.Mem.head _), c.empty _ (List.Mem.head _)⟩
end Lw
open PySem PySem.W PyProof.Rows
set_option maxRecDepth 100000 in
set_option maxHeartbeats 0 in
theorem PySem.Challenge.cw_latechunks_k48_texts_of_rules_holds : PySem.Challenge.rw_latechunks_k48_texts_of_rules.Holds := by
  w_on; o_law
  refine HandSHeadRun.head_imp (r := PySem.W.OpenLaw.row PySem.Challenge.rw_latechunks_k48_texts_of_rules) (q := view (OpenLaw.row PySem.Challenge.rw_latechunks_k48_texts_of_rules).prog [0, 58]) (H := Lw.hkZ) (ob := Lw.hob) (M := 12000) (loose := ((["_wall", "GREATEST_SIZE", "is_integer", "is_within", "is_size", "LateError", "BadSize", "BadRest", "BadRule", "BadText", "TooMany", "PIECE_FIGURES", "PIECE_WORTH", "integer_of", "number_of", "Reader", "MOST_PARTS", "MOST_FACTOR", "MOST_START", "SIGNS", "is_factor", "is_start", "read_rule", "read_part", "read_sign", "MOST_RESIDUES", "Rule", "Fixed", "Divided", "Lesser"] : List PySem.Str) ++ (["Greater", "By", "check_rest", "check_joined", "check_modulus", "chunk_for", "rule_of", "_law_pen", "_law_draw", "_law_pick", "_law_leaf", "_law_plain", "_law_made", "_law_wish", "_law_chunk", "_law_text", "_law_leaves", "_law_modulus", "_law_fitting", "_law_other", "_law_right"] : List PySem.Str))) (d := HandSHeadRun.topDef (OpenLaw.row PySem.Challenge.rw_latechunks_k48_texts_of_rules).prog 58) (kwd := []) Lw.hob_eq
    Lw.head_run (by kernel_rfl) (by kernel_rfl) (by kernel_rfl) (by rfl) (by first | assumption | decide +kernel) (by decide +kernel) ⟨rfl, rfl, rfl, rfl, rfl, by decide +kernel⟩ ?hw ?hc
  case hw => w_witness2
  case hc =>
    refine Lw.walk_endX (l := PySem.Challenge.rw_latechunks_k48_texts_of_rules) (n := 63) (k := 17) (x := "_law_script") (xts := (["law"] : List Str)) rfl (by decide) (by kernel_rfl) ⟨rfl, by decide, by decide⟩ ?F
    intro w mg fa h Y G hmg0
    obtain ⟨K, KX, c⟩ := Y
    have hmg : mg ("law" : PySem.Str) = some (.ref fa) := by
      have e : (HandSHeadRun.topDef (OpenLaw.row PySem.Challenge.rw_latechunks_k48_texts_of_rules).prog 58).name = ("law" : PySem.Str) := by kernel_rfl
      rw [← e]
      exact hmg0
    exact Lw.known KX G hmg c
