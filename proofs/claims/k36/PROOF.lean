import PyProof.Rows.All
import Wide.All
import OpenK.AllK
import Wide.FinOn
import HandS.ForMost
import HandS.Wide
import HandS.Codes
import HandS.EndBits
import KE.KStateDown
import HandS.Defaults
import HandS.Words
import HandS.ExcInit
import HandS.Head0
import HandS.Head1
import HandS.Head2
import HandS.Head3
import HandS.HeadHook1
import HandS.HeadHook2
import HandS.HeadHook3
import HandS.HeadHook4
import HandS.Lambda
import HandS.IsInst
import PyProof.IsiBase
import KE.KIsAll
import HandS.Walk
import HandS.Exc
import HandS.ExcField
import HandS.ExcIs
import HandS.Dict
import HandS.ClsMeth
import HandS.SlotsOwn
import KE.KOpsOwn
import PyProof.TwoTypes
import HandS.Zip
import HandS.Iter
import KE.GoesMore
import HandS.ExcValue
import HandS.Style
import HandS.MakeKwOnly
import HandS.StrMore
import PyProof.StrOps2
import HandS.Text
import KE.IntTextText
import HandS.Star
import HandS.FStr
import HandS.RaiseMore
import KE.KCallOwn
import PyProof.Methods
import HandS.IterNext
import HandS.IterVal
import KE.KOwnIter
import OpenK.KMeth
import HandS.DictComp
import KE.KDictList
import PyProof.WalksMore
import HandS.SetKeys
import KE.KParD
import KE.KStar
import PyProof.DictUpdate
import PyProof.DictDisplay
import PyProof.MeetsDict
import HandS.SetBool
import PyProof.TupleKey
import PyProof.EqKinds
import PyProof.DictFindH
import PyProof.DictRoads
import KE.KDictWalk
import HandS.Small
import KE.GoesZip
import KE.GoesEnum
import KE.KDictZip
import KE.KItemsList
import HandS.Gcd
import HandS.WideBits
import HandS.SortInts
import HandS.EndTab
import HandS.MakeKw
import HandS.TupMul
import HandS.TupAny
import PySem.Challenge.RW_latechunks_k36_whole_rests_left_by_all_l
set_option Elab.async false
set_option linter.all false
set_option maxRecDepth 100000
set_option maxHeartbeats 4000000
namespace Lw
open PySem PySem.Spec PyProof.Rows L2
def tq (i : Nat) : Stmt := PySem.Challenge.pw_latechunks_k36_whole_rests_left_by_all_l.main.body.getD i (.Pass ⟨0, 0, 0, 0⟩)
/-! ### the head told by one run: defs at paths, tests of K, tables of lambdas -/
namespace Hz
open PySem PySem.Spec PyProof.Rows L2 He
def mcOf (K : PySem.W.Frag) (C : Addr) : Value := match PySem.W.typeIn K (.ref C) with
  | some v => v
  | none => .none
def pAd (K : PySem.W.Frag) (C : Addr) (n : Str) : Addr := match PySem.W.findCls K (.ref C) (mcOf K C) n with
  | some (.get _ (.ref p) _ _) => p
  | _ => 0
def rAd (K : PySem.W.Frag) (p : Addr) (T : String) : Addr := match PySem.W.recIn K p T with
  | some (.ref f :: _) => f
  | _ => 0
def typB (K : PySem.W.Frag) (C : Addr) : Bool := match PySem.W.typeIn K (.ref C) with
  | some _ => true
  | none => false
theorem typB_ok {K : PySem.W.Frag} {C : Addr} (h : typB K C = true) : PySem.W.typeIn K (.ref C) = some (mcOf K C) := by
  unfold typB at h
  unfold mcOf
  cases e : PySem.W.typeIn K (.ref C) with
  | none => rw [e] at h; cases h
  | some v => rfl
def getB (K : PySem.W.Frag) (C : Addr) (n : Str) (g : String) : Bool := match PySem.W.findCls K (.ref C) (mcOf K C) n with
  | some (.get (.builtin g') (.ref _) .none (.ref C')) => g' == g && C' == C
  | _ => false
theorem getB_ok {K : PySem.W.Frag} {C : Addr} {n : Str} {g : String} (h : getB K C n g = true) : PySem.W.findCls K (.ref C) (mcOf K C) n = some (.get (.builtin g) (.ref (pAd K C n)) .none (.ref C)) := by
  unfold getB at h
  unfold pAd
  split at h
  · rename_i g' p C' e
    obtain ⟨h1, h2⟩ := ba h
    rw [e, beq_iff_eq.mp h1, beq_iff_eq.mp h2]
  · cases h
def recB (K : PySem.W.Frag) (p : Addr) (T : String) : Bool := match PySem.W.recIn K p T with
  | some (.ref _ :: _) => true
  | _ => false
theorem recB_ok {K : PySem.W.Frag} {p : Addr} {T : String} (h : recB K p T = true) : ∃ rs, PySem.W.recIn K p T = some (.ref (rAd K p T) :: rs) := by
  unfold recB at h
  unfold rAd
  split at h
  · rename_i f rs e
    rw [e]
    exact ⟨rs, rfl⟩
  · cases h
def intB (K : PySem.W.Frag) (x : Str) (i : Int) : Bool := match PySem.W.nsIn K mainGlobals x with
  | some (some (.int j _)) => decide (j = i)
  | _ => false
theorem intB_ok {K : PySem.W.Frag} {x : Str} {i : Int} (h : intB K x i = true) : ∃ t, PySem.W.nsIn K mainGlobals x = some (some (.int i t)) := by
  unfold intB at h
  split at h
  · rename_i j t e
    rw [← of_decide_eq_true h]
    exact ⟨t, e⟩
  · cases h
def clsB (K : PySem.W.Frag) (C : Addr) (n : Str) (i : Int) : Bool := match PySem.W.findCls K (.ref C) (mcOf K C) n with
  | some (.val (.int j _)) => decide (j = i)
  | _ => false
theorem clsB_ok {K : PySem.W.Frag} {C : Addr} {n : Str} {i : Int} (h : clsB K C n i = true) : ∃ t, PySem.W.findCls K (.ref C) (mcOf K C) n = some (.val (.int i t)) := by
  unfold clsB at h
  split at h
  · rename_i j t e
    rw [← of_decide_eq_true h]
    exact ⟨t, e⟩
  · cases h
def strB (K : PySem.W.Frag) (x z : Str) : Bool := match PySem.W.nsIn K mainGlobals x with
  | some (some (.str y _)) => decide (y = z)
  | _ => false
theorem strB_ok {K : PySem.W.Frag} {x z : Str} (h : strB K x z = true) : ∃ t, PySem.W.nsIn K mainGlobals x = some (some (.str z t)) := by
  unfold strB at h
  split at h
  · rename_i y t e
    rw [← of_decide_eq_true h]
    exact ⟨t, e⟩
  · cases h
def tupB (K : PySem.W.Frag) (a : Addr) (vs : List V) : Bool := match K.lookup a with
  | some ⟨.type c, _, .seq its _, _⟩ => c == "tuple" && relAll vs its.toList
  | _ => false
theorem tupB_ok {K : PySem.W.Frag} {a : Addr} {vs : List V} (h : tupB K a vs = true) : ∃ od ws n sl, K.lookup a = some ⟨.type "tuple", od, .seq ws n, sl⟩ ∧ Vals vs ws.toList ∧ ws.size = vs.length := by
  unfold tupB at h
  split at h
  · rename_i c od its n sl e
    obtain ⟨h1, h2⟩ := ba h
    rw [beq_iff_eq.mp h1] at e
    exact ⟨od, its, n, sl, e, relAll_ok h2, (relAll_ok h2).length.symm⟩
  · cases h
def exB (K : PySem.W.Frag) (C : Addr) (own : String) : Bool := match K.lookup C with
  | some ⟨.type "type", _, .cls cd, sl⟩ => (match cd.mro, sl.toList with
    | .ref C' :: bm, [_, _, _, _, some (.builtin n), _] => C' == C && n == own && !cd.hasDel && cd.hasDict && PySem.HandSPX.refsVE bm
    | _, _ => false)
  | _ => false
theorem exB_ok {K : PySem.W.Frag} {C : Addr} {own : String} (q : exB K C own = true) : ∃ nm qn N bs bm sn sub ab col dd k0 k1 k2 k3 k5, K.lookup C = some (excClassObj nm qn C N bs bm true sn sub ab col dd k0 k1 k2 k3 k5 own) ∧ PySem.HandSPX.refsVE bm = true := by
  unfold exB at q
  split at q
  · rename_i dd cd sl ho
    split at q
    · rename_i C' bm k0 k1 k2 k3 n k5 hm hs
      simp only [Bool.and_eq_true, beq_iff_eq, Bool.not_eq_true'] at q
      obtain ⟨⟨⟨⟨rfl, rfl⟩, hdel⟩, hd⟩, ht⟩ := q
      obtain ⟨nm, bs, mro, ns, qn, hd', sn, sub, ab, col, del⟩ := cd
      dsimp only at hm hdel hd
      subst hm hdel hd
      have hsl : sl = #[k0, k1, k2, k3, some (.builtin n), k5] := by
        obtain ⟨l⟩ := sl
        simp only at hs
        rw [hs]
      subst hsl
      exact ⟨nm, qn, ns, bs, bm, sn, sub, ab, col, dd, k0, k1, k2, k3, k5, ho, ht⟩
    · cases q
  · cases q
/-- a def: where it stands, its name, qualified name, statement, defaults -/
structure DefA where
  adr : PySem.W.Frag → Addr
  name : Str
  qual : Str
  st : Stmt
  dfl : List V := []
def DefA.val (d : DefA) : FnW := some (d.name, d.qual, C8.fnArgs d.st, .stmts (C8.fnBody d.st), C8.fnScope d.st, mainGlobals, [], builtinsNs)
def fnAt (K : PySem.W.Frag) (a : Addr) : FnW := match K.lookup a with
  | some ⟨_, _, .func fd, _⟩ => some (fd.name, fd.qualname, fd.params, fd.body, fd.scope, fd.globals, fd.closure, fd.builtins)
  | _ => none
def DefA.ok (K : PySem.W.Frag) (d : DefA) : Bool := match K.lookup (d.adr K) with
  | some ⟨_, _, .func fd, _⟩ => PySem.W.codeIn K fd.code d.qual && dflB K fd.defaults d.dfl
  | _ => false
theorem DefA.get {K : PySem.W.Frag} {d : DefA} (e : fnAt K (d.adr K) = d.val) (c : d.ok K = true) : ∃ oc od dV kV doc pm an cdv ct osl,
    K.lookup (d.adr K) = some ⟨oc, od, .func (PySem.W.fnOf d.name d.qual (C8.fnArgs d.st) (C8.fnBody d.st) (C8.fnScope d.st) dV kV doc pm an cdv ct), osl⟩ ∧ PySem.W.codeIn K cdv d.qual = true ∧ DflV K dV d.dfl := by
  unfold DefA.ok at c
  unfold fnAt at e
  cases q : K.lookup (d.adr K) with
  | none =>
    rw [q] at c
    cases c
  | some o =>
    obtain ⟨oc, od, dt, osl⟩ := o
    rw [q] at c e
    cases dt with
    | func fd =>
      obtain ⟨n1, n2, n3, n4, n5, n6, n7, n8, n9, n10, n11, n12, n13, n14, n15⟩ := fd
      have e2 : (some (n1, n2, n3, n4, n5, n6, n7, n15) : FnW) = some (d.name, d.qual, C8.fnArgs d.st, .stmts (C8.fnBody d.st), C8.fnScope d.st, mainGlobals, [], builtinsNs) := e
      simp only [Option.some.injEq, Prod.mk.injEq] at e2
      obtain ⟨h1, h2, h3, h4, h5, h6, h7, h8⟩ := e2
      subst h1 h2 h3 h4 h5 h6 h7 h8
      obtain ⟨k1, k2⟩ := ba (show (PySem.W.codeIn K n13 d.qual && dflB K n8 d.dfl) = true from c)
      exact ⟨oc, od, n8, n9, n10, n11, n12, n13, n14, osl, rfl, k1, dflB_ok k2⟩
    | _ => cases c
structure SaysZ (fn : List DefA) (tf : List Defn) (ex : PySem.W.Frag → List (List Bool)) (h : Heap) (K : PySem.W.Frag) : Prop where
  d1 : fn.all (fun d => d.ok K) = true
  d2 : fn.map (fun d => fnAt K (d.adr K)) = fn.map DefA.val
  more : (ex K).all (fun l => l.all id) = true
  hd : ∀ p ∈ tf, PySem.W.codeHdIn K (cT K p).1 (cT K p).2 = true
  out : ∀ p ∈ tf, K.lookup (cT K p).2 = none
  empty : ∀ p ∈ tf, h.get? (cT K p).2 = some { cls := .none, data := .fields #[] }
theorem SaysZ.get {fn : List DefA} {tf : List Defn} {ex : PySem.W.Frag → List (List Bool)} {h : Heap} {K : PySem.W.Frag} (c : SaysZ fn tf ex h K) (i : Nat) {d : DefA} (hi : fn[i]? = some d) : ∃ oc od dV kV doc pm an cdv ct osl,
    K.lookup (d.adr K) = some ⟨oc, od, .func (PySem.W.fnOf d.name d.qual (C8.fnArgs d.st) (C8.fnBody d.st) (C8.fnScope d.st) dV kV doc pm an cdv ct), osl⟩ ∧ PySem.W.codeIn K cdv d.qual = true ∧ DflV K dV d.dfl := by
  have e2 : (fn.map fun d => fnAt K (d.adr K))[i]? = (fn.map DefA.val)[i]? := by rw [c.d2]
  rw [List.getElem?_map, List.getElem?_map, hi] at e2
  exact DefA.get (Option.some.inj e2) (List.all_eq_true.mp c.d1 d (List.mem_of_getElem? hi))
theorem SaysZ.get0 {fn : List DefA} {tf : List Defn} {ex : PySem.W.Frag → List (List Bool)} {h : Heap} {K : PySem.W.Frag} (c : SaysZ fn tf ex h K) (i : Nat) {d : DefA} (hi : fn[i]? = some d) (h0 : d.dfl = []) : ∃ oc od kV doc pm an cdv ct osl,
    K.lookup (d.adr K) = some ⟨oc, od, .func (PySem.W.fnOf d.name d.qual (C8.fnArgs d.st) (C8.fnBody d.st) (C8.fnScope d.st) .none kV doc pm an cdv ct), osl⟩ ∧ PySem.W.codeIn K cdv d.qual = true := by
  obtain ⟨oc, od, dV, kV, doc, pm, an, cdv, ct, osl, lk, hc, hd⟩ := c.get i hi
  have e : dV = .none := by
    rcases hd with ⟨_, e⟩ | ⟨n, _⟩
    · exact e
    · exact absurd h0 n
  subst e
  exact ⟨oc, od, kV, doc, pm, an, cdv, ct, osl, lk, hc⟩
theorem SaysZ.getD {fn : List DefA} {tf : List Defn} {ex : PySem.W.Frag → List (List Bool)} {h : Heap} {K : PySem.W.Frag} (c : SaysZ fn tf ex h K) (i : Nat) {d : DefA} (hi : fn[i]? = some d) (h0 : d.dfl ≠ []) : ∃ oc od T kV doc pm an cdv ct osl oT odT its n slT,
    K.lookup (d.adr K) = some ⟨oc, od, .func (PySem.W.fnOf d.name d.qual (C8.fnArgs d.st) (C8.fnBody d.st) (C8.fnScope d.st) (.ref T) kV doc pm an cdv ct), osl⟩ ∧ PySem.W.codeIn K cdv d.qual = true ∧ K.lookup T = some ⟨oT, odT, .seq (List.toArray its) n, slT⟩ ∧ Vals d.dfl its := by
  obtain ⟨oc, od, dV, kV, doc, pm, an, cdv, ct, osl, lk, hc, hd⟩ := c.get i hi
  rcases hd with ⟨e, _⟩ | ⟨_, T, o, its, m, rfl, lT, oT, rT⟩
  · exact absurd e h0
  · obtain ⟨a1, a2, a3, a4⟩ := o
    dsimp only at oT
    subst oT
    exact ⟨oc, od, T, kV, doc, pm, an, cdv, ct, osl, a1, a2, its, m, a4, lk, hc, lT, rT⟩
theorem ints1 {i : Int} {its : List Value} (h : Vals [V.int i] its) : ∃ t, its = [.int i t] := by
  cases h with
  | cons r0 r1 =>
    cases r1
    obtain ⟨t, rfl⟩ := (show ∃ t, _ = Value.int i t from r0)
    exact ⟨t, rfl⟩
theorem ints3 {i j k : Int} {its : List Value} (h : Vals [V.int i, V.int j, V.int k] its) : ∃ t u v, its = [.int i t, .int j u, .int k v] := by
  cases h with
  | cons r0 r1 =>
    cases r1 with
    | cons r2 r3 =>
      cases r3 with
      | cons r4 r5 =>
        cases r5
        obtain ⟨t, rfl⟩ := (show ∃ t, _ = Value.int i t from r0)
        obtain ⟨u, rfl⟩ := (show ∃ t, _ = Value.int j t from r2)
        obtain ⟨v, rfl⟩ := (show ∃ t, _ = Value.int k t from r4)
        exact ⟨t, u, v, rfl⟩
theorem nons1 {its : List Value} (h : Vals [V.non] its) : its = [.none] := by
  cases h with
  | cons r0 r1 =>
    cases r1
    rw [show _ = Value.none from r0]
theorem at_ {ls : List (List Bool)} (h : ls.all (fun l => l.all id) = true) (i j : Nat) {l : List Bool} {b : Bool} (hi : ls[i]? = some l) (hj : l[j]? = some b) : b = true :=
  List.all_eq_true.mp (List.all_eq_true.mp h l (List.mem_of_getElem? hi)) b (List.mem_of_getElem? hj)
/-- what several runs tell, together -/
theorem comb {α β γ : Type} {R : Option α} {A1 : α → Bool} {A2 : α → β} {Dm : α → γ} {c e : α → Bool} {g : β} {d : γ} (h1 : R.map (fun x => (A1 x, A2 x, Dm x)) = some (true, g, d)) (h2 : R.map (fun x => c x) = some true) (h3 : R.map (fun x => e x) = some true) : R.map (fun x => (A1 x, A2 x, (Dm x, c x && e x))) = some (true, g, (d, true)) := by
  cases R with
  | none => cases h1
  | some x =>
    have e1 := Option.some.inj (show some (A1 x, A2 x, Dm x) = some (true, g, d) from h1)
    have e2 : c x = true := Option.some.inj (show some (c x) = some true from h2)
    have e3 : e x = true := Option.some.inj (show some (e x) = some true from h3)
    obtain ⟨q1, q2⟩ := Prod.mk.inj e1
    obtain ⟨q3, q4⟩ := Prod.mk.inj q2
    show some (A1 x, A2 x, (Dm x, c x && e x)) = _
    rw [q1, q3, q4, e2, e3]
    rfl
def obsZ (as : List Addr) (fn : List DefA) (tf : List Defn) (ex : PySem.W.Frag → List (List Bool)) (g : Addr → Option Obj) : List FnW × Bool := (fn.map fun d => fnAt (frT g as) (d.adr (frT g as)), (fn.all fun d => d.ok (frT g as)) && ((ex (frT g as)).all (fun l => l.all id) && tabsB g tf (frT g as)))
theorem saysZ_of {as : List Addr} {fn : List DefA} {tf : List Defn} {ex : PySem.W.Frag → List (List Bool)} {h : Heap} (e : obsZ as fn tf ex h.get? = (fn.map DefA.val, true)) : SaysZ fn tf ex h (frT h.get? as) := by
  have e1 : fn.map (fun d => fnAt (frT h.get? as) (d.adr (frT h.get? as))) = fn.map DefA.val := congrArg (fun z : List FnW × Bool => z.1) e
  have e2 : ((fn.all fun d => d.ok (frT h.get? as)) && ((ex (frT h.get? as)).all (fun l => l.all id) && tabsB h.get? tf (frT h.get? as))) = true := congrArg (fun z : List FnW × Bool => z.2) e
  obtain ⟨h0, e3⟩ := ba e2
  obtain ⟨h1, h2⟩ := ba e3
  have key : ∀ p ∈ tf, PySem.W.codeHdIn (frT h.get? as) (cT (frT h.get? as) p).1 (cT (frT h.get? as) p).2 = true ∧ ∃ o, h.get? (cT (frT h.get? as) p).2 = some o ∧ emptyTab o = true := fun p hp => by
    obtain ⟨h3, h4⟩ := ba (List.all_eq_true.mp h2 p hp)
    refine ⟨h3, ?_⟩
    cases q : h.get? (cT (frT h.get? as) p).2 with
    | none =>
      rw [q] at h4
      cases h4
    | some o =>
      rw [q] at h4
      exact ⟨o, rfl, h4⟩
  exact ⟨h0, e1, h1, fun p hp => (key p hp).1, fun p hp => by
    obtain ⟨_, o, q, z⟩ := key p hp
    exact frT_none q z, fun p hp => by
    obtain ⟨_, o, q, z⟩ := key p hp
    rw [q, emptyTab_eq z]⟩
def hookZ (as : List Addr) (fn : List DefA) (tf : List Defn) (ex : PySem.W.Frag → List (List Bool)) : PySem.W.Hook where
  α := List FnW × Bool
  obs := fun s => obsZ as fn tf ex s.heap.get?
  val := fun _ => (fn.map DefA.val, true)
  says := fun _ h => ∃ K : PySem.W.Frag, K.In h ∧ SaysZ fn tf ex h K
  of := fun _ _ e => ⟨_, frT_in, saysZ_of e⟩
  keeps := fun _ _ _ ⟨K, hK, c⟩ k => ⟨K, PySem.W.Frag.In.keeps hK k, ⟨c.d1, c.d2, c.more, c.hd, c.out, fun p hp => k _ _ (c.empty p hp)⟩⟩
theorem obsZ_eq {as : List Addr} {fn : List DefA} {tf : List Defn} {ex : PySem.W.Frag → List (List Bool)} {g : Addr → Option Obj} {s : Shared} (h : ∀ a, g a = s.heap.get? a) : obsZ as fn tf ex g = (hookZ as fn tf ex).obs s := by
  have e : g = s.heap.get? := funext h
  rw [e] <;> rfl
end Hz
abbrev hd0 : Hz.DefA := ⟨fun K => (He.ga K "is_integer"), "is_integer", "is_integer", (tq 7), []⟩
abbrev hd1 : Hz.DefA := ⟨fun K => (He.ga K "is_within"), "is_within", "is_within", (tq 8), []⟩
abbrev hd2 : Hz.DefA := ⟨fun K => (He.ga K "is_size"), "is_size", "is_size", (tq 9), []⟩
abbrev hd3 : Hz.DefA := ⟨fun K => (He.ga K "is_name"), "is_name", "is_name", (tq 10), []⟩
abbrev hd4 : Hz.DefA := ⟨fun K => (He.ga K "is_speed"), "is_speed", "is_speed", (tq 63), []⟩
abbrev hd5 : Hz.DefA := ⟨fun K => (He.ga K "check_speeds"), "check_speeds", "check_speeds", (tq 64), []⟩
abbrev hd6 : Hz.DefA := ⟨fun K => (He.ga K "is_number"), "is_number", "is_number", (tq 41), []⟩
abbrev hd7 : Hz.DefA := ⟨fun K => (He.ga K "check_many"), "check_many", "check_many", (tq 51), []⟩
abbrev hd8 : Hz.DefA := ⟨fun K => (He.ga K "check_total"), "check_total", "check_total", (tq 52), []⟩
abbrev hd9 : Hz.DefA := ⟨fun K => (He.ga K "check_spot"), "check_spot", "check_spot", (tq 73), []⟩
abbrev hd10 : Hz.DefA := ⟨fun K => (He.ga K "check_setting"), "check_setting", "check_setting", (tq 74), []⟩
abbrev hd11 : Hz.DefA := ⟨fun K => (He.ga K "check_limit"), "check_limit", "check_limit", (tq 75), []⟩
abbrev hd12 : Hz.DefA := ⟨fun K => (He.ga K "bound_by"), "bound_by", "bound_by", (tq 47), []⟩
abbrev hd13 : Hz.DefA := ⟨fun K => (He.ga K "bounds_of"), "bounds_of", "bounds_of", (tq 46), []⟩
abbrev hd14 : Hz.DefA := ⟨fun K => (He.ga K "greatest_let"), "greatest_let", "greatest_let", (tq 48), []⟩
abbrev hd15 : Hz.DefA := ⟨fun K => (He.ga K "check_asked"), "check_asked", "check_asked", (tq 82), []⟩
abbrev hd16 : Hz.DefA := ⟨fun K => (He.ga K "greedy_rests"), "greedy_rests", "greedy_rests", (tq 80), []⟩
abbrev hd17 : Hz.DefA := ⟨fun K => (He.ga K "chunks_between"), "chunks_between", "chunks_between", (tq 81), []⟩
abbrev hd18 : Hz.DefA := ⟨fun K => (He.ga K "fewest"), "fewest", "fewest", (tq 79), []⟩
abbrev hd19 : Hz.DefA := ⟨fun K => (He.ga K "_law_pen"), "_law_pen", "_law_pen", (tq 84), []⟩
abbrev hd20 : Hz.DefA := ⟨fun K => (He.ga K "_law_draw"), "_law_draw", "_law_draw", (tq 85), []⟩
abbrev hd21 : Hz.DefA := ⟨fun K => (He.ga K "_law_pick"), "_law_pick", "_law_pick", (tq 86), []⟩
abbrev hd22 : Hz.DefA := ⟨fun K => (He.ga K "_law_drawn_plan"), "_law_drawn_plan", "_law_drawn_plan", (tq 87), []⟩
abbrev hd23 : Hz.DefA := ⟨fun K => (He.ga K "_law_setting"), "_law_setting", "_law_setting", (tq 88), []⟩
abbrev hd24 : Hz.DefA := ⟨fun K => (He.ga K "_law_three"), "_law_three", "_law_three", (tq 89), []⟩
abbrev hd25 : Hz.DefA := ⟨fun K => (He.ga K "_law_late"), "_law_late", "_law_late", (tq 90), []⟩
abbrev hd26 : Hz.DefA := ⟨fun K => (He.ga K "_law_under"), "_law_under", "_law_under", (tq 91), []⟩
abbrev hd27 : Hz.DefA := ⟨fun K => (He.ga K "_law_is_let"), "_law_is_let", "_law_is_let", (tq 92), []⟩
abbrev hd28 : Hz.DefA := ⟨fun K => (He.ga K "_law_limit"), "_law_limit", "_law_limit", (tq 93), []⟩
abbrev hd29 : Hz.DefA := ⟨fun K => (He.ga K "_law_limit_of"), "_law_limit_of", "_law_limit_of", (tq 94), []⟩
abbrev hd30 : Hz.DefA := ⟨fun K => (He.ga K "_law_behind"), "_law_behind", "_law_behind", (tq 95), []⟩
abbrev hd31 : Hz.DefA := ⟨fun K => (He.ga K "_law_right"), "_law_right", "_law_right", (tq 96), []⟩
abbrev hd32 : Hz.DefA := ⟨fun K => (He.ga K "law"), "law", "law", (tq 97), []⟩
abbrev hd33 : Hz.DefA := ⟨fun K => (He.ma K (He.ga K "Chunks") "__init__"), "__init__", "Chunks.__init__", (inClass (tq 50) 1), []⟩
abbrev hd34 : Hz.DefA := ⟨fun K => (Hz.rAd K (Hz.pAd K (He.ga K "Chunks") "of") "staticmethod"), "of", "Chunks.of", (inClass (tq 50) 2), []⟩
abbrev hd35 : Hz.DefA := ⟨fun K => (He.ma K (He.ga K "Crew") "__init__"), "__init__", "Crew.__init__", (inClass (tq 62) 0), []⟩
abbrev hd36 : Hz.DefA := ⟨fun K => (Hz.rAd K (Hz.pAd K (He.ga K "Crew") "of") "staticmethod"), "of", "Crew.of", (inClass (tq 62) 1), []⟩
abbrev hd37 : Hz.DefA := ⟨fun K => (He.ma K (He.ga K "Setting") "__init__"), "__init__", "Setting.__init__", (inClass (tq 69) 0), [.int 1, .int 1, .int 0]⟩
abbrev hd38 : Hz.DefA := ⟨fun K => (He.ma K (He.ga K "Setting") "late_of"), "late_of", "Setting.late_of", (inClass (tq 69) 2), []⟩
abbrev hd39 : Hz.DefA := ⟨fun K => (He.ma K (He.ga K "Fewest") "__init__"), "__init__", "Fewest.__init__", (inClass (tq 77) 0), []⟩
abbrev hd40 : Hz.DefA := ⟨fun K => (He.ma K (He.ga K "NoList") "__init__"), "__init__", "NoList.__init__", (inClass (tq 78) 0), []⟩
abbrev hd41 : Hz.DefA := ⟨fun K => (He.ma K (He.ga K "Ratio") "__init__"), "__init__", "Ratio.__init__", (inClass (tq 40) 0), [.int 1]⟩
abbrev hd42 : Hz.DefA := ⟨fun K => (Hz.rAd K (Hz.pAd K (He.ga K "Ratio") "of") "staticmethod"), "of", "Ratio.of", (inClass (tq 40) 1), []⟩
abbrev hd43 : Hz.DefA := ⟨fun K => (He.ma K (He.ga K "BadSetting") "__init__"), "__init__", "BadSetting.__init__", (inClass (tq 24) 0), []⟩
abbrev hd44 : Hz.DefA := ⟨fun K => (He.ma K (He.ga K "BadCost") "__init__"), "__init__", "BadCost.__init__", (inClass (tq 16) 0), []⟩
abbrev hd45 : Hz.DefA := ⟨fun K => (He.ma K (He.ga K "BadFee") "__init__"), "__init__", "BadFee.__init__", (inClass (tq 17) 0), []⟩
abbrev hd46 : Hz.DefA := ⟨fun K => (He.ma K (He.ga K "BadRest") "__init__"), "__init__", "BadRest.__init__", (inClass (tq 21) 0), []⟩
abbrev hd47 : Hz.DefA := ⟨fun K => (He.ma K (He.ga K "BadLimit") "__init__"), "__init__", "BadLimit.__init__", (inClass (tq 19) 0), []⟩
abbrev hd48 : Hz.DefA := ⟨fun K => (He.ma K (He.ga K "BadChunks") "__init__"), "__init__", "BadChunks.__init__", (inClass (tq 22) 0), []⟩
abbrev hd49 : Hz.DefA := ⟨fun K => (He.ma K (He.ga K "BadSize") "__init__"), "__init__", "BadSize.__init__", (inClass (tq 14) 0), []⟩
abbrev hd50 : Hz.DefA := ⟨fun K => (He.ma K (He.ga K "BadTotal") "__init__"), "__init__", "BadTotal.__init__", (inClass (tq 18) 0), []⟩
abbrev hd51 : Hz.DefA := ⟨fun K => (He.ma K (He.ga K "BadCrew") "__init__"), "__init__", "BadCrew.__init__", (inClass (tq 23) 0), []⟩
abbrev hd52 : Hz.DefA := ⟨fun K => (He.ma K (He.ga K "BadName") "__init__"), "__init__", "BadName.__init__", (inClass (tq 13) 0), []⟩
abbrev hd53 : Hz.DefA := ⟨fun K => (He.ma K (He.ga K "BadSpeed") "__init__"), "__init__", "BadSpeed.__init__", (inClass (tq 15) 0), []⟩
abbrev hd54 : Hz.DefA := ⟨fun K => (He.ma K (He.ga K "TooMany") "__init__"), "__init__", "TooMany.__init__", (inClass (tq 28) 0), []⟩
def hfn : List Hz.DefA := ([hd0, hd1, hd2, hd3, hd4, hd5, hd6, hd7, hd8, hd9, hd10, hd11, hd12, hd13, hd14, hd15, hd16, hd17, hd18, hd19, hd20, hd21, hd22, hd23, hd24, hd25, hd26, hd27, hd28, hd29] : List Hz.DefA) ++ ([hd30, hd31, hd32, hd33, hd34, hd35, hd36, hd37, hd38, hd39, hd40, hd41, hd42, hd43, hd44, hd45, hd46, hd47, hd48, hd49, hd50, hd51, hd52, hd53, hd54] : List Hz.DefA)
def htf : List He.Defn := []
def ex0 (K : PySem.W.Frag) : List Bool := [
  decide (PySem.W.nsIn K mainGlobals "is_integer" = some (some (.ref (He.ga K "is_integer")))),
  PySem.W.keepIn K (.ref (He.ga K "is_integer")),
  decide (PySem.W.nsIn K mainGlobals "is_within" = some (some (.ref (He.ga K "is_within")))),
  PySem.W.keepIn K (.ref (He.ga K "is_within")),
  decide (PySem.W.nsIn K mainGlobals "is_size" = some (some (.ref (He.ga K "is_size")))),
  PySem.W.keepIn K (.ref (He.ga K "is_size")),
  decide (PySem.W.nsIn K mainGlobals "is_name" = some (some (.ref (He.ga K "is_name")))),
  PySem.W.keepIn K (.ref (He.ga K "is_name")),
  decide (PySem.W.nsIn K mainGlobals "is_speed" = some (some (.ref (He.ga K "is_speed")))),
  PySem.W.keepIn K (.ref (He.ga K "is_speed")),
  decide (PySem.W.nsIn K mainGlobals "check_speeds" = some (some (.ref (He.ga K "check_speeds")))),
  PySem.W.keepIn K (.ref (He.ga K "check_speeds")),
  decide (PySem.W.nsIn K mainGlobals "is_number" = some (some (.ref (He.ga K "is_number")))),
  PySem.W.keepIn K (.ref (He.ga K "is_number")),
  decide (PySem.W.nsIn K mainGlobals "check_many" = some (some (.ref (He.ga K "check_many")))),
  PySem.W.keepIn K (.ref (He.ga K "check_many")),
  decide (PySem.W.nsIn K mainGlobals "check_total" = some (some (.ref (He.ga K "check_total")))),
  PySem.W.keepIn K (.ref (He.ga K "check_total")),
  decide (PySem.W.nsIn K mainGlobals "check_spot" = some (some (.ref (He.ga K "check_spot")))),
  PySem.W.keepIn K (.ref (He.ga K "check_spot")),
  decide (PySem.W.nsIn K mainGlobals "check_setting" = some (some (.ref (He.ga K "check_setting")))),
  PySem.W.keepIn K (.ref (He.ga K "check_setting")),
  decide (PySem.W.nsIn K mainGlobals "check_limit" = some (some (.ref (He.ga K "check_limit")))),
  PySem.W.keepIn K (.ref (He.ga K "check_limit")),
  decide (PySem.W.nsIn K mainGlobals "bound_by" = some (some (.ref (He.ga K "bound_by")))),
  PySem.W.keepIn K (.ref (He.ga K "bound_by")),
  decide (PySem.W.nsIn K mainGlobals "bounds_of" = some (some (.ref (He.ga K "bounds_of")))),
  PySem.W.keepIn K (.ref (He.ga K "bounds_of")),
  decide (PySem.W.nsIn K mainGlobals "greatest_let" = some (some (.ref (He.ga K "greatest_let")))),
  PySem.W.keepIn K (.ref (He.ga K "greatest_let")),
  decide (PySem.W.nsIn K mainGlobals "check_asked" = some (some (.ref (He.ga K "check_asked")))),
  PySem.W.keepIn K (.ref (He.ga K "check_asked")),
  decide (PySem.W.nsIn K mainGlobals "greedy_rests" = some (some (.ref (He.ga K "greedy_rests")))),
  PySem.W.keepIn K (.ref (He.ga K "greedy_rests")),
  decide (PySem.W.nsIn K mainGlobals "chunks_between" = some (some (.ref (He.ga K "chunks_between")))),
  PySem.W.keepIn K (.ref (He.ga K "chunks_between")),
  decide (PySem.W.nsIn K mainGlobals "fewest" = some (some (.ref (He.ga K "fewest")))),
  PySem.W.keepIn K (.ref (He.ga K "fewest")),
  decide (PySem.W.nsIn K mainGlobals "_law_pen" = some (some (.ref (He.ga K "_law_pen")))),
  PySem.W.keepIn K (.ref (He.ga K "_law_pen"))]
def ex1 (K : PySem.W.Frag) : List Bool := [
  decide (PySem.W.nsIn K mainGlobals "_law_draw" = some (some (.ref (He.ga K "_law_draw")))),
  PySem.W.keepIn K (.ref (He.ga K "_law_draw")),
  decide (PySem.W.nsIn K mainGlobals "_law_pick" = some (some (.ref (He.ga K "_law_pick")))),
  PySem.W.keepIn K (.ref (He.ga K "_law_pick")),
  decide (PySem.W.nsIn K mainGlobals "_law_drawn_plan" = some (some (.ref (He.ga K "_law_drawn_plan")))),
  PySem.W.keepIn K (.ref (He.ga K "_law_drawn_plan")),
  decide (PySem.W.nsIn K mainGlobals "_law_setting" = some (some (.ref (He.ga K "_law_setting")))),
  PySem.W.keepIn K (.ref (He.ga K "_law_setting")),
  decide (PySem.W.nsIn K mainGlobals "_law_three" = some (some (.ref (He.ga K "_law_three")))),
  PySem.W.keepIn K (.ref (He.ga K "_law_three")),
  decide (PySem.W.nsIn K mainGlobals "_law_late" = some (some (.ref (He.ga K "_law_late")))),
  PySem.W.keepIn K (.ref (He.ga K "_law_late")),
  decide (PySem.W.nsIn K mainGlobals "_law_under" = some (some (.ref (He.ga K "_law_under")))),
  PySem.W.keepIn K (.ref (He.ga K "_law_under")),
  decide (PySem.W.nsIn K mainGlobals "_law_is_let" = some (some (.ref (He.ga K "_law_is_let")))),
  PySem.W.keepIn K (.ref (He.ga K "_law_is_let")),
  decide (PySem.W.nsIn K mainGlobals "_law_limit" = some (some (.ref (He.ga K "_law_limit")))),
  PySem.W.keepIn K (.ref (He.ga K "_law_limit")),
  decide (PySem.W.nsIn K mainGlobals "_law_limit_of" = some (some (.ref (He.ga K "_law_limit_of")))),
  PySem.W.keepIn K (.ref (He.ga K "_law_limit_of")),
  decide (PySem.W.nsIn K mainGlobals "_law_behind" = some (some (.ref (He.ga K "_law_behind")))),
  PySem.W.keepIn K (.ref (He.ga K "_law_behind")),
  decide (PySem.W.nsIn K mainGlobals "_law_right" = some (some (.ref (He.ga K "_law_right")))),
  PySem.W.keepIn K (.ref (He.ga K "_law_right")),
  decide (PySem.W.nsIn K mainGlobals "law" = some (some (.ref (He.ga K "law")))),
  PySem.W.keepIn K (.ref (He.ga K "law")),
  decide (PySem.W.nsIn K mainGlobals "Chunks" = some (some (.ref (He.ga K "Chunks")))),
  Hz.typB K (He.ga K "Chunks"),
  PySem.W.readsIn K (He.ga K "Chunks") (Hz.mcOf K (He.ga K "Chunks")),
  decide (PySem.W.specialIn K (.ref (He.ga K "Chunks")) "__getattribute__" = some (some (.builtin "type.__getattribute__"))),
  PySem.W.plainGet K (He.ga K "Chunks") Str.empty,
  PySem.W.hasDictIn K (He.ga K "Chunks"),
  PySem.W.plainOver K (He.ga K "Chunks"),
  decide (PySem.W.findIn K (.ref (He.ga K "Chunks")) "__setattr__" = some (some (.builtin "object.__setattr__"))),
  PySem.W.makesIn K (He.ga K "Chunks"),
  PySem.W.keepIn K (.ref (He.ga K "Chunks")),
  decide (PySem.W.findIn K (.ref (He.ga K "Chunks")) "sizes" = some none),
  decide (PySem.W.findIn K (.ref (He.ga K "Chunks")) "total" = some none),
  decide (PySem.W.findIn K (.ref (He.ga K "Chunks")) "ends" = some none),
  decide (PySem.W.findIn K (.ref (He.ga K "Chunks")) "rests" = some none)]
def ex2 (K : PySem.W.Frag) : List Bool := [
  decide (PySem.W.findIn K (.ref (He.ga K "Chunks")) "__class__" = some (some (.builtin "object.__class__"))),
  decide (PySem.W.mroIn K (He.ga K "Chunks") (.type "object") = some true),
  decide (PySem.W.specialIn K (.builtin "object.__class__") "__get__" = some (some (.builtin "getset_descriptor.__get__"))),
  decide (PySem.W.takesIn K (.builtin "object.__class__") = some true),
  Hz.clsB K (He.ga K "Chunks") "MOST" 5000,
  decide (PySem.W.findIn K (.ref (He.ga K "Chunks")) "__init__" = some (some (.ref (He.ma K (He.ga K "Chunks") "__init__")))),
  PySem.W.isFn K (.ref (He.ma K (He.ga K "Chunks") "__init__")),
  PySem.W.keepIn K (.ref (He.ma K (He.ga K "Chunks") "__init__")),
  PySem.W.keepIn K (.ref (Hz.rAd K (Hz.pAd K (He.ga K "Chunks") "of") "staticmethod")),
  Hz.getB K (He.ga K "Chunks") "of" "staticmethod.__get__",
  Hz.recB K (Hz.pAd K (He.ga K "Chunks") "of") "staticmethod",
  decide (PySem.W.nsIn K mainGlobals "Crew" = some (some (.ref (He.ga K "Crew")))),
  Hz.typB K (He.ga K "Crew"),
  PySem.W.readsIn K (He.ga K "Crew") (Hz.mcOf K (He.ga K "Crew")),
  decide (PySem.W.specialIn K (.ref (He.ga K "Crew")) "__getattribute__" = some (some (.builtin "type.__getattribute__"))),
  PySem.W.plainGet K (He.ga K "Crew") Str.empty,
  PySem.W.hasDictIn K (He.ga K "Crew"),
  PySem.W.plainOver K (He.ga K "Crew"),
  decide (PySem.W.findIn K (.ref (He.ga K "Crew")) "__setattr__" = some (some (.builtin "object.__setattr__"))),
  PySem.W.makesIn K (He.ga K "Crew"),
  PySem.W.keepIn K (.ref (He.ga K "Crew")),
  decide (PySem.W.findIn K (.ref (He.ga K "Crew")) "workers" = some none),
  decide (PySem.W.findIn K (.ref (He.ga K "Crew")) "speed" = some none),
  decide (PySem.W.findIn K (.ref (He.ga K "Crew")) "least_speed" = some none),
  decide (PySem.W.findIn K (.ref (He.ga K "Crew")) "greatest_speed" = some none),
  decide (PySem.W.findIn K (.ref (He.ga K "Crew")) "slowest" = some none),
  decide (PySem.W.findIn K (.ref (He.ga K "Crew")) "fastest" = some none),
  decide (PySem.W.findIn K (.ref (He.ga K "Crew")) "_pairs" = some none),
  decide (PySem.W.findIn K (.ref (He.ga K "Crew")) "_speeds" = some none),
  decide (PySem.W.findIn K (.ref (He.ga K "Crew")) "__class__" = some (some (.builtin "object.__class__"))),
  decide (PySem.W.mroIn K (He.ga K "Crew") (.type "object") = some true),
  decide (PySem.W.findIn K (.ref (He.ga K "Crew")) "__init__" = some (some (.ref (He.ma K (He.ga K "Crew") "__init__")))),
  PySem.W.isFn K (.ref (He.ma K (He.ga K "Crew") "__init__")),
  PySem.W.keepIn K (.ref (He.ma K (He.ga K "Crew") "__init__")),
  PySem.W.keepIn K (.ref (Hz.rAd K (Hz.pAd K (He.ga K "Crew") "of") "staticmethod")),
  Hz.getB K (He.ga K "Crew") "of" "staticmethod.__get__",
  Hz.recB K (Hz.pAd K (He.ga K "Crew") "of") "staticmethod",
  decide (PySem.W.nsIn K mainGlobals "Setting" = some (some (.ref (He.ga K "Setting")))),
  PySem.W.plainGet K (He.ga K "Setting") Str.empty,
  PySem.W.hasDictIn K (He.ga K "Setting")]
def ex3 (K : PySem.W.Frag) : List Bool := [
  PySem.W.plainOver K (He.ga K "Setting"),
  decide (PySem.W.findIn K (.ref (He.ga K "Setting")) "__setattr__" = some (some (.builtin "object.__setattr__"))),
  PySem.W.makesIn K (He.ga K "Setting"),
  PySem.W.keepIn K (.ref (He.ga K "Setting")),
  decide (PySem.W.findIn K (.ref (He.ga K "Setting")) "crew" = some none),
  decide (PySem.W.findIn K (.ref (He.ga K "Setting")) "least" = some none),
  decide (PySem.W.findIn K (.ref (He.ga K "Setting")) "most" = some none),
  decide (PySem.W.findIn K (.ref (He.ga K "Setting")) "fee" = some none),
  decide (PySem.W.findIn K (.ref (He.ga K "Setting")) "lowest" = some none),
  decide (PySem.W.findIn K (.ref (He.ga K "Setting")) "__class__" = some (some (.builtin "object.__class__"))),
  decide (PySem.W.mroIn K (He.ga K "Setting") (.type "object") = some true),
  decide (PySem.W.findIn K (.ref (He.ga K "Setting")) "__init__" = some (some (.ref (He.ma K (He.ga K "Setting") "__init__")))),
  PySem.W.isFn K (.ref (He.ma K (He.ga K "Setting") "__init__")),
  PySem.W.keepIn K (.ref (He.ma K (He.ga K "Setting") "__init__")),
  decide (PySem.W.findIn K (.ref (He.ga K "Setting")) "late_of" = some (some (.ref (He.ma K (He.ga K "Setting") "late_of")))),
  PySem.W.isFn K (.ref (He.ma K (He.ga K "Setting") "late_of")),
  PySem.W.keepIn K (.ref (He.ma K (He.ga K "Setting") "late_of")),
  decide (PySem.W.nsIn K mainGlobals "Fewest" = some (some (.ref (He.ga K "Fewest")))),
  PySem.W.plainGet K (He.ga K "Fewest") Str.empty,
  PySem.W.hasDictIn K (He.ga K "Fewest"),
  PySem.W.plainOver K (He.ga K "Fewest"),
  decide (PySem.W.findIn K (.ref (He.ga K "Fewest")) "__setattr__" = some (some (.builtin "object.__setattr__"))),
  PySem.W.makesIn K (He.ga K "Fewest"),
  PySem.W.keepIn K (.ref (He.ga K "Fewest")),
  decide (PySem.W.findIn K (.ref (He.ga K "Fewest")) "chunks" = some none),
  decide (PySem.W.findIn K (.ref (He.ga K "Fewest")) "__class__" = some (some (.builtin "object.__class__"))),
  decide (PySem.W.mroIn K (He.ga K "Fewest") (.type "object") = some true),
  decide (PySem.W.findIn K (.ref (He.ga K "Fewest")) "__init__" = some (some (.ref (He.ma K (He.ga K "Fewest") "__init__")))),
  PySem.W.isFn K (.ref (He.ma K (He.ga K "Fewest") "__init__")),
  PySem.W.keepIn K (.ref (He.ma K (He.ga K "Fewest") "__init__")),
  decide (PySem.W.nsIn K mainGlobals "NoList" = some (some (.ref (He.ga K "NoList")))),
  PySem.W.plainGet K (He.ga K "NoList") Str.empty,
  PySem.W.hasDictIn K (He.ga K "NoList"),
  PySem.W.plainOver K (He.ga K "NoList"),
  decide (PySem.W.findIn K (.ref (He.ga K "NoList")) "__setattr__" = some (some (.builtin "object.__setattr__"))),
  PySem.W.makesIn K (He.ga K "NoList"),
  PySem.W.keepIn K (.ref (He.ga K "NoList")),
  decide (PySem.W.findIn K (.ref (He.ga K "NoList")) "rests" = some none),
  decide (PySem.W.findIn K (.ref (He.ga K "NoList")) "__class__" = some (some (.builtin "object.__class__"))),
  decide (PySem.W.mroIn K (He.ga K "NoList") (.type "object") = some true)]
def ex4 (K : PySem.W.Frag) : List Bool := [
  decide (PySem.W.findIn K (.ref (He.ga K "NoList")) "__init__" = some (some (.ref (He.ma K (He.ga K "NoList") "__init__")))),
  PySem.W.isFn K (.ref (He.ma K (He.ga K "NoList") "__init__")),
  PySem.W.keepIn K (.ref (He.ma K (He.ga K "NoList") "__init__")),
  decide (PySem.W.kitOne K (.ref (He.ga K "NoList")) (.ref (He.ga K "Fewest")) = some false),
  decide (PySem.W.nsIn K mainGlobals "Ratio" = some (some (.ref (He.ga K "Ratio")))),
  Hz.typB K (He.ga K "Ratio"),
  PySem.W.readsIn K (He.ga K "Ratio") (Hz.mcOf K (He.ga K "Ratio")),
  decide (PySem.W.specialIn K (.ref (He.ga K "Ratio")) "__getattribute__" = some (some (.builtin "type.__getattribute__"))),
  PySem.W.plainGet K (He.ga K "Ratio") Str.empty,
  PySem.W.hasDictIn K (He.ga K "Ratio"),
  PySem.W.plainOver K (He.ga K "Ratio"),
  decide (PySem.W.findIn K (.ref (He.ga K "Ratio")) "__setattr__" = some (some (.builtin "object.__setattr__"))),
  PySem.W.makesIn K (He.ga K "Ratio"),
  PySem.W.keepIn K (.ref (He.ga K "Ratio")),
  decide (PySem.W.findIn K (.ref (He.ga K "Ratio")) "over" = some none),
  decide (PySem.W.findIn K (.ref (He.ga K "Ratio")) "under" = some none),
  decide (PySem.W.findIn K (.ref (He.ga K "Ratio")) "__class__" = some (some (.builtin "object.__class__"))),
  decide (PySem.W.mroIn K (He.ga K "Ratio") (.type "object") = some true),
  decide (PySem.W.kitOne K (.ref (He.ga K "Ratio")) (.type "int") = some false),
  decide (PySem.W.kitOne K (.ref (He.ga K "Ratio")) (.type "bool") = some false),
  decide (PySem.W.kitOne K (.ref (He.ga K "Ratio")) (.type "str") = some false),
  decide (PySem.W.findIn K (.ref (He.ga K "Ratio")) "__init__" = some (some (.ref (He.ma K (He.ga K "Ratio") "__init__")))),
  PySem.W.isFn K (.ref (He.ma K (He.ga K "Ratio") "__init__")),
  PySem.W.keepIn K (.ref (He.ma K (He.ga K "Ratio") "__init__")),
  PySem.W.keepIn K (.ref (Hz.rAd K (Hz.pAd K (He.ga K "Ratio") "of") "staticmethod")),
  Hz.getB K (He.ga K "Ratio") "of" "staticmethod.__get__",
  Hz.recB K (Hz.pAd K (He.ga K "Ratio") "of") "staticmethod",
  decide (PySem.W.kitOne K (.type "int") (.ref (He.ga K "Ratio")) = some false),
  decide (PySem.W.nsIn K mainGlobals "gcd" = some (some (.builtin "math.gcd"))),
  decide (PySem.W.nsIn K mainGlobals "BadSetting" = some (some (.ref (He.ga K "BadSetting")))),
  Hz.exB K (He.ga K "BadSetting") "ValueError.__new__",
  decide (PySem.W.findIn K (.ref (He.ga K "BadSetting")) "__setattr__" = some (some (.builtin "object.__setattr__"))),
  decide (PySem.W.subIn K (.ref (He.ga K "BadSetting")) (.type "BaseException") = some true),
  decide (PySem.W.typeIn K (.ref (He.ga K "BadSetting")) = some (.type "type")),
  PySem.W.keepIn K (.ref (He.ga K "BadSetting")),
  decide (PySem.W.findIn K (.ref (He.ga K "BadSetting")) "__init__" = some (some (.ref (He.ma K (He.ga K "BadSetting") "__init__")))),
  decide (PySem.W.typeIn K (.ref (He.ma K (He.ga K "BadSetting") "__init__")) = some (.type "function")),
  decide (PySem.W.findIn K (.ref (He.ga K "BadSetting")) "part" = some none),
  decide (PySem.W.nsIn K mainGlobals "BadCost" = some (some (.ref (He.ga K "BadCost")))),
  Hz.exB K (He.ga K "BadCost") "ValueError.__new__"]
def ex5 (K : PySem.W.Frag) : List Bool := [
  decide (PySem.W.findIn K (.ref (He.ga K "BadCost")) "__setattr__" = some (some (.builtin "object.__setattr__"))),
  decide (PySem.W.subIn K (.ref (He.ga K "BadCost")) (.type "BaseException") = some true),
  decide (PySem.W.typeIn K (.ref (He.ga K "BadCost")) = some (.type "type")),
  PySem.W.keepIn K (.ref (He.ga K "BadCost")),
  decide (PySem.W.findIn K (.ref (He.ga K "BadCost")) "__init__" = some (some (.ref (He.ma K (He.ga K "BadCost") "__init__")))),
  decide (PySem.W.typeIn K (.ref (He.ma K (He.ga K "BadCost") "__init__")) = some (.type "function")),
  decide (PySem.W.findIn K (.ref (He.ga K "BadCost")) "value" = some none),
  decide (PySem.W.nsIn K mainGlobals "BadFee" = some (some (.ref (He.ga K "BadFee")))),
  Hz.exB K (He.ga K "BadFee") "ValueError.__new__",
  decide (PySem.W.findIn K (.ref (He.ga K "BadFee")) "__setattr__" = some (some (.builtin "object.__setattr__"))),
  decide (PySem.W.subIn K (.ref (He.ga K "BadFee")) (.type "BaseException") = some true),
  decide (PySem.W.typeIn K (.ref (He.ga K "BadFee")) = some (.type "type")),
  PySem.W.keepIn K (.ref (He.ga K "BadFee")),
  decide (PySem.W.findIn K (.ref (He.ga K "BadFee")) "__init__" = some (some (.ref (He.ma K (He.ga K "BadFee") "__init__")))),
  decide (PySem.W.typeIn K (.ref (He.ma K (He.ga K "BadFee") "__init__")) = some (.type "function")),
  decide (PySem.W.findIn K (.ref (He.ga K "BadFee")) "value" = some none),
  decide (PySem.W.nsIn K mainGlobals "BadRest" = some (some (.ref (He.ga K "BadRest")))),
  Hz.exB K (He.ga K "BadRest") "ValueError.__new__",
  decide (PySem.W.findIn K (.ref (He.ga K "BadRest")) "__setattr__" = some (some (.builtin "object.__setattr__"))),
  decide (PySem.W.subIn K (.ref (He.ga K "BadRest")) (.type "BaseException") = some true),
  decide (PySem.W.typeIn K (.ref (He.ga K "BadRest")) = some (.type "type")),
  PySem.W.keepIn K (.ref (He.ga K "BadRest")),
  decide (PySem.W.findIn K (.ref (He.ga K "BadRest")) "__init__" = some (some (.ref (He.ma K (He.ga K "BadRest") "__init__")))),
  decide (PySem.W.typeIn K (.ref (He.ma K (He.ga K "BadRest") "__init__")) = some (.type "function")),
  decide (PySem.W.findIn K (.ref (He.ga K "BadRest")) "value" = some none),
  decide (PySem.W.nsIn K mainGlobals "BadLimit" = some (some (.ref (He.ga K "BadLimit")))),
  Hz.exB K (He.ga K "BadLimit") "ValueError.__new__",
  decide (PySem.W.findIn K (.ref (He.ga K "BadLimit")) "__setattr__" = some (some (.builtin "object.__setattr__"))),
  decide (PySem.W.subIn K (.ref (He.ga K "BadLimit")) (.type "BaseException") = some true),
  decide (PySem.W.typeIn K (.ref (He.ga K "BadLimit")) = some (.type "type")),
  PySem.W.keepIn K (.ref (He.ga K "BadLimit")),
  decide (PySem.W.findIn K (.ref (He.ga K "BadLimit")) "__init__" = some (some (.ref (He.ma K (He.ga K "BadLimit") "__init__")))),
  decide (PySem.W.typeIn K (.ref (He.ma K (He.ga K "BadLimit") "__init__")) = some (.type "function")),
  decide (PySem.W.findIn K (.ref (He.ga K "BadLimit")) "value" = some none),
  decide (PySem.W.nsIn K mainGlobals "BadChunks" = some (some (.ref (He.ga K "BadChunks")))),
  Hz.exB K (He.ga K "BadChunks") "ValueError.__new__",
  decide (PySem.W.findIn K (.ref (He.ga K "BadChunks")) "__setattr__" = some (some (.builtin "object.__setattr__"))),
  decide (PySem.W.subIn K (.ref (He.ga K "BadChunks")) (.type "BaseException") = some true),
  decide (PySem.W.typeIn K (.ref (He.ga K "BadChunks")) = some (.type "type")),
  PySem.W.keepIn K (.ref (He.ga K "BadChunks"))]
def ex6 (K : PySem.W.Frag) : List Bool := [
  decide (PySem.W.findIn K (.ref (He.ga K "BadChunks")) "__init__" = some (some (.ref (He.ma K (He.ga K "BadChunks") "__init__")))),
  decide (PySem.W.typeIn K (.ref (He.ma K (He.ga K "BadChunks") "__init__")) = some (.type "function")),
  decide (PySem.W.findIn K (.ref (He.ga K "BadChunks")) "part" = some none),
  decide (PySem.W.nsIn K mainGlobals "BadSize" = some (some (.ref (He.ga K "BadSize")))),
  Hz.exB K (He.ga K "BadSize") "ValueError.__new__",
  decide (PySem.W.findIn K (.ref (He.ga K "BadSize")) "__setattr__" = some (some (.builtin "object.__setattr__"))),
  decide (PySem.W.subIn K (.ref (He.ga K "BadSize")) (.type "BaseException") = some true),
  decide (PySem.W.typeIn K (.ref (He.ga K "BadSize")) = some (.type "type")),
  PySem.W.keepIn K (.ref (He.ga K "BadSize")),
  decide (PySem.W.findIn K (.ref (He.ga K "BadSize")) "__init__" = some (some (.ref (He.ma K (He.ga K "BadSize") "__init__")))),
  decide (PySem.W.typeIn K (.ref (He.ma K (He.ga K "BadSize") "__init__")) = some (.type "function")),
  decide (PySem.W.findIn K (.ref (He.ga K "BadSize")) "value" = some none),
  decide (PySem.W.nsIn K mainGlobals "BadTotal" = some (some (.ref (He.ga K "BadTotal")))),
  Hz.exB K (He.ga K "BadTotal") "ValueError.__new__",
  decide (PySem.W.findIn K (.ref (He.ga K "BadTotal")) "__setattr__" = some (some (.builtin "object.__setattr__"))),
  decide (PySem.W.subIn K (.ref (He.ga K "BadTotal")) (.type "BaseException") = some true),
  decide (PySem.W.typeIn K (.ref (He.ga K "BadTotal")) = some (.type "type")),
  PySem.W.keepIn K (.ref (He.ga K "BadTotal")),
  decide (PySem.W.findIn K (.ref (He.ga K "BadTotal")) "__init__" = some (some (.ref (He.ma K (He.ga K "BadTotal") "__init__")))),
  decide (PySem.W.typeIn K (.ref (He.ma K (He.ga K "BadTotal") "__init__")) = some (.type "function")),
  decide (PySem.W.findIn K (.ref (He.ga K "BadTotal")) "value" = some none),
  decide (PySem.W.nsIn K mainGlobals "BadCrew" = some (some (.ref (He.ga K "BadCrew")))),
  Hz.exB K (He.ga K "BadCrew") "ValueError.__new__",
  decide (PySem.W.findIn K (.ref (He.ga K "BadCrew")) "__setattr__" = some (some (.builtin "object.__setattr__"))),
  decide (PySem.W.subIn K (.ref (He.ga K "BadCrew")) (.type "BaseException") = some true),
  decide (PySem.W.typeIn K (.ref (He.ga K "BadCrew")) = some (.type "type")),
  PySem.W.keepIn K (.ref (He.ga K "BadCrew")),
  decide (PySem.W.findIn K (.ref (He.ga K "BadCrew")) "__init__" = some (some (.ref (He.ma K (He.ga K "BadCrew") "__init__")))),
  decide (PySem.W.typeIn K (.ref (He.ma K (He.ga K "BadCrew") "__init__")) = some (.type "function")),
  decide (PySem.W.findIn K (.ref (He.ga K "BadCrew")) "part" = some none),
  decide (PySem.W.nsIn K mainGlobals "BadName" = some (some (.ref (He.ga K "BadName")))),
  Hz.exB K (He.ga K "BadName") "ValueError.__new__",
  decide (PySem.W.findIn K (.ref (He.ga K "BadName")) "__setattr__" = some (some (.builtin "object.__setattr__"))),
  decide (PySem.W.subIn K (.ref (He.ga K "BadName")) (.type "BaseException") = some true),
  decide (PySem.W.typeIn K (.ref (He.ga K "BadName")) = some (.type "type")),
  PySem.W.keepIn K (.ref (He.ga K "BadName")),
  decide (PySem.W.findIn K (.ref (He.ga K "BadName")) "__init__" = some (some (.ref (He.ma K (He.ga K "BadName") "__init__")))),
  decide (PySem.W.typeIn K (.ref (He.ma K (He.ga K "BadName") "__init__")) = some (.type "function")),
  decide (PySem.W.findIn K (.ref (He.ga K "BadName")) "value" = some none),
  decide (PySem.W.nsIn K mainGlobals "BadSpeed" = some (some (.ref (He.ga K "BadSpeed"))))]
def ex7 (K : PySem.W.Frag) : List Bool := [
  Hz.exB K (He.ga K "BadSpeed") "ValueError.__new__",
  decide (PySem.W.findIn K (.ref (He.ga K "BadSpeed")) "__setattr__" = some (some (.builtin "object.__setattr__"))),
  decide (PySem.W.subIn K (.ref (He.ga K "BadSpeed")) (.type "BaseException") = some true),
  decide (PySem.W.typeIn K (.ref (He.ga K "BadSpeed")) = some (.type "type")),
  PySem.W.keepIn K (.ref (He.ga K "BadSpeed")),
  decide (PySem.W.findIn K (.ref (He.ga K "BadSpeed")) "__init__" = some (some (.ref (He.ma K (He.ga K "BadSpeed") "__init__")))),
  decide (PySem.W.typeIn K (.ref (He.ma K (He.ga K "BadSpeed") "__init__")) = some (.type "function")),
  decide (PySem.W.findIn K (.ref (He.ga K "BadSpeed")) "value" = some none),
  decide (PySem.W.nsIn K mainGlobals "TooMany" = some (some (.ref (He.ga K "TooMany")))),
  Hz.exB K (He.ga K "TooMany") "ValueError.__new__",
  decide (PySem.W.findIn K (.ref (He.ga K "TooMany")) "__setattr__" = some (some (.builtin "object.__setattr__"))),
  decide (PySem.W.subIn K (.ref (He.ga K "TooMany")) (.type "BaseException") = some true),
  decide (PySem.W.typeIn K (.ref (He.ga K "TooMany")) = some (.type "type")),
  PySem.W.keepIn K (.ref (He.ga K "TooMany")),
  decide (PySem.W.findIn K (.ref (He.ga K "TooMany")) "__init__" = some (some (.ref (He.ma K (He.ga K "TooMany") "__init__")))),
  decide (PySem.W.typeIn K (.ref (He.ma K (He.ga K "TooMany") "__init__")) = some (.type "function")),
  decide (PySem.W.findIn K (.ref (He.ga K "TooMany")) "what" = some none),
  decide (PySem.W.findIn K (.ref (He.ga K "TooMany")) "most" = some none),
  Hz.intB K "MOST_WORKERS" (8),
  Hz.intB K "GREATEST_SPEED" (60),
  Hz.intB K "LONGEST_NAME" (8),
  Hz.intB K "GREATEST_COST" (60),
  Hz.intB K "GREATEST_FEE" (10 ^ 30),
  Hz.intB K "GREATEST_SIZE" (10 ^ 30),
  Hz.strB K "LETTERS" "abcdefghijklmnopqrstuvwxyz",
  decide (PySem.W.nsIn K mainGlobals "TEXT_WORDS" = some (some (.ref (He.ga K "TEXT_WORDS")))),
  Hz.tupB K (He.ga K "TEXT_WORDS") [.str "cost", .str "fee", .str "none", .str "order", .str "ready", .str "self", .str "chunks", .str "crew", .str "late", .str "at"],
  decide (PySem.W.nsIn K mainGlobals "int" = some none),
  decide (PySem.W.nsIn K mainGlobals "list" = some none),
  decide (PySem.W.nsIn K mainGlobals "len" = some none),
  decide (PySem.W.nsIn K mainGlobals "abs" = some none),
  decide (PySem.W.nsIn K mainGlobals "bool" = some none),
  decide (PySem.W.nsIn K mainGlobals "str" = some none),
  decide (PySem.W.nsIn K mainGlobals "isinstance" = some none),
  decide (PySem.W.nsIn K mainGlobals "range" = some none),
  decide (PySem.W.nsIn K mainGlobals "repr" = some none),
  decide (PySem.W.nsIn K mainGlobals "all" = some none),
  decide (PySem.W.nsIn K mainGlobals "sorted" = some none),
  decide (PySem.W.nsIn K mainGlobals "tuple" = some none),
  decide (PySem.W.nsIn K mainGlobals "sum" = some none)]
def ex8 (K : PySem.W.Frag) : List Bool := [
  decide (PySem.W.nsIn K mainGlobals "min" = some none),
  decide (PySem.W.nsIn K mainGlobals "max" = some none),
  decide (PySem.W.nsIn K mainGlobals "dict" = some none),
  decide (PySem.W.nsIn K mainGlobals "iter" = some none),
  decide (PySem.W.nsIn K mainGlobals "zip" = some none)]
def exK (K : PySem.W.Frag) : List (List Bool) := [ex0 K, ex1 K, ex2 K, ex3 K, ex4 K, ex5 K, ex6 K, ex7 K, ex8 K]
def hAS : List Addr := (mainGlobals :: (List.range 2000).reverse)
abbrev hR : PySem.W.OpenRow := PySem.W.OpenLaw.row PySem.Challenge.rw_latechunks_k36_whole_rests_left_by_all_l
abbrev hkZ : PySem.W.Hook := Hz.hookZ hAS hfn htf exK
def hob (s : PySem.W.SharedT) : List He.FnW × Bool := Hz.obsZ hAS hfn htf exK (HandSHeadRun.getT s)
theorem hob_eq (s : PySem.W.SharedT) : hob s = hkZ.obs s.abs := Hz.obsZ_eq (HandSHeadRun.getT_eq s)
set_option maxHeartbeats 0
theorem map3 {α β γ δ : Type _} {o : Option α} {f : α → β} {g : α → γ} {k : α → δ} {b : β} {c : γ} {d : δ} (h1 : o.map (fun x => (f x, g x)) = some (b, c)) (h2 : o.map k = some d) : o.map (fun x => (f x, g x, k x)) = some (b, c, d) := by
  cases o with
  | none => cases h1
  | some x =>
    have e1 : (f x, g x) = (b, c) := Option.some.inj h1
    have e2 : k x = d := Option.some.inj h2
    exact congrArg some (Prod.ext (Prod.mk.inj e1).1 (Prod.ext (Prod.mk.inj e1).2 e2))
theorem run_1a (w : World) : (HandSHeadRun.wholeF (fun p => HandSHeadRun.stepQ (HandSHeadRun.denQ HandSHeadRun.tabQ) p w) HandSHeadRun.fenceQ 20000 hR.prog).map (fun x => (HandSHeadRun.looksF hR.prog x.1.heap x.2.abs, HandSHeadRun.seenQ (PySem.W.view hR.prog [0, 97]) ((["_wall", "GREATEST_SIZE", "LONGEST_NAME", "LETTERS", "TEXT_WORDS", "is_integer", "is_within", "is_size", "is_name", "LateError", "BadName", "BadSize", "BadSpeed", "BadCost", "BadFee", "BadTotal", "BadLimit", "BadRatio", "BadRest", "BadChunks", "BadCrew", "BadSetting", "BadText", "NoWorker", "NoChunk", "TooMany", "PIECE_FIGURES", "PIECE_WORTH", "integer_text", "integer_of"] : List PySem.Str) ++ (["number_of", "Reader", "read_worths", "read_named", "MOST_FIGURES", "Ratio", "is_number", "ratio_of", "worth_of", "is_readable", "bounds_of", "bound_by", "greatest_let", "Chunks", "check_many", "check_total", "check_other", "read_sizes", "sizes_between", "Paper", "Denial", "MOST_WORKERS", "GREATEST_SPEED", "Crew", "is_speed", "check_speeds", "read_speeds", "GREATEST_COST", "GREATEST_FEE", "Setting"] : List PySem.Str) ++ (["read_setting", "read_costs", "read_fee", "check_spot", "check_setting", "check_limit", "Fewest", "NoList", "fewest", "greedy_rests", "chunks_between", "check_asked", "_law_pen", "_law_draw", "_law_pick", "_law_drawn_plan", "_law_setting", "_law_three", "_law_late", "_law_under", "_law_is_let", "_law_limit", "_law_limit_of", "_law_behind", "_law_right"] : List PySem.Str)) (PySem.importedModules hR.prog.main.body) (fun s => PySem.W.xlAt (PySem.W.view hR.prog [0, 97]) [] s && PySem.W.recOk hR.toRowW.records s) x.2.abs)) = some (true, (PySem.W.openGood (PySem.W.view hR.prog [0, 97]) ((["_wall", "GREATEST_SIZE", "LONGEST_NAME", "LETTERS", "TEXT_WORDS", "is_integer", "is_within", "is_size", "is_name", "LateError", "BadName", "BadSize", "BadSpeed", "BadCost", "BadFee", "BadTotal", "BadLimit", "BadRatio", "BadRest", "BadChunks", "BadCrew", "BadSetting", "BadText", "NoWorker", "NoChunk", "TooMany", "PIECE_FIGURES", "PIECE_WORTH", "integer_text", "integer_of"] : List PySem.Str) ++ (["number_of", "Reader", "read_worths", "read_named", "MOST_FIGURES", "Ratio", "is_number", "ratio_of", "worth_of", "is_readable", "bounds_of", "bound_by", "greatest_let", "Chunks", "check_many", "check_total", "check_other", "read_sizes", "sizes_between", "Paper", "Denial", "MOST_WORKERS", "GREATEST_SPEED", "Crew", "is_speed", "check_speeds", "read_speeds", "GREATEST_COST", "GREATEST_FEE", "Setting"] : List PySem.Str) ++ (["read_setting", "read_costs", "read_fee", "check_spot", "check_setting", "check_limit", "Fewest", "NoList", "fewest", "greedy_rests", "chunks_between", "check_asked", "_law_pen", "_law_draw", "_law_pick", "_law_drawn_plan", "_law_setting", "_law_three", "_law_late", "_law_under", "_law_is_let", "_law_limit", "_law_limit_of", "_law_behind", "_law_right"] : List PySem.Str)))) := by
  kernel_rfl
theorem run_1b (w : World) : (HandSHeadRun.wholeF (fun p => HandSHeadRun.stepQ (HandSHeadRun.denQ HandSHeadRun.tabQ) p w) HandSHeadRun.fenceQ 20000 hR.prog).map (fun x => hfn.map fun d => Hz.fnAt (He.frT (HandSHeadRun.getT x.2) hAS) (d.adr (He.frT (HandSHeadRun.getT x.2) hAS))) = some (hfn.map Hz.DefA.val) := by
  kernel_rfl
theorem run_1 (w : World) : (HandSHeadRun.wholeF (fun p => HandSHeadRun.stepQ (HandSHeadRun.denQ HandSHeadRun.tabQ) p w) HandSHeadRun.fenceQ 20000 hR.prog).map (fun x => (HandSHeadRun.looksF hR.prog x.1.heap x.2.abs, HandSHeadRun.seenQ (PySem.W.view hR.prog [0, 97]) ((["_wall", "GREATEST_SIZE", "LONGEST_NAME", "LETTERS", "TEXT_WORDS", "is_integer", "is_within", "is_size", "is_name", "LateError", "BadName", "BadSize", "BadSpeed", "BadCost", "BadFee", "BadTotal", "BadLimit", "BadRatio", "BadRest", "BadChunks", "BadCrew", "BadSetting", "BadText", "NoWorker", "NoChunk", "TooMany", "PIECE_FIGURES", "PIECE_WORTH", "integer_text", "integer_of"] : List PySem.Str) ++ (["number_of", "Reader", "read_worths", "read_named", "MOST_FIGURES", "Ratio", "is_number", "ratio_of", "worth_of", "is_readable", "bounds_of", "bound_by", "greatest_let", "Chunks", "check_many", "check_total", "check_other", "read_sizes", "sizes_between", "Paper", "Denial", "MOST_WORKERS", "GREATEST_SPEED", "Crew", "is_speed", "check_speeds", "read_speeds", "GREATEST_COST", "GREATEST_FEE", "Setting"] : List PySem.Str) ++ (["read_setting", "read_costs", "read_fee", "check_spot", "check_setting", "check_limit", "Fewest", "NoList", "fewest", "greedy_rests", "chunks_between", "check_asked", "_law_pen", "_law_draw", "_law_pick", "_law_drawn_plan", "_law_setting", "_law_three", "_law_late", "_law_under", "_law_is_let", "_law_limit", "_law_limit_of", "_law_behind", "_law_right"] : List PySem.Str)) (PySem.importedModules hR.prog.main.body) (fun s => PySem.W.xlAt (PySem.W.view hR.prog [0, 97]) [] s && PySem.W.recOk hR.toRowW.records s) x.2.abs, hfn.map fun d => Hz.fnAt (He.frT (HandSHeadRun.getT x.2) hAS) (d.adr (He.frT (HandSHeadRun.getT x.2) hAS)))) = some (true, (PySem.W.openGood (PySem.W.view hR.prog [0, 97]) ((["_wall", "GREATEST_SIZE", "LONGEST_NAME", "LETTERS", "TEXT_WORDS", "is_integer", "is_within", "is_size", "is_name", "LateError", "BadName", "BadSize", "BadSpeed", "BadCost", "BadFee", "BadTotal", "BadLimit", "BadRatio", "BadRest", "BadChunks", "BadCrew", "BadSetting", "BadText", "NoWorker", "NoChunk", "TooMany", "PIECE_FIGURES", "PIECE_WORTH", "integer_text", "integer_of"] : List PySem.Str) ++ (["number_of", "Reader", "read_worths", "read_named", "MOST_FIGURES", "Ratio", "is_number", "ratio_of", "worth_of", "is_readable", "bounds_of", "bound_by", "greatest_let", "Chunks", "check_many", "check_total", "check_other", "read_sizes", "sizes_between", "Paper", "Denial", "MOST_WORKERS", "GREATEST_SPEED", "Crew", "is_speed", "check_speeds", "read_speeds", "GREATEST_COST", "GREATEST_FEE", "Setting"] : List PySem.Str) ++ (["read_setting", "read_costs", "read_fee", "check_spot", "check_setting", "check_limit", "Fewest", "NoList", "fewest", "greedy_rests", "chunks_between", "check_asked", "_law_pen", "_law_draw", "_law_pick", "_law_drawn_plan", "_law_setting", "_law_three", "_law_late", "_law_under", "_law_is_let", "_law_limit", "_law_limit_of", "_law_behind", "_law_right"] : List PySem.Str))), hfn.map Hz.DefA.val) := map3 (run_1a w) (run_1b w)
theorem all2 {α β : Type _} {o : Option α} {l : List β} {p : α → β → Bool} (n : Nat) (h1 : o.map (fun x => (l.take n).all (p x)) = some true) (h2 : o.map (fun x => (l.drop n).all (p x)) = some true) : o.map (fun x => l.all (p x)) = some true := by
  cases o with
  | none => cases h1
  | some x =>
    have e1 : (l.take n).all (p x) = true := Option.some.inj h1
    have e2 : (l.drop n).all (p x) = true := Option.some.inj h2
    show some (l.all (p x)) = some true
    have e := List.take_append_drop n l
    rw [← e, List.all_append, e1, e2]; rfl
theorem run_2a (w : World) : (HandSHeadRun.wholeF (fun p => HandSHeadRun.stepQ (HandSHeadRun.denQ HandSHeadRun.tabQ) p w) HandSHeadRun.fenceQ 20000 hR.prog).map (fun x => (hfn.take 27).all fun d => d.ok (He.frT (HandSHeadRun.getT x.2) hAS)) = some true := by
  kernel_rfl
theorem run_2b (w : World) : (HandSHeadRun.wholeF (fun p => HandSHeadRun.stepQ (HandSHeadRun.denQ HandSHeadRun.tabQ) p w) HandSHeadRun.fenceQ 20000 hR.prog).map (fun x => (hfn.drop 27).all fun d => d.ok (He.frT (HandSHeadRun.getT x.2) hAS)) = some true := by
  kernel_rfl
theorem run_2 (w : World) : (HandSHeadRun.wholeF (fun p => HandSHeadRun.stepQ (HandSHeadRun.denQ HandSHeadRun.tabQ) p w) HandSHeadRun.fenceQ 20000 hR.prog).map (fun x => hfn.all fun d => d.ok (He.frT (HandSHeadRun.getT x.2) hAS)) = some true := all2 27 (run_2a w) (run_2b w)
theorem and2 {α : Type _} {o : Option α} {f g : α → Bool} (h1 : o.map f = some true) (h2 : o.map g = some true) : o.map (fun x => f x && g x) = some true := by
  cases o with
  | none => cases h1
  | some x =>
    have e1 : f x = true := Option.some.inj h1
    have e2 : g x = true := Option.some.inj h2
    show some (f x && g x) = some true
    rw [e1, e2]; rfl
theorem run_3a (w : World) : (HandSHeadRun.wholeF (fun p => HandSHeadRun.stepQ (HandSHeadRun.denQ HandSHeadRun.tabQ) p w) HandSHeadRun.fenceQ 20000 hR.prog).map (fun x => ((exK (He.frT (HandSHeadRun.getT x.2) hAS)).take 4).all (fun l => l.all id)) = some true := by
  kernel_rfl
theorem run_3b (w : World) : (HandSHeadRun.wholeF (fun p => HandSHeadRun.stepQ (HandSHeadRun.denQ HandSHeadRun.tabQ) p w) HandSHeadRun.fenceQ 20000 hR.prog).map (fun x => ((exK (He.frT (HandSHeadRun.getT x.2) hAS)).drop 4).all (fun l => l.all id)) = some true := by
  kernel_rfl
theorem run_3c (w : World) : (HandSHeadRun.wholeF (fun p => HandSHeadRun.stepQ (HandSHeadRun.denQ HandSHeadRun.tabQ) p w) HandSHeadRun.fenceQ 20000 hR.prog).map (fun x => He.tabsB (HandSHeadRun.getT x.2) htf (He.frT (HandSHeadRun.getT x.2) hAS)) = some true := by
  kernel_rfl
theorem all2k {α β : Type _} {o : Option α} {k : α → List β} {p : β → Bool} (n : Nat) (h1 : o.map (fun x => ((k x).take n).all p) = some true) (h2 : o.map (fun x => ((k x).drop n).all p) = some true) : o.map (fun x => (k x).all p) = some true := by
  cases o with
  | none => cases h1
  | some x =>
    have e1 : ((k x).take n).all p = true := Option.some.inj h1
    have e2 : ((k x).drop n).all p = true := Option.some.inj h2
    show some ((k x).all p) = some true
    have e := List.take_append_drop n (k x)
    rw [← e, List.all_append, e1, e2]; rfl
theorem run_3 (w : World) : (HandSHeadRun.wholeF (fun p => HandSHeadRun.stepQ (HandSHeadRun.denQ HandSHeadRun.tabQ) p w) HandSHeadRun.fenceQ 20000 hR.prog).map (fun x => (exK (He.frT (HandSHeadRun.getT x.2) hAS)).all (fun l => l.all id) && He.tabsB (HandSHeadRun.getT x.2) htf (He.frT (HandSHeadRun.getT x.2) hAS)) = some true := and2 (all2k 4 (run_3a w) (run_3b w)) (run_3c w)
theorem head_run (w : World) : HandSHeadRun.RunEqI hR (PySem.W.view hR.prog [0, 97]) hkZ hob 20000 ((["_wall", "GREATEST_SIZE", "LONGEST_NAME", "LETTERS", "TEXT_WORDS", "is_integer", "is_within", "is_size", "is_name", "LateError", "BadName", "BadSize", "BadSpeed", "BadCost", "BadFee", "BadTotal", "BadLimit", "BadRatio", "BadRest", "BadChunks", "BadCrew", "BadSetting", "BadText", "NoWorker", "NoChunk", "TooMany", "PIECE_FIGURES", "PIECE_WORTH", "integer_text", "integer_of"] : List PySem.Str) ++ (["number_of", "Reader", "read_worths", "read_named", "MOST_FIGURES", "Ratio", "is_number", "ratio_of", "worth_of", "is_readable", "bounds_of", "bound_by", "greatest_let", "Chunks", "check_many", "check_total", "check_other", "read_sizes", "sizes_between", "Paper", "Denial", "MOST_WORKERS", "GREATEST_SPEED", "Crew", "is_speed", "check_speeds", "read_speeds", "GREATEST_COST", "GREATEST_FEE", "Setting"] : List PySem.Str) ++ (["read_setting", "read_costs", "read_fee", "check_spot", "check_setting", "check_limit", "Fewest", "NoList", "fewest", "greedy_rests", "chunks_between", "check_asked", "_law_pen", "_law_draw", "_law_pick", "_law_drawn_plan", "_law_setting", "_law_three", "_law_late", "_law_under", "_law_is_let", "_law_limit", "_law_limit_of", "_law_behind", "_law_right"] : List PySem.Str)) w := by
  unfold HandSHeadRun.RunEqI
  exact Hz.comb (run_1 w) (run_2 w) (run_3 w)
end Lw
namespace Lw
open PySem PySem.Spec PyProof.Rows L2
def top (i : Nat) : Stmt := PySem.Challenge.pw_latechunks_k36_whole_rests_left_by_all_l.main.body.getD i (.Pass ⟨0, 0, 0, 0⟩)

theorem stir {x s : Int} (hx0 : 0 ≤ x) (hx : x < 2147483648) (hs0 : 0 ≤ s) (hs : s ≤ 1000000) (e f g : Int) (he0 : 0 ≤ e) (he : e ≤ 1000) (hf0 : 0 ≤ f) (hf : f ≤ 1000000) (hg0 : 0 ≤ g) (hg : g ≤ 1000000) :
    (x * (2 * s + e) + f * s * s + g).natAbs < 2 ^ 64 := by
  have a0 : 0 ≤ x * (2 * s + e) := Int.mul_nonneg hx0 (by omega)
  have a1 : x * (2 * s + e) ≤ 2147483648 * 2001000 := Int.mul_le_mul (by omega) (by omega) (by omega) (by omega)
  have b0 : 0 ≤ f * s := Int.mul_nonneg hf0 hs0
  have b1 : f * s ≤ 1000000 * 1000000 := Int.mul_le_mul hf hs hs0 (by omega)
  have c0 : 0 ≤ f * s * s := Int.mul_nonneg b0 hs0
  have c1 : f * s * s ≤ 1000000 * 1000000 * 1000000 := Int.mul_le_mul b1 hs hs0 (by omega)
  omega
theorem fsmall {f s : Int} (hf0 : 0 ≤ f) (hf : f ≤ 1000000) (hs0 : 0 ≤ s) (hs : s ≤ 1000000) : -(2 ^ 64) < f * s ∧ f * s < 2 ^ 64 := by
  have b0 : 0 ≤ f * s := Int.mul_nonneg hf0 hs0
  have b1 : f * s ≤ 1000000 * 1000000 := Int.mul_le_mul hf hs hs0 (by omega)
  omega
theorem fm0 {a d : Int} (hd : 0 < d) : 0 ≤ Int.fmod a d := Int.fmod_nonneg_of_pos _ hd
theorem fm1 {a d : Int} (hd : 0 < d) (h : d ≤ 2147483648) : Int.fmod a d < 2147483648 := Int.lt_of_lt_of_le (Int.fmod_lt_of_pos _ hd) h
theorem fm64 {a d : Int} (hd : 0 < d) (h : d ≤ 2147483648) : -(2 ^ 64) < Int.fmod a d ∧ Int.fmod a d < 2 ^ 64 := by
  have h0 := fm0 (a := a) hd
  have h1 := fm1 (a := a) hd h
  omega
theorem ite_false_of {c : Bool} {A B : Prop} (h : ¬ c = true) (hb : B) : if c = true then A else B := by rw [if_neg h]; exact hb
/-- behind an if: what both ways end in -/
theorem join_if {t u : TS} {D : Ends} {b : Bool} {σ : L2.St} {H : Hp} (Pj : L2.St → Hp → Prop) (hr : ∀ σ' H', Pj σ' H' → D.nx σ' H') (h : (∀ σ' H', Pj σ' H' → D.nx σ' H') → if b = true then t D σ H else u D σ H) : if b = true then t D σ H else u D σ H := h hr
theorem lay_ints : ∀ xs : List Int, PyData.canLayAll0 (xs.map PyData.int) = true
  | [] => rfl
  | x :: r => by
    show (PyData.canLay0 (.int x) && PyData.canLayAll0 (r.map PyData.int)) = true
    rw [lay_ints r]; rfl
theorem depth_ints : ∀ xs : List Int, PyData.depthAll (xs.map PyData.int) = 0
  | [] => rfl
  | x :: r => by
    show max (PyData.depth (.int x)) (PyData.depthAll (r.map PyData.int)) = 0
    rw [depth_ints r]; rfl
theorem shaped_ints (xs : List Int) : SeqAt.shaped (.list (xs.map PyData.int)) = true := by
  unfold SeqAt.shaped
  have h1 : PyData.canLay0 (.list (xs.map PyData.int)) = true := lay_ints xs
  have h2 : PyData.depth (.list (xs.map PyData.int)) = 1 := by
    show PyData.depthAll (xs.map PyData.int) + 1 = 1
    rw [depth_ints]
  rw [h1, h2]; rfl
theorem dp_ints {K : PySem.W.Frag} {H : Hp} : ∀ xs : List Int, DpAll K H (xs.map V.int) (xs.map PyData.int)
  | [] => .nil
  | x :: r => .cons (.int x) (dp_ints r)
theorem eqv_nil (xs : List Int) : PyData.eqv (.list (xs.map PyData.int)) (.list []) = decide (xs = []) := by
  cases xs <;> rfl
abbrev sPen : Stmt := top 84
abbrev sDraw : Stmt := top 85
abbrev sPick : Stmt := top 86
/-- all but what stands at p is as it was -/
def Kp (p : Addr) (H H' : Hp) : Prop := ∀ b o, b ≠ p → H b = some o → H' b = some o
/-- a pen at p: its numbers at l, its place, its rest -/
structure PenAt (H : Hp) (p l : Addr) (xs : List Int) (s g : Int) : Prop where
  at_ : H p = some (.lst [.ref l, .int s, .int g])
  ls : H l = some (.lst (xs.map V.int))
  ne : p ≠ l
  s0 : 0 ≤ s
  g0 : 0 ≤ g
def Pen (H : Hp) (p l : Addr) (n : Nat) : Prop := ∃ xs s g, PenAt H p l xs s g ∧ s ≤ n
def spDraw : Sp := fun vs H Q _ => ∃ (p l : Addr) (n : Nat) (m : Int), vs = [.ref p, .int m] ∧ 0 < m ∧ m < 2 ^ 200 ∧ Pen H p l n ∧ n ≤ 1000000 ∧
  ∀ (r : Int) (H' : Hp), 0 ≤ r → r < m → Pen H' p l (n + 1) → Kp p H H' → Q (.int r) H'
structure Txt0 (mg : Str → Option Value) : Prop where
  n_int : mg "int" = none
  n_list : mg "list" = none
  n_len : mg "len" = none
  n_abs : mg "abs" = none
section
variable {P : Program} {w : World} {K : PySem.W.Frag} {mg : Str → Option Value} {base : Heap}
theorem scDraw : FnScope ["_law_pen_here", "_law_many", "_law_digit", "_law_at", "_law_cell", "_law_great", "_law_mixed"] ["_law_pen_here", "_law_many"] (C8.fnScope sDraw) := C8.fnScope_by (by decide +kernel)
theorem cal_draw {f : Addr} {fd : FuncData} (F : C8.Def K mg "_law_draw" sDraw f fd) (b : Binds K fd ["_law_pen_here", "_law_many"] []) (T : Txt0 mg) : C8.Cal P w K mg base 1 "_law_draw" spDraw [] := by
  refine C8.cal0 F b .nil scDraw (fun vs H Q E h => ?_) (fun cdv A outer st H vs Q E hr h => ?_)
  · obtain ⟨p, l, n, m, rfl, _⟩ := h
    rfl
  · obtain ⟨p, l, n, m, rfl, hm, hm2, ⟨xs, s, g, ⟨hp, hl, ne, s0, g0⟩, hs⟩, hn, k⟩ := h
    refine ⟨_, (pss_cons (ps_if (pt_cmpR op_gt (pe_ix ix_list (pv 0) pe_int (fun _ _ => rfl)) pe_int (nomark _)) (pss_cons (ps_set (i := 2) scDraw.nd rfl (Or.inl rfl) (pe_op op_modN (pe_callTy call_int1 (by rfl) T.n_int (by decide +kernel) (pa_cons (pe_ix ix_list (pv 0) pe_int (fun _ _ => rfl)) pa_nil)) (pv 1)))
  (pss_cons (ps_asg (pe_op op_fdivW (pe_callTy call_int1 (by rfl) T.n_int (by decide +kernel) (pa_cons (pe_ix ix_list (pv 0) pe_int (fun _ _ => rfl)) pa_nil)) (pv 1)) (pg_sub (pv 0) pe_int set_list))
  (pss_one (ps_ret (pv 2))))) pss_nil)
  (pss_cons (ps_set (i := 3) scDraw.nd rfl (Or.inl rfl) (pe_ix ix_list (pv 0) pe_int (fun _ _ => rfl)))
  (pss_cons (ps_asg (pe_op op_add (pv 3) pe_int) (pg_sub (pv 0) pe_int set_list))
  (pss_cons (ps_set (i := 4) scDraw.nd rfl (Or.inl rfl) (pe_op op_add (pe_op op_mul pe_int (pv 3)) pe_int))
  (pss_cons (ps_if (pt_cmpR (op_neD hr.units) (pe_ix ix_list (pv 0) pe_int (fun _ _ => rfl)) (pe_lst pa_nil) (nomark _)) (pss_one (ps_set (i := 4) scDraw.nd rfl (Or.inl rfl) (pe_ix ix_list (pe_ix ix_list (pv 0) pe_int (fun _ _ => rfl)) (pe_op op_modN (pe_callTy call_int1 (by rfl) T.n_int (by decide +kernel) (pa_cons (pv 3) pa_nil)) (pe_callB call_len_seq (by rfl) T.n_len (by decide +kernel) (pa_cons (pe_ix ix_list (pv 0) pe_int (fun _ _ => rfl)) pa_nil))) (fun _ _ => rfl)))) pss_nil)
  (pss_cons (ps_if (PW.pt (pw_and (pt_cmpR op_lt (pv 3) (pe_callB call_len_seq (by rfl) T.n_len (by decide +kernel) (pa_cons (pe_ix ix_list (pv 0) pe_int (fun _ _ => rfl)) pa_nil)) (nomark _)) (pw_and1 (pt_cmpR op_ge (pe_callB call_abs (by rfl) T.n_abs (by decide +kernel) (pa_cons (pv 4) pa_nil)) (pe_op op_pow pe_int pe_int) (nomark _))))) (pss_cons (ps_set (i := 5) scDraw.nd rfl (Or.inl rfl) (pe_op op_add (pe_op op_mul pe_int (pe_op op_sub (pe_callB call_abs (by rfl) T.n_abs (by decide +kernel) (pa_cons (pv 4) pa_nil)) (pe_op op_pow pe_int pe_int))) (pe_callTy call_int1 (by rfl) T.n_int (by decide +kernel) (pa_cons (pe_cmpR op_lt (pv 4) pe_int (nomark _)) pa_nil))))
  (pss_cons (ps_asg (pe_op op_fdivW (pe_callTy call_int1 (by rfl) T.n_int (by decide +kernel) (pa_cons (pv 5) pa_nil)) (pv 1)) (pg_sub (pv 0) pe_int set_list))
  (pss_one (ps_ret (pe_op op_modN (pe_callTy call_int1 (by rfl) T.n_int (by decide +kernel) (pa_cons (pv 5) pa_nil)) (pv 1)))))) pss_nil)
  (pss_cons (ps_set (i := 6) scDraw.nd rfl (Or.inl rfl) (pe_op op_modN (pe_callTy call_int1 (by rfl) T.n_int (by decide +kernel) (pa_cons (pe_op op_pow (pe_op op_add (pe_op op_add (pe_op op_modN (pe_callTy call_int1 (by rfl) T.n_int (by decide +kernel) (pa_cons (pv 4) pa_nil)) pe_int) (pe_op op_mul pe_int (pv 3))) pe_int) pe_int) pa_nil)) pe_int))
  (pss_cons (ps_set (i := 6) scDraw.nd rfl (Or.inl rfl) (pe_op op_modN (pe_callTy call_int1 (by rfl) T.n_int (by decide +kernel) (pa_cons (pe_op op_pow (pe_op op_add (pe_op op_add (pe_op op_mul (pv 6) (pe_op op_add (pe_op op_mul pe_int (pv 3)) pe_int)) (pe_op op_mul (pe_op op_mul pe_int (pv 3)) (pv 3))) pe_int) pe_int) pa_nil)) pe_int))
  (pss_one (ps_ret (pe_op op_modN (pe_callTy call_int1 (by rfl) T.n_int (by decide +kernel) (pa_cons (pe_op op_fdivW (pv 6) pe_int) pa_nil)) (pv 1)))))))))))), ?_⟩
    have hmb : CDivW 0 m := wide_div (b := 200) hm (by omega) (by decide) (by decide)
    refine ⟨_, rfl, p, _, _, _, rfl, rfl, SqL.of hp, rfl, _, _, rfl, rfl, _, rfl, ite2 (fun c => ?_) (fun c => ?_)⟩
    · -- the rest is above 0: a digit of it
      refine ⟨_, rfl, p, _, _, _, rfl, rfl, SqL.of hp, rfl, Or.inl ⟨_, rfl, ?_⟩⟩
      refine ⟨_, rfl, _, _, rfl, rfl, (by omega), ?_⟩
      refine ⟨_, rfl, p, _, _, _, rfl, rfl, SqL.of hp, rfl, Or.inl ⟨_, rfl, ?_⟩⟩
      refine ⟨_, rfl, _, _, rfl, rfl, hmb, ?_⟩
      refine ⟨_, rfl, p, _, _, _, rfl, rfl, hp, rfl, ?_⟩
      refine ⟨_, rfl, ?_⟩
      refine k _ _ (Int.fmod_nonneg_of_pos _ hm) (Int.fmod_lt_of_pos _ hm) ⟨xs, s, g / m, ⟨?_, ?_, ne, s0, Int.ediv_nonneg g0 (Int.le_of_lt hm)⟩, by omega⟩ fun b o hb e => ?_
      · rw [upd_same]; rfl
      · rw [upd_ne (Ne.symm ne)]; exact hl
      · rw [upd_ne hb]; exact e
    · -- the next place
      refine ⟨_, rfl, p, _, _, _, rfl, rfl, SqL.of hp, rfl, ?_⟩
      refine ⟨_, rfl, _, _, rfl, rfl, _, rfl, p, _, _, _, rfl, rfl, hp, rfl, ?_⟩
      have hp1 : upd H p (.lst [V.ref l, V.int (s + 1), V.int g]) p = some (.lst [V.ref l, V.int (s + 1), V.int g]) := upd_same
      have hl1 : upd H p (.lst [V.ref l, V.int (s + 1), V.int g]) l = some (.lst (xs.map V.int)) := by rw [upd_ne (Ne.symm ne)]; exact hl
      have k1 : Kp p H (upd H p (.lst [V.ref l, V.int (s + 1), V.int g])) := fun b o hb e => by rw [upd_ne hb]; exact e
      show tSeq _ _ _ _ (upd H p (.lst [V.ref l, V.int (s + 1), V.int g]))
      generalize upd H p (.lst [V.ref l, V.int (s + 1), V.int g]) = H1 at hp1 hl1 k1 ⊢
      have fin : ∀ (r g' : Int) (H' : Hp), 0 ≤ r → r < m → 0 ≤ g' → H' p = some (.lst [V.ref l, V.int (s + 1), V.int g']) → Kp p H1 H' → Q (.int r) H' := fun r g' H' h0 h1 h2 h3 h4 =>
        k r H' h0 h1 ⟨xs, s + 1, g', ⟨h3, h4 _ _ (Ne.symm ne) hl1, ne, by omega, h2⟩, by omega⟩ fun b o hb e => h4 b o hb (k1 b o hb e)
      refine ⟨_, rfl, _, _, rfl, rfl, Or.inl (by decide), _, _, rfl, rfl, ?_⟩
      refine ⟨_, rfl, p, _, _, _, rfl, rfl, SqL.of hp1, rfl, (by show 0 ≤ sizeLine; decide), fun q hq => ?_⟩
      have lq : l ≠ q := ne_of_none hl1 hq
      have pq : p ≠ q := ne_of_none hp1 hq
      have hl2 : upd H1 q (.lst []) l = some (.lst (xs.map V.int)) := by rw [upd_ne lq]; exact hl1
      have hp2 : upd H1 q (.lst []) p = some (.lst [V.ref l, V.int (s + 1), V.int g]) := by rw [upd_ne pq]; exact hp1
      have k2 : Kp p H1 (upd H1 q (.lst [])) := fun b o hb e => by rw [upd_ne (ne_of_none e hq)]; exact e
      refine ⟨.list (xs.map PyData.int), .list [], .lst (SqL.of hl2) (dp_ints xs), .lst (SqL.of upd_same) .nil, shaped_ints xs, rfl, _, rfl, ?_⟩
      generalize upd H1 q (.lst []) = H2 at hl2 hp2 k2 ⊢
      refine join_if (fun σ' H' => ∃ cell : Int, σ' = [some (V.ref p), some (V.int m), none, some (V.int s), some (V.int cell), none, none] ∧ H' = H2) ?rest (fun go => ?_)
      case rest =>
        rintro σ' H' ⟨cell, rfl, rfl⟩
        refine ⟨_, rfl, _, rfl, p, _, _, _, rfl, rfl, SqL.of hp2, rfl, l, xs.map V.int, rfl, .inl (SqL.of hl2), _, _, rfl, rfl, _, rfl, ?_⟩
        refine ite2 (fun c2 => ?_) (fun c2 => ?_)
        · refine ⟨_, rfl, _, rfl, _, _, rfl, rfl, ⟨by decide, by decide, by decide⟩, _, _, rfl, rfl, _, rfl, ?_⟩
          refine ite2 (fun c3 => ?_) (fun c3 => ?_)
          · refine ⟨_, rfl, _, rfl, _, _, rfl, rfl, ⟨by decide, by decide, by decide⟩, _, _, rfl, rfl, _, _, rfl, rfl, Or.inl (by decide), _, rfl, _, _, rfl, rfl, Or.inr ⟨_, rfl, _, _, rfl, rfl, ?_⟩⟩
            have hge : (10 : Int) ^ (18 : Int).toNat ≤ (if cell < 0 then -cell else cell) := of_decide_eq_true c3
            generalize hG : 2 * ((if cell < 0 then -cell else cell) - 10 ^ (18 : Int).toNat) + (if decide (cell < 0) = true then (1 : Int) else 0) = G
            have hG0 : 0 ≤ G := by
              rw [← hG]
              have h1 : 0 ≤ (if decide (cell < 0) = true then (1 : Int) else 0) := by split <;> decide
              omega
            refine ⟨_, rfl, Or.inl ⟨_, rfl, _, rfl, _, _, rfl, rfl, (by exact hmb), _, rfl, p, _, _, _, rfl, rfl, hp2, rfl, ?_⟩⟩
            refine ⟨_, rfl, Or.inl ⟨_, rfl, _, rfl, _, _, rfl, rfl, (by show ¬ (_ = _); omega), ?_⟩⟩
            refine fin _ (G / m) _ (fm0 hm) (Int.fmod_lt_of_pos _ hm) (Int.ediv_nonneg hG0 (Int.le_of_lt hm)) ?_ fun b o hb e => ?_
            · rw [upd_same, ← hG]; rfl
            · rw [upd_ne hb]; exact k2 b o hb e
          · refine ⟨_, rfl, Or.inl ⟨_, rfl, ?_⟩⟩
            refine ⟨_, _, rfl, rfl, (by show ¬ (_ = _); decide), _, rfl, _, _, rfl, rfl, Or.inl (by decide), _, _, rfl, rfl, _, _, rfl, rfl, ?_⟩
            generalize hz : Int.fmod cell _ = z
            have hz0 : 0 ≤ z := by rw [← hz]; exact fm0 (by decide)
            have hz1 : z < 2147483648 := by rw [← hz]; exact fm1 (by decide) (by decide)
            refine ⟨_, _, rfl, rfl, ⟨by decide, by decide, by omega⟩, Or.inl ⟨_, rfl, ?_⟩⟩
            refine ⟨_, _, rfl, rfl, (by show ¬ (_ = _); decide), ?_⟩
            refine ⟨_, rfl, _, rfl, _, _, rfl, rfl, Or.inl (by decide), _, _, rfl, rfl, _, _, rfl, rfl, Or.inl (by exact fm64 (by decide) (by decide)), ?_⟩
            refine ⟨_, rfl, _, _, rfl, rfl, Or.inl (by decide), _, rfl, _, _, rfl, rfl, Or.inl (by exact fsmall (by decide) (by decide) s0 (by omega)), _, _, rfl, rfl, _, _, rfl, rfl, ?_⟩
            refine ⟨_, _, rfl, rfl, ⟨by decide, by decide, by exact stir (fm0 (by decide)) (fm1 (by decide) (by decide)) s0 (by omega) _ _ _ (by decide) (by decide) (by decide) (by decide) (by decide) (by decide)⟩, Or.inl ⟨_, rfl, ?_⟩⟩
            refine ⟨_, _, rfl, rfl, (by show ¬ (_ = _); decide), ?_⟩
            refine ⟨_, rfl, _, _, rfl, rfl, ⟨by decide, by decide⟩, Or.inl ⟨_, rfl, _, rfl, _, _, rfl, rfl, (by show ¬ (_ = _); omega), ?_⟩⟩
            exact fin _ g _ (fm0 hm) (Int.fmod_lt_of_pos _ hm) g0 hp2 k2
        · refine iteF ?_
          refine ⟨_, rfl, Or.inl ⟨_, rfl, ?_⟩⟩
          refine ⟨_, _, rfl, rfl, (by show ¬ (_ = _); decide), _, rfl, _, _, rfl, rfl, Or.inl (by decide), _, _, rfl, rfl, _, _, rfl, rfl, ?_⟩
          generalize hz : Int.fmod cell _ = z
          have hz0 : 0 ≤ z := by rw [← hz]; exact fm0 (by decide)
          have hz1 : z < 2147483648 := by rw [← hz]; exact fm1 (by decide) (by decide)
          refine ⟨_, _, rfl, rfl, ⟨by decide, by decide, by omega⟩, Or.inl ⟨_, rfl, ?_⟩⟩
          refine ⟨_, _, rfl, rfl, (by show ¬ (_ = _); decide), ?_⟩
          refine ⟨_, rfl, _, rfl, _, _, rfl, rfl, Or.inl (by decide), _, _, rfl, rfl, _, _, rfl, rfl, Or.inl (by exact fm64 (by decide) (by decide)), ?_⟩
          refine ⟨_, rfl, _, _, rfl, rfl, Or.inl (by decide), _, rfl, _, _, rfl, rfl, Or.inl (by exact fsmall (by decide) (by decide) s0 (by omega)), _, _, rfl, rfl, _, _, rfl, rfl, ?_⟩
          refine ⟨_, _, rfl, rfl, ⟨by decide, by decide, by exact stir (fm0 (by decide)) (fm1 (by decide) (by decide)) s0 (by omega) _ _ _ (by decide) (by decide) (by decide) (by decide) (by decide) (by decide)⟩, Or.inl ⟨_, rfl, ?_⟩⟩
          refine ⟨_, _, rfl, rfl, (by show ¬ (_ = _); decide), ?_⟩
          refine ⟨_, rfl, _, _, rfl, rfl, ⟨by decide, by decide⟩, Or.inl ⟨_, rfl, _, rfl, _, _, rfl, rfl, (by show ¬ (_ = _); omega), ?_⟩⟩
          exact fin _ g _ (fm0 hm) (Int.fmod_lt_of_pos _ hm) g0 hp2 k2
      refine ite2 (fun c1 => ?_) (fun c1 => ?_)
      · rw [eqv_nil] at c1
        have hx : xs ≠ [] := by simpa using c1
        have hlen : 0 < xs.length := List.length_pos_iff.mpr hx
        refine ⟨_, rfl, p, _, _, _, rfl, rfl, SqL.of hp2, rfl, ?_⟩
        refine ⟨_, rfl, Or.inl ⟨_, rfl, ?_⟩⟩
        refine ⟨_, rfl, p, _, _, _, rfl, rfl, SqL.of hp2, rfl, l, xs.map V.int, rfl, .inl (SqL.of hl2), ?_⟩
        have hL : ((xs.map V.int).length : Int) = (xs.length : Int) := by rw [List.length_map]
        have hb1 : 0 ≤ s.fmod ((xs.map V.int).length : Int) := Int.fmod_nonneg_of_pos _ (by omega)
        have hb2 : s.fmod ((xs.map V.int).length : Int) < ((xs.map V.int).length : Int) := Int.fmod_lt_of_pos _ (by omega)
        obtain ⟨j, hj⟩ : ∃ j : Nat, s.fmod ((xs.map V.int).length : Int) = (j : Int) := ⟨(s.fmod ((xs.map V.int).length : Int)).toNat, by omega⟩
        have hjl : j < xs.length := by omega
        have hat : atI (xs.map V.int) (s.fmod ((xs.map V.int).length : Int)) = some (V.int xs[j]) := by
          rw [hj]; exact atI_nat (by simp [hjl])
        refine ⟨_, _, rfl, rfl, (by omega), ?_⟩
        refine ⟨l, _, _, V.int xs[j], rfl, rfl, SqL.of hl2, hat, ?_⟩
        exact go _ _ ⟨xs[j], rfl, rfl⟩
      · exact go _ _ ⟨_, rfl, rfl⟩
end
end Lw
namespace Lw
open PySem PySem.Spec PyProof.Rows L2

theorem Kp.refl (p : Addr) (H : Hp) : Kp p H H := fun _ _ _ e => e
theorem Kp.trans {p : Addr} {H H1 H2 : Hp} (a : Kp p H H1) (b : Kp p H1 H2) : Kp p H H2 := fun c o hc e => b c o hc (a c o hc e)
theorem Kp.of {p : Addr} {H H' : Hp} (s : Same H H') : Kp p H H' := fun b o _ e => s b o e
theorem Kp.seq {K : PySem.W.Frag} {p a : Addr} {H H' : Hp} {ys : List V} (k : Kp p H H') (ne : a ≠ p) (h : SqL K H a ys) : SqL K H' a ys := by
  rcases h with (h | ⟨o, h⟩) | h
  · exact .inl (.inl (k _ _ ne h))
  · exact .inl (.inr ⟨o, k _ _ ne h⟩)
  · exact .inr h
theorem same_new {H : Hp} {q : Addr} {o : HO} (hq : H q = none) : Same H (upd H q o) := fun b u e => by rw [upd_ne (ne_of_none e hq)]; exact e
theorem Pen.keep {H H' : Hp} {p l : Addr} {n : Nat} (h : Pen H p l n) (s : Same H H') : Pen H' p l n := by
  obtain ⟨xs, a, g, ⟨h1, h2, h3, h4, h5⟩, h6⟩ := h
  exact ⟨xs, a, g, ⟨s _ _ h1, s _ _ h2, h3, h4, h5⟩, h6⟩
theorem Pen.at {H : Hp} {p l : Addr} {n : Nat} (h : Pen H p l n) : ∃ o, H p = some o := by
  obtain ⟨xs, a, g, h, _⟩ := h
  exact ⟨_, h.at_⟩
theorem Pen.ne_new {H : Hp} {p l q : Addr} {n : Nat} (h : Pen H p l n) (hq : H q = none) : q ≠ p := by
  obtain ⟨o, h1⟩ := h.at
  exact (ne_of_none h1 hq).symm
theorem Pen.more {H : Hp} {p l : Addr} {n m : Nat} (h : Pen H p l n) (hm : n ≤ m) : Pen H p l m := by
  obtain ⟨xs, a, g, h1, h2⟩ := h
  exact ⟨xs, a, g, h1, by omega⟩
def spPick (K : PySem.W.Frag) : Sp := fun vs H Q _ => ∃ (p l a : Addr) (n : Nat) (ys : List V), vs = [.ref p, .ref a] ∧ Pen H p l n ∧ n ≤ 1000000 ∧ SqL K H a ys ∧ a ≠ p ∧ 0 < ys.length ∧ ys.length < 1000000 ∧
  ∀ (j : Nat) (v : V) (H' : Hp), ys[j]? = some v → Pen H' p l (n + 1) → Kp p H H' → Q v H'
def spPen (K : PySem.W.Frag) : Sp := fun vs H Q _ => ∃ (a : Addr) (ns : List Int), vs = [.ref a] ∧ SqL K H a (ns.map V.int) ∧ ns.length ≤ 63 ∧ ∀ (p l : Addr) (H' : Hp), Pen H' p l 0 → Same H H' → H p = none → Q (.ref p) H'
theorem Pen.over {H : Hp} {p l q : Addr} {n : Nat} {o : HO} (h : Pen H p l n) (h1 : q ≠ p) (h2 : q ≠ l) : Pen (upd H q o) p l n := by
  obtain ⟨xs, a, g, ⟨e1, e2, e3, e4, e5⟩, h6⟩ := h
  exact ⟨xs, a, g, ⟨by rw [upd_ne h1.symm]; exact e1, by rw [upd_ne h2.symm]; exact e2, e3, e4, e5⟩, h6⟩
theorem Pen.ne_new2 {H : Hp} {p l q : Addr} {n : Nat} (h : Pen H p l n) (hq : H q = none) : q ≠ l := by
  obtain ⟨xs, a, g, h, _⟩ := h
  exact (ne_of_none h.ls hq).symm
section
variable {P : Program} {w : World} {K : PySem.W.Frag} {mg : Str → Option Value} {base : Heap}
theorem scPick : FnScope ["_law_pen_here", "_law_some"] ["_law_pen_here", "_law_some"] (C8.fnScope sPick) := C8.fnScope_by (by decide +kernel)
theorem cal_pick {f : Addr} {fd : FuncData} (F : C8.Def K mg "_law_pick" sPick f fd) (b : Binds K fd ["_law_pen_here", "_law_some"] []) (T : Txt0 mg) (D : C8.Cal P w K mg base 1 "_law_draw" spDraw []) : C8.Cal P w K mg base 2 "_law_pick" (spPick K) [] := by
  refine C8.cal0 F b .nil scPick (fun vs H Q E h => ?_) (fun cdv A outer st H vs Q E hr h => ?_)
  · obtain ⟨p, l, a, n, ys, rfl, _⟩ := h
    rfl
  · obtain ⟨p, l, a, n, ys, rfl, hp, hn, hs, ne, h0, h1, k⟩ := h
    refine ⟨_, (pss_one (ps_ret (pe_ix ix_list (pv 1) (C8.pe_c D hr (by decide) (by rfl) (pa_cons (pv 0) (pa_cons (pe_callB call_len_seq (by rfl) T.n_len (by decide +kernel) (pa_cons (pv 1) pa_nil)) pa_nil))) (fun _ _ => rfl)))), ?_⟩
    refine ⟨_, rfl, _, rfl, _, rfl, a, ys, rfl, .inl hs, ?_⟩
    refine ⟨p, l, n, _, rfl, (by omega), (by omega), hp, hn, fun r H' r0 r1 hp' k' => ?_⟩
    obtain ⟨j, hj⟩ : ∃ j : Nat, r = (j : Int) := ⟨r.toNat, by omega⟩
    subst hj
    have hjl : j < ys.length := by omega
    refine ⟨a, ys, _, ys[j], rfl, rfl, k'.seq ne hs, atI_nat (by simp [hjl]), ?_⟩
    exact k j _ H' (by simp [hjl]) hp' k'
theorem scPen : FnScope ["_law_script"] ["_law_script"] (C8.fnScope sPen) := C8.fnScope_by (by decide +kernel)
theorem cut_ints (xs : List Int) (lo hi : Option Int) : cutV (xs.map V.int) lo hi = ((xs.drop (HT.sIx xs.length 0 lo)).take (HT.sIx xs.length xs.length hi - HT.sIx xs.length 0 lo)).map V.int := by
  unfold cutV
  rw [List.length_map, List.map_take, List.map_drop]
theorem cal_pen {f : Addr} {fd : FuncData} (F : C8.Def K mg "_law_pen" sPen f fd) (b : Binds K fd ["_law_script"] []) (T : Txt0 mg) : C8.Cal P w K mg base 1 "_law_pen" (spPen K) [] := by
  refine C8.cal0 F b .nil scPen (fun vs H Q E h => ?_) (fun cdv A outer st H vs Q E hr h => ?_)
  · obtain ⟨a, ns, rfl, _⟩ := h
    rfl
  · obtain ⟨a, ns, rfl, hs, hl, k⟩ := h
    refine ⟨_, (pss_one (ps_ret (pe_lst (pa_cons (pe_callTy call_list_of (by rfl) T.n_list (by decide +kernel) (pa_cons (pe_slice sl_list (pv 0) po_none (po_some pe_int)) pa_nil)) (pa_cons pe_int (pa_cons pe_int pa_nil)))))), ?_⟩
    refine ⟨_, rfl, _, rfl, a, _, rfl, hs, fun c hc => ?_⟩
    refine ⟨c, _, rfl, .inl (SqL.of upd_same), fun l hl2 => ?_⟩
    refine ⟨(by show 3 ≤ sizeLine; decide), fun p hp => ?_⟩
    have s1 := same_new (o := HO.lst (cutV (ns.map V.int) none (some 63))) hc
    have s2 := same_new (o := HO.lst (cutV (ns.map V.int) none (some 63))) hl2
    have s3 := same_new (o := HO.lst [V.ref l, V.int 0, V.int 0]) hp
    have pl : p ≠ l := fun e => by rw [e, upd_same] at hp; cases hp
    refine k p l _ ⟨((ns.drop (HT.sIx ns.length 0 none)).take (HT.sIx ns.length ns.length (some 63) - HT.sIx ns.length 0 none)), 0, 0, ⟨upd_same, ?_, pl, by omega, by omega⟩, by omega⟩ ((s1.trans s2).trans s3) ((s1.trans s2).free hp)
    rw [upd_ne pl.symm, upd_same, cut_ints]
end
end Lw
namespace Lw
open PySem PySem.Spec PyProof.Rows L2

/-! ### defs that are called where no repr runs -/
/-- a def's promise where nothing is being shown -/
structure FnG (P : Program) (w : World) (K : PySem.W.Frag) (mg : Str → Option Value) (base : Heap) (k : Nat) (f : Addr) (fd : FuncData) (ps : List Str) (sp : Sp) : Prop where
  len : ∀ vs H Q E, sp vs H Q E → vs.length = ps.length
  run : ∀ (A : Around) (outer : List Env) (s : Shared) (H : Hp) (args : Args) (us : List Value) (vs : List V) (Q : VK) (E : XK), A.guards = some [] → Room k A → Env0 P w K mg base A outer s H →
    BindsTo s fd args (ps.zip us) → Vals vs us → sp vs H Q E → codeAny (model P w) A (.call (.ref f) args) (CR C8.CX0 outer P w H s Q E) s
structure CalG (P : Program) (w : World) (K : PySem.W.Frag) (mg : Str → Option Value) (base : Heap) (k : Nat) (x : Str) (sp : Sp) (dvs : List V) : Prop where
  ex : ∃ (f : Addr) (fd : FuncData) (ps : List Str) (ds : List Value), FnG P w K mg base k f fd ps sp ∧ mg x = some (.ref f) ∧ PySem.W.keepIn K (.ref f) = true ∧ Binds K fd ps ds ∧ Vals dvs ds
section
variable {P : Program} {w : World} {K : PySem.W.Frag} {mg : Str → Option Value} {base : Heap}
theorem calG {x : Str} {st : Stmt} {f : Addr} {fd : FuncData} {N ps : List Str} {ds : List Value} {dvs : List V} {k : Nat} {sp : Sp} (F : C8.Def K mg x st f fd) (b : Binds K fd ps ds) (d : Vals dvs ds) (S : FnScope N ps (C8.fnScope st))
    (len : ∀ vs H Q E, sp vs H Q E → vs.length = ps.length)
    (body : ∀ (cdv : Value) (A : Around) (outer : List Env) (s : Shared) (H : Hp) (vs : List V) (Q : VK) (E : XK), (A.deeper (envOfC x (C8.fnScope st) s.heap.objs.size f cdv)).guards = some [] → Room k (A.deeper (envOfC x (C8.fnScope st) s.heap.objs.size f cdv)) → sp vs H Q E →
      ∃ t, PSs (cxOf C8.CX0 P w K mg base N x (C8.fnScope st) f cdv A outer s H E).nox (C8.fnBody st) t ∧ t { nx := fun _ H' => Q .non H', rt := Q } (start N vs) H) : CalG P w K mg base (k + 1) x sp dvs := by
  refine ⟨f, fd, ps, ds, ⟨len, ?_⟩, F.mgf, F.kp, b, d⟩
  intro A outer s H args us vs Q E hg hr e0 hb r hs
  obtain ⟨oc, od, dV, kV, doc, pm, an, cdv, ct, osl, rfl, lk, hcd⟩ := F.fn.ex
  refine LamX.run_ofS lk hcd S hr e0 hb r (len _ _ _ _ hs) fun hr' => ?_
  obtain ⟨t, h1, h2⟩ := body cdv A outer s H vs Q E hg hr' hs
  exact ⟨t, h1.nox, h2⟩
end
section
variable {X : Cx} {k j : Nat} {x : Str} {sp : Sp} {dvs : List V} {p pos : Pos} {e : Expr} {es : List Expr} {t : TA}
theorem pe_g (c : CalG X.prog X.w X.K X.mg X.base k x sp dvs) (hG : X.A.guards = some []) (hr : Room j X.A) (hk : k ≤ j) (hg : Gl X x) (ha : PA X (e :: es) t)
    (hdb : (x == ("__debug__" : Str)) = false := by decide) (he : starEach (e :: es) X.env = (false, eval e X.env) :: starEach es X.env := by rfl) (hpl : (backTo pos (starEach es X.env)).any (·.1) = false := by rfl) :
    PE X (.Call (.Name x p) (e :: es) [] pos) (tCall sp dvs C8.E0 t) := by
  obtain ⟨f, fd, ps, ds, F, hm, kp, b, d⟩ := c.ex
  refine ⟨fun pins s σ H Q I h => ?_⟩
  refine wpAny_Call_Name_kw (ld_glob I hg hm ?_ hdb)
  refine PySem.W.callWith_K (h₀ := X.base) I.ok.mod.kin kp (thn (ha.run pos pins s σ H _ I h) fun us s1 g => ?_) he hpl
  obtain ⟨vs, H1, I1, r, q⟩ := g
  refine ⟨I1.kIn, ?_⟩
  have r2 := r.append d
  have hl : (us ++ ds).length = ps.length := r2.length.symm.trans (F.len _ _ _ _ q)
  refine wpAny_call (codeAny_mono (F.run X.A X.stack s1 H1 ⟨us, []⟩ (us ++ ds) (vs ++ dvs) Q C8.E0 hG (hr.mono hk) I1.env0 (b s1 us I1.kIn hl) r2 q) fun r s' hq => ?_)
  match r, hq with
  | .error e, hq => exact hq.elim
  | .ok (.ret u), hq => exact I1.after hq
  | .ok .next, hq => exact hq.elim
  | .ok .brk, hq => exact hq.elim
  | .ok .cont, hq => exact hq.elim
/-! ### repr of data -/
def rRepr (K : PySem.W.Frag) : List V → Hp → VK → Prop := fun xs H Q => ∃ (a : Addr) (d : PyData), xs = [.ref a] ∧ Dp K H (.ref a) d ∧ d.showable = true ∧ d.hasDict = false ∧ d.depth ≤ 100 ∧ d.shown.length ≤ sizeLine ∧ Q (.str d.shown) H
theorem call_reprD (hG : X.A.guards = some []) (hr : Room 0 X.A) : CallR X (.builtin "repr") (rRepr X.K) := by
  intro pins s σ H xs us Q I r h
  obtain ⟨a, d, rfl, hd, h1, h2, h3, h4, q⟩ := h
  obtain ⟨u, rfl, ru⟩ := vals1 r
  have e : u = Value.ref a := ru
  subst e
  obtain ⟨as, rd⟩ := Dp.reads I d _ _ hd rfl
  have hun := hr.un
  exact repr_of_reads' rd h1 (fun z => by rw [h2] at z; cases z) hG (by omega) (fun _ _ e => e) (fun h' u' tk kp => ⟨.str d.shown, H, I.kept kp, ⟨u', rfl⟩, q⟩) h4
end
end Lw
namespace Lw
open PySem PySem.Spec PyProof.Rows L2

open LamX
/-! ### a lambda as a value -/
def FnO (f : Addr) : HO := .ext fun h => ∃ o : Obj, h.get? f = some o ∧ o.cls = .type "function"
section
variable {X : Cx} {pins : List (Addr × Obj)} {σ : L2.St} {H : Hp} {s : Shared}
theorem lay_fn {h' : Heap} {t' : Nat} {o : Obj} (I : Inv X pins σ H { s with heap := h', toks := t' }) (ho : o.cls = .type "function") (hs : o.isFreed = false) :
    Inv X pins σ (upd H h'.objs.size (FnO h'.objs.size)) { s with heap := h'.push o, toks := t' } := by
  refine I.laid (h' := h'.push o) (t' := t') (fun b u e => Heap.get?_push_of_some _ e) (Nat.le_refl _) ?_
  have g : (h'.push o).get? h'.objs.size = some o := Heap.get?_push_size _ hs
  refine ⟨⟨o, g, ho⟩, ⟨o, g⟩, ?_⟩
  rintro h1 h2 ⟨u, e1, e2⟩ st
  exact ⟨u, st u e1, e2⟩
theorem lam_val {T : List (Addr × Str)} {c B : Addr} {params : Arguments} {body : Expr} {scope : Scope} {pos : Pos} {E Q : Value → Shared → Prop} (I : Inv X pins σ H s) (TB : TabB X.base X.mg c B) (hcode : X.env.code = .ref c)
    (hm : (B, X.env.qual ++ "<lambda>") ∈ T) (hu : ∀ p ∈ T, p.1 = B → p.2 = X.env.qual ++ "<lambda>") (hT : Tabs T H) (hdef : defaultsOf params X.env = ([], []))
    (hfree : ∀ y ∈ scope.names, y.2 = .free → ∃ c, X.env.cells.lookup y.1 = some c)
    (h : ∀ (f : Addr) (H1 : Hp) (s' : Shared), Inv X pins σ (upd H1 f (FnO f)) s' → ExtN H H1 → Tabs T H1 → H1 f = none → Q (.ref f) s') :
    wpAny (model X.prog X.w) X.A (eval (.Lambda params body scope pos) X.env) Q E s := by
  have known := hT _ hm
  obtain ⟨ps, hB, trip, amg⟩ := known
  refine PySem.W.kla_eval hdef ?_
  have hat : s.heap.get? B = some { cls := .none, data := .fields ps } := I.hok B _ hB
  have blt := TB.bm.keeps I.bk
  have hdc := TB.code.keeps I.bk
  have glb := I.mod.glob.keeps I.bk
  rcases hc : codeAmong pos ps.toList with _ | cv
  · refine PySem.W.kla_makeFunction (mg := X.mg) (c := c) (P := B) (ps := ps) (closure_ok hfree) I.ok.glob glb hcode hdc hat trip hc TB.gP blt ?_
    intro c2 ctv h' tk hx hge hlt hrec htb
    obtain ⟨c3, oc, vs, t, e3, g1, g2, g3⟩ := hrec
    cases e3
    have nC : H c2 = none := I.hok.fresh hge
    have I0 := inv_table (t' := tk) (more := #[rawInt pos.line, rawInt pos.col, .ref c2]) (h' := h') I hB hx htb hge ⟨oc, vs, t, g1, g2, g3⟩
    have stays : ExtN H (upd (upd H B (.tbl (ps ++ #[rawInt pos.line, rawInt pos.col, .ref c2]))) c2 (CodeO c2 (X.env.qual ++ "<lambda>"))) := by
      intro b o e n
      rw [upd_ne (ne_of_none e nC)]
      by_cases hb : b = B
      · subst hb
        rw [hB] at e
        exact absurd (Option.some.inj e).symm (n ps)
      · rw [upd_ne hb]; exact e
    refine h h'.objs.size _ _ (lay_fn (t' := tk) I0 rfl rfl) stays ?_ ?_
    · intro p hp
      by_cases hb : p.1 = B
      · rw [hu p hp hb, hb]
        refine ⟨ps ++ #[rawInt pos.line, rawInt pos.col, .ref c2], ?_, ?_, ?_⟩
        · rw [upd_ne (ne_of_none hB nC), upd_same]
        · rw [show (ps ++ #[rawInt pos.line, rawInt pos.col, .ref c2]).toList = ps.toList ++ [rawInt pos.line, rawInt pos.col, .ref c2] by simp]
          exact PySem.TriplesOk_snoc _ _ _ _ trip
        · intro p' cv' hcv
          rw [show (ps ++ #[rawInt pos.line, rawInt pos.col, .ref c2]).toList = ps.toList ++ [rawInt pos.line, rawInt pos.col, .ref c2] by simp] at hcv
          rcases among_app _ trip hcv with z | z
          · obtain ⟨c0, a1, a2⟩ := amg p' cv' z
            exact ⟨c0, a1, stays _ _ a2 codeO_ne⟩
          · exact ⟨c2, z, upd_same⟩
      · obtain ⟨qs, a1, a2, a3⟩ := hT p hp
        refine ⟨qs, ?_, a2, ?_⟩
        · rw [upd_ne (ne_of_none a1 nC), upd_ne hb]; exact a1
        · intro p' cv' hcv
          obtain ⟨c0, b1, b2⟩ := a3 p' cv' hcv
          exact ⟨c0, b1, stays _ _ b2 codeO_ne⟩
    · have n1 : h'.objs.size ≠ c2 := Nat.ne_of_gt hlt
      have n2 : h'.objs.size ≠ B := Nat.ne_of_gt (Nat.lt_of_lt_of_le (Heap.lt_size hat) (Nat.le_trans hge (Nat.le_of_lt hlt)))
      rw [upd_ne n1, upd_ne n2]
      exact I.hok.fresh (Nat.le_trans hge (Nat.le_of_lt hlt))
  · obtain ⟨c2, e, hco⟩ := amg pos cv hc
    subst e
    refine PySem.W.kla_makeFunctionHit (mg := X.mg) (c := c) (P := B) (ps := ps) (closure_ok hfree) I.ok.glob glb hcode hdc hat trip hc blt ?_
    intro ctv h' tk hx hsz
    have I0 : Inv X pins σ H { s with heap := h', toks := tk } := I.kept hx
    exact h h'.objs.size H _ (lay_fn (t' := tk) I0 rfl rfl) (ExtN.refl H) hT (I.hok.fresh hsz)
end
def tLamV (T : List (Addr × Str)) : TE := fun _ H Q => Tabs T H ∧ ∀ (f : Addr) (H1 : Hp), ExtN H H1 → Tabs T H1 → H1 f = none → Q (.ref f) (upd H1 f (FnO f))
section
variable {X : Cx}
theorem pe_lamV {T : List (Addr × Str)} {c B : Addr} {params : Arguments} {body : Expr} {scope : Scope} {pos : Pos} (TB : TabB X.base X.mg c B) (hcode : X.env.code = .ref c)
    (hm : (B, X.env.qual ++ "<lambda>") ∈ T) (hu : ∀ p ∈ T, p.1 = B → p.2 = X.env.qual ++ "<lambda>") (hdef : defaultsOf params X.env = ([], [])) (L : ∀ y ∈ scope.names, y.2 ≠ .free) :
    PE X (.Lambda params body scope pos) (tLamV T) := by
  refine ⟨fun pins s σ H Q I h => ?_⟩
  refine lam_val I TB hcode hm hu h.1 hdef (fun y hy e => absurd e (L y hy)) fun f H1 s' I1 eN T1 nf => ?_
  exact ⟨.ref f, _, I1, rfl, h.2 f H1 eN T1 nf⟩
end
end Lw
namespace Lf
open PySem
open Sem (wp)

theorem ga : Slot "function" "__getattribute__" "object.__getattribute__" := by
  refine .of (owner := "object") (n := "__getattribute__") ?_ (by decide +kernel) (by decide +kernel) (by decide +kernel) ?_ ?_
  · rw [typeLookup_type, builtinLookup_eq_fast]
    kernel_rfl
  · first
      | exact .inl (by decide +kernel)
      | exact .inr (by decide +kernel)
  · rw [isSubtype_type]
    kernel_rfl
theorem lkc : typeLookup (.type "function") "__class__" = pure (some (.builtin "object.__class__")) := by
  rw [typeLookup_type, builtinLookup_eq_fast]
  kernel_rfl
theorem sub_own : isSubtype (.type "function") (.type (".".intercalate ("object.__class__".cutAt '.').dropLast)) = pure true := by
  rw [F.owner_object_class]
  rw [isSubtype_type]
  kernel_rfl
section
variable {prog : Program} {w : World} {A : Around} {E : Value → Shared → Prop} {h : Heap} {g : Array GenState} {d : Drawn} {t : Nat} {os : OsState} {a : Addr} {o : Obj}
theorem fn_get {R : Result → Shared → Prop} (hx : h.get? a = some o) (hc : o.cls = .type "function")
    (hq : R (.ok (.ret (.type "function"))) ⟨h, g, d, t, os⟩) :
    codeAny (model prog w) A (.call (.builtin "getset_descriptor.__get__") ⟨[.builtin "object.__class__", .ref a, .type "function"], []⟩) R ⟨h, g, d, t, os⟩ := by
  have i1 : (⟨h, g, d, t, os⟩ : Shared).TypeIs (.ref a) "function" := ⟨o, hx, hc⟩
  have i2 : (⟨h, g, d, t, os⟩ : Shared).TypeIs (.builtin "object.__class__") "getset_descriptor" := F.typeOf_object_class
  have i3 := sub_own
  refine codeAny_call_builtin F.slot_gs_get.plain F.entry_gs_get ?_
  refine F.slot_gs_get.check _ _ _ _ _ _ _ _ i2 (F.args_gs_get _ _ _) ?_
  repeat (any_goals (first | assumption | wp_step))
  refine ⟨Code.quiet_builtin _ (by decide +kernel), ?_⟩
  refine codeAny_builtin F.entry_object_class ?_
  repeat (any_goals (first | assumption | wp_step))
theorem fn_ga {tk : Tok} {Q : Fin → Shared → Prop} (hx : h.get? a = some o) (hc : o.cls = .type "function")
    (hq : Q (.done (.ret (.type "function"))) ⟨h, g, d, t, os⟩) :
    wpAny (model prog w) A (Builtin.«object.__getattribute__» ⟨[.ref a, .str "__class__" tk], []⟩) Q E ⟨h, g, d, t, os⟩ := by
  have i1 : (⟨h, g, d, t, os⟩ : Shared).TypeIs (.ref a) "function" := ⟨o, hx, hc⟩
  have i2 : (⟨h, g, d, t, os⟩ : Shared).TypeIs (.builtin "object.__class__") "getset_descriptor" := F.typeOf_object_class
  have i3 := lkc
  have i4 := F.typeOf_object_class
  have i5 := F.slot_gs_get.lookup
  have i6 := F.slot_gs_set.lookup
  repeat (any_goals (first | assumption | wp_step))
  refine fn_get hx hc ?_
  repeat (any_goals (first | assumption | wp_step))
theorem fn_call {tk : Tok} {R : Result → Shared → Prop} (hx : h.get? a = some o) (hc : o.cls = .type "function")
    (hq : R (.ok (.ret (.type "function"))) ⟨h, g, d, t, os⟩) :
    codeAny (model prog w) A (.call (.builtin "object.__getattribute__") ⟨[.ref a, .str "__class__" tk], []⟩) R ⟨h, g, d, t, os⟩ := by
  refine codeAny_call_builtin ga.plain F.entry_object_getattribute ?_
  exact ga.check _ _ _ _ _ _ _ _ (show (⟨h, g, d, t, os⟩ : Shared).TypeIs (.ref a) "function" from ⟨o, hx, hc⟩) (F.args_object_getattribute_2 _ _) (fn_ga hx hc hq)
theorem fn_by {tk : Tok} {Q : Value → Shared → Prop} (hx : h.get? a = some o) (hc : o.cls = .type "function") (hq : Q (.type "function") ⟨h, g, d, t, os⟩) :
    wpAny (model prog w) A (getAttrBy (.ref a) (.str "__class__" tk) false) Q E ⟨h, g, d, t, os⟩ := by
  have i1 : (⟨h, g, d, t, os⟩ : Shared).TypeIs (.ref a) "function" := ⟨o, hx, hc⟩
  have i2 := ga.lookup
  have i3 := ga.bind (.ref a)
  repeat (any_goals (first | assumption | wp_step))
  refine fn_call hx hc ?_
  repeat (any_goals (first | assumption | wp_step))
theorem fn_attr {Q : Option Value → Shared → Prop} (hx : h.get? a = some o) (hc : o.cls = .type "function") (hq : Q (some (.type "function")) ⟨h, g, d, t + 1, os⟩) :
    wpAny (model prog w) A (getAttr? (.ref a) "__class__") Q E ⟨h, g, d, t, os⟩ := by
  unfold getAttr? getAttrBy?
  repeat (any_goals (first | assumption | with_reducible apply fn_by hx hc | wp_step))
end
end Lf
namespace Lw
open PySem PySem.Spec PyProof.Rows L2

open LamX
theorem kitx_fn {K : PySem.W.Frag} {a : Addr} : PySem.W.KitX K (.ref a) (.type "function") (PySem.W.KitAt a "function") := PySem.W.kitx_of PySem.W.kitAt_ty (fun {_ _ _ _ _ s} p k => by
  obtain ⟨h, g, d, t, os⟩ := s
  obtain ⟨o, h1, h2⟩ := p
  exact Lf.fn_attr h1 h2 k)
/-- a value's type: a def's, too -/
inductive TyZ (K : PySem.W.Frag) (H : Hp) : V → Value → Prop where
  | x {v : V} {t : Value} (h : TyX K H v t) : TyZ K H v t
  | fn {a : Addr} (e : H a = some (FnO a)) : TyZ K H (.ref a) (.type "function")
def rIsz (K : PySem.W.Frag) : List V → Hp → VK → Prop := fun xs H Q => ∃ (x c : V) (t u : Value) (b : Bool), xs = [x, c] ∧ ClsV c u ∧ TyZ K H x t ∧ PySem.W.kitOne K t u = some b ∧ Q (.bl b) H
theorem call_isz {X : Cx} : CallR X (.builtin "isinstance") (rIsz X.K) := by
  intro pins s σ H xs us Q I r h
  obtain ⟨x, c, t, u, b, rfl, k, ty, e, q⟩ := h
  obtain ⟨u1, u2, rfl, r1, r2⟩ := vals2 r
  have e2 := k.eq r2
  subst e2
  cases ty with
  | x ty =>
    obtain ⟨W, Z, p, hx⟩ := kit_of I r1 ty
    exact PySem.W.kia_one Z I.kIn p e hx fun tk => ⟨.bl b, H, I.tok tk, rfl, q⟩
  | @fn a ea =>
    have e3 : u1 = Value.ref a := r1
    subst e3
    obtain ⟨⟨o, h1, h2⟩, _⟩ := I.hok a _ ea
    exact PySem.W.kia_one kitx_fn I.kIn ⟨o, h1, h2⟩ e (fun z => by cases z) fun tk => ⟨.bl b, H, I.tok tk, rfl, q⟩
end Lw
namespace Lw
open PySem PySem.Spec PyProof.Rows L2

/-! ### try: body / except X as n: suite, the caught exception held behind the suite -/
/-- an exception's object: its class, its dict -/
def ExO (a : Addr) (cls : Value) (d : Option Addr) : HO := .ext fun h => ∃ o, h.get? a = some o ∧ Zc cls d o ∧ ∃ vs, o.data = .fields vs
section
variable {X : Cx} {pins : List (Addr × Obj)} {σ : L2.St} {H : Hp} {s : Shared}
/-- a pinned object is tracked from now on -/
theorem promote {a : Addr} {o : Obj} {cls : Value} {d : Option Addr} (I : Inv X ((a, o) :: pins) σ H s) (hz : Zc cls d o) (hf : ∃ vs, o.data = .fields vs) (new : X.s_0.heap.get? a = none) (apart : ∀ p ∈ X.pn ++ pins, p.1 ≠ a) : Inv X pins σ (upd H a (ExO a cls d)) s := by
  obtain ⟨ha, na, nL, nF, nC⟩ := I.pin (a, o) (List.mem_append_right _ List.mem_cons_self)
  have here : ∀ b, b ≠ a → upd H a (ExO a cls d) b = H b := fun b n => upd_ne n
  have known : ∀ b u, H b = some u → b ≠ a := fun b u e z => by rw [z, na] at e; cases e
  have old : ∀ b u, X.s_0.heap.get? b = some u → b ≠ a := fun b u e z => by rw [z, new] at e; cases e
  refine ⟨I.ok, I.os, I.bare, ⟨I.base.keep, I.base.slot, fun b u e n hx => ?_, I.base.there, fun b xs e => ?_, fun b u v e => ?_, fun b ps e => ?_⟩, I.loc, I.cell, ?_, fun y c e => ?_, fun p hp => ?_, fun b u e => ?_, I.len⟩
  · rw [here b (old b u e)]
    exact I.base.free b u e n hx
  · have z := I.base.tups b xs e
    rw [here b (known b _ z)]
    exact z
  · have z := I.base.frzs b u v e
    rw [here b (known b _ z)]
    exact z
  · obtain ⟨more, z⟩ := I.base.tbls b ps e
    exact ⟨more, by rw [here b (known b _ z)]; exact z⟩
  · rw [here _ nL.symm]
    exact I.free
  · have ne : c ≠ a := fun z => by
      obtain ⟨v, oc, hoc, hdc⟩ := I.cell y c e
      rw [z, ha] at hoc
      cases hoc
      exact nC v hdc
    rw [here c ne]
    exact I.freeC y c e
  · have hp2 : p ∈ X.pn ++ ((a, o) :: pins) := by
      rcases List.mem_append.mp hp with h | h
      · exact List.mem_append_left _ h
      · exact List.mem_append_right _ (List.mem_cons_of_mem _ h)
    obtain ⟨e1, e2, e3⟩ := I.pin p hp2
    exact ⟨e1, by rw [here _ (apart p hp)]; exact e2, e3⟩
  · by_cases q : b = a
    · subst q
      rw [upd_same] at e
      cases e
      refine ⟨⟨o, ha, hz, hf⟩, ⟨o, ha⟩, ?_⟩
      rintro h1 h2 ⟨u, e1, e2⟩ st
      exact ⟨u, st u e1, e2⟩
    · rw [here b q] at e
      exact (I.hok b u e).stay (fun _ _ _ z => z) (fun c z => by rw [here c (known c _ z)]; exact z) fun c xs z => by rw [here c (known c _ z)]; exact z
end
end Lw
namespace Lw
open PySem PySem.Spec PyProof.Rows L2

/-- what the body's exceptions must be: of the class that is named; the suite ends plainly, and the exception stays known behind it -/
def wHeld (K : PySem.W.Frag) (c : Value) (i n : Nat) (ts : Addr → Value → Option Addr → TS) (D : Ends) : WX := fun cls d σ H => σ.length = n →
  PySem.W.exmOne K cls c = some true ∧ ∀ a, H a = none → ts a cls d { nx := fun σ' H' => H' a = none → D.nx (σ'.set i none) (upd H' a (ExO a cls d)), rt := fun _ _ => False, bk := fun _ _ => False, ct := fun _ _ => False } (σ.set i (some (.ref a))) H
section
variable {X : Cx} {x n : Str} {c : Value} {i : Nat} {body suite : List Stmt} {b₀ : Stmt} {np pos pos' : Pos} {tb : WX → TS} {ts : Addr → Value → Option Addr → TS}
theorem ps_try_held (stk : X.stack = X.env :: X.outer) (frm : X.env.frame = some X.env.locals) (hN : X.N.Nodup) (hi : X.N[i]? = some n) (loc : X.env.kindOf n = some .local) (nm : Names X x c) (noex : X.ex = [])
    (hb : ∀ (W : WX) (pn : List (Addr × Obj)) (xe : Value → Shared → Prop), Takes (X.tr pn xe) W → PassesOwn (model X.prog X.w) X.A X.env xe → PSs (X.tr pn xe) body (tb W))
    (hsu : ∀ (a : Addr) (oe : Obj) (cls : Value) (d : Option Addr) (pn : List (Addr × Obj)), Zc cls d oe → (∃ vs, oe.data = .fields vs) → PSs (X.suite a ((a, oe) :: pn)) (b₀ :: suite) (ts a cls d)) :
    PS X (.Try body [.ExceptHandler (some (.Name x np)) (some n) (b₀ :: suite) pos'] [] [] pos) (fun D σ H => tb (wHeld X.K c i X.N.length ts D) D σ H) := by
  refine ⟨fun pins s σ H D I h => ?_⟩
  have ok := I.ok
  have frames : X.A.frames = some (X.env :: X.outer) := by rw [ok.frames, stk]
  refine wpAny_Try_except ?_
  refine wpAny_mono ((hb (wHeld X.K c i X.N.length ts D) (X.pn ++ pins) (fun e s₁ => wpAny (model X.prog X.w) X.A (noteFrame e X.env) (fun _ s₂ => wpAny (model X.prog X.w) X.A (setFlight e none) (fun _ s₃ =>
    wpAny (model X.prog X.w) X.A (handleBy e X.env [.ExceptHandler (some (.Name x np)) (some n) (b₀ :: suite) pos']) (SP X pins D) X.xe s₃) X.xe s₂) X.xe s₁) (fun u s' air => ?_) PassesOwn.looking).run [] s σ H D (I.toTry _) h) (fun f s1 q => ?_) (fun e s1 q => q)
  · obtain ⟨a, B, sI, pins', σ', H', cls, d, rfl, JT, nb, up, sky, na, os, ag, hw⟩ := air
    have J : Inv X pins σ' H' sI := JT.ofTry ok
    obtain ⟨ours, go⟩ := hw J.len
    rw [stk] at sky
    show wpAny (model X.prog X.w) X.A (noteFrame (.ref a) X.env) _ _ _
    refine Sky.land Zc.steady frames frm sky fun hA flA upA => ?_
    have JA : Inv X pins σ' H' { s' with heap := hA } := J.landed nb flA.1 (up.trans upA) os ag
    obtain ⟨oA, vsA, eA, zA, dA⟩ := flA.there
    -- the exception's object is no frame, and it is new
    have noFrame : a ∉ frs (X.env :: X.outer) := fun hm => by
      obtain ⟨_, o', e', hnf⟩ := flA.2.2.1.mem hm
      rw [eA] at e'
      cases e'
      exact hnf _ dA
    have nL : a ≠ X.env.locals := fun z => noFrame (List.mem_filterMap.mpr ⟨X.env, List.mem_cons_self, by rw [frm, z]⟩)
    have nF : a ∉ X.fs := fun hm => by
      obtain ⟨e, he, q⟩ := List.mem_filterMap.mp hm
      exact noFrame (List.mem_filterMap.mpr ⟨e, List.mem_cons_of_mem _ he, q⟩)
    have nB : B.get? a = none := flA.2.1
    have ground : ∀ b o, sI.heap.get? b = some o → b ≠ a := fun b o e z => by
      rw [z] at e
      have k := nb a o e (by rw [stk]; exact noFrame)
      rw [nB] at k
      cases k
    have fresh : X.s_0.heap.get? a = none := by
      cases e : X.s_0.heap.get? a with
      | none => rfl
      | some o =>
        obtain ⟨o', e'⟩ := J.base.there a o e (by rw [noex]; simp)
        exact absurd rfl (ground a o' e')
    have apart : ∀ p ∈ X.pn ++ pins, p.1 ≠ a := fun p hp => ground p.1 p.2 (J.pin p hp).1
    refine wpAny_handleBy_cons (codeAny_handlers_test ?_) (by intro q; cases q)
    have LT : PySem.W.Looks (model X.prog X.w) hA (typeOf (.ref a)) cls := fun A Q E s k q => wpAny_typeOf_ref (k _ _ eA) (by rw [zA.1]; exact q)
    have LM := PySem.W.exm_one (M := model X.prog X.w) JA.kIn LT ours
    have SA := JA.suite eA dA na nL nF
    have look : ∀ {Q : Value → Shared → Prop} {E : Value → Shared → Prop}, Q c { s' with heap := hA } → wpAny (model X.prog X.w) (X.A.mark (some (.ref a))) (eval (.Name x np) X.env) Q E { s' with heap := hA } := fun {Q E} q => by
      rcases nm with ⟨g1, g2, g3 | ⟨g3, g4, g5⟩⟩
      · exact ld_glob (X := X.suite a ((a, oA) :: (X.pn ++ pins))) SA g1 g3 q g2
      · exact ld_blt (X := X.suite a ((a, oA) :: (X.pn ++ pins))) SA g1 g3 g4 q g5 g2
    refine look (LM.here ?_)
    refine codeAny_handlers_suite_as ?_
    refine HandSPX.lands_againZ flA fun hB flB upB => ?_
    have JB : Inv X pins σ' H' { s' with heap := hB } := J.landed nb flB.1 ((up.trans upA).trans upB) os ag
    obtain ⟨oB, vsB, eB, zB, dB⟩ := flB.there
    refine store_ok (X := X.suite a ((a, oB) :: (X.pn ++ pins))) (v := .ref a) (JB.suite eB dB na nL nF) hN hi (.inl loc) rfl (fun s5 S5 => ?_) (.inr loc)
    refine wpAny_mono ((hsu a oB cls d (X.pn ++ pins) zB ⟨_, dB⟩).run [] s5 _ H' _ S5 (go a na)) (fun f s6 q => ?_) (fun _ _ z => False.elim z)
    cases f with
    | next =>
      obtain ⟨σ6, H6, S6, q6⟩ := q
      have held : Inv X ((a, oB) :: pins) σ6 H6 s6 := ⟨ok, S6.os, S6.bare, S6.base, S6.loc, S6.cell, S6.free, S6.freeC, fun p hp => by
        refine S6.pin p (List.mem_append_left _ ?_)
        show p ∈ (a, oB) :: (X.pn ++ pins)
        rcases List.mem_append.mp hp with h | h
        · exact List.mem_cons_of_mem _ (List.mem_append_left _ h)
        · rcases List.mem_cons.mp h with h | h
          · rw [h]; exact List.mem_cons_self
          · exact List.mem_cons_of_mem _ (List.mem_append_right _ h), S6.hok, S6.len⟩
      refine gone_ok held hN hi loc fun s7 I7 => ?_
      exact ⟨_, _, promote I7 zB ⟨_, dB⟩ fresh apart, q6 (I7.pin (a, oB) (List.mem_append_right _ List.mem_cons_self)).2.1⟩
    | brk =>
      obtain ⟨_, _, _, z⟩ := q
      exact z.elim
    | cont =>
      obtain ⟨_, _, _, z⟩ := q
      exact z.elim
    | ret u =>
      obtain ⟨_, _, _, _, _, z⟩ := q
      exact z.elim
  · cases f with
    | next =>
      obtain ⟨σ1, H1, I1, q1⟩ := q
      exact wpAny_execs_nil ⟨σ1, H1, I1.ofTry ok, q1⟩
    | brk =>
      obtain ⟨σ1, H1, I1, q1⟩ := q
      exact ⟨σ1, H1, I1.ofTry ok, q1⟩
    | cont =>
      obtain ⟨σ1, H1, I1, q1⟩ := q
      exact ⟨σ1, H1, I1.ofTry ok, q1⟩
    | ret u =>
      obtain ⟨v1, σ1, H1, I1, r1, q1⟩ := q
      exact ⟨v1, σ1, H1, I1.ofTry ok, r1, q1⟩
end
end Lw
namespace Lw
open PySem PySem.Spec PyProof.Rows L2

section
variable {X : Cx} {pins : List (Addr × Obj)} {σ : L2.St} {H : Hp} {s : Shared}
theorem held_at {a : Addr} {cls : Value} {d : Option Addr} (I : Inv X pins σ H s) (h : H a = some (ExO a cls d)) : ∃ o vs, s.heap.get? a = some o ∧ o.cls = cls ∧ o.dict = d ∧ o.data = .fields vs := by
  obtain ⟨⟨o, h1, h2, vs, h3⟩, _⟩ := (show ObjOk X.prog X.w H s.heap a (ExO a cls d) from I.hok a _ h)
  exact ⟨o, vs, h1, h2.1, h2.2, h3⟩
/-- the exception as an instance, its attributes known -/
theorem held_inst {a C dd : Addr} {fs : List (Str × V)} (I : Inv X pins σ H s) (h : H a = some (ExO a (.ref C) (some dd))) (hd : H dd = some (.xd fs)) : ∃ o od, PySem.W.InstAt s.heap a o C (some od) ∧ ∀ f v, fs.lookup f = some v → ∃ u, PySem.W.lookIn f od = some (some u) ∧ RelV v u := by
  obtain ⟨o, vs, h1, h2, h3, h4⟩ := held_at I h
  obtain ⟨mA, hns, hr⟩ := (show ObjOk X.prog X.w H s.heap dd (.xd fs) from I.hok dd _ hd)
  obtain ⟨od, ho, hl⟩ := lookIn_ns hns
  refine ⟨o, od, ⟨h1, h2, by unfold PySem.W.notCls; rw [h4] <;> rfl, by rw [h3]; exact ho⟩, fun f v e => ?_⟩
  obtain ⟨u, hu, ru⟩ := RelO.some_of (v := v) (o := mA f) (by rw [← e]; exact hr f)
  exact ⟨u, by rw [hl, hu], ru⟩
/-- e.f of an exception that is held -/
def tHeld (C : Addr) (f : Str) (te : TE) : TE := fun σ H Q => te σ H fun x H1 => ∃ (a dd : Addr) (fs : List (Str × V)) (v : V), x = .ref a ∧ H1 a = some (ExO a (.ref C) (some dd)) ∧ H1 dd = some (.xd fs) ∧ fs.lookup f = some v ∧ Q v H1
theorem pe_held {C : Addr} {e : Expr} {te : TE} {pos : Pos} {f : Str} (T : XfC X.K C) (hno : PySem.W.findIn X.K (.ref C) f = some none) (he : PE X e te) (hb : attributeBase e f X.env (eval e X.env) = eval e X.env := by rfl) : PE X (.Attribute e f pos) (tHeld C f te) := by
  refine ⟨fun pins s σ H Q I q => attr_of hb (thn (he.run pins s σ H _ I q) fun u s1 got => ?_)⟩
  obtain ⟨x, H1, I1, rx, a, dd, fs, v, rfl, ha, hd, hl, q⟩ := got
  obtain rfl : u = Value.ref a := rx
  obtain ⟨o, od, J, fld⟩ := held_inst I1 ha hd
  obtain ⟨u, hu, ru⟩ := fld f v hl
  exact HandSPX.exc_get I1.kIn J T.ga T.gg T.exC (PySem.W.findObj_own T.hdC hno rfl hu) (handed_of ru) ⟨v, H1, I1.tok _, ru, q⟩
end
end Lw
namespace Lw.Hx
open PySem PySem.Spec PySem.Calls PyProof.Rows PySem.W

/-! ### isinstance of an exception that has attributes -/
/-- what isinstance asks of the exception's class -/
structure XCls (K : Frag) (D : Addr) : Prop where
  ga : findIn K (.ref D) "__getattribute__" = some (some (.builtin "BaseException.__getattribute__"))
  gt : findIn K (.ref D) "__getattr__" = some none
  sub : subIn K (.ref D) (.type "BaseException") = some true
  dct : hasDictIn K D = true
  ca : findIn K (.ref D) "__class__" = some (some (.builtin "object.__class__"))
  cn : specialIn K (.builtin "object.__class__") "__get__" = some (some (.builtin "getset_descriptor.__get__"))
  ct : takesIn K (.builtin "object.__class__") = some true
  cm : mroIn K D (.type "object") = some true
section
variable {prog : Program} {w : World} {A : Around} {E : Value → Shared → Prop} {s : Shared} {K : Frag} {x D : Addr} {ox : Obj} {od : Option Obj}
theorem finds (c : XCls K D) : findObj K D od "__class__" = some (.bind (.builtin "getset_descriptor.__get__") (.builtin "object.__class__")) := by
  obtain ⟨cd, hc, _⟩ := any_some c.dct
  unfold findObj
  rw [hc, Option.bind_some, c.ca, Option.bind_some]
  simp only [c.cn, c.ct, Option.bind_some]
theorem class_of (c : XCls K D) {Q : Option Value → Shared → Prop} (X : K.In s.heap) (I : InstAt s.heap x ox D od) (h : Q (some (.ref D)) { s with toks := s.toks + 1 }) : wpAny (model prog w) A (getAttr? (.ref x) "__class__") Q E s := by
  have found := finds (od := od) c
  obtain ⟨hp, gs, dr, tk, os⟩ := s
  have kind := I.type (M := model prog w)
  have asks := looks_findIn (M := model prog w) X c.ga
  have more := looks_findIn (M := model prog w) X c.gt
  have seen := looks_find (M := model prog w) X I found
  have under : Looks (model prog w) hp (isInstance (.ref x) (.type "BaseException")) true := kind.andThen (looks_subIn X c.sub)
  have n2 : (Value.builtin "BaseException.__getattribute__" == Value.builtin "object.__getattribute__") = false := by decide +kernel
  have n1 : (onTheHeap (Value.ref D) && Value.builtin "BaseException.__getattribute__" == Value.builtin "object.__getattribute__") = false := by rw [n2]; rfl
  unfold getAttr? getAttrBy? getAttrBy
  refine wpAny_bind (wpAny_mkText (wpAny_bind (wpAny_attempt (wpAny_holding (wpAny_bind (kind.at (wpAny_bind (asks.at ?_))))))))
  show wpAny _ _ (ite ((onTheHeap (Value.ref D) && Value.builtin "BaseException.__getattribute__" == Value.builtin "object.__getattribute__") = true) _ _) _ _ _
  rw [n1, if_neg (by decide)]
  unfold getAttrByItsOwn hookBefore
  refine wpAny_bind ?_
  rw [if_pos (show onTheHeap (.ref D) = true from rfl)]
  refine more.at (wpAny_bind (wpAny_attempt (wpAny_holding ?_)))
  unfold callGetattribute
  rw [if_neg (show ¬ (false && onTheHeap (Value.builtin "BaseException.__getattribute__")) = true from by decide)]
  unfold boundAndCalled
  rw [PySem.F.excAttr_ValueError.ga.bind (.ref x)]
  refine wpAny_bind (wpAny_pure ?_)
  show wpAny _ _ (call (.builtin "BaseException.__getattribute__") [.ref x, .str "__class__" tk]) _ _ _
  refine wpAny_call (codeAny_call_builtin PySem.F.excAttr_ValueError.ga.plain PySem.F.entry_bexc_ga ?_)
  refine @check_slot (model prog w) _ _ ⟨hp, gs, dr, tk + 1, os⟩ "BaseException.__getattribute__" "BaseException" "__getattribute__" (.ref x) [.str "__class__" tk] [] _ (by decide +kernel) (by decide +kernel) under (PySem.F.args_bexc_ga (.ref x) (.str "__class__" tk)) ?_
  unfold Builtin.«object.__getattribute__»
  refine wpAny_bind (wpAny_of_eq (a := ((Value.ref x : Value), [Value.str "__class__" tk])) (by first | rfl | (simp only [slotArgs] <;> rfl)) ?_)
  refine wpAny_bind (wpAny_pure (wpAny_bind (kind.at (wpAny_bind (seen.at ?_)))))
  show wpAny _ _ (holding [Value.builtin "object.__class__"] (call (.builtin "getset_descriptor.__get__") [.builtin "object.__class__", .ref x, .ref D]) >>= ret) _ _ _
  refine wpAny_bind (wpAny_holding (wpAny_call (class_get (s := ⟨hp, gs, dr, tk + 1, os⟩) X I c.cm ?_)))
  refine wpAny_pure ?_
  show wpAny _ _ (handedOut (.ref D)) _ _ _
  rw [handedOut_of (v := .ref D) rfl]
  first
    | exact wpAny_pure (wpAny_pure h)
    | exact wpAny_pure h
    | exact wpAny_pure (wpAny_bind (wpAny_pure (wpAny_pure h)))
theorem no_list (c : XCls K D) : ∃ o cd, K.lookup D = some o ∧ o.data = .cls cd := by
  obtain ⟨cd, hc, _⟩ := any_some c.dct
  unfold clsIn at hc
  split at hc
  · rename_i c' d' cd' sl' ho
    exact ⟨_, _, ho, rfl⟩
  · cases hc
theorem kitx_held (c : XCls K D) : KitX K (.ref x) (.ref D) (fun h => InstAt h x ox D od) where
  ty := fun _ _ _ I => I.type
  it := fun _ _ X _ => by
    obtain ⟨o, cd, ho, hd⟩ := no_list c
    intro A' Q' E' s' k q
    unfold isType loadHead
    refine wpAny_bind (wpAny_loadPart (k _ _ (X _ _ ho)) ?_)
    rw [hd]
    exact wpAny_pure q
  ne := fun h tp dd its n sl X htp => by
    refine Bool.eq_false_iff.mpr fun q => ?_
    have e : D = tp := Value.ref.inj (beq_iff_eq.mp q)
    obtain ⟨o, cd, ho, hd⟩ := no_list c
    have z := X _ _ ho
    rw [e, htp] at z
    cases z
    cases hd
  ca := fun X I k => class_of c X I k
end
end Lw.Hx
namespace Lw
open PySem PySem.Spec PyProof.Rows L2

/-- a value's kind: an exception's that is held, too -/
inductive TyW (K : PySem.W.Frag) (H : Hp) : V → Value → Prop where
  | z {v : V} {t : Value} (h : TyZ K H v t) : TyW K H v t
  | held {a D dd : Addr} {fs : List (Str × V)} (e : H a = some (ExO a (.ref D) (some dd))) (hd : H dd = some (.xd fs)) (c : Hx.XCls K D) : TyW K H (.ref a) (.ref D)
def rIsw (K : PySem.W.Frag) : List V → Hp → VK → Prop := fun xs H Q => ∃ (x c : V) (t u : Value) (b : Bool), xs = [x, c] ∧ ClsV c u ∧ TyW K H x t ∧ PySem.W.kitOne K t u = some b ∧ Q (.bl b) H
theorem call_isw {X : Cx} : CallR X (.builtin "isinstance") (rIsw X.K) := by
  intro pins s σ H xs us Q I r h
  obtain ⟨x, c, t, u, b, rfl, k, ty, e, q⟩ := h
  cases ty with
  | z ty => exact call_isz pins s σ H _ us Q I r ⟨x, c, t, u, b, rfl, k, ty, e, q⟩
  | @held a D dd fs ea hd cl =>
    obtain ⟨w1, w2, rfl, r1, r2⟩ := vals2 r
    obtain rfl := k.eq r2
    obtain rfl : w1 = Value.ref a := r1
    obtain ⟨o, od, J, _⟩ := held_inst I ea hd
    exact PySem.W.kia_one (Hx.kitx_held cl) I.kIn J e (fun z => by cases z) fun tk => ⟨.bl b, H, I.tok tk, rfl, q⟩
end Lw
namespace Lw
open PySem PySem.Spec PyProof.Rows L2
open LamX
/-! ### repr of any value of the drawn ones -/
theorem SqL.sames {K : PySem.W.Frag} {a : Addr} {H H' : Hp} {ys : List V} (s : Same H H') (h : SqL K H a ys) : SqL K H' a ys := by
  rcases h with (h | ⟨o, h⟩) | h
  · exact .inl (.inl (s _ _ h))
  · exact .inl (.inr ⟨o, s _ _ h⟩)
  · exact .inr h
theorem SqT.sames {K : PySem.W.Frag} {a : Addr} {H H' : Hp} {ys : List V} (s : Same H H') (h : SqT K H a ys) : SqT K H' a ys := by
  rcases h with (h | ⟨o, h⟩) | h
  · exact .inl (.inl (s _ _ h))
  · exact .inl (.inr ⟨o, s _ _ h⟩)
  · exact .inr h
mutual
theorem Dp.sames {K : PySem.W.Frag} {H H' : Hp} (s : Same H H') : ∀ {v : V} {d : PyData}, Dp K H v d → Dp K H' v d
  | _, _, .non => .non
  | _, _, .bl b => .bl b
  | _, _, .int i => .int i
  | _, _, .str x => .str x
  | _, _, .lst h hs => .lst (SqL.sames s h) (DpAll.sames s hs)
  | _, _, .tup h hs => .tup (SqT.sames s h) (DpAll.sames s hs)
theorem DpAll.sames {K : PySem.W.Frag} {H H' : Hp} (s : Same H H') : ∀ {vs : List V} {ds : List PyData}, DpAll K H vs ds → DpAll K H' vs ds
  | _, _, .nil => .nil
  | _, _, .cons h hs => .cons (Dp.sames s h) (DpAll.sames s hs)
end
inductive Rp (K : PySem.W.Frag) (H : Hp) : V → Str → Prop where
  | non : Rp K H .non "None"
  | bl (b : Bool) : Rp K H (.bl b) (if b then "True" else "False")
  | str (z : Str) (h : (reprText z).length ≤ sizeLine) : Rp K H (.str z) (reprText z)
  | int (i : Int) (h : i.natAbs.log2 < 1920) : Rp K H (.int i) (toString i)
  | data {a : Addr} {d : PyData} (h : Dp K H (.ref a) d) (h1 : d.showable = true) (h2 : d.hasDict = false) (h3 : d.depth ≤ 100) (h4 : d.shown.length ≤ sizeLine) : Rp K H (.ref a) d.shown
  | dnil {a : Addr} (h : H a = some (.dK [])) : Rp K H (.ref a) (PyData.dict []).shown
  | dks {a : Addr} {ks : List (Str × Int)} (h : H a = some (.dK (ks.map fun q => ((Sum.inr q.1 : L2.Key), V.int q.2)))) (h1 : (PyData.dict (ks.map fun q => (PyData.str q.1, PyData.int q.2))).showable = true)
    (h2 : (PyData.dict (ks.map fun q => (PyData.str q.1, PyData.int q.2))).depth ≤ 2) (h4 : (PyData.dict (ks.map fun q => (PyData.str q.1, PyData.int q.2))).shown.length ≤ sizeLine) : Rp K H (.ref a) (PyData.dict (ks.map fun q => (PyData.str q.1, PyData.int q.2))).shown
theorem Rp.same {K : PySem.W.Frag} {H H' : Hp} {v : V} {r : Str} (s : Same H H') (h : Rp K H v r) : Rp K H' v r := by
  cases h with
  | non => exact .non
  | bl b => exact .bl b
  | str z h => exact .str z h
  | int i h => exact .int i h
  | data h h1 h2 h3 h4 => exact .data (Lw.Dp.sames s h) h1 h2 h3 h4
  | dnil h => exact .dnil (s _ _ h)
  | dks h h1 h2 h4 => exact .dks (s _ _ h) h1 h2 h4
theorem reads_si {P : Program} {w : World} {h : Heap} : ∀ {ks : List (Str × Int)} {vs : List (L2.Key × Value)} {l : List DictEntry}, KV (ks.map fun q => ((Sum.inr q.1 : L2.Key), V.int q.2)) vs → Pairs (mixKind P w) l vs →
    ReadsAll h (l.map (·.key)) ((ks.map fun q => (PyData.str q.1, PyData.int q.2)).map (·.1)) [] ∧ ReadsAll h (l.map (·.val)) ((ks.map fun q => (PyData.str q.1, PyData.int q.2)).map (·.2)) []
  | [], _, _, kv, pr => by
    cases kv
    cases pr
    exact ⟨.nil, .nil⟩
  | q :: r, _, _, kv, pr => by
    cases kv with
    | @cons q1 q2 _ _ hq r0 =>
      obtain ⟨k2, v2⟩ := q2
      obtain ⟨e1, e2⟩ := hq
      have e1 : (Sum.inr q.1 : L2.Key) = k2 := e1
      subst e1
      obtain ⟨tv, rfl⟩ := (show ∃ t, v2 = Value.int q.2 t from e2)
      generalize hv2 : Value.int q.2 tv = v2 at pr
      cases pr with
      | cons he hr =>
        rename_i e0 l0 rest0
        have ev : e0.val = v2 := hr
        obtain ⟨h1, h2⟩ := reads_si (h := h) r0 rest0
        have he : keyIs (.inr q.1) e0.key = true := he
        rcases keyIs_shape he with ⟨i, t, ei, ek⟩ | ⟨x, t, ei, ek⟩
        · cases ei
        · cases ei
          refine ⟨?_, ?_⟩
          · show ReadsAll h (e0.key :: _) (PyData.str q.1 :: _) []
            rw [ek]
            exact .cons (.str _ t) h1
          · show ReadsAll h (e0.val :: _) (PyData.int q.2 :: _) []
            rw [ev, ← hv2]
            exact .cons (.int _ tv) h2
def rRpx (K : PySem.W.Frag) : List V → Hp → VK → Prop := fun xs H Q => ∃ (v : V) (r : Str), xs = [v] ∧ Rp K H v r ∧ Q (.str r) H
section
variable {X : Cx}
theorem call_reprX (hG : X.A.guards = some []) (hr : Room 0 X.A) : CallR X (.builtin "repr") (rRpx X.K) := by
  intro pins s σ H xs us Q I r h
  obtain ⟨v, z, rfl, hv, q⟩ := h
  obtain ⟨u, rfl, ru⟩ := vals1 r
  have hun := hr.un
  cases hv with
  | non =>
    cases (show u = Value.none from ru)
    exact PySem.P.repr_of_none ⟨.str "None", H, I.tok _, ⟨_, rfl⟩, q⟩
  | int i h =>
    obtain ⟨t, rfl⟩ := (show ∃ t, u = Value.int i t from ru)
    exact PySem.P.repr_of_int h ⟨.str (toString i), H, I.tok _, ⟨_, rfl⟩, q⟩
  | bl b =>
    cases (show u = Value.bool b from ru)
    refine PySem.P.repr_of_bool ⟨.str (if b then "True" else "False"), H, I.tok _, ⟨_, rfl⟩, ?_⟩
    cases b <;> exact q
  | str z h =>
    obtain ⟨t, rfl⟩ := (show ∃ t, u = Value.str z t from ru)
    exact PySem.P.repr_of_str ⟨.str (reprText z), H, I.tok _, ⟨_, rfl⟩, q⟩ h
  | @data a d h h1 h2 h3 h4 =>
    cases (show u = Value.ref a from ru)
    obtain ⟨as, rd⟩ := Dp.reads I d _ _ h rfl
    exact repr_of_reads' rd h1 (fun z => by rw [h2] at z; cases z) hG (by omega) (fun _ _ e => e) (fun h' u' tk kp => ⟨.str d.shown, H, I.kept kp, ⟨u', rfl⟩, q⟩) h4
  | @dnil a h =>
    cases (show u = Value.ref a from ru)
    obtain ⟨_, hm, vs, kv, o, es, ep, ho, hx, hd, _, pr, _⟩ := dk_of I.hok h
    have e0 : vs = [] := by cases kv; rfl
    subst e0
    have e1 : es.toList = [] := by
      generalize es.toList = l at pr
      cases pr
      rfl
    have rd : Reads s.heap (.ref a) (.dict []) [a] := Reads.dict (as := []) (bs := []) ho hx.1 hd (by rw [e1]; exact .nil) (by rw [e1]; exact .nil)
    refine repr_of_reads' rd rfl (fun _ z => ?_) hG (by show _ + ((PyData.dict []).depth + 1) < cLine; have : (PyData.dict []).depth ≤ 1 := by decide
                                                        omega) (fun _ _ e => e) (fun h' u' tk kp => ⟨.str _, H, I.kept kp, ⟨u', rfl⟩, q⟩) (by decide)
    rw [List.mem_singleton] at z
    rw [← z] at hm
    simp at hm
  | @dks a ks h h1 hd2 h4 =>
    cases (show u = Value.ref a from ru)
    obtain ⟨_, hm, vs, kv, o, es, ep, ho, hx, hd, _, pr, _⟩ := dk_of I.hok h
    obtain ⟨k1, k2⟩ := reads_si (h := s.heap) kv pr
    have rd : Reads s.heap (.ref a) (.dict (ks.map fun q => (PyData.str q.1, PyData.int q.2))) [a] := Reads.dict (as := []) (bs := []) ho hx.1 hd k1 k2
    refine repr_of_reads' rd h1 (fun _ z => ?_) hG (by show _ + ((PyData.dict _).depth + 1) < cLine; omega) (fun _ _ e => e) (fun h' u' tk kp => ⟨.str _, H, I.kept kp, ⟨u', rfl⟩, q⟩) h4
    rw [List.mem_singleton] at z
    rw [← z] at hm
    simp at hm
end
end Lw
namespace Lw
open PySem PySem.Spec PyProof.Rows L2

/-! ### C.m(e, ..), m a static method -/
structure SMet (K : PySem.W.Frag) (C : Addr) (m : Str) (p g : Addr) : Prop where
  mc : ∃ mc, PySem.W.typeIn K (.ref C) = some mc ∧ PySem.W.readsIn K C mc = true ∧ PySem.W.findCls K (.ref C) mc m = some (.get (.builtin "staticmethod.__get__") (.ref p) .none (.ref C))
  ga : PySem.W.specialIn K (.ref C) "__getattribute__" = some (some (.builtin "type.__getattribute__"))
  rc : ∃ rest, PySem.W.recIn K p "staticmethod" = some (.ref g :: rest)
  kp : PySem.W.keepIn K (.ref g) = true
def tStatic (C : Addr) (sp : Sp) (dvs : List V) (E : XK) (ta : TE) (t : TA) : TE := fun σ H Q => ta σ H fun x H1 => x = .ref C ∧ t σ H1 fun vs H2 => sp (vs ++ dvs) H2 Q E
section
variable {X : Cx} {CX : CXT} {C p g : Addr} {k : Nat} {fd : FuncData} {ps : List Str} {sp : Sp} {E : XK} {ds : List Value} {dvs : List V} {o e : Expr} {es : List Expr} {m : Str} {pos apos : Pos} {ta : TE} {t : TA} {pl : Sem Bool}
theorem pe_static (he : PE X o ta) (c : SMet X.K C m p g) (F : FnOk X.prog X.w X.K X.mg X.base CX k g fd ps sp) (hr : Room k X.A) (b : Binds X.K fd ps ds) (d : Vals dvs ds) (hx : Passes CX X E) (ha : PA X (e :: es) t)
    (hst : starEach (e :: es) X.env = (false, eval e X.env) :: starEach es X.env := by rfl) (hpl : (backTo pos (starEach es X.env)).any (·.1) = false := by rfl)
    (ht : eval (.Call (.Attribute o m apos) (e :: es) [] pos) X.env = (do
      let ov ← eval o X.env
      standAt apos.atName
      let (f, first) ← holding [ov] (getMethod ov m pl)
      callWith pos f first (backTo pos (starEach (e :: es) X.env)) (backToKw pos (keywordEach [] X.env))) := by rfl) :
    PE X (.Call (.Attribute o m apos) (e :: es) [] pos) (tStatic C sp dvs E ta t) := by
  refine ⟨fun pins s σ H Q I h => ?_⟩
  refine PySem.W.methodCall_KW (pl := pl) (thn (he.run pins s σ H _ I h) fun u s1 ⟨x, H1, I1, rx, ex, q⟩ => ?_) ht
  subst ex
  obtain rfl : u = Value.ref C := rx
  obtain ⟨mc, h1, h2, h3⟩ := c.mc
  obtain ⟨rest, h4⟩ := c.rc
  obtain ⟨fm, hF⟩ := I1.fr
  refine PySem.W.method_cls I1.kIn c.ga (PySem.W.cls_sm hF I1.ok.mod.kin h1 h2 h3 h4 rfl ?_)
  have I2 : Inv X pins σ H1 { s1 with toks := s1.toks + 1 } := I1.tok _
  refine PySem.W.callWith_K (h₀ := X.base) I2.ok.mod.kin c.kp (thn (ha.run pos pins _ σ H1 _ I2 q) fun us s3 ⟨vs, H2, I3, rv, q2⟩ => ⟨I3.kIn, ?_⟩) hst hpl
  exact run_fn F hr b d hx I3 rv q2
end
end Lw
namespace Lw
open PySem PySem.Spec PyProof.Rows L2

/-! ### own operators: + - * // % and the sign, of instances of one class and of a built-in value beside -/
section
variable {X : Cx} {C : Addr} {k j : Nat} {sp : Sp} {pins : List (Addr × Obj)} {σ : L2.St} {H : Hp} {s : Shared}
theorem ins_at {a dx : Addr} {fs : List (Str × V)} (I : Inv X pins σ H s) (h : H a = some (.ins C dx fs)) : ∃ ox od, PySem.W.InstAt s.heap a ox C (some od) := by
  obtain ⟨mA, O, _⟩ := ins_get I.hok h
  obtain ⟨od, J, _⟩ := O.look
  exact ⟨_, od, J⟩
/-- a method of the class, called with an instance and another value -/
theorem run_two {m : Str} {us : List Value} {vs : List V} {Q : VK} (M : C8.Met X.prog X.w X.K X.mg X.base k C m sp []) (hr : Room j X.A) (hk : k ≤ j) (I : Inv X pins σ H s) (r : Vals vs us) (q : sp vs H Q C8.E0) :
    ∃ g : Addr, Meth X.K C m g ∧ wpAny (model X.prog X.w) X.A (call (.ref g) us) (PySem.W.CmpBack (EP X pins σ Q)) X.xe s := by
  obtain ⟨g, fd, ps, ds, hC, hm, F, b, d⟩ := M.ex
  have q' : sp (vs ++ []) H Q C8.E0 := by rw [List.append_nil]; exact q
  refine ⟨g, hm, wpAny_mono (run_fn F (hr.mono hk) b d C8.pass0 I r q') (fun w s' z => ?_) fun _ _ x => x⟩
  obtain ⟨z', H', I', rz, qz⟩ := z
  exact SlX.cmpback rz ⟨z', H', I', rz, qz⟩
def rSame (C : Addr) (sp : Sp) : R2 := fun x y H Q => ∃ a dx fs b dy gs, x = .ref a ∧ y = .ref b ∧ H a = some (.ins C dx fs) ∧ H b = some (.ins C dy gs) ∧ sp [x, y] H Q C8.E0
theorem op_same {op : Operator} (M : C8.Met X.prog X.w X.K X.mg X.base k C (PySem.dunder op.info.2) sp []) (hc : PySem.W.selfFirst X.K C = true) (hr : Room j X.A) (hk : k ≤ j) : OpR X (binaryOp op) (rSame C sp) := by
  intro pins s σ H x y v u Q I rx ry h
  obtain ⟨a, dx, fs, b, dy, gs, rfl, rfl, ha, hb, q⟩ := h
  cases (show v = Value.ref a from rx)
  cases (show u = Value.ref b from ry)
  obtain ⟨_, _, J⟩ := ins_at I ha
  obtain ⟨_, _, J'⟩ := ins_at I hb
  obtain ⟨g, hm, w⟩ := run_two (us := [.ref a, .ref b]) (vs := [.ref a, .ref b]) M hr hk I (.cons rfl (.cons rfl .nil)) q
  obtain ⟨m, hF⟩ := I.fr
  exact PySem.W.binop_K hF I.ok.mod.kin J J'.type hc hm.at_ hm.fn w
/-- what the operator asks of the class and of a built-in type beside it -/
structure Beside (K : PySem.W.Frag) (C : Addr) (op : Operator) (T : String) : Prop where
  first : PySem.W.selfFirst K C = true
  back : ∃ rc, PySem.W.findIn K (.ref C) (dunderR op.info.2) = some rc ∧ (rc = none ∨ ∃ g : Addr, rc = some (.ref g))
  ahead : ∃ fo, PySem.W.findIn K (.type T) (PySem.dunder op.info.2) = some fo
  behind : ∃ ro, PySem.W.findIn K (.type T) (dunderR op.info.2) = some ro
  sub : PySem.W.subIn K (.type T) (.ref C) = some false
/-- a built-in value's kind, as typeOf tells it -/
inductive Kind : V → String → Prop where
  | int (i : Int) : Kind (.int i) "int"
  | bl (b : Bool) : Kind (.bl b) "bool"
  | non : Kind .non "NoneType"
  | str (z : Str) : Kind (.str z) "str"
theorem Kind.type {y : V} {T : String} {u : Value} (h : Kind y T) (r : RelV y u) : typeOf u = pure (.type T) := by
  cases h with
  | int i => obtain ⟨t, e⟩ := (show ∃ t, u = Value.int i t from r); subst e; rfl
  | bl b => cases (show u = Value.bool b from r); rfl
  | non => cases (show u = Value.none from r); rfl
  | str z => obtain ⟨t, e⟩ := (show ∃ t, u = Value.str z t from r); subst e; rfl
def rBeside (K : PySem.W.Frag) (C : Addr) (op : Operator) (sp : Sp) : R2 := fun x y H Q => ∃ a dx fs T, x = .ref a ∧ H a = some (.ins C dx fs) ∧ Kind y T ∧ Beside K C op T ∧ sp [x, y] H Q C8.E0
theorem op_beside {op : Operator} (M : C8.Met X.prog X.w X.K X.mg X.base k C (PySem.dunder op.info.2) sp []) (hr : Room j X.A) (hk : k ≤ j) : OpR X (binaryOp op) (rBeside X.K C op sp) := by
  intro pins s σ H x y v u Q I rx ry h
  obtain ⟨a, dx, fs, T, rfl, ha, hT, hB, q⟩ := h
  cases (show v = Value.ref a from rx)
  obtain ⟨_, _, J⟩ := ins_at I ha
  obtain ⟨g, hm, w⟩ := run_two (us := [.ref a, u]) (vs := [.ref a, y]) M hr hk I (.cons rfl (.cons ry .nil)) q
  obtain ⟨m, hF⟩ := I.fr
  obtain ⟨rc, r1, r2⟩ := hB.back
  obtain ⟨fo, f1⟩ := hB.ahead
  obtain ⟨ro, o1⟩ := hB.behind
  exact PySem.W.ksp_binT hF I.ok.mod.kin J (hT.type ry) hB.first hm.at_ hm.fn r1 r2 f1 o1 hB.sub w
def rSign (C : Addr) (sp : Sp) : V → Hp → VK → Prop := fun x H Q => ∃ a dx fs, x = .ref a ∧ H a = some (.ins C dx fs) ∧ sp [x] H Q C8.E0
theorem un_sign (M : C8.Met X.prog X.w X.K X.mg X.base k C "__neg__" sp []) (hr : Room j X.A) (hk : k ≤ j) : UnR X (unaryOp .USub) (rSign C sp) := by
  intro pins s σ H x v Q I rx h
  obtain ⟨a, dx, fs, rfl, ha, q⟩ := h
  cases (show v = Value.ref a from rx)
  obtain ⟨_, _, J⟩ := ins_at I ha
  obtain ⟨g, fd, ps, ds, hC, hm, F, b, d⟩ := M.ex
  obtain ⟨m, hF⟩ := I.fr
  have q' : sp ([V.ref a] ++ []) H Q C8.E0 := q
  exact PySem.W.ksp_neg hF I.ok.mod.kin J hm.at_ hm.fn (run_fn (us := [.ref a]) (vs := [.ref a]) F (hr.mono hk) b d C8.pass0 I (.cons rfl .nil) q')
end
end Lw
namespace Lw.Ow
open PySem PySem.Spec PyProof.Rows PySem.W PySem.Calls

/-! ### own operators, the instance on the right -/
section
variable {prog : Program} {w : World} {A : Around} {E : Value → Shared → Prop} {s : Shared} {K : Frag} {x C f g : Addr} {ox : Obj} {od : Option Obj}
theorem right_bare {op : Operator} {a : Value} {T : String} {Q : Value → Shared → Prop} (X : K.In s.heap) (I : InstAt s.heap x ox C od) (ht : Looks (model prog w) s.heap (typeOf a) (.type T)) (hc : selfFirst K C = true) (hs : findIn K (.ref C) (PySem.dunder op.info.2) = some (some (.ref f))) (hr : findIn K (.ref C) (dunderR op.info.2) = some (some (.ref g)))
    (hg : isFn K (.ref g) = true) (hL : fillsNumberSlot (.type T) op.info.2 = pure false) (h : wpAny (model prog w) A (call (.ref g) [.ref x, a]) (PySem.W.CmpBack Q) E s) : wpAny (model prog w) A (binaryOp op a (.ref x)) Q E s := by
  obtain ⟨cd, rest, hcd, hm⟩ := ksp_first hc
  rcases hi : op.info with ⟨sym, nm⟩
  rw [hi] at hs hr hL
  dsimp only at hs hr hL
  have one := ksp_try X I hr hg h
  obtain ⟨hh, gg, d, tt, os⟩ := s
  have L2 : Looks (model prog w) hh (typeOf (.ref x)) (.ref C) := I.type
  have L3 : Looks (model prog w) hh (fillsNumberSlot (.ref C) nm) true := fills_K X hcd hm hs
  have hne : (Value.type T == Value.ref C) = false := Bool.eq_false_iff.mpr fun q => by cases beq_iff_eq.mp q
  simp only [binaryOp, hi]
  refine wpAny_holding (wpAny_bind ?_)
  unfold binaryOp1
  refine wpAny_bind (ht.at (wpAny_bind (L2.at (wpAny_bind (wpAny_of_eq hL ?_)))))
  simp only [hne, Bool.false_eq_true, if_false]
  refine wpAny_bind (L3.at ?_)
  simp only [Bool.false_and, Bool.false_eq_true, if_false, pure_bind, Bool.not_false, Bool.and_true, if_true]
  refine wpAny_bind (wpAny_mono one (fun r s' hr' => ?_) fun _ _ e => e)
  obtain ⟨v, rfl, hq⟩ := hr'
  exact wpAny_bind (wpAny_rule (wpAny_pure (wpAny_pure hq)))
theorem right_number {op : Operator} {a : Value} {T id : String} {Q : Value → Shared → Prop} (X : K.In s.heap) (I : InstAt s.heap x ox C od) (ht : typeOf a = pure (.type T)) (hT : s.TypeIs a T) (hc : selfFirst K C = true) (hs : findIn K (.ref C) (PySem.dunder op.info.2) = some (some (.ref f))) (hr : findIn K (.ref C) (dunderR op.info.2) = some (some (.ref g)))
    (hg : isFn K (.ref g) = true) (hL : fillsNumberSlot (.type T) op.info.2 = pure true) (hsub : subIn K (.ref C) (.type T) = some false) (sl : Slot T (PySem.dunder op.info.2) id) (hd : ∀ Q' : Value → Shared → Prop, Q' .notImplemented s → wpAny (model prog w) A (call (.builtin id) [a, .ref x]) Q' E s)
    (h : wpAny (model prog w) A (call (.ref g) [.ref x, a]) (PySem.W.CmpBack Q) E s) : wpAny (model prog w) A (binaryOp op a (.ref x)) Q E s := by
  obtain ⟨cd, rest, hcd, hm⟩ := ksp_first hc
  rcases hi : op.info with ⟨sym, nm⟩
  rw [hi] at hs hr hL sl
  dsimp only at hs hr hL sl
  have one := ksp_try X I hr hg h
  have two := wpAny_tryMethod_declines (Q := fun r s' => r = none ∧ s' = s) hT sl (hd _ ⟨rfl, rfl, rfl⟩)
  obtain ⟨hh, gg, d, tt, os⟩ := s
  have L2 : Looks (model prog w) hh (typeOf (.ref x)) (.ref C) := I.type
  have L3 : Looks (model prog w) hh (fillsNumberSlot (.ref C) nm) true := fills_K X hcd hm hs
  have L4 : Looks (model prog w) hh (isSubtype (.ref C) (.type T)) false := looks_subIn X hsub
  have hpy : numberSlotInPython (.type T) nm = pure false := rfl
  have hne : (Value.type T == Value.ref C) = false := Bool.eq_false_iff.mpr fun q => by cases beq_iff_eq.mp q
  simp only [binaryOp, hi]
  refine wpAny_holding (wpAny_bind ?_)
  unfold binaryOp1
  refine wpAny_bind (wpAny_of_eq ht (wpAny_bind (L2.at (wpAny_bind (wpAny_of_eq hL ?_)))))
  simp only [hne, Bool.false_eq_true, if_false]
  refine wpAny_bind (L3.at ?_)
  simp only [Bool.and_self, if_true]
  refine wpAny_bind (L4.at ?_)
  simp only [Bool.false_eq_true, if_false, pure_bind, Bool.not_false, Bool.and_self, if_true, hpy]
  refine wpAny_bind (wpAny_mono two (fun r s' z => ?_) fun _ _ e => e)
  obtain ⟨rfl, rfl⟩ := z
  refine wpAny_bind (wpAny_mono one (fun r s' hr' => ?_) fun _ _ e => e)
  obtain ⟨v, rfl, hq⟩ := hr'
  exact wpAny_bind (wpAny_rule (wpAny_pure (wpAny_pure hq)))
end
end Lw.Ow
namespace Lw.Ow
open PySem PySem.Spec PyProof.Rows

section
variable {prog : Program} {w : World} {A : Around} {E : Value → Shared → Prop} {s : Shared}
theorem binary_no {nm : String} {f : Int → Int → Sem Fin} {i : Int} {t : Tok} {x : Addr} {o : Obj} {Q : Value → Shared → Prop} (ho : s.heap.get? x = some o) (hp : o.data = .plain) (h : Q .notImplemented s) :
    wpAny (model prog w) A (Builtin.Int.intBinary nm f false ⟨[.int i t, .ref x], []⟩) (fun fin s' => ∃ v, fin = .done (.ret v) ∧ Q v s') E s := by
  unfold Builtin.Int.intBinary
  refine wpAny_bind (wpAny_of_eq (a := (Value.int i t, [Value.ref x])) rfl ?_)
  refine wpAny_bind (wpAny_of_eq (a := i) rfl ?_)
  refine wpAny_bind ?_
  show wpAny _ _ (load x >>= fun ob => match ob.data with | .prim (.int i _) => pure (some i) | _ => pure none) _ _ _
  refine wpAny_bind (wpAny_load ho ?_)
  rw [hp]
  exact wpAny_pure (wpAny_bind (wpAny_rule (wpAny_pure ⟨_, rfl, h⟩)))
theorem no_add {i : Int} {t : Tok} {x : Addr} {o : Obj} {Q : Value → Shared → Prop} (ho : s.heap.get? x = some o) (hp : o.data = .plain) (h : Q .notImplemented s) : wpAny (model prog w) A (call (.builtin "int.__add__") [.int i t, .ref x]) Q E s :=
  wpAny_call_entry F.slot_int_add (typeIs_int s i t) F.entry_int_add (binary_no ho hp h) (F.args_int_add_2 _ _)
theorem no_sub {i : Int} {t : Tok} {x : Addr} {o : Obj} {Q : Value → Shared → Prop} (ho : s.heap.get? x = some o) (hp : o.data = .plain) (h : Q .notImplemented s) : wpAny (model prog w) A (call (.builtin "int.__sub__") [.int i t, .ref x]) Q E s :=
  wpAny_call_entry F.slot_int_sub (typeIs_int s i t) F.entry_int_sub (binary_no ho hp h) (F.args_int_sub_2 _ _)
theorem no_mul {i : Int} {t : Tok} {x : Addr} {o : Obj} {Q : Value → Shared → Prop} (ho : s.heap.get? x = some o) (hp : o.data = .plain) (h : Q .notImplemented s) : wpAny (model prog w) A (call (.builtin "int.__mul__") [.int i t, .ref x]) Q E s :=
  wpAny_call_entry F.slot_int_mul (typeIs_int s i t) F.entry_int_mul (binary_no ho hp h) (F.args_int_mul_2 _ _)
theorem no_mod {i : Int} {t : Tok} {x : Addr} {o : Obj} {Q : Value → Shared → Prop} (ho : s.heap.get? x = some o) (hp : o.data = .plain) (h : Q .notImplemented s) : wpAny (model prog w) A (call (.builtin "int.__mod__") [.int i t, .ref x]) Q E s :=
  wpAny_call_entry F.slot_int_mod (typeIs_int s i t) F.entry_int_mod (binary_no ho hp h) (F.args_int_mod_2 _ _)
theorem no_floordiv {i : Int} {t : Tok} {x : Addr} {o : Obj} {Q : Value → Shared → Prop} (ho : s.heap.get? x = some o) (hp : o.data = .plain) (h : Q .notImplemented s) : wpAny (model prog w) A (call (.builtin "int.__floordiv__") [.int i t, .ref x]) Q E s := by
  refine wpAny_call_entry F.slot_int_floordiv (typeIs_int s i t) F.entry_int_floordiv ?_ (F.args_int_floordiv_2 _ _)
  unfold Builtin.«int.__floordiv__»
  refine wpAny_bind ?_
  unfold Builtin.exactOperandsForPylong
  rw [if_pos (by rfl)]
  dsimp only
  refine wpAny_bind (wpAny_of_eq (a := some i) rfl ?_)
  refine wpAny_bind ?_
  show wpAny _ _ (load x >>= fun ob => match ob.data with | .prim (.int i _) => pure (some i) | _ => pure none) _ _ _
  refine wpAny_bind (wpAny_load ho ?_)
  rw [hp]
  exact wpAny_pure (wpAny_pure (binary_no ho hp h))
end

end Lw.Ow
namespace Lw
open PySem PySem.Spec PyProof.Rows L2
section
variable {X : Cx} {C f : Addr} {k j : Nat} {sp : Sp}
def rRight (C : Addr) (P : V → Prop) (sp : Sp) : R2 := fun x y H Q => ∃ a dx fs, P x ∧ y = .ref a ∧ H a = some (.ins C dx fs) ∧ sp [y, x] H Q C8.E0
theorem ins_plain {pins : List (Addr × Obj)} {σ : L2.St} {H : Hp} {s : Shared} {a dx : Addr} {fs : List (Str × V)} (I : Inv X pins σ H s) (h : H a = some (.ins C dx fs)) : ∃ ox od, PySem.W.InstAt s.heap a ox C (some od) ∧ s.heap.get? a = some ox ∧ ox.data = .plain := by
  obtain ⟨mA, O, _⟩ := ins_get I.hok h
  obtain ⟨od, J, _⟩ := O.look
  exact ⟨_, od, J, J.at_, rfl⟩
/-- an int beside an instance on the right -/
theorem op_rightI {op : Operator} {id : String} (M : C8.Met X.prog X.w X.K X.mg X.base k C (dunderR op.info.2) sp []) (hc : PySem.W.selfFirst X.K C = true) (hs : PySem.W.findIn X.K (.ref C) (PySem.dunder op.info.2) = some (some (.ref f))) (hL : fillsNumberSlot (.type "int") op.info.2 = pure true)
    (hsub : PySem.W.subIn X.K (.ref C) (.type "int") = some false) (sl : Slot "int" (PySem.dunder op.info.2) id) (hd : ∀ {A : Around} {E : Value → Shared → Prop} {s : Shared} {i : Int} {t : Tok} {x : Addr} {o : Obj} {Q' : Value → Shared → Prop}, s.heap.get? x = some o → o.data = .plain → Q' .notImplemented s → wpAny (model X.prog X.w) A (call (.builtin id) [.int i t, .ref x]) Q' E s)
    (hr : Room j X.A) (hk : k ≤ j) : OpR X (binaryOp op) (rRight C (fun x => ∃ i, x = .int i) sp) := by
  intro pins s σ H x y v u Q I rx ry h
  obtain ⟨a, dx, fs, ⟨i, rfl⟩, rfl, ha, q⟩ := h
  cases (show u = Value.ref a from ry)
  obtain ⟨t, rfl⟩ := (show ∃ t, v = Value.int i t from rx)
  obtain ⟨ox, od, J, hx, hp⟩ := ins_plain I ha
  obtain ⟨g, hm, w⟩ := run_two (us := [.ref a, .int i t]) (vs := [.ref a, .int i]) M hr hk I (.cons rfl (.cons ⟨t, rfl⟩ .nil)) q
  exact Ow.right_number I.kIn J rfl (typeIs_int s i t) hc hs hm.at_ hm.fn hL hsub sl (fun Q' z => hd hx hp z) w
/-- a value whose type has no number slot for the operator -/
theorem op_rightB {op : Operator} {T : String} (M : C8.Met X.prog X.w X.K X.mg X.base k C (dunderR op.info.2) sp []) (hc : PySem.W.selfFirst X.K C = true) (hs : PySem.W.findIn X.K (.ref C) (PySem.dunder op.info.2) = some (some (.ref f))) (hL : fillsNumberSlot (.type T) op.info.2 = pure false)
    (hr : Room j X.A) (hk : k ≤ j) : OpR X (binaryOp op) (rRight C (fun x => Kind x T) sp) := by
  intro pins s σ H x y v u Q I rx ry h
  obtain ⟨a, dx, fs, hT, rfl, ha, q⟩ := h
  cases (show u = Value.ref a from ry)
  obtain ⟨ox, od, J, hx, hp⟩ := ins_plain I ha
  obtain ⟨g, hm, w⟩ := run_two (us := [.ref a, v]) (vs := [.ref a, x]) M hr hk I (.cons rfl (.cons rx .nil)) q
  exact Ow.right_bare I.kIn J (PySem.W.Looks.of_pure (hT.type rx)) hc hs hm.at_ hm.fn hL w
end
end Lw
namespace Lw.Ow
open PySem PySem.Spec PyProof.Rows PySem.W PySem.Calls

/-! ### x op= y of instances whose class has no operator of that kind -/
section
variable {prog : Program} {w : World} {A : Around} {E : Value → Shared → Prop} {s : Shared} {K : Frag} {x C f g : Addr} {ox : Obj} {od : Option Obj}
/-- the operator's first half tells a value -/
def Told (Q : Value → Shared → Prop) (r : Option Value) (s' : Shared) : Prop := ∃ v, r = some v ∧ Q v s'
theorem half_same {nm : String} {b : Value} {Q : Value → Shared → Prop} (X : K.In s.heap) (I : InstAt s.heap x ox C od) (hb : Looks (model prog w) s.heap (typeOf b) (.ref C)) (hc : selfFirst K C = true) (hs : findIn K (.ref C) (PySem.dunder nm) = some (some (.ref f))) (hf : isFn K (.ref f) = true)
    (h : wpAny (model prog w) A (call (.ref f) [.ref x, b]) (PySem.W.CmpBack Q) E s) : wpAny (model prog w) A (binaryOp1 nm (.ref x) b) (Told Q) E s := by
  obtain ⟨cd, rest, hcd, hm⟩ := ksp_first hc
  have one := ksp_try X I hs hf h
  obtain ⟨hh, gg, d, tt, os⟩ := s
  have L1 : Looks (model prog w) hh (typeOf (.ref x)) (.ref C) := I.type
  have L2 : Looks (model prog w) hh (typeOf b) (.ref C) := hb
  have L3 : Looks (model prog w) hh (fillsNumberSlot (.ref C) nm) true := fills_K X hcd hm hs
  unfold binaryOp1
  refine wpAny_bind (L1.at (wpAny_bind (L2.at (wpAny_bind (L3.at ?_)))))
  simp only [beq_self_eq_true, if_true]
  refine wpAny_bind (wpAny_pure ?_)
  simp only [Bool.and_false, Bool.false_and, Bool.false_eq_true, if_false, if_true, pure_bind]
  refine wpAny_bind (wpAny_mono one (fun r s' z => ?_) fun _ _ e => e)
  obtain ⟨v, rfl, hq⟩ := z
  exact wpAny_pure ⟨v, rfl, hq⟩
/-- no class above has the operator of that kind -/
theorem bare_inplace {nm : String} {add : Bool} {cd : ClassData} {h : Heap} {M : Model} (X : K.In h) (hc : clsIn K C = some cd) (hm : cd.mro = [.ref C, .type "object"]) (h1 : findIn K (.ref C) (dunderI nm) = some none) (h2 : findIn K (.type "object") (dunderI nm) = some none) : Looks M h (fillsInplaceSlot (.ref C) nm add) false := by
  intro A Q E s k q
  have Lm : Looks M h (mroOf (.ref C)) cd.mro := (looks_clsIn X hc).andThen (f := fun cd => pure cd.mro) .now
  have Lm2 := Lm.keeps k
  obtain ⟨hh, gg, d, tt, os⟩ := s
  have X2 : K.In hh := X.keeps k
  have L1 : Looks M hh (typeLookup (.ref C) (dunderI nm)) none := looks_findIn X2 h1
  have L2 : Looks M hh (typeLookup (.type "object") (dunderI nm)) none := looks_findIn X2 h2
  unfold fillsInplaceSlot
  refine wpAny_bind (Lm2.at ?_)
  rw [hm, List.anyM_cons]
  refine wpAny_bind (wpAny_bind (L1.at ?_))
  refine wpAny_pure ?_
  rw [List.anyM_cons]
  refine wpAny_bind (wpAny_bind (L2.at ?_))
  refine wpAny_pure ?_
  rw [List.anyM_nil]
  exact wpAny_pure q
theorem inplace_of {op : Operator} {b : Value} {cd : ClassData} {Q : Value → Shared → Prop} (X : K.In s.heap) (I : InstAt s.heap x ox C od) (hc : clsIn K C = some cd) (hm : cd.mro = [.ref C, .type "object"]) (h1 : findIn K (.ref C) (dunderI op.info.2) = some none) (h2 : findIn K (.type "object") (dunderI op.info.2) = some none)
    (h : wpAny (model prog w) A (binaryOp1 op.info.2 (.ref x) b) (Told Q) E s) : wpAny (model prog w) A (inplaceOp op (.ref x) b) Q E s := by
  have L1 : Looks (model prog w) s.heap (typeOf (.ref x)) (.ref C) := I.type
  have L2 : Looks (model prog w) s.heap (fillsInplaceSlot (.ref C) op.info.2 (op == .Add)) false := bare_inplace X hc hm h1 h2
  unfold inplaceOp
  refine wpAny_holding ?_
  refine wpAny_bind (L1.here (wpAny_bind (L2.here ?_)))
  simp only [Bool.false_eq_true, if_false, pure_bind]
  refine wpAny_bind (wpAny_mono h (fun r s' z => ?_) fun _ _ e => e)
  obtain ⟨v, rfl, hq⟩ := z
  exact wpAny_pure hq
end
end Lw.Ow
namespace Lw.Ow
open PySem PySem.Spec PyProof.Rows PySem.W PySem.Calls

section
variable {prog : Program} {w : World} {A : Around} {E : Value → Shared → Prop} {s : Shared} {K : Frag} {x C f g : Addr} {ox : Obj} {od : Option Obj}
theorem half_left {nm : String} {b : Value} {T : String} {fo ro rc : Option Value} {Q : Value → Shared → Prop} (X : K.In s.heap) (I : InstAt s.heap x ox C od) (hb : Looks (model prog w) s.heap (typeOf b) (.type T)) (hc : selfFirst K C = true) (hs : findIn K (.ref C) (PySem.dunder nm) = some (some (.ref f))) (hf : isFn K (.ref f) = true)
    (hr : findIn K (.ref C) (dunderR nm) = some rc) (hp : rc = none ∨ ∃ g : Addr, rc = some (.ref g)) (h1 : findIn K (.type T) (PySem.dunder nm) = some fo) (h2 : findIn K (.type T) (dunderR nm) = some ro) (hsub : subIn K (.type T) (.ref C) = some false)
    (h : wpAny (model prog w) A (call (.ref f) [.ref x, b]) (PySem.W.CmpBack Q) E s) : wpAny (model prog w) A (binaryOp1 nm (.ref x) b) (Told Q) E s := by
  obtain ⟨cd, rest, hcd, hm⟩ := ksp_first hc
  have one := ksp_try X I hs hf h
  obtain ⟨hh, gg, d, tt, os⟩ := s
  have L1 : Looks (model prog w) hh (typeOf (.ref x)) (.ref C) := I.type
  have L3 : Looks (model prog w) hh (fillsNumberSlot (.ref C) nm) true := fills_K X hcd hm hs
  have L4 : Looks (model prog w) hh (fillsNumberSlot (.type T) nm) ((fo.isSome && !isSeqSlot fo) || (ro.isSome && !isSeqSlot ro)) := ksp_fillsT X h1 h2
  have L5 : Looks (model prog w) hh (isSubtype (.type T) (.ref C)) false := looks_subIn X hsub
  have L6 : Looks (model prog w) hh (numberSlotInPython (.ref C) nm) true := ksp_inPy X hs hr hp
  have L7 : Looks (model prog w) hh (numberSlotInPython (.type T) nm) false := Looks.of_pure rfl
  have L8 : Looks (model prog w) hh (typeLookup (.type T) (dunderR nm)) ro := looks_findIn X h2
  have hne : (Value.ref C == Value.type T) = false := Bool.eq_false_iff.mpr fun q => by cases beq_iff_eq.mp q
  have done : ∀ {r : Option Value} {s' : Shared}, (∃ v, r = some v ∧ Q v s') → ∃ v, r = some v ∧ Told Q r s' := fun ⟨v, e, q⟩ => ⟨v, e, v, e, q⟩
  generalize ((fo.isSome && !isSeqSlot fo) || (ro.isSome && !isSeqSlot ro)) = right at L4
  unfold binaryOp1
  refine wpAny_bind (L1.at (wpAny_bind (hb.at (wpAny_bind (L3.at ?_)))))
  simp only [hne, Bool.false_eq_true, if_false]
  refine wpAny_bind (L4.at ?_)
  cases right with
  | false =>
    simp only [Bool.and_false, Bool.false_and, Bool.false_eq_true, if_false, if_true, pure_bind]
    refine wpAny_bind (wpAny_mono one (fun r s' z => ?_) fun _ _ e => e)
    obtain ⟨v, rfl, hq⟩ := z
    exact wpAny_pure ⟨v, rfl, hq⟩
  | true =>
    simp only [Bool.and_self, if_true]
    refine wpAny_bind (L5.at ?_)
    simp only [Bool.false_eq_true, if_false, if_true, Bool.not_false, Bool.and_self]
    refine wpAny_bind (L6.at ?_)
    simp only [if_true]
    refine wpAny_bind (L7.at ?_)
    simp only [Bool.not_false, if_true]
    refine wpAny_bind (L8.at ?_)
    refine wpAny_bind (wpAny_mono one (fun r s' z => ?_) fun _ _ e => e)
    obtain ⟨v, rfl, hq⟩ := z
    exact wpAny_pure ⟨v, rfl, hq⟩
theorem half_number {nm : String} {a : Value} {T id : String} {Q : Value → Shared → Prop} (X : K.In s.heap) (I : InstAt s.heap x ox C od) (ht : typeOf a = pure (.type T)) (hT : s.TypeIs a T) (hc : selfFirst K C = true) (hs : findIn K (.ref C) (PySem.dunder nm) = some (some (.ref f))) (hr : findIn K (.ref C) (dunderR nm) = some (some (.ref g)))
    (hg : isFn K (.ref g) = true) (hL : fillsNumberSlot (.type T) nm = pure true) (hsub : subIn K (.ref C) (.type T) = some false) (sl : Slot T (PySem.dunder nm) id) (hd : ∀ Q' : Value → Shared → Prop, Q' .notImplemented s → wpAny (model prog w) A (call (.builtin id) [a, .ref x]) Q' E s)
    (h : wpAny (model prog w) A (call (.ref g) [.ref x, a]) (PySem.W.CmpBack Q) E s) : wpAny (model prog w) A (binaryOp1 nm a (.ref x)) (Told Q) E s := by
  obtain ⟨cd, rest, hcd, hm⟩ := ksp_first hc
  have one := ksp_try X I hr hg h
  have two := wpAny_tryMethod_declines (Q := fun r s' => r = none ∧ s' = s) hT sl (hd _ ⟨rfl, rfl, rfl⟩)
  obtain ⟨hh, gg, d, tt, os⟩ := s
  have L2 : Looks (model prog w) hh (typeOf (.ref x)) (.ref C) := I.type
  have L3 : Looks (model prog w) hh (fillsNumberSlot (.ref C) nm) true := fills_K X hcd hm hs
  have L4 : Looks (model prog w) hh (isSubtype (.ref C) (.type T)) false := looks_subIn X hsub
  have hpy : numberSlotInPython (.type T) nm = pure false := rfl
  have hne : (Value.type T == Value.ref C) = false := Bool.eq_false_iff.mpr fun q => by cases beq_iff_eq.mp q
  unfold binaryOp1
  refine wpAny_bind (wpAny_of_eq ht (wpAny_bind (L2.at (wpAny_bind (wpAny_of_eq hL ?_)))))
  simp only [hne, Bool.false_eq_true, if_false]
  refine wpAny_bind (L3.at ?_)
  simp only [Bool.and_self, if_true]
  refine wpAny_bind (L4.at ?_)
  simp only [Bool.false_eq_true, if_false, pure_bind, Bool.not_false, Bool.and_self, if_true, hpy]
  refine wpAny_bind (wpAny_mono two (fun r s' z => ?_) fun _ _ e => e)
  obtain ⟨rfl, rfl⟩ := z
  refine wpAny_bind (wpAny_mono one (fun r s' z => ?_) fun _ _ e => e)
  obtain ⟨v, rfl, hq⟩ := z
  exact wpAny_bind (wpAny_rule (wpAny_pure ⟨v, rfl, hq⟩))
end
end Lw.Ow
namespace Lw
open PySem PySem.Spec PyProof.Rows L2

/-- a class right below object that has no operator of the kind op= -/
structure NoInplace (K : PySem.W.Frag) (C : Addr) (op : Operator) : Prop where
  mro : ∃ cd, PySem.W.clsIn K C = some cd ∧ cd.mro = [.ref C, .type "object"]
  own : PySem.W.findIn K (.ref C) (dunderI op.info.2) = some none
  obj : PySem.W.findIn K (.type "object") (dunderI op.info.2) = some none
section
variable {X : Cx} {C f : Addr} {k j : Nat} {sp : Sp}
theorem iop_same {op : Operator} (M : C8.Met X.prog X.w X.K X.mg X.base k C (PySem.dunder op.info.2) sp []) (hc : PySem.W.selfFirst X.K C = true) (ni : NoInplace X.K C op) (hr : Room j X.A) (hk : k ≤ j) : OpR X (inplaceOp op) (rSame C sp) := by
  intro pins s σ H x y v u Q I rx ry h
  obtain ⟨a, dx, fs, b, dy, gs, rfl, rfl, ha, hb, q⟩ := h
  cases (show v = Value.ref a from rx)
  cases (show u = Value.ref b from ry)
  obtain ⟨_, _, J⟩ := ins_at I ha
  obtain ⟨_, _, J'⟩ := ins_at I hb
  obtain ⟨g, hm, w⟩ := run_two (us := [.ref a, .ref b]) (vs := [.ref a, .ref b]) M hr hk I (.cons rfl (.cons rfl .nil)) q
  obtain ⟨cd, h1, h2⟩ := ni.mro
  exact Ow.inplace_of I.kIn J h1 h2 ni.own ni.obj (Ow.half_same I.kIn J J'.type hc hm.at_ hm.fn w)
theorem iop_beside {op : Operator} (M : C8.Met X.prog X.w X.K X.mg X.base k C (PySem.dunder op.info.2) sp []) (ni : NoInplace X.K C op) (hr : Room j X.A) (hk : k ≤ j) : OpR X (inplaceOp op) (rBeside X.K C op sp) := by
  intro pins s σ H x y v u Q I rx ry h
  obtain ⟨a, dx, fs, T, rfl, ha, hT, hB, q⟩ := h
  cases (show v = Value.ref a from rx)
  obtain ⟨_, _, J⟩ := ins_at I ha
  obtain ⟨g, hm, w⟩ := run_two (us := [.ref a, u]) (vs := [.ref a, y]) M hr hk I (.cons rfl (.cons ry .nil)) q
  obtain ⟨cd, h1, h2⟩ := ni.mro
  obtain ⟨rc, r1, r2⟩ := hB.back
  obtain ⟨fo, f1⟩ := hB.ahead
  obtain ⟨ro, o1⟩ := hB.behind
  exact Ow.inplace_of I.kIn J h1 h2 ni.own ni.obj (Ow.half_left I.kIn J (PySem.W.Looks.of_pure (hT.type ry)) hB.first hm.at_ hm.fn r1 r2 f1 o1 hB.sub w)
/-- i op= x, i an int, x an instance -/
theorem iop_rightI {op : Operator} {id : String} (M : C8.Met X.prog X.w X.K X.mg X.base k C (dunderR op.info.2) sp []) (hc : PySem.W.selfFirst X.K C = true) (hs : PySem.W.findIn X.K (.ref C) (PySem.dunder op.info.2) = some (some (.ref f))) (hL : fillsNumberSlot (.type "int") op.info.2 = pure true) (hI : fillsInplaceSlot (.type "int") op.info.2 (op == .Add) = pure false)
    (hsub : PySem.W.subIn X.K (.ref C) (.type "int") = some false) (sl : Slot "int" (PySem.dunder op.info.2) id) (hd : ∀ {A : Around} {E : Value → Shared → Prop} {s : Shared} {i : Int} {t : Tok} {x : Addr} {o : Obj} {Q' : Value → Shared → Prop}, s.heap.get? x = some o → o.data = .plain → Q' .notImplemented s → wpAny (model X.prog X.w) A (call (.builtin id) [.int i t, .ref x]) Q' E s)
    (hr : Room j X.A) (hk : k ≤ j) : OpR X (inplaceOp op) (rRight C (fun x => ∃ i, x = .int i) sp) := by
  intro pins s σ H x y v u Q I rx ry h
  obtain ⟨a, dx, fs, ⟨i, rfl⟩, rfl, ha, q⟩ := h
  cases (show u = Value.ref a from ry)
  obtain ⟨t, rfl⟩ := (show ∃ t, v = Value.int i t from rx)
  obtain ⟨ox, od, J, hx, hp⟩ := ins_plain I ha
  obtain ⟨g, hm, w⟩ := run_two (us := [.ref a, .int i t]) (vs := [.ref a, .int i]) M hr hk I (.cons rfl (.cons ⟨t, rfl⟩ .nil)) q
  have half := Ow.half_number I.kIn J rfl (typeIs_int s i t) hc hs hm.at_ hm.fn hL hsub sl (fun Q' z => hd hx hp z) w
  unfold inplaceOp
  refine wpAny_holding ?_
  refine wpAny_bind (wpAny_of_eq (a := Value.type "int") rfl (wpAny_bind (wpAny_of_eq hI ?_)))
  simp only [Bool.false_eq_true, if_false, pure_bind]
  refine wpAny_bind (wpAny_mono half (fun r s' z => ?_) fun _ _ e => e)
  obtain ⟨v, rfl, hq⟩ := z
  exact wpAny_pure hq
theorem int_no_inplace : fillsInplaceSlot (.type "int") "add" true = pure false ∧ fillsInplaceSlot (.type "int") "sub" false = pure false ∧ fillsInplaceSlot (.type "int") "mul" false = pure false := by
  refine ⟨?_, ?_, ?_⟩ <;> · simp only [fillsInplaceSlot, typeLookup_type]; rfl
end
end Lw
namespace Lw
open PySem PySem.Spec PyProof.Rows L2

/-! ### the same operators, their methods may raise -/
/-- a method of the class that may raise what E tells -/
structure MetX (P : Program) (w : World) (K : PySem.W.Frag) (mg : Str → Option Value) (base : Heap) (k : Nat) (C : Addr) (m : Str) (sp : Sp) : Prop where
  ex : ∃ (g : Addr) (fd : FuncData) (ps : List Str), Meth K C m g ∧ FnOk P w K mg base (L2.CX P w) k g fd ps sp ∧ Binds K fd ps []
section
variable {X : Cx} {C f : Addr} {k j : Nat} {sp : Sp} {E : XK} {pins : List (Addr × Obj)} {σ : L2.St} {H : Hp} {s : Shared}
theorem run_met {m : Str} {us : List Value} {vs : List V} {Q : VK} (M : MetX X.prog X.w X.K X.mg X.base k C m sp) (hx : Passes (L2.CX X.prog X.w) X E) (hr : Room j X.A) (hk : k ≤ j) (I : Inv X pins σ H s) (r : Vals vs us) (q : sp vs H Q E) :
    ∃ g : Addr, Meth X.K C m g ∧ wpAny (model X.prog X.w) X.A (call (.ref g) us) (PySem.W.CmpBack (EP X pins σ Q)) X.xe s ∧ wpAny (model X.prog X.w) X.A (call (.ref g) us) (EP X pins σ Q) X.xe s := by
  obtain ⟨g, fd, ps, hm, F, b⟩ := M.ex
  have q' : sp (vs ++ []) H Q E := by rw [List.append_nil]; exact q
  have ran := run_fn F (hr.mono hk) b .nil hx I r q'
  refine ⟨g, hm, wpAny_mono ran (fun w s' z => ?_) (fun _ _ x => x), ran⟩
  obtain ⟨z', H', I', rz, qz⟩ := z
  exact SlX.cmpback rz ⟨z', H', I', rz, qz⟩
def rSameX (C : Addr) (sp : Sp) (E : XK) : R2 := fun x y H Q => ∃ a dx fs b dy gs, x = .ref a ∧ y = .ref b ∧ H a = some (.ins C dx fs) ∧ H b = some (.ins C dy gs) ∧ sp [x, y] H Q E
theorem op_sameX {op : Operator} (M : MetX X.prog X.w X.K X.mg X.base k C (PySem.dunder op.info.2) sp) (hx : Passes (L2.CX X.prog X.w) X E) (hc : PySem.W.selfFirst X.K C = true) (hr : Room j X.A) (hk : k ≤ j) : OpR X (binaryOp op) (rSameX C sp E) := by
  intro pins s σ H x y v u Q I rx ry h
  obtain ⟨a, dx, fs, b, dy, gs, rfl, rfl, ha, hb, q⟩ := h
  cases (show v = Value.ref a from rx)
  cases (show u = Value.ref b from ry)
  obtain ⟨_, _, J⟩ := ins_at I ha
  obtain ⟨_, _, J'⟩ := ins_at I hb
  obtain ⟨g, hm, w, _⟩ := run_met (us := [.ref a, .ref b]) (vs := [.ref a, .ref b]) M hx hr hk I (.cons rfl (.cons rfl .nil)) q
  obtain ⟨m, hF⟩ := I.fr
  exact PySem.W.binop_K hF I.ok.mod.kin J J'.type hc hm.at_ hm.fn w
def rBesideX (K : PySem.W.Frag) (C : Addr) (op : Operator) (sp : Sp) (E : XK) : R2 := fun x y H Q => ∃ a dx fs T, x = .ref a ∧ H a = some (.ins C dx fs) ∧ Kind y T ∧ Beside K C op T ∧ sp [x, y] H Q E
theorem op_besideX {op : Operator} (M : MetX X.prog X.w X.K X.mg X.base k C (PySem.dunder op.info.2) sp) (hx : Passes (L2.CX X.prog X.w) X E) (hr : Room j X.A) (hk : k ≤ j) : OpR X (binaryOp op) (rBesideX X.K C op sp E) := by
  intro pins s σ H x y v u Q I rx ry h
  obtain ⟨a, dx, fs, T, rfl, ha, hT, hB, q⟩ := h
  cases (show v = Value.ref a from rx)
  obtain ⟨_, _, J⟩ := ins_at I ha
  obtain ⟨g, hm, w, _⟩ := run_met (us := [.ref a, u]) (vs := [.ref a, y]) M hx hr hk I (.cons rfl (.cons ry .nil)) q
  obtain ⟨m, hF⟩ := I.fr
  obtain ⟨rc, r1, r2⟩ := hB.back
  obtain ⟨fo, f1⟩ := hB.ahead
  obtain ⟨ro, o1⟩ := hB.behind
  exact PySem.W.ksp_binT hF I.ok.mod.kin J (hT.type ry) hB.first hm.at_ hm.fn r1 r2 f1 o1 hB.sub w
def rSignX (C : Addr) (sp : Sp) (E : XK) : V → Hp → VK → Prop := fun x H Q => ∃ a dx fs, x = .ref a ∧ H a = some (.ins C dx fs) ∧ sp [x] H Q E
theorem un_signX (M : MetX X.prog X.w X.K X.mg X.base k C "__neg__" sp) (hx : Passes (L2.CX X.prog X.w) X E) (hr : Room j X.A) (hk : k ≤ j) : UnR X (unaryOp .USub) (rSignX C sp E) := by
  intro pins s σ H x v Q I rx h
  obtain ⟨a, dx, fs, rfl, ha, q⟩ := h
  cases (show v = Value.ref a from rx)
  obtain ⟨_, _, J⟩ := ins_at I ha
  obtain ⟨g, hm, _, w⟩ := run_met (us := [.ref a]) (vs := [.ref a]) M hx hr hk I (.cons rfl .nil) q
  obtain ⟨m, hF⟩ := I.fr
  exact PySem.W.ksp_neg hF I.ok.mod.kin J hm.at_ hm.fn w
end
end Lw
namespace Lw
open PySem PySem.Spec PyProof.Rows L2
end Lw
namespace Lw.Zm
open PySem PySem.Spec PyProof.Rows L2
/-! ### zip of a list and a tuple -/
/-- the list at a and the tuple at b as they stand at each turn -/
def ItzM (K : PySem.W.Frag) (a b : Addr) : It where
  go i H := ∃ (xs ys : List V) (x y : V), (SqL K H a xs ∧ xs[i]? = some x) ∧ SqT K H b ys ∧ ys[i]? = some y
  yld i H v H' := ∃ T x y, (v = .ref T ∧ H T = none ∧ H' = upd H T (.tup [x, y])) ∧ (∀ xs, SqL K H a xs → xs[i]? = some x) ∧ ∀ ys, SqT K H b ys → ys[i]? = some y
  stop i H := ∃ xs ys : List V, SqL K H a xs ∧ SqT K H b ys ∧ xs.length = ys.length ∧ i = xs.length
theorem sep {z TI TO i1 i2 a b : Addr} (D : ZipApart z TI TO i1 i2 a b) : ZipSep2 z TI TO i1 i2 [i1, a] [i2, b] where
  TIz := D.TIz
  TOz := D.TOz
  TITO := D.TITO
  TIi1 := D.TIi1
  TIi2 := D.TIi2
  mem1 := List.mem_cons_self
  mem2 := List.mem_cons_self
  zf1 := fun h => by
    rcases List.mem_cons.mp h with e | h
    · exact D.i1z e.symm
    · exact D.l1z (List.mem_singleton.mp h).symm
  zf2 := fun h => by
    rcases List.mem_cons.mp h with e | h
    · exact D.i2z e.symm
    · exact D.l2z (List.mem_singleton.mp h).symm
  Tf1 := fun h => by
    rcases List.mem_cons.mp h with e | h
    · exact D.TOi1 e
    · exact D.l1TO (List.mem_singleton.mp h).symm
  Tf2 := fun h => by
    rcases List.mem_cons.mp h with e | h
    · exact D.TOi2 e
    · exact D.l2TO (List.mem_singleton.mp h).symm
  sep1_2 := fun h => by
    rcases List.mem_cons.mp h with e | h
    · exact D.i12 e
    · exact D.l2i1 (List.mem_singleton.mp h).symm
  sep2_1 := fun h => by
    rcases List.mem_cons.mp h with e | h
    · exact D.i12 e.symm
    · exact D.l1i2 (List.mem_singleton.mp h).symm
/-- how the five records of such a zip stand -/
def Rec (z TI TO i1 i2 a b : Addr) (i : Nat) (h : Heap) : Prop := (IsZip h z TI TO .none ∧ IsPair h TI (.ref i1) (.ref i2) ∧ ∃ x y, IsPair h TO x y) ∧ h.IsListIter i1 a i ∧ h.IsTupleIter i2 b i
theorem five {z TI TO i1 i2 c : Addr} (h : c ∈ [z, TI, TO, i1, i2]) : c = z ∨ c = TI ∨ c = TO ∨ c = i1 ∨ c = i2 := by simpa using h
theorem Rec.lt {z TI TO i1 i2 a b : Addr} {i : Nat} {h : Heap} (r : Rec z TI TO i1 i2 a b i h) : ∀ c ∈ [z, TI, TO, i1, i2], ∃ o, h.get? c = some o ∧ ∀ v, o.data ≠ .cell v := by
  obtain ⟨⟨r1, r2, p, q, r3⟩, ⟨o4, g4, _, d4⟩, o5, g5, _, d5⟩ := r
  intro c hc
  rcases five hc with rfl | rfl | rfl | rfl | rfl
  · exact ⟨_, r1, fun v z => nomatch z⟩
  · exact ⟨_, r2, fun v z => nomatch z⟩
  · exact ⟨_, r3, fun v z => nomatch z⟩
  · exact ⟨o4, g4, fun v z => by rw [d4] at z; cases z⟩
  · exact ⟨o5, g5, fun v z => by rw [d5] at z; cases z⟩
theorem turn {P : Program} {w : World} {K : PySem.W.Frag} {elts : List Expr} {kk : Nat} {tpos : Pos} {a b z TI TO i1 i2 : Addr} (D : ZipApart z TI TO i1 i2 a b) :
    Turn P w K (.Tuple elts kk tpos) (ItzM K a b) [z, TI, TO, i1, i2] z (Rec z TI TO i1 i2 a b) where
  mem := List.mem_cons_self
  obj := fun i h r => r.lt
  keep := fun i h h' r k => by
    obtain ⟨⟨r1, r2, p, q, r3⟩, r4, r5⟩ := r
    exact ⟨⟨k _ (by simp) _ r1, k _ (by simp) _ r2, p, q, k _ (by simp) _ r3⟩, r4.at fun o g => k _ (by simp) o g, r5.at fun o g => k _ (by simp) o g⟩
  item := by
    intro X hP hw hK hc i pins s σ H E I hf r hg
    subst hP
    subst hw
    subst hK
    have below := r.lt
    obtain ⟨⟨r1, r2, p, q, r3⟩, r4, r5⟩ := r
    obtain ⟨xs, ys, x, y, ⟨sx, ex⟩, sy, ey⟩ := hg
    obtain ⟨us, ru, pu, _⟩ := I.list sx
    obtain ⟨ws, rw', pw, _⟩ := I.tuple sy
    obtain ⟨u, hu, ru1⟩ := ru.get ex
    obtain ⟨v, hv, rv1⟩ := rw'.get ey
    have l1 : i < us.toArray.size := by
      have := (List.getElem?_eq_some_iff.mp hu).1
      simpa using this
    have l2 : i < ws.toArray.size := by
      have := (List.getElem?_eq_some_iff.mp hv).1
      simpa using this
    have hh := I.ok.hd hc
    refine wpAny_pyNext_zipD2_item (sep D) (Draws.list (A := X.A.in1) hh i1 a D.l1i1 us.toArray) (Draws.tuple (A := X.A.in1) hh i2 b D.l2i2 ws.toArray) r1 r2 r3 ⟨r4, pu.isList⟩ ⟨r5, pw⟩ l1 l2 fun x1 x2 h' tk p1 p2 z1 t1 st1 st2 tT sz kp => ?_
    have e1 : x1 = u := by
      have : us.toArray[i]? = some u := by simpa using hu
      rw [this] at p1
      exact (Option.some.inj p1).symm
    have e2 : x2 = v := by
      have : ws.toArray[i]? = some v := by simpa using hv
      rw [this] at p2
      exact (Option.some.inj p2).symm
    subst e1
    subst e2
    refine ⟨_, rfl, wpAny_letOwnedTupleGo_zip (s := { s with heap := h', toks := tk }) z1 fun h2 z2 sb => ?_⟩
    have lz : ∀ c ∈ [z, TI, TO, i1, i2], c < s.heap.objs.size := fun c hc => by
      obtain ⟨o, g, _⟩ := below c hc
      exact Heap.lt_size g
    have atT : h2.get? s.heap.objs.size = some { cls := .type "tuple", data := .seq #[x1, x2] } := (sb.2 _ (Nat.ne_of_gt (lz z List.mem_cons_self))).trans tT
    have new : ObjOk X.prog X.w (upd H s.heap.objs.size (.tup [x, y])) h2 s.heap.objs.size (.tup [x, y]) := ⟨(show 2 ≤ sizeLine by decide), [x1, x2], .cons ru1 (.cons rv1 .nil), _, atT, rfl, _, rfl⟩
    have same : ∀ c o, c ∉ [z, TI, TO, i1, i2] → s.heap.get? c = some o → h2.get? c = some o := fun c o n g => by
      have ne : ∀ d ∈ [z, TI, TO, i1, i2], c ≠ d := fun d hd e => n (e ▸ hd)
      exact (sb.2 c (ne z (by simp))).trans (kp c o (ne z (by simp)) (ne TO (by simp)) (ne i1 (by simp)) (ne i2 (by simp)) g)
    have J : Inv X pins σ (upd H s.heap.objs.size (.tup [x, y])) { s with heap := h2, toks := tk } := I.turnedNew (ch := [z, TI, TO, i1, i2]) same hf (Nat.le_refl _) new
    refine ⟨.ref s.heap.objs.size, _, J, rfl, ⟨_, x, y, ⟨rfl, I.hok.fresh (Nat.le_refl _), rfl⟩, fun l hl => ?_, fun l hl => ?_⟩, ⟨⟨z2, ?_, x1, x2, ?_⟩, ?_, ?_⟩, fun c hc => ?_⟩
    · rw [I.list_inj hl sx]
      exact ex
    · rw [I.tuple_inj hl sy]
      exact ey
    · exact (sb.2 _ D.TIz).trans (kp _ _ D.TIz D.TITO D.TIi1 D.TIi2 r2)
    · exact (sb.2 _ D.TOz).trans t1
    · exact st1.1.at fun o g => (sb.2 _ D.i1z).trans g
    · exact st2.1.at fun o g => (sb.2 _ D.i2z).trans g
    · rw [upd_ne (Nat.ne_of_lt (lz c hc))]
      exact (hf c hc).1
  done := by
    intro X hP hw hK hc i pins s σ H E I hf r hg
    subst hP
    subst hw
    subst hK
    obtain ⟨⟨r1, r2, p, q, r3⟩, r4, r5⟩ := r
    obtain ⟨xs, ys, sx, sy, el, ei⟩ := hg
    obtain ⟨us, ru, pu, _⟩ := I.list sx
    obtain ⟨ws, rw', pw, _⟩ := I.tuple sy
    have n1 := ru.length
    have n2 := rw'.length
    have hh := I.ok.hd hc
    have m1 : us.toArray.size = us.length := by simp
    have m2 : ws.toArray.size = ws.length := by simp
    refine wpAny_pyNext_zipD2_end (sep D) (Draws.list (A := X.A.in1) hh i1 a D.l1i1 us.toArray) (Draws.tuple (A := X.A.in1) hh i2 b D.l2i2 ws.toArray) r1 r2 r3 ⟨r4, pu.isList⟩ ⟨r5, pw⟩ (by omega) (by omega) (.inl (by omega)) fun h' tk kp => ?_
    refine ⟨rfl, I.turnedL (ch := [z, TI, TO, i1, i2]) (fun c o n g => ?_) hf⟩
    have ne : ∀ d ∈ [z, TI, TO, i1, i2], c ≠ d := fun d hd e => n (e ▸ hd)
    exact kp c o (ne z (by simp)) (ne TO (by simp)) (ne i1 (by simp)) (ne i2 (by simp)) g
  self := fun A i s Q E r h => wpAny_pyIter_zip r.1.1 h
def iZipM (K : PySem.W.Frag) (ta : TA) : TI := fun σ H R => ta σ H fun vs H1 => ∃ a b xs ys, vs = [.ref a, .ref b] ∧ (SqL K H1 a xs ∧ SqT K H1 b ys) ∧ R (ItzM K a b) H1
theorem pi_zipM {X : Cx} {e e2 : Expr} {ta : TA} {p pos tpos : Pos} {elts : List Expr} {kk : Nat} (hg : Gl X "zip") (hm : X.mg "zip" = none) (ha : PA X [e, e2] ta)
    (hs : starEach [e, e2] X.env = (false, eval e X.env) :: starEach [e2] X.env := by rfl) (hpl : (backTo pos (starEach [e2] X.env)).any (·.1) = false := by rfl) :
    PI X (.Tuple elts kk tpos) (.Call (.Name "zip" p) [e, e2] [] pos) (iZipM X.K ta) := by
  refine ⟨fun pins s σ H R I h => Call_ (ld_blt I hg hm PyProof.Rows.boot_zip (PyProof.Rows.callWith_type1 (thn (ha.run pos pins s σ H _ I h) fun us s1 got => ?_) hs hpl))⟩
  obtain ⟨vs, H1, J, rv, a, b, xs, ys, rfl, ⟨sx, sy⟩, go⟩ := got
  obtain ⟨u1, u2, rfl, e1, e2'⟩ := vals2 rv
  obtain rfl : u1 = Value.ref a := e1
  obtain rfl : u2 = Value.ref b := e2'
  obtain ⟨us, ru, pu, _⟩ := J.list sx
  obtain ⟨ws, rw', pw, _⟩ := J.tuple sy
  obtain ⟨ob, gb, _⟩ := id pw
  refine zip_begins2 (begins_list a us.toArray) (begins_tuple b ws.toArray) pu.isList pw fun h' z1 t1 t2 g1 g2 sz kp => wpAny_pyIter_zip z1 ?_
  have J' : Inv X pins σ H1 { s1 with heap := h' } := J.kept (t' := s1.toks) kp
  refine ⟨_, [s1.heap.objs.size + 4, s1.heap.objs.size + 2, s1.heap.objs.size + 3, s1.heap.objs.size, s1.heap.objs.size + 1], _, _, H1, rfl, J', turn (PySem.W.ktu_apart s1.heap.objs.size a b pu.lt (Heap.lt_size gb)), ⟨⟨z1, t1, _, _, t2⟩, ⟨_, g1, rfl, rfl⟩, _, g2, rfl, rfl⟩, fun c hc => ?_, go⟩
  have le : s1.heap.objs.size ≤ c := by
    rcases five hc with rfl | rfl | rfl | rfl | rfl <;> first | exact Nat.le_refl _ | exact Nat.le_add_right _ _
  exact J.fpOk le (J.hok.fresh le)
theorem walk {K : PySem.W.Frag} {a b : Addr} {xs ys : List V} (hl : xs.length = ys.length) : Walk (ItzM K a b) xs.length (fun H => SqL K H a xs ∧ SqT K H b ys) (fun i H v H' => ∃ T x y, (v = .ref T ∧ H T = none ∧ H' = upd H T (.tup [x, y])) ∧ xs[i]? = some x ∧ ys[i]? = some y) := by
  refine ⟨fun i H hi q => ?_, fun H q => ⟨xs, ys, q.1, q.2, hl, rfl⟩, fun i H v H' hi q y => ?_⟩
  · have h2 : i < ys.length := by omega
    exact ⟨xs, ys, xs[i], ys[i], ⟨q.1, by simp [hi]⟩, q.2, by simp [h2]⟩
  · obtain ⟨T, x, z, h1, h2, h3⟩ := y
    exact ⟨T, x, z, h1, h2 _ q.1, h3 _ q.2⟩
end Lw.Zm
namespace Lw
open PySem PySem.Spec PyProof.Rows L2

open LamX
/-! ### lambdas without captured names, with parameters: made here, called anywhere -/
/-- the object at f is the lambda of this text -/
def LamN (q : Str) (params : Arguments) (body : Expr) (scope : Scope) (f c' : Addr) : HO := .ext fun h => ∃ pm ctv : Value, h.get? f = some (PySem.W.kla_obj "<lambda>" q params body scope [] pm c' ctv)
theorem lamN_ne {q : Str} {params : Arguments} {body : Expr} {scope : Scope} {f c' : Addr} (ps : Array Value) : LamN q params body scope f c' ≠ .tbl ps := fun z => by
  unfold LamN at z
  cases z
/-- what its call does -/
structure LamF (P : Program) (w : World) (K : PySem.W.Frag) (mg : Str → Option Value) (base : Heap) (k : Nat) (ps : List Str) (sp : Sp) (q : Str) (params : Arguments) (body : Expr) (scope : Scope) (f c' : Addr) : Prop where
  S : FnScope ps ps scope
  bind : ∀ (pm cv ctv : Value) (us : List Value), us.length = ps.length → bindArgs (PySem.W.kla_fn "<lambda>" q params body scope [] pm cv ctv) ⟨us, []⟩ = pure (ps.zip us)
  len : ∀ vs H Q E, sp vs H Q E → vs.length = ps.length
  run : ∀ (A : Around) (out : List Env) (s : Shared) (H : Hp) (vs : List V) (Q : VK), Room k (A.deeper (envOfC q scope s.heap.objs.size f (.ref c'))) → sp vs H Q C8.E0 →
    ∃ te, PE (cxOf C8.CX0 P w K mg base ps q scope f (.ref c') A out s H C8.E0) body te ∧ te (start ps vs) H Q
def LamAt (P : Program) (w : World) (K : PySem.W.Frag) (mg : Str → Option Value) (base : Heap) (k : Nat) (ps : List Str) (sp : Sp) (H : Hp) (f : Addr) : Prop := ∃ (q : Str) (params : Arguments) (body : Expr) (scope : Scope) (c' : Addr),
  H f = some (LamN q params body scope f c') ∧ H c' = some (CodeO c' q) ∧ LamF P w K mg base k ps sp q params body scope f c'
theorem LamAt.extn {P : Program} {w : World} {K : PySem.W.Frag} {mg : Str → Option Value} {base : Heap} {k : Nat} {ps : List Str} {sp : Sp} {H H' : Hp} {f : Addr} (h : LamAt P w K mg base k ps sp H f) (e : ExtN H H') : LamAt P w K mg base k ps sp H' f := by
  obtain ⟨q, params, body, scope, c', h1, h2, a⟩ := h
  exact ⟨q, params, body, scope, c', e _ _ h1 lamN_ne, e _ _ h2 codeO_ne, a⟩
section
variable {X : Cx} {pins : List (Addr × Obj)} {σ : L2.St} {H : Hp} {s : Shared} {k : Nat} {ps : List Str} {sp : Sp}
theorem run_lam {f : Addr} {us : List Value} {vs : List V} {Q : VK} (L : LamAt X.prog X.w X.K X.mg X.base k ps sp H f) (hr : Room (k + 1) X.A) (I : Inv X pins σ H s) (r : Vals vs us) (q : sp vs H Q C8.E0) :
    wpAny (model X.prog X.w) X.A (call (.ref f) us) (EP X pins σ Q) X.xe s := by
  obtain ⟨qn, params, body, scope, c', hf, hc, F⟩ := L
  obtain ⟨⟨pm, ctv, of1⟩, _, _⟩ := I.hok f _ hf
  obtain ⟨⟨oc, vc, t', hoc, hdc, hvc⟩, _, _⟩ := I.hok c' _ hc
  have hl : us.length = ps.length := r.length.symm.trans (F.len _ _ _ _ q)
  have kinds : ∀ y ∈ ps.zip us, scope.names.lookup y.1 = some .local ∨ (scope.names.lookup y.1 = some .cell ∧ ((cellsFrom (s.heap.objs.size + 1) scope.names []).lookup y.1).isSome = true) := fun ⟨m, v⟩ hy => by
    rcases F.S.par m (List.of_mem_zip hy).1 with z | z
    · exact .inl z
    · exact .inr ⟨z, PySem.W.cellsFrom_some _ _ _ (.inl z)⟩
  have rc : codeAny (model X.prog X.w) X.A (.call (.ref f) ⟨us, []⟩) (CR C8.CX0 X.stack X.prog X.w H s Q C8.E0) s := by
    refine PySem.W.kla_callFunE hr.depth of1 rfl F.S.co F.S.gen rfl ⟨c', oc, vc, t', rfl, hoc, hdc, hvc⟩ ?_
    rw [F.bind _ _ _ us hl]
    refine wpAny_pure (wpAny_newFunctionEnv_cells F.S.kind kinds fun env he s1 cll => ?_)
    subst he
    refine ⟨I.nolimit.keeps cll.toInCall.keep, ?_⟩
    obtain ⟨te, ht, hq⟩ := F.run X.A X.stack s H vs Q (hr.deeper _) q
    have I0 := inv_start (CX := C8.CX0) (A := X.A) (E := C8.E0) F.S hr.hd I.env0 (F.len _ _ _ _ q) r cll
    refine PySem.W.kla_codeExpr (wpAny_mono (ht.run [] s1 (start ps vs) H _ I0 hq) (fun v s' hs => ?_) fun e s' hs => hs)
    obtain ⟨v', H', J, rv, z⟩ := hs
    exact ⟨v', H', J.os, J.bare, J.base, J.hok, rv, z⟩
  refine wpAny_call (codeAny_mono rc fun r s' hq => ?_)
  match r, hq with
  | .error e, hq => exact hq.elim
  | .ok (.ret u), hq => exact I.after hq
  | .ok .next, hq => exact hq.elim
  | .ok .brk, hq => exact hq.elim
  | .ok .cont, hq => exact hq.elim
/-- e(a, ..), e any expression that gives such a lambda -/
theorem pe_lamcallN {fe a : Expr} {es : List Expr} {pos : Pos} {tf : TE} {ta : TA} (hr : Room (k + 1) X.A) (hf : PE X fe tf) (ha : PA X (a :: es) ta)
    (ht : eval (.Call fe (a :: es) [] pos) X.env = (do callWith pos (← eval fe X.env) [] (backTo pos (starEach (a :: es) X.env)) (backToKw pos (keywordEach [] X.env))) := by rfl)
    (he : starEach (a :: es) X.env = (false, eval a X.env) :: starEach es X.env := by rfl) (hpl : (backTo pos (starEach es X.env)).any (·.1) = false := by rfl) :
    PE X (.Call fe (a :: es) [] pos) (fun σ H Q => tf σ H fun x H1 => ∃ (f : Addr) (ps : List Str) (sp : Sp), x = .ref f ∧ LamAt X.prog X.w X.K X.mg X.base k ps sp H1 f ∧ ta σ H1 fun vs H2 => LamAt X.prog X.w X.K X.mg X.base k ps sp H2 f ∧ sp vs H2 Q C8.E0) := by
  refine ⟨fun pins s σ H Q I h => ?_⟩
  refine Call_ (thn (hf.run pins s σ H _ I h) fun u s1 ⟨x, H1, I1, r1, f, ps, sp, ex, l1, q⟩ => ?_) ht
  subst ex
  obtain rfl : u = Value.ref f := r1
  have fnAt : ∀ {H' : Hp} {t : Shared}, Inv X pins σ H' t → LamAt X.prog X.w X.K X.mg X.base k ps sp H' f → PySem.W.FnAt f t.heap := fun {H' t} J L => by
    obtain ⟨qn, params, body, scope, c', hf, _, _⟩ := L
    obtain ⟨⟨pm, ctv, e⟩, _, _⟩ := J.hok f _ hf
    exact ⟨_, _, _, _, e⟩
  refine PySem.W.callWith_F (fnAt I1 l1) (thn (ha.run pos pins s1 σ H1 _ I1 q) fun us s2 ⟨vs, H2, I2, r2, l2, q2⟩ => ⟨fnAt I2 l2, ?_⟩) he hpl
  exact run_lam l2 hr I2 r2 q2
def tLamN (P : Program) (w : World) (K : PySem.W.Frag) (mg : Str → Option Value) (base : Heap) (k : Nat) (ps : List Str) (sp : Sp) (T : List (Addr × Str)) : TE := fun _ H Q => Tabs T H ∧ ∀ (f : Addr) (H1 : Hp), ExtN H H1 → Tabs T H1 → H f = none → LamAt P w K mg base k ps sp H1 f → Q (.ref f) H1
theorem lay_lamN {h' : Heap} {t' : Nat} {q : Str} {params : Arguments} {body : Expr} {scope : Scope} {c' : Addr} {pm ctv : Value} (I : Inv X pins σ H { s with heap := h', toks := t' }) :
    Inv X pins σ (upd H h'.objs.size (LamN q params body scope h'.objs.size c')) { s with heap := h'.push (PySem.W.kla_obj "<lambda>" q params body scope [] pm c' ctv), toks := t' } := by
  refine I.laid (h' := h'.push _) (t' := t') (fun b u e => Heap.get?_push_of_some _ e) (Nat.le_refl _) ?_
  have g : (h'.push (PySem.W.kla_obj "<lambda>" q params body scope [] pm c' ctv)).get? h'.objs.size = some (PySem.W.kla_obj "<lambda>" q params body scope [] pm c' ctv) := Heap.get?_push_size _ rfl
  refine ⟨⟨pm, ctv, g⟩, ⟨_, g⟩, ?_⟩
  rintro h1 h2 ⟨pm, ctv, e⟩ st
  exact ⟨pm, ctv, st _ e⟩
theorem pe_lamN {T : List (Addr × Str)} {c B : Addr} {params : Arguments} {body : Expr} {scope : Scope} {pos : Pos} (TB : TabB X.base X.mg c B) (hcode : X.env.code = .ref c)
    (hm : (B, X.env.qual ++ "<lambda>") ∈ T) (hu : ∀ p ∈ T, p.1 = B → p.2 = X.env.qual ++ "<lambda>") (hdef : defaultsOf params X.env = ([], [])) (nofree : ∀ y ∈ scope.names, y.2 ≠ .free) (nocl : cloFrom X.env.cells scope.names [] = [])
    (act : ∀ f c', LamF X.prog X.w X.K X.mg X.base k ps sp (X.env.qual ++ "<lambda>") params body scope f c') : PE X (.Lambda params body scope pos) (tLamN X.prog X.w X.K X.mg X.base k ps sp T) := by
  refine ⟨fun pins s σ H Q I h => ?_⟩
  obtain ⟨hT, h⟩ := h
  obtain ⟨pt, hB, trip, amg⟩ := hT _ hm
  refine PySem.W.kla_eval hdef ?_
  have hat : s.heap.get? B = some { cls := .none, data := .fields pt } := I.hok B _ hB
  have blt := TB.bm.keeps I.bk
  have hdc := TB.code.keeps I.bk
  have glb := I.mod.glob.keeps I.bk
  have cl := closure_ok (scope := scope) (env := X.env) (fun y hy e => absurd e (nofree y hy))
  rw [nocl] at cl
  have tell : ∀ {H1 : Hp} {f c' : Addr} {s' : Shared}, Inv X pins σ (upd H1 f (LamN (X.env.qual ++ "<lambda>") params body scope f c')) s' → ExtN H H1 → Tabs T H1 → H1 f = none → H f = none → H1 c' = some (CodeO c' (X.env.qual ++ "<lambda>")) →
      EP X pins σ Q (.ref f) s' := fun {H1 f c' s'} I1 eN T1 n1 n0 hc => by
    have sm := same_new (o := LamN (X.env.qual ++ "<lambda>") params body scope f c') n1
    exact ⟨.ref f, _, I1, rfl, h f _ (fun b o e n => sm _ _ (eN b o e n)) (T1.ext sm) n0 ⟨_, params, body, scope, c', upd_same, sm _ _ hc, act f c'⟩⟩
  rcases hc : codeAmong pos pt.toList with _ | cv
  · refine PySem.W.kla_makeFunction (mg := X.mg) (c := c) (P := B) (ps := pt) cl I.ok.glob glb hcode hdc hat trip hc TB.gP blt ?_
    intro c2 ctv h' tk hx hge hlt hrec htb
    obtain ⟨c3, oc, vs, t', e3, g1, g2, g3⟩ := hrec
    cases e3
    have nC : H c2 = none := I.hok.fresh hge
    have I0 := inv_table (t' := tk) (more := #[rawInt pos.line, rawInt pos.col, .ref c2]) (h' := h') I hB hx htb hge ⟨oc, vs, t', g1, g2, g3⟩
    have stays : ExtN H (upd (upd H B (.tbl (pt ++ #[rawInt pos.line, rawInt pos.col, .ref c2]))) c2 (CodeO c2 (X.env.qual ++ "<lambda>"))) := by
      intro b o e n
      rw [upd_ne (ne_of_none e nC)]
      by_cases hb : b = B
      · subst hb
        rw [hB] at e
        exact absurd (Option.some.inj e).symm (n pt)
      · rw [upd_ne hb]; exact e
    have fresh : H h'.objs.size = none := I.hok.fresh (Nat.le_trans hge (Nat.le_of_lt hlt))
    refine tell (lay_lamN (t' := tk) (c' := c2) (ctv := ctv) I0) stays ?_ ?_ fresh upd_same
    · intro p hp
      by_cases hb : p.1 = B
      · rw [hu p hp hb, hb]
        refine ⟨pt ++ #[rawInt pos.line, rawInt pos.col, .ref c2], ?_, ?_, ?_⟩
        · rw [upd_ne (ne_of_none hB nC), upd_same]
        · rw [show (pt ++ #[rawInt pos.line, rawInt pos.col, .ref c2]).toList = pt.toList ++ [rawInt pos.line, rawInt pos.col, .ref c2] by simp]
          exact PySem.TriplesOk_snoc _ _ _ _ trip
        · intro p' cv' hcv
          rw [show (pt ++ #[rawInt pos.line, rawInt pos.col, .ref c2]).toList = pt.toList ++ [rawInt pos.line, rawInt pos.col, .ref c2] by simp] at hcv
          rcases among_app _ trip hcv with z | z
          · obtain ⟨c0, a1, a2⟩ := amg p' cv' z
            exact ⟨c0, a1, stays _ _ a2 codeO_ne⟩
          · exact ⟨c2, z, upd_same⟩
      · obtain ⟨qs, a1, a2, a3⟩ := hT p hp
        refine ⟨qs, ?_, a2, ?_⟩
        · rw [upd_ne (ne_of_none a1 nC), upd_ne hb]; exact a1
        · intro p' cv' hcv
          obtain ⟨c0, b1, b2⟩ := a3 p' cv' hcv
          exact ⟨c0, b1, stays _ _ b2 codeO_ne⟩
    · have n1 : h'.objs.size ≠ c2 := Nat.ne_of_gt hlt
      have n2 : h'.objs.size ≠ B := Nat.ne_of_gt (Nat.lt_of_lt_of_le (Heap.lt_size hat) (Nat.le_trans hge (Nat.le_of_lt hlt)))
      rw [upd_ne n1, upd_ne n2]
      exact fresh
  · obtain ⟨c2, e, hco⟩ := amg pos cv hc
    subst e
    refine PySem.W.kla_makeFunctionHit (mg := X.mg) (c := c) (P := B) (ps := pt) cl I.ok.glob glb hcode hdc hat trip hc blt ?_
    intro ctv h' tk hx hsz
    have I0 : Inv X pins σ H { s with heap := h', toks := tk } := I.kept hx
    exact tell (lay_lamN (t' := tk) (c' := c2) (ctv := ctv) I0) (ExtN.refl H) hT (I.hok.fresh hsz) (I.hok.fresh hsz) hco
end
end Lw
namespace Lw
open PySem PySem.Spec PyProof.Rows L2

open LamX
abbrev sIsInt : Stmt := top 7
abbrev sWithin : Stmt := top 8
abbrev sSize : Stmt := top 9
/-- what the top has told of the module's names -/
structure Txt (mg : Str → Option Value) : Prop extends Txt0 mg where
  n_bool : mg "bool" = none
  n_str : mg "str" = none
  n_isinstance : mg "isinstance" = none
  n_range : mg "range" = none
  n_repr : mg "repr" = none
  n_all : mg "all" = none
  c_GS : ∃ t, mg "GREATEST_SIZE" = some (.int (10 ^ 30) t)
/-- any value that a caller may pass here -/
inductive Anyv (K : PySem.W.Frag) (H : Hp) : V → Prop where
  | int (i : Int) : Anyv K H (.int i)
  | non : Anyv K H .non
  | bl (b : Bool) : Anyv K H (.bl b)
  | str (z : Str) : Anyv K H (.str z)
  | obj {a : Addr} {t : Value} (h : TyZ K H (.ref a) t) (h1 : PySem.W.kitOne K t (.type "int") = some false) (h2 : PySem.W.kitOne K t (.type "bool") = some false) (h3 : PySem.W.kitOne K t (.type "str") = some false) : Anyv K H (.ref a)
def isI : V → Bool
  | .int _ => true
  | _ => false
def clsI : V → Bool
  | .int _ => true
  | .bl _ => true
  | _ => false
def clsB : V → Bool
  | .bl _ => true
  | _ => false
def isS : V → Bool
  | .str _ => true
  | _ => false
def inB (x : V) (lo hi : Int) : Bool := match x with
  | .int i => decide (lo ≤ i) && decide (i ≤ hi)
  | _ => false
def spIsInt (K : PySem.W.Frag) : Sp := fun vs H Q _ => ∃ x, vs = [x] ∧ Anyv K H x ∧ Q (.bl (isI x)) H
def spWithin (K : PySem.W.Frag) : Sp := fun vs H Q _ => ∃ x lo hi, vs = [x, .int lo, .int hi] ∧ Anyv K H x ∧ Q (.bl (inB x lo hi)) H
def spSize (K : PySem.W.Frag) : Sp := fun vs H Q _ => ∃ x, vs = [x] ∧ Anyv K H x ∧ Q (.bl (inB x 1 (10 ^ 30))) H
section
variable {P : Program} {w : World} {K : PySem.W.Frag} {mg : Str → Option Value} {base : Heap}
theorem isz_int {H : Hp} {x : V} {Q : V → Hp → Prop} (a : Anyv K H x) (q : Q (.bl (clsI x)) H) : rIsz K [x, .ty "int"] H Q := by
  cases a with
  | int i => exact ⟨_, _, .type "int", .type "int", true, rfl, .ty "int", .x (.base (.int i)), kit_ty (r := true) (by decide +kernel), q⟩
  | non => exact ⟨_, _, .type "NoneType", .type "int", false, rfl, .ty "int", .x (.base .non), kit_ty (r := false) (by decide +kernel), q⟩
  | bl b => exact ⟨_, _, .type "bool", .type "int", true, rfl, .ty "int", .x (.base (.bl b)), kit_ty (r := true) (by decide +kernel), q⟩
  | str z => exact ⟨_, _, .type "str", .type "int", false, rfl, .ty "int", .x (.base (.str z)), kit_ty (r := false) (by decide +kernel), q⟩
  | obj h h1 h2 h3 => exact ⟨_, _, _, .type "int", _, rfl, .ty "int", h, h1, q⟩
theorem isz_bool {H : Hp} {x : V} {Q : V → Hp → Prop} (a : Anyv K H x) (q : Q (.bl (clsB x)) H) : rIsz K [x, .ty "bool"] H Q := by
  cases a with
  | int i => exact ⟨_, _, .type "int", .type "bool", false, rfl, .ty "bool", .x (.base (.int i)), kit_ty (r := false) (by decide +kernel), q⟩
  | non => exact ⟨_, _, .type "NoneType", .type "bool", false, rfl, .ty "bool", .x (.base .non), kit_ty (r := false) (by decide +kernel), q⟩
  | bl b => exact ⟨_, _, .type "bool", .type "bool", true, rfl, .ty "bool", .x (.base (.bl b)), kit_ty (r := true) (by decide +kernel), q⟩
  | str z => exact ⟨_, _, .type "str", .type "bool", false, rfl, .ty "bool", .x (.base (.str z)), kit_ty (r := false) (by decide +kernel), q⟩
  | obj h h1 h2 h3 => exact ⟨_, _, _, .type "bool", _, rfl, .ty "bool", h, h2, q⟩
theorem isz_str {H : Hp} {x : V} {Q : V → Hp → Prop} (a : Anyv K H x) (q : Q (.bl (isS x)) H) : rIsz K [x, .ty "str"] H Q := by
  cases a with
  | int i => exact ⟨_, _, .type "int", .type "str", false, rfl, .ty "str", .x (.base (.int i)), kit_ty (r := false) (by decide +kernel), q⟩
  | non => exact ⟨_, _, .type "NoneType", .type "str", false, rfl, .ty "str", .x (.base .non), kit_ty (r := false) (by decide +kernel), q⟩
  | bl b => exact ⟨_, _, .type "bool", .type "str", false, rfl, .ty "str", .x (.base (.bl b)), kit_ty (r := false) (by decide +kernel), q⟩
  | str z => exact ⟨_, _, .type "str", .type "str", true, rfl, .ty "str", .x (.base (.str z)), kit_ty (r := true) (by decide +kernel), q⟩
  | obj h h1 h2 h3 => exact ⟨_, _, _, .type "str", _, rfl, .ty "str", h, h3, q⟩
theorem scIsInt : FnScope ["value"] ["value"] (C8.fnScope sIsInt) := C8.fnScope_by (by decide +kernel)
theorem fn_isint {f : Addr} {fd : FuncData} (F : C8.Def K mg "is_integer" sIsInt f fd) (T : Txt mg) : FnOk P w K mg base C8.CX0 1 f fd ["value"] (spIsInt K) := by
  refine C8.fn0 F.fn scIsInt (fun vs H Q E h => ?_) (fun cdv A outer st H vs Q E hr h => ?_)
  · obtain ⟨x, rfl, _⟩ := h
    rfl
  · obtain ⟨x, rfl, a, k⟩ := h
    refine ⟨_, (pss_one (ps_ret (pe_and (pe_callB call_isz (by rfl) T.n_isinstance (by decide +kernel) (pa_cons (pv 0) (pa_cons (pe_bltn (v := .ty "int") (by rfl) T.n_int (by decide +kernel) rfl) pa_nil))) (pe_one (pe_not (pe_callB call_isz (by rfl) T.n_isinstance (by decide +kernel) (pa_cons (pv 0) (pa_cons (pe_bltn (v := .ty "bool") (by rfl) T.n_bool (by decide +kernel) rfl) pa_nil)))))))), ?_⟩
    refine ⟨_, rfl, ?_⟩
    dsimp only [tCons, tC, tNil]
    refine isz_int a ⟨_, rfl, ?_⟩
    cases a with
    | int i =>
      refine iteT ⟨_, rfl, ?_⟩
      dsimp only [tCons, tC, tNil]
      exact isz_bool (.int i) ⟨_, rfl, k⟩
    | bl b =>
      refine iteT ⟨_, rfl, ?_⟩
      dsimp only [tCons, tC, tNil]
      exact isz_bool (.bl b) ⟨_, rfl, k⟩
    | non => exact iteF k
    | str z => exact iteF k
    | obj h h1 h2 h3 => exact iteF k
theorem cal_isint {f : Addr} {fd : FuncData} (F : C8.Def K mg "is_integer" sIsInt f fd) (b : Binds K fd ["value"] []) (T : Txt mg) : C8.Cal P w K mg base 1 "is_integer" (spIsInt K) [] :=
  ⟨f, fd, _, [], fn_isint F T, F.mgf, F.kp, b, .nil⟩
theorem scWithin : FnScope ["value", "least", "most"] ["value", "least", "most"] (C8.fnScope sWithin) := C8.fnScope_by (by decide +kernel)
theorem fn_within {f : Addr} {fd : FuncData} (F : C8.Def K mg "is_within" sWithin f fd) (T : Txt mg) (D : C8.Cal P w K mg base 1 "is_integer" (spIsInt K) []) : FnOk P w K mg base C8.CX0 2 f fd ["value", "least", "most"] (spWithin K) := by
  refine C8.fn0 F.fn scWithin (fun vs H Q E h => ?_) (fun cdv A outer st H vs Q E hr h => ?_)
  · obtain ⟨x, lo, hi, rfl, _⟩ := h
    rfl
  · obtain ⟨x, lo, hi, rfl, a, k⟩ := h
    refine ⟨_, (pss_one (ps_ret (pe_and (C8.pe_c D hr (by decide) (by rfl) (pa_cons (pv 0) pa_nil)) (pe_one (pe_chain op_le op_le (pv 1) (pv 0) (pv 2)))))), ?_⟩
    refine ⟨_, rfl, x, rfl, a, _, rfl, ?_⟩
    cases a with
    | int i =>
      refine iteT ⟨_, rfl, _, rfl, _, _, rfl, rfl, _, rfl, ite2 (fun c => ?_) (fun c => ?_)⟩
      · refine ⟨_, rfl, _, _, rfl, rfl, ?_⟩
        rw [show inB (.int i) lo hi = decide (i ≤ hi) by simp [inB, of_decide_eq_true c]] at k
        exact k
      · rw [show inB (.int i) lo hi = false by simp [inB, of_decide_eq_false (Bool.eq_false_iff.mpr c)]] at k
        exact k
    | bl b => exact iteF k
    | non => exact iteF k
    | str z => exact iteF k
    | obj h h1 h2 h3 => exact iteF k
theorem cal_within {f : Addr} {fd : FuncData} (F : C8.Def K mg "is_within" sWithin f fd) (b : Binds K fd ["value", "least", "most"] []) (T : Txt mg) (D : C8.Cal P w K mg base 1 "is_integer" (spIsInt K) []) : C8.Cal P w K mg base 2 "is_within" (spWithin K) [] :=
  ⟨f, fd, _, [], fn_within F T D, F.mgf, F.kp, b, .nil⟩
theorem scSize : FnScope ["value"] ["value"] (C8.fnScope sSize) := C8.fnScope_by (by decide +kernel)
theorem fn_size {f : Addr} {fd : FuncData} (F : C8.Def K mg "is_size" sSize f fd) (T : Txt mg) (D : C8.Cal P w K mg base 2 "is_within" (spWithin K) []) : FnOk P w K mg base C8.CX0 3 f fd ["value"] (spSize K) := by
  refine C8.fn0 F.fn scSize (fun vs H Q E h => ?_) (fun cdv A outer st H vs Q E hr h => ?_)
  · obtain ⟨x, rfl, _⟩ := h
    rfl
  · obtain ⟨x, rfl, a, k⟩ := h
    obtain ⟨tk, hGS⟩ := T.c_GS
    refine ⟨_, (pss_one (ps_ret (C8.pe_c D hr (by decide) (by rfl) (pa_cons (pv 0) (pa_cons pe_int (pa_cons (pe_glob (v := .int (10 ^ 30)) rfl hGS ⟨_, rfl⟩) pa_nil)))))), ?_⟩
    exact ⟨_, rfl, x, _, _, rfl, a, k⟩
theorem cal_size {f : Addr} {fd : FuncData} (F : C8.Def K mg "is_size" sSize f fd) (b : Binds K fd ["value"] []) (T : Txt mg) (D : C8.Cal P w K mg base 2 "is_within" (spWithin K) []) : C8.Cal P w K mg base 3 "is_size" (spSize K) [] :=
  ⟨f, fd, _, [], fn_size F T D, F.mgf, F.kp, b, .nil⟩
end
end Lw
namespace Lw
open PySem PySem.Spec PyProof.Rows L2

open LamX
/-- a comprehension over a text, whose tests and element leave the heap as it is -/
theorem lc_text {z : Str} {g : TG} {tt : TT} {te : TE} {vs : List Nat} {σ : L2.St} {H1 : Hp} {D : Addr} {Qd : Hp → Prop} (σc : Nat → L2.St) (flt : Nat → Bool) (f : Nat → V)
    (hg : ∀ c H (R : L2.St → Hp → Prop), R (σc c) H → g (.str ⟨#[c]⟩) (wipe σ vs) H R) (hw : ∀ c, wipe (σc c) vs = wipe σ vs) (ht : ∀ c H (R : Bool → Hp → Prop), R (flt c) H → tt (σc c) H R)
    (he : ∀ c H (R : V → Hp → Prop), flt c = true → R (f c) H → te (σc c) H R) (hz : z.cps.size ≤ 1000000) (hd : Qd (upd H1 D (.lst ((z.cps.toList.filter flt).map f)))) :
    ∃ W : Nat → Nat → Hp → Prop, (∃ m, W 0 m (upd H1 D (.lst []))) ∧ ∀ i m H, W i m H →
      ((Its z).stop i H ∧ Qd H) ∨ ((Its z).go i H ∧ ∃ Nx : Hp → Prop, (∀ H', Nx H' → ∃ m', m' < m ∧ W (i + 1) m' H') ∧ ∀ x H', (Its z).yld i H x H' → g x (wipe σ vs) H' fun σ2 H2 => wipe σ2 vs = wipe σ vs ∧ tt σ2 H2 fun b H3 =>
        if b = true then te σ2 H3 fun y H4 => ∃ acc, H4 D = some (.lst acc) ∧ acc.length < sizeLine ∧ Nx (upd H4 D (.lst (acc ++ [y]))) else Nx H3) := by
  refine lc_it (walk_str (z := z)) (fun i H => H = upd H1 D (.lst (((z.cps.toList.take i).filter flt).map f))) (by simp) (fun _ _ _ _ => trivial) ?_ ?_
  · intro i x H H' hi hP hY
    obtain ⟨rfl, c, hc, rfl⟩ := hY
    have hc' : z.cps.toList[i]? = some c := by rw [Array.getElem?_toList]; exact hc
    have htake : z.cps.toList.take (i + 1) = z.cps.toList.take i ++ [c] := by
      rw [List.take_add_one, hc']; rfl
    refine hg c _ _ ⟨hw c, ht c _ _ ?_⟩
    rw [hP]
    cases hf : flt c with
    | true =>
      refine iteT (he c _ _ hf ⟨_, upd_same, ?_, ?_⟩)
      · have h1 : (((z.cps.toList.take i).filter flt).map f).length ≤ z.cps.toList.length := by
          rw [List.length_map]
          exact Nat.le_trans (List.length_filter_le _ _) (List.length_take_le' _ _)
        rw [Array.length_toList] at h1
        exact Nat.lt_of_le_of_lt (Nat.le_trans h1 hz) (by show 1000000 < sizeLine; decide)
      · rw [upd_upd, htake, List.filter_append, List.map_append]
        simp [hf]
    | false =>
      refine iteF ?_
      rw [htake, List.filter_append, List.map_append]
      simp [hf]
  · rintro H rfl
    have e : z.cps.toList.take z.cps.size = z.cps.toList := List.take_of_length_le (by rw [Array.length_toList]; exact Nat.le_refl _)
    rw [e]
    exact hd
theorem inV_str (z : Str) : ∀ ws : List Str, inV (.str z) (ws.map V.str) = decide (z ∈ ws)
  | [] => rfl
  | x :: r => by
    show (eqV (.str x) (.str z) || inV (.str z) (r.map V.str)) = decide (z ∈ x :: r)
    rw [inV_str z r]
    show ((x == z) || decide (z ∈ r)) = _
    by_cases h : z = x
    · subst h; simp
    · have h2 : ¬ x = z := fun e => h e.symm
      simp [h, h2]
theorem flat_strs (ws : List Str) : (ws.map V.str).all flatV = true := by
  induction ws with
  | nil => rfl
  | cons x r ih => show (true && (r.map V.str).all flatV) = true; rw [ih]; rfl
theorem dp_signs {K : PySem.W.Frag} {H : Hp} : ∀ cs : List Nat, DpAll K H (cs.map fun c => V.str ⟨#[c]⟩) (cs.map fun c => PyData.str ⟨#[c]⟩)
  | [] => .nil
  | c :: r => .cons (.str _) (dp_signs r)
theorem lay_signs : ∀ cs : List Nat, (∀ c ∈ cs, c < 1114112) → PyData.canLayAll0 (cs.map fun c => PyData.str ⟨#[c]⟩) = true
  | [], _ => rfl
  | c :: r, h => by
    have h1 : PyData.canLay0 (.str ⟨#[c]⟩) = true := by
      show (#[c] : Array Nat).all (· < 1114112) = true
      simp [h c List.mem_cons_self]
    show (PyData.canLay0 (.str ⟨#[c]⟩) && PyData.canLayAll0 (r.map fun c => PyData.str ⟨#[c]⟩)) = true
    rw [h1, lay_signs r fun d hd => h d (List.mem_cons_of_mem _ hd)]; rfl
theorem depth_signs : ∀ cs : List Nat, PyData.depthAll (cs.map fun c => PyData.str ⟨#[c]⟩) = 0
  | [] => rfl
  | c :: r => by
    show max 0 (PyData.depthAll (r.map fun c => PyData.str ⟨#[c]⟩)) = 0
    rw [depth_signs r]; rfl
theorem shaped_signs (cs : List Nat) (h : ∀ c ∈ cs, c < 1114112) : SeqAt.shaped (.list (cs.map fun c => PyData.str ⟨#[c]⟩)) = true := by
  unfold SeqAt.shaped
  have h1 : PyData.canLay0 (.list (cs.map fun c => PyData.str ⟨#[c]⟩)) = true := lay_signs cs h
  have h2 : PyData.depth (.list (cs.map fun c => PyData.str ⟨#[c]⟩)) = 1 := by
    show PyData.depthAll (cs.map fun c => PyData.str ⟨#[c]⟩) + 1 = 1
    rw [depth_signs]
  rw [h1, h2]; rfl
theorem eqv_signs (cs : List Nat) : PyData.eqv (.list (cs.map fun c => PyData.str ⟨#[c]⟩)) (.list []) = cs.isEmpty := by
  cases cs <;> rfl
theorem filt_nil (p : Nat → Bool) : ∀ l : List Nat, (l.filter fun c => !p c).isEmpty = l.all p
  | [] => rfl
  | c :: r => by
    have ih := filt_nil p r
    cases h : p c with
    | true => simp only [List.filter_cons, h, Bool.not_true, List.all_cons, Bool.true_and]; exact ih
    | false => simp [h]
end Lw
namespace Lw
open PySem PySem.Spec PyProof.Rows L2

open SX PySem.NumText
/-! ### texts as lists of signs -/
def figs : List Nat → List Nat
  | 45 :: r => r
  | cs => cs
theorem figs_minus (r : List Nat) : figs (45 :: r) = r := rfl
theorem figs_other {c : Nat} (r : List Nat) (h : c ≠ 45) : figs (c :: r) = c :: r := by
  unfold figs
  split
  · rename_i e
    exact absurd (List.cons.inj e).1 h
  · rfl
theorem len1 : Str.length (S [45]) = 1 := rfl
theorem sub_head (c d : Nat) (r : List Nat) : Builtin.Str.subAt (S (c :: r)) (S [d]) 0 = decide (c = d) := by
  unfold Builtin.Str.subAt
  show ((c :: r).toArray.extract 0 (0 + 1) == #[d]) = _
  simp
  by_cases h : c = d <;> simp [h]
theorem rm_minus (cs : List Nat) : Txt.removeprefix (S cs) (S [45]) = S (figs cs) := by
  unfold Txt.removeprefix
  cases cs with
  | nil => rfl
  | cons c r =>
    rw [sub_head]
    by_cases h : c = 45
    · subst h
      rw [figs_minus]
      simp only [decide_true, if_true]
      show (if (((45 :: r).toArray.size - 1) == (45 :: r).toArray.size) = true then S (45 :: r) else Builtin.Str.strSub (S (45 :: r)) 1 ((45 :: r).toArray.size)) = S r
      have e : ((45 :: r).toArray.size - 1 == (45 :: r).toArray.size) = false := by simp
      rw [e]
      simp [Builtin.Str.strSub, S]
    · rw [figs_other r h]
      simp only [decide_eq_false h, Bool.false_eq_true, if_false]
      rfl
theorem sw_head (c d : Nat) (r : List Nat) : Txt.startswith (S (c :: r)) (S [d]) = decide (c = d) := by
  unfold Txt.startswith
  rw [sub_head]
  have e : decide (0 + (S [d]).length ≤ (S (c :: r)).length) = true := decide_eq_true (by rw [S_len, S_len]; simp)
  rw [e, Bool.true_and]
theorem sw_nil (d : Nat) : Txt.startswith (S []) (S [d]) = false := by
  unfold Txt.startswith
  have e : decide (0 + (S [d]).length ≤ (S []).length) = false := decide_eq_false (by rw [S_len, S_len]; simp)
  rw [e, Bool.false_and]
theorem ascii_S {cs : List Nat} (h : ∀ c ∈ cs, c < 128) : Txt.isascii (S cs) = true := by
  unfold Txt.isascii
  show cs.toArray.all (· < 128) = true
  simp only [List.all_toArray, List.all_eq_true, decide_eq_true_eq]
  exact h
theorem dig128 : ∀ c, c < 128 → Unicode.isDigit c = (decide (48 ≤ c) && decide (c ≤ 57)) := by decide +kernel
/-- all are figures, and there is one -/
def digB (cs : List Nat) : Bool := !cs.isEmpty && cs.all fun c => decide (48 ≤ c) && decide (c ≤ 57)
theorem isdigit_S {cs : List Nat} (h : ∀ c ∈ cs, c < 128) : Txt.isdigit (S cs) = digB cs := by
  unfold Txt.isdigit digB
  have e1 : decide ((S cs).length > 0) = !cs.isEmpty := by
    rw [S_len]
    cases cs <;> simp
  have e2 : (S cs).cps.all Unicode.isDigit = cs.all fun c => decide (48 ≤ c) && decide (c ≤ 57) := by
    show cs.toArray.all Unicode.isDigit = _
    rw [List.all_toArray]
    induction cs with
    | nil => rfl
    | cons c r ih =>
      rw [List.all_cons, List.all_cons, dig128 c (h c List.mem_cons_self), ih (fun d hd => h d (List.mem_cons_of_mem _ hd)) (by rw [S_len]; cases r <;> simp)]
  rw [e1, e2]
theorem digB_all {cs : List Nat} (h : digB cs = true) : AllDigits cs ∧ cs ≠ [] := by
  unfold digB at h
  rw [Bool.and_eq_true] at h
  refine ⟨fun c hc => ?_, fun e => by rw [e] at h; exact absurd h.1 (by decide)⟩
  have := List.all_eq_true.mp h.2 c hc
  rw [Bool.and_eq_true, decide_eq_true_eq, decide_eq_true_eq] at this
  exact this
theorem figs_sub {cs : List Nat} {c : Nat} (h : c ∈ figs cs) : c ∈ cs := by
  unfold figs at h
  split at h
  · exact List.mem_cons_of_mem _ h
  · exact h
theorem figs_len (cs : List Nat) : (figs cs).length ≤ cs.length := by
  unfold figs
  split
  · simp
  · exact Nat.le_refl _
/-! ### what figures are worth -/
theorem fold_app (a b : List Nat) (x : Nat) : (a ++ b).foldl (fun acc c => acc * 10 + (c - 48)) x = b.foldl (fun acc c => acc * 10 + (c - 48)) (a.foldl (fun acc c => acc * 10 + (c - 48)) x) := List.foldl_append
theorem fold_from : ∀ (b : List Nat) (x : Nat), b.foldl (fun acc c => acc * 10 + (c - 48)) x = x * 10 ^ b.length + digitsVal b
  | [], x => by simp [digitsVal]
  | c :: r, x => by
    show r.foldl _ (x * 10 + (c - 48)) = x * 10 ^ (r.length + 1) + r.foldl _ (0 * 10 + (c - 48))
    rw [fold_from r, fold_from r (0 * 10 + (c - 48)), Nat.pow_succ, Nat.zero_mul, Nat.zero_add, Nat.add_mul, Nat.mul_assoc, Nat.mul_comm 10 (10 ^ r.length), Nat.add_assoc]
theorem val_app (a b : List Nat) : digitsVal (a ++ b) = digitsVal a * 10 ^ b.length + digitsVal b := by
  show (a ++ b).foldl _ 0 = _
  rw [fold_app, fold_from b]; rfl
theorem val_zeros : ∀ k : Nat, digitsVal (List.replicate k 48) = 0
  | 0 => rfl
  | k + 1 => val_zeros k
theorem val_lt : ∀ cs : List Nat, AllDigits cs → digitsVal cs < 10 ^ cs.length
  | [], _ => by decide
  | c :: r, h => by
    have h1 := h c List.mem_cons_self
    have ih := val_lt r fun d hd => h d (List.mem_cons_of_mem _ hd)
    have e : digitsVal (c :: r) = (c - 48) * 10 ^ r.length + digitsVal r := by
      rw [show c :: r = [c] ++ r from rfl, val_app]
      show (0 * 10 + (c - 48)) * _ + _ = _
      rw [Nat.zero_mul, Nat.zero_add]
    rw [e, List.length_cons, Nat.pow_succ]
    have h2 : (c - 48) * 10 ^ r.length ≤ 9 * 10 ^ r.length := Nat.mul_le_mul_right _ (by omega)
    omega
theorem ten_two (n : Nat) : 10 ^ n ≤ 2 ^ (4 * n) := by
  rw [Nat.pow_mul]
  exact Nat.pow_le_pow_left (by decide) n
theorem all_zeros (k : Nat) : AllDigits (List.replicate k 48) := fun c hc => by
  rw [List.eq_of_mem_replicate hc]
  decide
theorem AllDigits.app {a b : List Nat} (ha : AllDigits a) (hb : AllDigits b) : AllDigits (a ++ b) := fun c hc => (List.mem_append.mp hc).elim (ha c) (hb c)
/-- the integer that a text writes just as str does -/
def intOf (cs : List Nat) : Option Int :=
  if digB (figs cs) = true then
    if (figs cs).head? = some 48 ∧ cs ≠ [48] then none
    else if cs.head? = some 45 then some (-((digitsVal (figs cs) : Nat) : Int)) else some ((digitsVal (figs cs) : Nat) : Int)
  else none
def optV : Option Int → V
  | none => .non
  | some i => .int i
end Lw
namespace Lw
open PySem PySem.Spec PyProof.Rows L2

open SX PySem.NumText
abbrev sIntOf : Stmt := top 33
theorem rep_list (z : Array Nat) : ∀ n : Nat, ∀ acc : Array Nat, ((List.replicate n z).foldl (· ++ ·) acc).toList = acc.toList ++ (List.replicate n z.toList).flatten
  | 0, acc => by simp
  | n + 1, acc => by
    rw [List.replicate_succ, List.foldl_cons, rep_list z n, List.replicate_succ, List.flatten_cons, Array.toList_append, List.append_assoc]
/-- a text, so many times -/
theorem op_mulS {X : Cx} : OpR X (binaryOp .Mult) (fun x y H Q => ∃ (cs : List Nat) (n : Int), x = .str (S cs) ∧ y = .int n ∧ 0 ≤ n ∧ n ≤ 10000 ∧ cs.length ≤ 1000 ∧ Q (.str (S (List.replicate n.toNat cs).flatten)) H) := by
  intro pins s σ H x y v u Q I rx ry h
  obtain ⟨cs, n, rfl, rfl, h0, h1, h2, q⟩ := h
  obtain ⟨t, rfl⟩ := rx
  obtain ⟨t2, rfl⟩ := ry
  refine PySem.P.mul_str ?_ ?_ ?_ ?_
  · rw [decide_eq_false (show ¬ n < -(2 ^ 63 : Int) by omega), decide_eq_false (show ¬ n ≥ 2 ^ 63 by omega)]; rfl
  · intro hn _ hz
    rw [S_len] at hz
    have : (9223372036854775807 : Int) / n ≥ 922337203685477 := by
      rw [ge_iff_le, Int.le_ediv_iff_mul_le (by omega)]
      omega
    have e : ((2 : Int) ^ 63 - 1) = 9223372036854775807 := by decide
    rw [e] at hz
    omega
  · intro hn _
    rw [S_len]
    have : cs.length * n.toNat ≤ 1000 * 10000 := Nat.mul_le_mul h2 (by omega)
    refine decide_eq_false ?_
    exact Nat.not_lt.mpr (Nat.le_trans this (by rw [sizeLine_eq]; decide))
  · by_cases hn : n < 1
    · rw [if_pos hn]
      have e : n.toNat = 0 := by omega
      rw [e] at q
      exact ⟨by decide, ⟨.str (S []), H, I.tok _, ⟨_, rfl⟩, q⟩⟩
    · rw [if_neg hn]
      by_cases hc : (n == 1 || (S cs).length == 0) = true
      · rw [if_pos hc]
        have e : (List.replicate n.toNat cs).flatten = cs := by
          rw [Bool.or_eq_true, beq_iff_eq, beq_iff_eq, S_len] at hc
          rcases hc with e | e
          · subst e; simp
          · rw [List.length_eq_zero_iff.mp e]; simp
        rw [e] at q
        exact ⟨.str (S cs), H, I, ⟨t, rfl⟩, q⟩
      · rw [if_neg hc]
        have e : (⟨(List.replicate n.toNat (S cs).cps).foldl (· ++ ·) #[]⟩ : Str) = S (List.replicate n.toNat cs).flatten := by
          refine congrArg Str.mk ?_
          refine Array.toList_inj.mp ?_
          rw [rep_list]; simp [S]
        rw [e]
        refine ⟨?_, ⟨.str _, H, I.tok _, ⟨_, rfl⟩, q⟩⟩
        rw [S_len, List.length_flatten, List.map_replicate, List.sum_replicate_nat]
        exact Nat.le_trans (Nat.mul_le_mul (show n.toNat ≤ 10000 by omega) h2) (by rw [sizeLine_eq]; decide)
theorem join_ifS {c : TT} {t u : TS} {D : Ends} {σ : L2.St} {H : Hp} (Pj : L2.St → Hp → Prop) (hr : ∀ σ' H', Pj σ' H' → D.nx σ' H') (h : (∀ σ' H', Pj σ' H' → D.nx σ' H') → tIfS c t u D σ H) : tIfS c t u D σ H := h hr
theorem nxt {t u : TS} {D D' : Ends} {σ : L2.St} {H : Hp} (e : D'.nx = tSeq t u D) (h : t { D with nx := u D } σ H) : tNext D' σ H := by
  show D'.nx σ H
  rw [e]; exact h
theorem slice_mid {a : List Nat} {i j : Int} (h0 : 0 ≤ i) (h1 : i ≤ j) (h2 : j ≤ (a.length : Int)) : Txt.slice (S a) (some i) (some j) = S ((a.drop i.toNat).take (j - i).toNat) :=
  beq_iff_eq.mp (PyProof.Rows.slice_closesL (x := S a) h0 h1 (by rw [S_len]; exact h2))
theorem rg60 (m : Nat) (hm : m ≤ 1000) : RgC 0 ((60 * m : Nat) : Int) 60 m := by
  refine ⟨by decide, by decide, ?_, ?_⟩
  · have key : ∀ x : Int, 0 ≤ x → x ≤ 100000 → Builtin.Range.rangeFitsLong x = true := fun x h0 h1 => by
      unfold Builtin.Range.rangeFitsLong
      rw [decide_eq_true (show -(2 ^ 63) ≤ x by omega), decide_eq_true (show x < 2 ^ 63 by omega)]; rfl
    have size : Builtin.Range.rangeSize 0 ((60 * m : Nat) : Int) 60 = (m : Int) := by
      unfold Builtin.Range.rangeSize
      rw [if_pos (show (60 : Int) > 0 by decide)]
      split <;> omega
    unfold Builtin.Range.small
    rw [size, if_pos (show (60 : Int) > 0 by decide), key 0 (by omega) (by omega), key _ (by omega) (by omega), key 60 (by omega) (by omega), key _ (by omega) (by omega), key _ (by omega) (by omega)]
    simp
  · unfold Builtin.Range.rangeSize
    rw [if_pos (show (60 : Int) > 0 by decide)]
    split <;> omega
structure TxtN (mg : Str → Option Value) : Prop extends Txt mg where
  c_PF : ∃ t, mg "PIECE_FIGURES" = some (.int 60 t)
  c_PW : ∃ t, mg "PIECE_WORTH" = some (.int (10 ^ 60) t)
def TextOk (x : V) : Prop := ∀ z, x = .str z → ∃ cs, z = S cs ∧ (∀ c ∈ cs, c < 128) ∧ cs.length ≤ 5000
def intV : V → Option Int
  | .str z => intOf z.cps.toList
  | _ => none
def spIntOf (K : PySem.W.Frag) : Sp := fun vs H Q _ => ∃ x, vs = [x] ∧ Anyv K H x ∧ TextOk x ∧ Q (optV (intV x)) H
section
variable {P : Program} {w : World} {K : PySem.W.Frag} {mg : Str → Option Value} {base : Heap}
theorem scIntOf : FnScope ["word", "figures", "filled", "worth", "at"] ["word"] (C8.fnScope sIntOf) := C8.fnScope_by (by decide +kernel)
theorem cal_intof {f : Addr} {fd : FuncData} (F : C8.Def K mg "integer_of" sIntOf f fd) (b : Binds K fd ["word"] []) (T : TxtN mg) : C8.Cal P w K mg base 1 "integer_of" (spIntOf K) [] := by
  refine C8.cal0 F b .nil scIntOf (fun vs H Q E h => ?_) (fun cdv A outer st H vs Q E hr h => ?_)
  · obtain ⟨x, rfl, _⟩ := h
    rfl
  · obtain ⟨x, rfl, a, ok, k⟩ := h
    obtain ⟨t1, hPF⟩ := T.c_PF
    obtain ⟨t2, hPW⟩ := T.c_PW
    refine ⟨_, (pss_cons (ps_if (pt_not (pt_val (pe_callB call_isz (by rfl) T.n_isinstance (by decide +kernel) (pa_cons (pv 0) (pa_cons (pe_bltn (v := .ty "str") (by rfl) T.n_str (by decide +kernel) rfl) pa_nil))))) (pss_one (ps_ret pe_non)) pss_nil)
  (pss_cons (ps_set (i := 1) scIntOf.nd rfl (Or.inl rfl) (pe_m1 PySem.F.slot_str_removeprefix PySem.F.type_str_removeprefix mt_removeprefix (pv 0) pe_str))
  (pss_cons (ps_if (PW.pt (pw_or (pt_not (pt_val (pe_m0 PySem.F.slot_str_isascii PySem.F.type_str_isascii mt_isascii (pv 1)))) (pw_or1 (pt_not (pt_val (pe_m0 PySem.F.slot_str_isdigit PySem.F.type_str_isdigit mt_isdigit (pv 1))))))) (pss_one (ps_ret pe_non)) pss_nil)
  (pss_cons (ps_if (PW.pt (pw_and (pt_val (pe_m1 PySem.F.slot_str_startswith PySem.F.type_str_startswith mt_startswith (pv 1) pe_str)) (pw_and1 (pt_cmpR op_ne (pv 0) pe_str (nomark _))))) (pss_one (ps_ret pe_non)) pss_nil)
  (pss_cons (ps_set (i := 2) scIntOf.nd rfl (Or.inl rfl) (pe_op op_add_str (pe_op op_mulS pe_str (pe_op op_modN (pe_un un_neg (pe_callB call_len_str (by rfl) T.n_len (by decide +kernel) (pa_cons (pv 1) pa_nil))) (pe_glob (v := .int 60) rfl hPF ⟨_, rfl⟩))) (pv 1)))
  (pss_cons (ps_set (i := 3) scIntOf.nd rfl (Or.inl rfl) pe_int)
  (pss_cons (ps_for PassesOwn.never rfl (pi_range3 (by rfl) T.n_range (pa_cons pe_int (pa_cons (pe_callB call_len_str (by rfl) T.n_len (by decide +kernel) (pa_cons (pv 2) pa_nil)) (pa_cons (pe_glob (v := .int 60) rfl hPF ⟨_, rfl⟩) pa_nil)))) (pg_name (i := 4) scIntOf.nd rfl (Or.inl rfl)) (pss_one (ps_set (i := 3) scIntOf.nd rfl (Or.inl rfl) (pe_op op_add (pe_op op_mulW (pv 3) (pe_glob (v := .int (10 ^ 60)) rfl hPW ⟨_, rfl⟩)) (pe_callTy call_int_str (by rfl) T.n_int (by decide +kernel) (pa_cons (pe_slice C8.sl_txt (pv 2) (po_some (pv 4)) (po_some (pe_op op_add (pv 4) (pe_glob (v := .int 60) rfl hPF ⟨_, rfl⟩)))) pa_nil))))))
  (pss_one (ps_ret (pe_ifExp (pt_val (pe_m1 PySem.F.slot_str_startswith PySem.F.type_str_startswith mt_startswith (pv 0) pe_str)) (pe_un un_neg (pv 3)) (pv 3))))))))))), ?_⟩
    refine ⟨_, rfl, ?_⟩
    dsimp only [tCons, tC, tNil]
    refine isz_str a ⟨_, rfl, ?_⟩
    cases a with
    | str z =>
      obtain ⟨cs, rfl, h128, hlen⟩ := ok z rfl
      refine iteF ?_
      have hl : (S cs).length ≤ sizeLine := by rw [S_len]; exact Nat.le_trans hlen (by decide)
      have f128 : ∀ c ∈ figs cs, c < 128 := fun c hc => h128 c (figs_sub hc)
      have flen : (figs cs).length ≤ 5000 := Nat.le_trans (figs_len cs) hlen
      refine ⟨_, rfl, ⟨_, rfl⟩, _, _, rfl, rfl, hl, ?_⟩
      rw [show (Str.ofString "-") = S [45] from rfl, rm_minus]
      refine ⟨_, rfl, ⟨_, rfl⟩, _, rfl, rfl, trivial, _, rfl, ?_⟩
      rw [ascii_S f128]
      refine iteF ⟨_, rfl, ⟨_, rfl⟩, _, rfl, rfl, trivial, _, rfl, ?_⟩
      rw [isdigit_S f128]
      have kk : ∀ o : Option Int, o = intOf cs → Q (optV o) H := fun o e => by rw [e]; exact k
      cases hd : digB (figs cs) with
      | false =>
        refine iteT (kk none ?_)
        unfold intOf
        rw [hd]; rfl
      | true =>
        refine iteF ?_
        obtain ⟨hall, hne⟩ := digB_all hd
        obtain ⟨f, fr, hfig⟩ : ∃ f fr, figs cs = f :: fr := by
          cases e : figs cs with
          | nil => exact absurd e hne
          | cons f fr => exact ⟨f, fr, rfl⟩
        have bad : ¬ ((figs cs).head? = some 48 ∧ cs ≠ [48]) → ∀ o : Option Int, (o = if cs.head? = some 45 then some (-((digitsVal (figs cs) : Nat) : Int)) else some ((digitsVal (figs cs) : Nat) : Int)) → Q (optV o) H := fun hb o e => by
          refine kk o ?_
          unfold intOf
          rw [if_pos hd, if_neg hb]; exact e
        have s0 : Str.ofString "0" = S [48] := rfl
        dsimp only [tNext, tSeq]
        refine join_ifS (fun σ' H' => σ' = [some (.str (S cs)), some (.str (S (figs cs))), none, none, none] ∧ H' = H ∧ ¬ ((figs cs).head? = some 48 ∧ cs ≠ [48])) ?rest (fun go => ?_)
        case rest =>
          rintro σ' H' ⟨rfl, rfl, hb⟩
          have fl : ((S (figs cs)).length : Int) = ((figs cs).length : Int) := by rw [S_len]
          obtain ⟨pad, hpad⟩ : ∃ pad : Nat, Int.fmod (-((S (figs cs)).length : Int)) 60 = (pad : Int) := ⟨(Int.fmod (-((S (figs cs)).length : Int)) 60).toNat, by have := fm0 (a := -((S (figs cs)).length : Int)) (d := 60) (by decide); omega⟩
          have hpad' : (-((figs cs).length : Int)) % 60 = (pad : Int) := by rw [← fl, ← hpad, Int.fmod_eq_emod_of_nonneg _ (by decide)]
          obtain ⟨m, hm⟩ : ∃ m : Nat, pad + (figs cs).length = 60 * m := ⟨(pad + (figs cs).length) / 60, by omega⟩
          have hfl : (S (figs cs)).length ≤ sizeLine := by rw [S_len]; exact Nat.le_trans flen (by decide)
          refine ⟨_, rfl, _, rfl, hfl, _, rfl, _, _, rfl, rfl, (by show ¬ (_ = _); decide), [48], _, s0 ▸ rfl, rfl, ?_⟩
          rw [hpad]
          have pl : pad < 60 := by omega
          have ez : (List.replicate ((pad : Int).toNat) [48]).flatten = List.replicate pad 48 := by
            rw [Int.toNat_natCast]
            induction pad with
            | zero => rfl
            | succ p ih => rw [List.replicate_succ, List.flatten_cons, List.replicate_succ]; simp
          rw [ez]
          obtain ⟨fill, hfill⟩ : ∃ fill, fill = List.replicate pad 48 ++ figs cs := ⟨_, rfl⟩
          have flenF : fill.length = 60 * m := by rw [hfill, List.length_append, List.length_replicate]; exact hm
          have allF : AllDigits fill := by rw [hfill]; exact AllDigits.app (all_zeros pad) hall
          have valF : digitsVal fill = digitsVal (figs cs) := by rw [hfill, val_app, val_zeros, Nat.zero_mul, Nat.zero_add]
          have hm60 : m ≤ 90 := by omega
          have lF : (S fill).length ≤ sizeLine := by rw [S_len, flenF]; exact Nat.le_trans (show 60 * m ≤ 5400 by omega) (by decide)
          refine ⟨by omega, by omega, by decide, _, rfl, _, _, rfl, rfl, ?_, ?_⟩
          · rw [S_len, S_len, List.length_replicate]; exact Nat.le_trans (show pad + (figs cs).length ≤ 5400 by omega) (by decide)
          rw [S_cat, ← hfill]
          refine ⟨_, rfl, _, rfl, lF, 0, _, 60, m, rfl, ?_, for_rangeC (fun i σ' H2 => ∃ at_, σ' = [some (V.str (S cs)), some (V.str (S (figs cs))), some (V.str (S fill)), some (V.int ((digitsVal (fill.take (60 * i)) : Nat) : Int)), at_] ∧ H2 = H') ⟨none, rfl, rfl⟩ ?_ ?_⟩
          · rw [show ((S fill).length : Int) = ((60 * m : Nat) : Int) by rw [S_len, flenF]]
            exact rg60 m (by omega)
          · rintro i σ' H2 hi ⟨at_, rfl, rfl⟩
            have h60 : 60 * i + 60 ≤ 60 * m := by omega
            have sl : Txt.slice (S fill) (some (0 + ((i : Nat) : Int) * 60)) (some (0 + ((i : Nat) : Int) * 60 + 60)) = S ((fill.drop (60 * i)).take 60) := by
              rw [slice_mid (by omega) (by omega) (by rw [flenF]; omega)]
              rw [show (0 + ((i : Nat) : Int) * 60).toNat = 60 * i by omega, show (0 + ((i : Nat) : Int) * 60 + 60 - (0 + ((i : Nat) : Int) * 60)).toNat = 60 by omega]
            have cl : ((fill.drop (60 * i)).take 60).length = 60 := by rw [List.length_take, List.length_drop, flenF]; omega
            have cd : AllDigits ((fill.drop (60 * i)).take 60) := fun c hc => allF c (List.mem_of_mem_drop (List.mem_of_mem_take hc))
            have tk : fill.take (60 * (i + 1)) = fill.take (60 * i) ++ (fill.drop (60 * i)).take 60 := by rw [Nat.mul_succ, List.take_add]
            have td : AllDigits (fill.take (60 * i)) := fun c hc => allF c (List.mem_of_mem_take hc)
            have tl : (fill.take (60 * i)).length = 60 * i := by rw [List.length_take, flenF]; omega
            have big : (((digitsVal (fill.take (60 * i)) : Nat) : Int)).natAbs < 2 ^ (4 * (60 * i) + 1) := by
              have h1 := val_lt _ td
              rw [tl] at h1
              have h2 := ten_two (60 * i)
              have h3 : (2 : Nat) ^ (4 * (60 * i)) < 2 ^ (4 * (60 * i) + 1) := Nat.pow_lt_pow_right (by decide) (by omega)
              rw [Int.natAbs_natCast]
              omega
            refine ⟨_, rfl, _, _, rfl, rfl, wide_mul big (show ((10 : Int) ^ 60).natAbs < 2 ^ 240 by decide) (by omega) (by decide) (by omega), ?_⟩
            have hint : intText? (Txt.slice (S fill) (some (0 + ((i : Nat) : Int) * 60)) (some (0 + ((i : Nat) : Int) * 60 + 60))) = some ((digitsVal ((fill.drop (60 * i)).take 60) : Nat) : Int) := by
              rw [sl]
              exact intText_digits (x := S ((fill.drop (60 * i)).take 60)) cd (fun e => by rw [show (fill.drop (60 * i)).take 60 = [] from e] at cl; exact absurd cl (by decide)) (by rw [S_len, cl]; decide)
            have hsl : (Txt.slice (S fill) (some (0 + ((i : Nat) : Int) * 60)) (some (0 + ((i : Nat) : Int) * 60 + 60))).length ≤ 640 := by rw [sl, S_len, cl]; decide
            have val : ((digitsVal (fill.take (60 * i)) : Nat) : Int) * 10 ^ 60 + ((digitsVal ((fill.drop (60 * i)).take 60) : Nat) : Int) = ((digitsVal (fill.take (60 * (i + 1))) : Nat) : Int) := by
              rw [tk, val_app, cl]
              rw [Int.natCast_add, Int.natCast_mul, Int.natCast_pow]; rfl
            refine ⟨_, rfl, ⟨_, rfl, _, rfl, ⟨_, rfl, _, _, rfl, rfl, _, rfl, _, rfl, lF, _, _, rfl, hint, hsl, _, _, rfl, rfl, some (V.int (0 + ((i : Nat) : Int) * 60)), ?_, rfl⟩⟩⟩
            rw [← val]; rfl
          · rintro σ' H2 ⟨at_, rfl, rfl⟩
            have full : fill.take (60 * m) = fill := List.take_of_length_le (by omega)
            rw [full, valF]
            refine ⟨_, rfl, ⟨_, rfl⟩, _, _, rfl, rfl, _, rfl, ?_⟩
            obtain ⟨c, r, hcs⟩ : ∃ c r, cs = c :: r := by
              cases e : cs with
              | nil => rw [e] at hfig; cases hfig
              | cons c r => exact ⟨c, r, rfl⟩
            have esw : Txt.startswith (S cs) (S [45]) = decide (c = 45) := by rw [hcs]; exact sw_head c 45 r
            rw [esw]
            refine ite2 (fun c2 => ?_) (fun c2 => ?_)
            · have e2 : c = 45 := of_decide_eq_true c2
              refine ⟨_, rfl, _, rfl, bad hb (some (-((digitsVal (figs cs) : Nat) : Int))) ?_⟩
              rw [if_pos (show cs.head? = some 45 by rw [hcs, e2]; rfl)]
            · have e2 : c ≠ 45 := of_decide_eq_false (Bool.eq_false_iff.mpr c2)
              refine ⟨_, rfl, bad hb (some ((digitsVal (figs cs) : Nat) : Int)) ?_⟩
              rw [if_neg (show ¬ cs.head? = some 45 by rw [hcs]; exact fun z => e2 (Option.some.inj z))]
        refine ⟨_, rfl, ⟨_, rfl⟩, _, _, rfl, rfl, _, rfl, ?_⟩
        rw [hfig, s0, sw_head]
        refine ite2 (fun c0 => ?_) (fun c0 => ?_)
        · refine ⟨_, rfl, rfl, _, rfl, ite2 (fun c1 => ?_) (fun c1 => ?_)⟩
          · refine kk none ?_
            unfold intOf
            rw [if_pos hd, if_pos]
            refine ⟨by rw [hfig, of_decide_eq_true c0]; rfl, fun e => ?_⟩
            rw [e] at c1
            exact absurd c1 (by decide)
          · refine go _ _ ⟨by rw [hfig]; rfl, rfl, fun hb => hb.2 ?_⟩
            have e : V.str (S cs) = V.str (S [48]) := by simpa using c1
            exact S_inj (V.str.inj e)
        · refine iteF (go _ _ ⟨by rw [hfig]; rfl, rfl, fun hb => ?_⟩)
          rw [hfig] at hb
          have e : f = 48 := Option.some.inj hb.1
          exact c0 (decide_eq_true e)
    | int i => exact iteT k
    | bl b => exact iteT k
    | non => exact iteT k
    | obj h h1 h2 h3 => exact iteT k
end
end Lw
namespace Lw
open PySem PySem.Spec PyProof.Rows L2
open SX PySem.NumText TL
abbrev sNumOf : Stmt := top 34
theorem dig_back : ∀ cs : List Nat, AllDigits cs → (cs.map Char.ofNat).map Char.toNat = cs
  | [], _ => rfl
  | c :: r, h => by
    have h1 := h c List.mem_cons_self
    have e : (Char.ofNat c).toNat = c := by
      have k : ∀ d : Nat, d < 58 → (Char.ofNat d).toNat = d := by decide
      exact k c (by omega)
    rw [List.map_cons, List.map_cons, e, dig_back r fun d hd => h d (List.mem_cons_of_mem _ hd)]
theorem num_back {c : Nat} {r : List Nat} (h : AllDigits (c :: r)) (hc : 49 ≤ c ∨ r = []) : numL (digitsVal (c :: r)) = c :: r := by
  unfold numL
  rw [toDigits_digitsVal r.length (c :: r) rfl h (hc.elim (fun h => .inr ⟨c, r, rfl, h⟩) fun e => .inl (by rw [e]; rfl)), dig_back _ h]
theorem num_head : ∀ n : Nat, 0 < n → ∃ c r, numL n = c :: r ∧ 49 ≤ c := by
  intro n
  induction n using Nat.strongRecOn with
  | _ n ih =>
    intro h0
    by_cases h : n < 10
    · exact ⟨48 + n, [], numL_lt h, by omega⟩
    · obtain ⟨c, r, e, hc⟩ := ih (n / 10) (by omega) (by omega)
      exact ⟨c, r ++ [48 + n % 10], by rw [numL_step (by omega), e]; rfl, hc⟩
def numV (x : V) (lo hi : Int) : Option Int := match intV x with
  | some i => if lo ≤ i ∧ i ≤ hi then some i else none
  | none => none
theorem join_any {t : TS} {D : Ends} {σ : L2.St} {H : Hp} (Pj : L2.St → Hp → Prop) (hr : ∀ σ' H', Pj σ' H' → D.nx σ' H') (h : (∀ σ' H', Pj σ' H' → D.nx σ' H') → t D σ H) : t D σ H := h hr
def spNumOf (K : PySem.W.Frag) : Sp := fun vs H Q _ => ∃ x lo hi, vs = [x, .int lo, .int hi] ∧ Anyv K H x ∧ TextOk x ∧ Q (optV (numV x lo hi)) H
section
variable {P : Program} {w : World} {K : PySem.W.Frag} {mg : Str → Option Value} {base : Heap}
theorem scNumOf : FnScope ["word", "least", "most", "value"] ["word", "least", "most"] (C8.fnScope sNumOf) := C8.fnScope_by (by decide +kernel)
theorem fn_numof {f : Addr} {fd : FuncData} (F : C8.Def K mg "number_of" sNumOf f fd) (DI : C8.Cal P w K mg base 1 "integer_of" (spIntOf K) []) (DW : C8.Cal P w K mg base 2 "is_within" (spWithin K) []) :
    FnOk P w K mg base C8.CX0 3 f fd ["word", "least", "most"] (spNumOf K) := by
  refine C8.fn0 F.fn scNumOf (fun vs H Q E h => ?_) (fun cdv A outer st H vs Q E hr h => ?_)
  · obtain ⟨x, lo, hi, rfl, _⟩ := h
    rfl
  · obtain ⟨x, lo, hi, rfl, a, ok, k⟩ := h
    refine ⟨_, (pss_cons (ps_set (i := 3) scNumOf.nd rfl (Or.inl rfl) (C8.pe_c DI hr (by decide) (by rfl) (pa_cons (pv 0) pa_nil)))
  (pss_one (ps_ret (pe_ifExp (pt_val (C8.pe_c DW hr (by decide) (by rfl) (pa_cons (pv 3) (pa_cons (pv 1) (pa_cons (pv 2) pa_nil))))) (pv 3) pe_non)))), ?_⟩
    refine ⟨_, rfl, x, rfl, a, ok, ?_⟩
    have av : Anyv K H (optV (intV x)) := by cases intV x with | none => exact .non | some i => exact .int i
    refine ⟨_, rfl, _, rfl, _, rfl, _, _, _, rfl, av, _, rfl, ?_⟩
    unfold numV at k
    cases e : intV x with
    | none =>
      rw [e] at k
      exact iteF k
    | some i =>
      rw [e] at k
      refine ite2 (fun c => ?_) (fun c => ?_)
      · have h2 : lo ≤ i ∧ i ≤ hi := by
          have c' : (decide (lo ≤ i) && decide (i ≤ hi)) = true := c
          rw [Bool.and_eq_true, decide_eq_true_eq, decide_eq_true_eq] at c'
          exact c'
        refine ⟨_, rfl, ?_⟩
        simp only [h2, and_self, if_true] at k
        exact k
      · have h2 : ¬ (lo ≤ i ∧ i ≤ hi) := fun z => c (by
          show (decide (lo ≤ i) && decide (i ≤ hi)) = true
          rw [decide_eq_true z.1, decide_eq_true z.2]; rfl)
        simp only [h2, if_false] at k
        exact k
theorem cal_numof {f : Addr} {fd : FuncData} (F : C8.Def K mg "number_of" sNumOf f fd) (b : Binds K fd ["word", "least", "most"] []) (DI : C8.Cal P w K mg base 1 "integer_of" (spIntOf K) []) (DW : C8.Cal P w K mg base 2 "is_within" (spWithin K) []) :
    C8.Cal P w K mg base 3 "number_of" (spNumOf K) [] :=
  ⟨f, fd, _, [], fn_numof F DI DW, F.mgf, F.kp, b, .nil⟩
end
end Lw
namespace Lw
open PySem PySem.Spec PyProof.Rows L2
open LamX ClX
/-! ### errors of two fields, raised -/
abbrev sTxE : Stmt := inClass (top 25) 0
abbrev sMnE : Stmt := inClass (top 28) 0
/-- what an __init__ that keeps its two arguments promises -/
def spE2 (C : Addr) (f1 f2 : Str) : Sp := fun vs H Q _ => ∃ (a : Addr) (v1 v2 : V), vs = [.ref a, v1, v2] ∧ H a = some (exo a C none) ∧ ∀ dx, H dx = none → dx ≠ a → ∀ fs, fs.lookup f1 = some v1 → fs.lookup f2 = some v2 → Q .non (upd (upd H dx (exd dx fs)) a (exo a C (some dx)))
theorem two_fields {H : Hp} {a C dx : Addr} {f1 f2 : Str} {v1 v2 : V} (ne : dx ≠ a) : upd (upd (upd H dx (exd dx [(f1, v1)])) a (exo a C (some dx))) dx (exd dx [(f2, v2), (f1, v1)]) = upd (upd H dx (exd dx [(f2, v2), (f1, v1)])) a (exo a C (some dx)) := by
  funext b
  by_cases h1 : b = a
  · rw [h1, upd_ne ne.symm, upd_same, upd_same]
  · by_cases h2 : b = dx
    · rw [h2, upd_same, upd_ne ne, upd_same]
    · rw [upd_ne h2, upd_ne h1, upd_ne h2, upd_ne h1, upd_ne h2]
section
variable {P : Program} {w : World} {K : PySem.W.Frag} {mg : Str → Option Value} {base : Heap}
theorem sctxE : FnScope ["self", "line", "word"] ["self", "line", "word"] (C8.fnScope sTxE) := C8.fnScope_by (by decide +kernel)
theorem fn_txE {C f : Addr} {fd : FuncData} (F : C8.Fun K "__init__" "BadText.__init__" sTxE f fd) (T : OexC K C) (no1 : PySem.W.findIn K (.ref C) "line" = some none) (no2 : PySem.W.findIn K (.ref C) "word" = some none) : FnOk P w K mg base C8.CX0 1 f fd ["self", "line", "word"] (spE2 C "line" "word") := by
  refine C8.fn0 F sctxE (fun vs H Q E h => ?_) (fun cdv A outer st H vs Q E hr h => ?_)
  · obtain ⟨a, v1, v2, rfl, _⟩ := h
    rfl
  · obtain ⟨a, v1, v2, rfl, ha, k⟩ := h
    refine ⟨_, pss_cons (ps_ost (pv 0) (pv 1)) (pss_one (ps_ost (pv 0) (pv 2))), ?_⟩
    refine ⟨_, rfl, _, rfl, a, C, rfl, T, no1, .inl ⟨ha, fun dx h1 h2 => ?_⟩⟩
    refine ⟨_, rfl, _, rfl, a, C, rfl, T, no2, .inr ⟨dx, [("line", v1)], upd_same, (by rw [upd_ne h2]; exact upd_same), (by show 1 ≤ 900; decide), ?_⟩⟩
    rw [two_fields h2]
    exact k dx h1 h2 _ (by rw [lookup_put, if_neg (by decide +kernel), lookup_put, if_pos rfl]) (by rw [lookup_put, if_pos rfl])
theorem scmnE : FnScope ["self", "what", "most"] ["self", "what", "most"] (C8.fnScope sMnE) := C8.fnScope_by (by decide +kernel)
theorem fn_mnE {C f : Addr} {fd : FuncData} (F : C8.Fun K "__init__" "TooMany.__init__" sMnE f fd) (T : OexC K C) (no1 : PySem.W.findIn K (.ref C) "what" = some none) (no2 : PySem.W.findIn K (.ref C) "most" = some none) : FnOk P w K mg base C8.CX0 1 f fd ["self", "what", "most"] (spE2 C "what" "most") := by
  refine C8.fn0 F scmnE (fun vs H Q E h => ?_) (fun cdv A outer st H vs Q E hr h => ?_)
  · obtain ⟨a, v1, v2, rfl, _⟩ := h
    rfl
  · obtain ⟨a, v1, v2, rfl, ha, k⟩ := h
    refine ⟨_, pss_cons (ps_ost (pv 0) (pv 1)) (pss_one (ps_ost (pv 0) (pv 2))), ?_⟩
    refine ⟨_, rfl, _, rfl, a, C, rfl, T, no1, .inl ⟨ha, fun dx h1 h2 => ?_⟩⟩
    refine ⟨_, rfl, _, rfl, a, C, rfl, T, no2, .inr ⟨dx, [("what", v1)], upd_same, (by rw [upd_ne h2]; exact upd_same), (by show 1 ≤ 900; decide), ?_⟩⟩
    rw [two_fields h2]
    exact k dx h1 h2 _ (by rw [lookup_put, if_neg (by decide +kernel), lookup_put, if_pos rfl]) (by rw [lookup_put, if_pos rfl])
end
/-- the error's class, ready to be raised -/
structure Err2 (nm f1 f2 : Str) (P : Program) (w : World) (K : PySem.W.Frag) (mg : Str → Option Value) (base : Heap) (D fE : Addr) (fdE : FuncData) : Prop where
  T : OexC K D
  iC : PySem.W.findIn K (.ref D) "__init__" = some (some (.ref fE))
  tI : PySem.W.typeIn K (.ref fE) = some (.type "function")
  F : FnOk P w K mg base C8.CX0 1 fE fdE ["self", f1, f2] (spE2 D f1 f2)
  b : Binds K fdE ["self", f1, f2] []
  hm : mg nm = some (.ref D)
section
variable {X : Cx} {f1 f2 : Str} {C fI : Addr} {fd : FuncData} {W : WX} {j : Nat} {e1 e2 : Expr} {te1 te2 : TE} {p pos pos2 : Pos}
/-- raise X(e1, e2), X such a class -/
def tBad2 (f1 f2 : Str) (C : Addr) (W : WX) (te1 te2 : TE) : TS := fun _ σ H => tMkO C (spE2 C f1 f2) [] (tCons te1 (tCons te2 tNil)) σ H fun cls d H' => W cls d σ H'
theorem ps_bad2 {x : Str} (hc : X.calm = true) (tk : Takes X W) (T : OexC X.K C) (iC : PySem.W.findIn X.K (.ref C) "__init__" = some (some (.ref fI))) (tI : PySem.W.typeIn X.K (.ref fI) = some (.type "function")) (F : FnOk X.prog X.w X.K X.mg X.base C8.CX0 1 fI fd ["self", f1, f2] (spE2 C f1 f2)) (hr : Room (j + 2) X.A) (hb : Binds X.K fd ["self", f1, f2] [])
    (hg : Gl X x) (hm : X.mg x = some (.ref C)) (he1 : PE X e1 te1) (he2 : PE X e2 te2) (hst2 : starEach [e2] X.env = [(false, eval e2 X.env)] := by rfl) (hst : starEach [e1, e2] X.env = (false, eval e1 X.env) :: starEach [e2] X.env := by rfl) (hdb : (x == ("__debug__" : Str)) = false := by decide) (hpl : (backTo pos (starEach [e2] X.env)).any (·.1) = false := by rfl) :
    PS X (.Raise (some (.Call (.Name x p) [e1, e2] [] pos)) none pos2) (tBad2 f1 f2 C W te1 te2) :=
  ps_raise hc tk (pmk_oex T iC tI F (hr.mono (by omega)) hb .nil C8.pass0 hg hm (pa_cons he1 (pa_cons he2 pa_nil hst2) hst) hdb hst hpl)
theorem bad_leaf2 {H1 : Hp} {v1 v2 : V} {Q : XK} (k : ∀ d fs, H1 d = none → fs.lookup f1 = some v1 → fs.lookup f2 = some v2 → Q (.ref C) (some d) (upd H1 d (.xd fs))) :
    ([v1, v2] : List V).length ≤ 1000 ∧ ∀ a, H1 a = none → spE2 C f1 f2 (.ref a :: ([v1, v2] ++ [])) (upd H1 a (exo a C none)) (fun z H2 => z = .non ∧ ∃ (d : Addr) (fs : List (Str × V)), H2 a = some (exo a C (some d)) ∧ H2 d = some (exd d fs) ∧ H1 d = none ∧ Q (.ref C) (some d) (upd (del H2 a) d (.xd fs))) (fun _ _ _ => False) := by
  refine ⟨(by show 2 ≤ 1000; decide), fun a ha => ⟨a, v1, v2, rfl, upd_same, fun dx h1 h2 fs e1 e2 => ?_⟩⟩
  rw [upd_ne h2] at h1
  refine ⟨rfl, dx, fs, upd_same, by rw [upd_ne h2]; exact upd_same, h1, ?_⟩
  have e : upd (del (upd (upd (upd H1 a (exo a C none)) dx (exd dx fs)) a (exo a C (some dx))) a) dx (.xd fs) = upd H1 dx (.xd fs) := by
    funext b
    by_cases q : b = dx
    · rw [q, upd_same, upd_same]
    · rw [upd_ne q, upd_ne q]
      by_cases q2 : b = a
      · rw [q2, del_same, ha]
      · rw [del_ne q2, upd_ne q2, upd_ne q, upd_ne q2]
  rw [e]
  exact k dx fs h1 e1 e2
end
/-! ### a classmethod by keywords -/
section
variable {X : Cx} {CX : CXT} {C p g : Addr} {mc : Value} {k : Nat} {fd : FuncData} {ps ks : List Str} {sp : Sp} {E : XK} {o : Expr} {kws : List Keyword} {m : Str} {pos apos : Pos} {ta : TE} {tkw : TA} {gU : List Value → List Value → List Value} {gV : List V → List V → List V} {pl : Sem Bool}
theorem pe_cmethK (he : PE X o ta) (r : CRead X.K C mc) (c : CMet X.K C mc m p g) (F : FnOk X.prog X.w X.K X.mg X.base CX k g fd ps sp) (hr : Room k X.A) (hb : KBn X.K fd ps 1 ks gU gV) (hx : Passes CX X E) (hkw : PK X kws tkw)
    (hall : (backToKw pos (keywordEach kws X.env)).all (·.1.isSome) = true := by rfl) (hks : (backToKw pos (keywordEach kws X.env)).filterMap (·.1) = ks := by rfl)
    (hpl : ((backTo pos (starEach [] X.env)).any (·.1) || (backToKw pos (keywordEach kws X.env)).any (·.1.isNone)) = false := by rfl)
    (ht : eval (.Call (.Attribute o m apos) [] kws pos) X.env = (do
      let ov ← eval o X.env
      standAt apos.atName
      let (f, first) ← holding [ov] (getMethod ov m pl)
      callWith pos f first (backTo pos (starEach [] X.env)) (backToKw pos (keywordEach kws X.env))) := by rfl) :
    PE X (.Call (.Attribute o m apos) [] kws pos) (fun σ H Q => ta σ H fun x H1 => x = .ref C ∧ tkw σ H1 fun zs H2 => zs.length = ks.length ∧ sp (gV [.ref C] zs) H2 Q E) := by
  refine ⟨fun pins s σ H Q I h => ?_⟩
  refine PySem.W.methodCall_KW (pl := pl) (thn (he.run pins s σ H _ I h) fun u s1 ⟨x, H1, I1, rx, ex, q⟩ => ?_) ht
  subst ex
  obtain rfl : u = Value.ref C := rx
  refine getmethcm_ok I1 r c fun s2 I2 => ?_
  refine PySem.W.callWith_of (P := PySem.W.MethP X.K s1.heap.objs.size g (.ref C)) hpl (PySem.W.keeps_M c.fi) (evalArgs_kw2_nil hall ?_)
  refine thn (hkw.run pos _ s2 σ H1 _ I2 q) fun ws s3 ⟨zs, H2, I3, rz, l2, q2⟩ => ⟨⟨pin_at I3, I3.kIn⟩, ?_⟩
  rw [hks]
  have hl : ws.length = ks.length := rz.length.symm.trans l2
  have z : wpAny (model X.prog X.w) X.A (call (.ref s1.heap.objs.size) [] (ks.zip ws)) (EP X ((s1.heap.objs.size, PySem.W.methodObj (.ref g) (.ref C)) :: pins) σ Q) X.xe s3 := by
    refine wpAny_call (PySem.W.method_call (pin_at I3) ?_)
    have r2 : Vals (gV [.ref C] zs) (gU [.ref C] ws) := hb.rel (.cons rfl .nil) rz
    refine codeAny_mono (F.run X.A X.stack s3 H2 ⟨[.ref C], ks.zip ws⟩ (gU [.ref C] ws) (gV [.ref C] zs) Q E hr I3.env0 (hb.to s3 [.ref C] ws I3.kIn rfl hl) r2 q2) fun r s' hq => ?_
    cases r with
    | error e => exact hx _ σ H2 s3 e s' I3 hq
    | ok fl =>
      cases fl with
      | ret u => exact I3.after hq
      | next => exact False.elim hq
      | brk => exact False.elim hq
      | cont => exact False.elim hq
  exact thn z fun _ _ y => unpinE y
end
end Lw
namespace Lw
open PySem PySem.Spec PyProof.Rows L2
open SX PySem.NumText TL LamX
/-! ### the Reader -/
abbrev sRI : Stmt := inClass (top 35) 0
abbrev sRah : Stmt := inClass (top 35) 1
abbrev sRrf : Stmt := inClass (top 35) 2
abbrev sRtk : Stmt := inClass (top 35) 3
abbrev sRex : Stmt := inClass (top 35) 5
abbrev sRmo : Stmt := inClass (top 35) 6
abbrev sRfi : Stmt := inClass (top 35) 7
section
variable {X : Cx} {k j : Nat} {C : Addr} {m : Str} {sp : Sp} {E : XK} {o e : Expr} {es : List Expr} {ta : TE} {t : TA} {pos apos : Pos} {pl : Sem Bool}
/-- a method of an own class, called -/
theorem pe_mx0 (he : PE X o ta) (c : Cls X.K C) (M : MetX X.prog X.w X.K X.mg X.base k C m sp) (hr : Room j X.A) (hk : k ≤ j) (hx : Passes (L2.CX X.prog X.w) X E)
    (ht : eval (.Call (.Attribute o m apos) [] [] pos) X.env = (do
      let ov ← eval o X.env
      standAt apos.atName
      let (f, first) ← holding [ov] (getMethod ov m pl)
      callWith pos f first (backTo pos (starEach [] X.env)) (backToKw pos (keywordEach [] X.env))) := by rfl) :
    PE X (.Call (.Attribute o m apos) [] [] pos) (tMeth C m sp [] E ta tNil) := by
  obtain ⟨g, fd, ps, hm, F, b⟩ := M.ex
  exact pe_meth0 he c hm F (hr.mono hk) b .nil hx ht
theorem pe_mx (he : PE X o ta) (c : Cls X.K C) (M : MetX X.prog X.w X.K X.mg X.base k C m sp) (hr : Room j X.A) (hk : k ≤ j) (hx : Passes (L2.CX X.prog X.w) X E) (ha : PA X (e :: es) t)
    (hst : starEach (e :: es) X.env = (false, eval e X.env) :: starEach es X.env := by rfl) (hpl : (backTo pos (starEach es X.env)).any (·.1) = false := by rfl)
    (ht : eval (.Call (.Attribute o m apos) (e :: es) [] pos) X.env = (do
      let ov ← eval o X.env
      standAt apos.atName
      let (f, first) ← holding [ov] (getMethod ov m pl)
      callWith pos f first (backTo pos (starEach (e :: es) X.env)) (backToKw pos (keywordEach [] X.env))) := by rfl) :
    PE X (.Call (.Attribute o m apos) (e :: es) [] pos) (tMeth C m sp [] E ta t) := by
  obtain ⟨g, fd, ps, hm, F, b⟩ := M.ex
  exact pe_meth he c hm F (hr.mono hk) b .nil hx ha hst hpl ht
end
theorem putF_len (f : Str) (v : V) : ∀ fs : List (Str × V), (putF f v fs).length ≤ fs.length + 1
  | [] => Nat.le_refl _
  | (g, x) :: r => by
    unfold putF
    split
    · simp
    · have := putF_len f v r
      rw [List.length_cons, List.length_cons]
      omega
/-- its attributes -/
def rdF (l : Addr) (n : Int) : List (Str × V) := [("_words", .ref l), ("_row", .int 0), ("_at", .int n)]
theorem rdF_words (l : Addr) (n : Int) : (rdF l n).lookup ("_words" : Str) = some (.ref l) := by unfold rdF; rw [lookup_put, if_pos rfl]
theorem rdF_row (l : Addr) (n : Int) : (rdF l n).lookup ("_row" : Str) = some (.int 0) := by unfold rdF; rw [lookup_put, if_neg (by decide +kernel), lookup_put, if_pos rfl]
theorem rdF_at (l : Addr) (n : Int) : (rdF l n).lookup ("_at" : Str) = some (.int n) := by unfold rdF; rw [lookup_put, if_neg (by decide +kernel), lookup_put, if_neg (by decide +kernel), lookup_put, if_pos rfl]
theorem rdF_no {m : Str} (l : Addr) (n : Int) (h1 : m ≠ "_words") (h2 : m ≠ "_row") (h3 : m ≠ "_at") : (rdF l n).lookup m = none := by unfold rdF; rw [lookup_put, if_neg h1, lookup_put, if_neg h2, lookup_put, if_neg h3]; rfl
theorem rdF_put (l : Addr) (n i : Int) : putF "_at" (.int i) (rdF l n) = rdF l i := by
  unfold rdF putF
  rw [if_neg (by decide +kernel)]
  unfold putF
  rw [if_neg (by decide +kernel)]
  unfold putF
  rw [if_pos rfl]
theorem rdF_new (l : Addr) (n : Int) : putF "_at" (.int n) (putF "_row" (.int 0) (putF "_words" (.ref l) [])) = rdF l n := by
  have e1 : putF "_words" (.ref l) [] = [(("_words" : Str), V.ref l)] := rfl
  have e2 : putF "_row" (.int 0) [(("_words" : Str), V.ref l)] = [(("_words" : Str), V.ref l), (("_row" : Str), V.int 0)] := by
    unfold putF
    rw [if_neg (by decide +kernel)]
    rfl
  rw [e1, e2]
  unfold putF
  rw [if_neg (by decide +kernel)]
  unfold putF
  rw [if_neg (by decide +kernel)]
  rfl
/-- the words of a text -/
def wds (cs : List Nat) : List (List Nat) := TL.spl [32] 0 [] cs
theorem split_wds (cs : List Nat) : Txt.split (S cs) (Str.ofString " ") = (wds cs).map S := split_S (b := [32]) (List.cons_ne_nil _ _) rfl
def wV (ws : List (List Nat)) : List V := (ws.map S).map V.str
def RdAt (R : Addr) (H : Hp) (r l : Addr) (ws : List (List Nat)) (n : Nat) : Prop := (∃ dx, H r = some (.ins R dx (rdF l n))) ∧ H l = some (.lst (wV ws))
theorem RdAt.same {R : Addr} {H H' : Hp} {r l : Addr} {ws : List (List Nat)} {n : Nat} (h : RdAt R H r l ws n) (s : Same H H') : RdAt R H' r l ws n := by
  obtain ⟨⟨dx, h1⟩, h2⟩ := h
  exact ⟨⟨dx, s _ _ h1⟩, s _ _ h2⟩
/-- the word at hand -/
def handV (ws : List (List Nat)) (n : Nat) : V := match ws[n]? with
  | some w => .str (S w)
  | none => .non
/-- all but what stands at r is as it was: Kp. A refusal at word n -/
def Rf (D : Addr) (H : Hp) (E : XK) (n : Nat) : Prop := ∀ d fs H', Same H H' → H' d = none → fs.lookup ("line" : Str) = some (.int 0) → fs.lookup ("word" : Str) = some (.int n) → E (.ref D) (some d) (upd H' d (.xd fs))
def spRI (K : PySem.W.Frag) (R D : Addr) : Sp := fun vs H Q E => ∃ (r dx : Addr) (x : V), vs = [.ref r, x, .int 0] ∧ Anyv K H x ∧ H r = some (.ins R dx []) ∧ (isS x = false → Rf D H E 0) ∧
  ∀ z, x = .str z → ∃ cs, z = S cs ∧ cs.length ≤ 100000 ∧ ∀ l, H l = none → Q .non (upd (upd H l (.lst (wV (wds cs)))) r (.ins R dx (rdF l 0)))
def spRah (R : Addr) : Sp := fun vs H Q _ => ∃ r l ws n, vs = [.ref r] ∧ RdAt R H r l ws n ∧ Q (handV ws n) H
def spRrf (R D : Addr) : Sp := fun vs H _ E => ∃ r l ws n, vs = [.ref r] ∧ RdAt R H r l ws n ∧ Rf D H E n
def spRtk (R D : Addr) : Sp := fun vs H Q E => ∃ r l ws n x, vs = [.ref r, x] ∧ RdAt R H r l ws n ∧ (x = .non → Rf D H E n) ∧ (x ≠ .non → ∀ H', Kp r H H' → RdAt R H' r l ws (n + 1) → Q x H')
def spRex (R : Addr) : Sp := fun vs H Q _ => ∃ r l ws n z, vs = [.ref r, .str z] ∧ RdAt R H r l ws n ∧ handV ws n = .str z ∧ ∀ H', Kp r H H' → RdAt R H' r l ws (n + 1) → Q .non H'
def moreB (ws : List (List Nat)) (n : Nat) : Bool := match ws[n]? with
  | some w => !(decide (w = [47]) || decide (w = [59]))
  | none => false
def spRmo (R : Addr) : Sp := fun vs H Q _ => ∃ r l ws n, vs = [.ref r] ∧ RdAt R H r l ws n ∧ ∀ H', Same H H' → Q (.bl (moreB ws n)) H'
def spRfi (R D : Addr) : Sp := fun vs H Q E => ∃ r l ws n, vs = [.ref r] ∧ RdAt R H r l ws n ∧ (n < ws.length → Rf D H E n) ∧ (ws.length ≤ n → Q .non H)
/-- the Reader's class -/
structure RdC (K : PySem.W.Frag) (R : Addr) : Prop where
  cl : Cls K R
  n1 : NoAttr K R "_words"
  n2 : NoAttr K R "_row"
  n3 : NoAttr K R "_at"
theorem eqV_S (a b : List Nat) : eqV (.str (S a)) (.str (S b)) = decide (b = a) := by
  show (S a == S b) = _
  by_cases h : b = a
  · subst h; simp
  · rw [decide_eq_false h]
    exact beq_eq_false_iff_ne.mpr fun e => h (S_inj e).symm
theorem iteT' {A B : Prop} {c : Bool} (hc : c = true) (h : A) : if c = true then A else B := by rw [if_pos hc]; exact h
theorem iteF' {A B : Prop} {c : Bool} (hc : c = false) (h : B) : if c = true then A else B := by rw [if_neg (by rw [hc]; exact Bool.false_ne_true)]; exact h
section
variable {P : Program} {w : World} {K : PySem.W.Frag} {mg : Str → Option Value} {base : Heap}
theorem scRI : FnScope ["self", "text", "row"] ["self", "text", "row"] (C8.fnScope sRI) := C8.fnScope_by (by decide +kernel)
theorem fn_ri {R D f fE : Addr} {fd fdE : FuncData} (F : C8.Fun K "__init__" "Reader.__init__" sRI f fd) (T : Txt mg) (rc : RdC K R) (ER : Err2 "BadText" "line" "word" P w K mg base D fE fdE) : FnOk P w K mg base (L2.CX P w) 3 f fd ["self", "text", "row"] (spRI K R D) := by
  obtain ⟨oc, od, dV, kV, doc, pm, an, cdv, ct, osl, rfl, lk, hcd⟩ := F.ex
  refine fn_of lk hcd scRI (fun vs H Q E h => ?_) fun A outer s H vs Q E hr h => ?_
  · obtain ⟨r, dx, x, rfl, _⟩ := h
    rfl
  · obtain ⟨r, dx, x, rfl, av, hx, k1, k2⟩ := h
    have tk : Takes (cxOf (L2.CX P w) P w K mg base ["self", "text", "row"] "Reader.__init__" (C8.fnScope sRI) f cdv A outer s H E) (fun cls d _ H' => E cls d H') := takes_of rfl rfl rfl rfl
    refine ⟨_, (pss_cons (ps_if (pt_not (pt_val (pe_callB call_isz (by rfl) T.n_isinstance (by decide +kernel) (pa_cons (pv 1) (pa_cons (pe_bltn (v := .ty "str") (by rfl) T.n_str (by decide +kernel) rfl) pa_nil))))) (pss_one (ps_bad2 (x := "BadText") rfl tk ER.T ER.iC ER.tI ER.F hr ER.b (by rfl) ER.hm pe_int pe_int)) pss_nil)
      (pss_cons (ps_fld (pv 0) (pe_split (pv 1) pe_str) rfl)
      (pss_cons (ps_fld (pv 0) (pv 2) rfl)
      (pss_one (ps_fld (pv 0) pe_int rfl))))), ?_⟩
    refine ⟨_, rfl, ?_⟩
    dsimp only [tCons, tC, tNil]
    refine isz_str av ⟨_, rfl, ?_⟩
    have no : isS x = false → tBad2 "line" "word" D (fun cls d _ H' => E cls d H') (tC (.int 0)) (tC (.int 0)) { nx := fun _ H' => Q .non H', rt := Q } [] H := fun e => by
      exact bad_leaf2 fun d fs hd e1 e2 => k1 e d fs H (Same.refl _) hd e1 e2
    cases av with
    | str z =>
      obtain ⟨cs, rfl, hl, go⟩ := k2 z rfl
      have hs : (S cs).length + 2 ≤ sizeLine := by rw [S_len]; exact Nat.le_trans (Nat.add_le_add_right hl 2) (by decide)
      refine iteF ?_
      refine ⟨_, rfl, ⟨_, rfl⟩, _, _, rfl, rfl, by rfl, hs, fun l fl => ?_⟩
      rw [split_wds]
      have ne : l ≠ r := fun e => by rw [e, hx] at fl; cases fl
      refine ⟨_, rfl, r, R, dx, [], rfl, by rw [upd_ne ne.symm]; exact hx, rc.cl, rc.n1, (by show 0 < 1000; decide), ?_⟩
      refine ⟨_, rfl, _, rfl, r, R, dx, _, rfl, upd_same, rc.cl, rc.n2, (by show 1 < 1000; decide), ?_⟩
      refine ⟨_, rfl, r, R, dx, _, rfl, upd_same, rc.cl, rc.n3, ?_, ?_⟩
      · exact Nat.lt_of_le_of_lt (Nat.le_trans (putF_len _ _ _) (Nat.add_le_add_right (putF_len _ _ _) 1)) (by decide)
      rw [upd_upd, upd_upd, rdF_new]
      exact go l fl
    | int i => exact iteT (no rfl)
    | bl b => exact iteT (no rfl)
    | non => exact iteT (no rfl)
    | obj h h1 h2 h3 => exact iteT (no rfl)
theorem hand_any (K : PySem.W.Frag) (H : Hp) (ws : List (List Nat)) (n : Nat) : Anyv K H (handV ws n) := by
  unfold handV
  cases ws[n]? with
  | none => exact .non
  | some w => exact .str _
theorem scRah : FnScope ["self"] ["self"] (C8.fnScope sRah) := C8.fnScope_by (by decide +kernel)
theorem fn_rah {R f : Addr} {fd : FuncData} (F : C8.Fun K "at_hand" "Reader.at_hand" sRah f fd) (T : Txt mg) (rc : RdC K R) : FnOk P w K mg base (L2.CX P w) 1 f fd ["self"] (spRah R) := by
  obtain ⟨oc, od, dV, kV, doc, pm, an, cdv, ct, osl, rfl, lk, hcd⟩ := F.ex
  refine fn_of lk hcd scRah (fun vs H Q E h => ?_) fun A outer s H vs Q E hr h => ?_
  · obtain ⟨r, l, ws, n, rfl, _⟩ := h
    rfl
  · obtain ⟨r, l, ws, n, rfl, ⟨⟨dx, hr1⟩, hl⟩, k⟩ := h
    refine ⟨_, (pss_one (ps_ret (pe_ifExp (pt_cmpR op_lt (pe_fld (pv 0) rfl) (pe_callB call_len_seq (by rfl) T.n_len (by decide +kernel) (pa_cons (pe_fld (pv 0) rfl) pa_nil)) (nomark _)) (pe_ix ix_list (pe_fld (pv 0) rfl) (pe_fld (pv 0) rfl) (fun _ _ => rfl)) pe_non))), ?_⟩
    refine ⟨_, rfl, r, R, dx, _, _, rfl, hr1, rc.cl, rc.n3, rdF_at l n, _, rfl, r, R, dx, _, _, rfl, hr1, rc.cl, rc.n1, rdF_words l n, l, _, rfl, .inl (SqL.of hl), _, _, rfl, rfl, _, rfl, ite2 (fun c => ?_) (fun c => ?_)⟩
    · have c' := of_decide_eq_true c
      have hlen : (wV ws).length = ws.length := by unfold wV; rw [List.length_map, List.length_map]
      rw [hlen] at c'
      have hn : n < ws.length := by omega
      refine ⟨_, rfl, r, R, dx, _, _, rfl, hr1, rc.cl, rc.n1, rdF_words l n, _, rfl, r, R, dx, _, _, rfl, hr1, rc.cl, rc.n3, rdF_at l n, l, _, _, .str (S ws[n]), rfl, rfl, SqL.of hl, atI_nat (by unfold wV; simp [hn]), ?_⟩
      unfold handV at k
      rw [List.getElem?_eq_getElem hn] at k
      exact k
    · have c' := of_decide_eq_false (Bool.eq_false_iff.mpr c)
      have hlen : (wV ws).length = ws.length := by unfold wV; rw [List.length_map, List.length_map]
      rw [hlen] at c'
      unfold handV at k
      rw [List.getElem?_eq_none (by omega)] at k
      exact k
theorem scRrf : FnScope ["self"] ["self"] (C8.fnScope sRrf) := C8.fnScope_by (by decide +kernel)
theorem fn_rrf {R D f fE : Addr} {fd fdE : FuncData} (F : C8.Fun K "refuse" "Reader.refuse" sRrf f fd) (rc : RdC K R) (ER : Err2 "BadText" "line" "word" P w K mg base D fE fdE) : FnOk P w K mg base (L2.CX P w) 3 f fd ["self"] (spRrf R D) := by
  obtain ⟨oc, od, dV, kV, doc, pm, an, cdv, ct, osl, rfl, lk, hcd⟩ := F.ex
  refine fn_of lk hcd scRrf (fun vs H Q E h => ?_) fun A outer s H vs Q E hr h => ?_
  · obtain ⟨r, l, ws, n, rfl, _⟩ := h
    rfl
  · obtain ⟨r, l, ws, n, rfl, ⟨⟨dx, hr1⟩, hl⟩, k⟩ := h
    have tk : Takes (cxOf (L2.CX P w) P w K mg base ["self"] "Reader.refuse" (C8.fnScope sRrf) f cdv A outer s H E) (fun cls d _ H' => E cls d H') := takes_of rfl rfl rfl rfl
    refine ⟨_, (pss_one (ps_bad2 (x := "BadText") rfl tk ER.T ER.iC ER.tI ER.F hr ER.b (by rfl) ER.hm (pe_fld (pv 0) rfl) (pe_fld (pv 0) rfl))), ?_⟩
    refine ⟨_, rfl, r, R, dx, _, _, rfl, hr1, rc.cl, rc.n2, rdF_row l n, _, rfl, r, R, dx, _, _, rfl, hr1, rc.cl, rc.n3, rdF_at l n, ?_⟩
    exact bad_leaf2 fun d fs hd e1 e2 => k d fs H (Same.refl _) hd e1 e2
theorem scRtk : FnScope ["self", "worth"] ["self", "worth"] (C8.fnScope sRtk) := C8.fnScope_by (by decide +kernel)
theorem fn_rtk {R D f : Addr} {fd : FuncData} (F : C8.Fun K "take" "Reader.take" sRtk f fd) (rc : RdC K R) (MR : MetX P w K mg base 3 R "refuse" (spRrf R D)) : FnOk P w K mg base (L2.CX P w) 5 f fd ["self", "worth"] (spRtk R D) := by
  obtain ⟨oc, od, dV, kV, doc, pm, an, cdv, ct, osl, rfl, lk, hcd⟩ := F.ex
  refine fn_of lk hcd scRtk (fun vs H Q E h => ?_) fun A outer s H vs Q E hr h => ?_
  · obtain ⟨r, l, ws, n, x, rfl, _⟩ := h
    rfl
  · obtain ⟨r, l, ws, n, x, rfl, at_, k1, k2⟩ := h
    obtain ⟨⟨dx, hr1⟩, hl⟩ := id at_
    refine ⟨_, (pss_cons (ps_if (pt_cmpR op_isN (pv 1) pe_non (nomark _)) (pss_one (ps_expr (pe_mx0 (pv 0) rc.cl MR hr (by decide) (passes_call (takes_of rfl rfl rfl rfl) (fun _ _ _ _ z => z))))) pss_nil)
      (pss_cons (ps_fldaug (pv 0) pe_int in_add)
      (pss_one (ps_ret (pv 1))))), ?_⟩
    refine ⟨_, rfl, rfl, _, rfl, ite2 (fun c => ?_) (fun c => ?_)⟩
    · exact ⟨_, rfl, r, dx, _, rfl, hr1, rdF_no l n (by decide +kernel) (by decide +kernel) (by decide +kernel), r, l, ws, n, rfl, at_, k1 (of_decide_eq_true c)⟩
    · have nx : x ≠ .non := of_decide_eq_false (Bool.eq_false_iff.mpr c)
      refine ⟨_, rfl, r, R, dx, _, _, rfl, hr1, rc.cl, rc.n3, rdF_at l n, ?_⟩
      refine ⟨_, _, rfl, rfl, dx, _, hr1, (by show 3 < 1000; decide), ?_⟩
      rw [rdF_put]
      have nl : l ≠ r := fun e => by rw [e, hr1] at hl; cases hl
      refine ⟨_, rfl, k2 nx _ (fun b o hb e => by rw [upd_ne hb]; exact e) ⟨⟨dx, ?_⟩, by rw [upd_ne nl]; exact hl⟩⟩
      rw [upd_same]
      rfl
theorem scRex : FnScope ["self", "sign"] ["self", "sign"] (C8.fnScope sRex) := C8.fnScope_by (by decide +kernel)
theorem fn_rex {R D f : Addr} {fd : FuncData} (F : C8.Fun K "expect" "Reader.expect" sRex f fd) (rc : RdC K R) (MA : MetX P w K mg base 1 R "at_hand" (spRah R)) (MT : MetX P w K mg base 5 R "take" (spRtk R D)) : FnOk P w K mg base (L2.CX P w) 7 f fd ["self", "sign"] (spRex R) := by
  obtain ⟨oc, od, dV, kV, doc, pm, an, cdv, ct, osl, rfl, lk, hcd⟩ := F.ex
  refine fn_of lk hcd scRex (fun vs H Q E h => ?_) fun A outer s H vs Q E hr h => ?_
  · obtain ⟨r, l, ws, n, z, rfl, _⟩ := h
    rfl
  · obtain ⟨r, l, ws, n, z, rfl, at_, hz, k⟩ := h
    obtain ⟨⟨dx, hr1⟩, hl⟩ := id at_
    refine ⟨_, (pss_one (ps_expr (pe_mx (E := C8.E0) (pv 0) rc.cl MT hr (by decide) (passes_call takes0 (fun _ _ _ _ z => z)) (pa_cons (pe_ifExp (pt_cmpR op_eq (pe_mx0 (E := C8.E0) (pv 0) rc.cl MA hr (by decide) (passes_call takes0 (fun _ _ _ _ z => z))) (pv 1) (nomark _)) (pv 1) pe_non) pa_nil)))), ?_⟩
    refine ⟨_, rfl, r, dx, _, rfl, hr1, rdF_no l n (by decide +kernel) (by decide +kernel) (by decide +kernel), ?_⟩
    refine ⟨_, rfl, r, dx, _, rfl, hr1, rdF_no l n (by decide +kernel) (by decide +kernel) (by decide +kernel), r, l, ws, n, rfl, at_, ?_⟩
    rw [hz]
    refine ⟨_, rfl, rfl, _, rfl, iteT' (by simp) ?_⟩
    exact ⟨_, rfl, r, l, ws, n, _, rfl, at_, (fun e => by cases e), fun _ H' k1 a1 => k H' k1 a1⟩
theorem scRmo : FnScope ["self"] ["self"] (C8.fnScope sRmo) := C8.fnScope_by (by decide +kernel)
theorem fn_rmo {R f : Addr} {fd : FuncData} (F : C8.Fun K "more" "Reader.more" sRmo f fd) (rc : RdC K R) (MA : MetX P w K mg base 1 R "at_hand" (spRah R)) : FnOk P w K mg base (L2.CX P w) 3 f fd ["self"] (spRmo R) := by
  obtain ⟨oc, od, dV, kV, doc, pm, an, cdv, ct, osl, rfl, lk, hcd⟩ := F.ex
  refine fn_of lk hcd scRmo (fun vs H Q E h => ?_) fun A outer s H vs Q E hr h => ?_
  · obtain ⟨r, l, ws, n, rfl, _⟩ := h
    rfl
  · obtain ⟨r, l, ws, n, rfl, at_, k⟩ := h
    obtain ⟨⟨dx, hr1⟩, hl⟩ := id at_
    refine ⟨_, (pss_one (ps_ret (pe_cmpR op_notIn_seq (pe_mx0 (E := C8.E0) (pv 0) rc.cl MA hr (by decide) (passes_call takes0 (fun _ _ _ _ z => z))) (pe_tup (pa_cons pe_non (pa_cons pe_str (pa_cons pe_str pa_nil)))) (by rfl)))), ?_⟩
    refine ⟨_, rfl, r, dx, _, rfl, hr1, rdF_no l n (by decide +kernel) (by decide +kernel) (by decide +kernel), r, l, ws, n, rfl, at_, ?_⟩
    refine ⟨(by show 3 ≤ sizeLine; decide), fun q hq => ?_⟩
    refine ⟨q, _, rfl, .inr (SqT.of upd_same), by unfold handV; cases ws[n]? <;> rfl, rfl, ?_⟩
    have e : (!inV (handV ws n) [V.non, .str (Str.ofString "/"), .str (Str.ofString ";")]) = moreB ws n := by
      unfold handV moreB
      cases ws[n]? with
      | none => rfl
      | some w =>
        show (!(eqV .non (.str (S w)) || (eqV (.str (Str.ofString "/")) (.str (S w)) || (eqV (.str (Str.ofString ";")) (.str (S w)) || false)))) = _
        have e1 : eqV (.str (Str.ofString "/")) (.str (S w)) = decide (w = [47]) := eqV_S [47] w
        have e2 : eqV (.str (Str.ofString ";")) (.str (S w)) = decide (w = [59]) := eqV_S [59] w
        rw [e1, e2, Bool.or_false]
        rfl
    have := k _ (same_new (o := HO.tup [V.non, .str (Str.ofString "/"), .str (Str.ofString ";")]) hq)
    rw [← e] at this
    exact this
theorem scRfi : FnScope ["self"] ["self"] (C8.fnScope sRfi) := C8.fnScope_by (by decide +kernel)
theorem fn_rfi {R D f : Addr} {fd : FuncData} (F : C8.Fun K "finish" "Reader.finish" sRfi f fd) (T : Txt mg) (rc : RdC K R) (MR : MetX P w K mg base 3 R "refuse" (spRrf R D)) : FnOk P w K mg base (L2.CX P w) 5 f fd ["self"] (spRfi R D) := by
  obtain ⟨oc, od, dV, kV, doc, pm, an, cdv, ct, osl, rfl, lk, hcd⟩ := F.ex
  refine fn_of lk hcd scRfi (fun vs H Q E h => ?_) fun A outer s H vs Q E hr h => ?_
  · obtain ⟨r, l, ws, n, rfl, _⟩ := h
    rfl
  · obtain ⟨r, l, ws, n, rfl, at_, k1, k2⟩ := h
    obtain ⟨⟨dx, hr1⟩, hl⟩ := id at_
    refine ⟨_, (pss_one (ps_if (pt_cmpR op_lt (pe_fld (pv 0) rfl) (pe_callB call_len_seq (by rfl) T.n_len (by decide +kernel) (pa_cons (pe_fld (pv 0) rfl) pa_nil)) (nomark _)) (pss_one (ps_expr (pe_mx0 (pv 0) rc.cl MR hr (by decide) (passes_call (takes_of rfl rfl rfl rfl) (fun _ _ _ _ z => z))))) pss_nil)), ?_⟩
    have hlen : (wV ws).length = ws.length := by unfold wV; rw [List.length_map, List.length_map]
    refine ⟨_, rfl, r, R, dx, _, _, rfl, hr1, rc.cl, rc.n3, rdF_at l n, _, rfl, r, R, dx, _, _, rfl, hr1, rc.cl, rc.n1, rdF_words l n, l, _, rfl, .inl (SqL.of hl), _, _, rfl, rfl, _, rfl, ite2 (fun c => ?_) (fun c => ?_)⟩
    · have c' := of_decide_eq_true c
      rw [hlen] at c'
      exact ⟨_, rfl, r, dx, _, rfl, hr1, rdF_no l n (by decide +kernel) (by decide +kernel) (by decide +kernel), r, l, ws, n, rfl, at_, k1 (by omega)⟩
    · have c' := of_decide_eq_false (Bool.eq_false_iff.mpr c)
      rw [hlen] at c'
      exact k2 (by omega)
end
end Lw
namespace Lw
open PySem PySem.Spec PyProof.Rows L2
open SX PySem.NumText TL LamX
abbrev sRW : Stmt := top 36
abbrev sRS : Stmt := top 54
/-! ### the sizes ahead of the first word that is none -/
def szO (w : List Nat) : Option Int := numV (.str (S w)) 1 (10 ^ 30)
def szI (w : List Nat) : Int := (szO w).getD 0
def lead (ws : List (List Nat)) : Nat := (ws.takeWhile fun w => (szO w).isSome).length
theorem lead_le (ws : List (List Nat)) : lead ws ≤ ws.length := (List.takeWhile_sublist _).length_le
theorem lead_lt : ∀ {ws : List (List Nat)} {i : Nat}, i < lead ws → ∃ w v, ws[i]? = some w ∧ szO w = some v
  | [], i, h => by unfold lead at h; simp at h
  | w :: r, i, h => by
    unfold lead at h
    rw [List.takeWhile_cons] at h
    split at h
    · rename_i hw
      cases i with
      | zero =>
        obtain ⟨v, hv⟩ := Option.isSome_iff_exists.mp hw
        exact ⟨w, v, rfl, hv⟩
      | succ i =>
        rw [List.length_cons] at h
        obtain ⟨w', v, h1, h2⟩ := lead_lt (ws := r) (i := i) (by unfold lead; omega)
        exact ⟨w', v, by simpa using h1, h2⟩
    · simp at h
theorem lead_at : ∀ {ws : List (List Nat)} {w : List Nat}, ws[lead ws]? = some w → szO w = none
  | [], w, h => by simp at h
  | x :: r, w, h => by
    unfold lead at h
    rw [List.takeWhile_cons] at h
    split at h
    · rename_i hx
      rw [List.length_cons, List.getElem?_cons_succ] at h
      exact lead_at (ws := r) h
    · rename_i hx
      simp at h
      subst h
      simpa using hx
def szV (ws : List (List Nat)) (i : Nat) : List V := (ws.take i).map fun w => V.int (szI w)
theorem szV_succ {ws : List (List Nat)} {i : Nat} {w : List Nat} {v : Int} (h : ws[i]? = some w) (e : szO w = some v) : szV ws (i + 1) = szV ws i ++ [.int v] := by
  unfold szV
  rw [List.take_add_one, h, List.map_append]
  show _ ++ [V.int (szI w)] = _
  unfold szI
  rw [e]; rfl
theorem sz47 : szO [47] = none := by decide +kernel
theorem sz59 : szO [59] = none := by decide +kernel
theorem via {tt : TT} {σ : L2.St} {H : Hp} {QQ : Bool → Hp → Prop} (Pj : Bool → Hp → Prop) (h1 : ∀ b H1, Pj b H1 → QQ b H1) (h2 : (∀ b H1, Pj b H1 → QQ b H1) → tt σ H QQ) : tt σ H QQ := h2 h1
/-- a refusal, the reader's record moved -/
def RfK (r : Addr) (D : Addr) (H : Hp) (E : XK) (n : Nat) : Prop := ∀ d fs H', Kp r H H' → H' d = none → fs.lookup ("line" : Str) = some (.int 0) → fs.lookup ("word" : Str) = some (.int n) → E (.ref D) (some d) (upd H' d (.xd fs))
def spL (K : PySem.W.Frag) : Sp := fun vs H Q _ => ∃ x, vs = [x] ∧ Anyv K H x ∧ TextOk x ∧ Q (optV (numV x 1 (10 ^ 30))) H
def WsOk (ws : List (List Nat)) : Prop := ws ≠ [] ∧ ws.length ≤ 20000 ∧ ∀ w ∈ ws, (∀ c ∈ w, c < 128) ∧ w.length ≤ 5000
def RwR (R D r l : Addr) (ws : List (List Nat)) (H : Hp) (Q : VK) (E : XK) : Prop :=
  (ws[0]? = some [45] → ∀ q H', Kp r H H' → H q = none → H' q = some (.lst []) → RdAt R H' r l ws 1 → Q (.ref q) H') ∧
  (ws[0]? ≠ some [45] → (∀ q H', Kp r H H' → H q = none → H' q = some (.lst (szV ws (lead ws))) → RdAt R H' r l ws (lead ws) → Q (.ref q) H') ∧ (lead ws < ws.length → RfK r D H E (lead ws)))
def spRW (P : Program) (w : World) (K : PySem.W.Frag) (mg : Str → Option Value) (base : Heap) (R D : Addr) : Sp := fun vs H Q E => ∃ r l ws f, vs = [.ref r, .ref f] ∧ RdAt R H r l ws 0 ∧ WsOk ws ∧ LamAt P w K mg base 4 ["word"] (spL K) H f ∧ RwR R D r l ws H Q E
theorem _root_.Lw.LamAt.butI {P : Program} {w : World} {K : PySem.W.Frag} {mg : Str → Option Value} {base : Heap} {k : Nat} {ps : List Str} {sp : Sp} {H H' : Hp} {f p C dx : Addr} {fs : List (Str × V)} (h : LamAt P w K mg base k ps sp H f) (hp : H p = some (.ins C dx fs)) (kp : Kp p H H') : LamAt P w K mg base k ps sp H' f := by
  obtain ⟨q, params, body, scope, c', h1, h2, a⟩ := h
  refine ⟨q, params, body, scope, c', kp _ _ (fun e => ?_) h1, kp _ _ (fun e => ?_) h2, a⟩
  · rw [e, hp] at h1
    unfold LamN at h1
    cases h1
  · rw [e, hp] at h2
    unfold CodeO at h2
    cases h2
theorem _root_.Lw.LamAt.butL {P : Program} {w : World} {K : PySem.W.Frag} {mg : Str → Option Value} {base : Heap} {k : Nat} {ps : List Str} {sp : Sp} {H H' : Hp} {f p : Addr} {xs : List V} (h : LamAt P w K mg base k ps sp H f) (hp : H p = some (.lst xs)) (kp : Kp p H H') : LamAt P w K mg base k ps sp H' f := by
  obtain ⟨q, params, body, scope, c', h1, h2, a⟩ := h
  refine ⟨q, params, body, scope, c', kp _ _ (fun e => ?_) h1, kp _ _ (fun e => ?_) h2, a⟩
  · rw [e, hp] at h1
    unfold LamN at h1
    cases h1
  · rw [e, hp] at h2
    unfold CodeO at h2
    cases h2
/-- the methods of the Reader, ready to be called -/
structure RdMs (P : Program) (w : World) (K : PySem.W.Frag) (mg : Str → Option Value) (base : Heap) (R D : Addr) : Prop where
  rc : RdC K R
  A : MetX P w K mg base 1 R "at_hand" (spRah R)
  T : MetX P w K mg base 5 R "take" (spRtk R D)
  X : MetX P w K mg base 7 R "expect" (spRex R)
  M : MetX P w K mg base 3 R "more" (spRmo R)
  F : MetX P w K mg base 5 R "finish" (spRfi R D)
section
variable {P : Program} {w : World} {K : PySem.W.Frag} {mg : Str → Option Value} {base : Heap}
theorem text_hand (ws : List (List Nat)) (n : Nat) (h : ∀ w ∈ ws, (∀ c ∈ w, c < 128) ∧ w.length ≤ 5000) : TextOk (handV ws n) := fun z e => by
  unfold handV at e
  cases hw : ws[n]? with
  | none => rw [hw] at e; cases e
  | some w =>
    rw [hw] at e
    cases e
    obtain ⟨h1, h2⟩ := h w (List.mem_of_getElem? hw)
    exact ⟨w, rfl, h1, h2⟩
theorem scRW : FnScope ["reader", "worth_of", "worths"] ["reader", "worth_of"] (C8.fnScope sRW) := C8.fnScope_by (by decide +kernel)
theorem fn_rw {R D f : Addr} {fd : FuncData} (F : C8.Def K mg "read_worths" sRW f fd) (T : Txt mg) (RM : RdMs P w K mg base R D) : FnOk P w K mg base (L2.CX P w) 9 f fd ["reader", "worth_of"] (spRW P w K mg base R D) := by
  obtain ⟨oc, od, dV, kV, doc, pm, an, cdv, ct, osl, rfl, lk, hcd⟩ := F.fn.ex
  refine fn_of lk hcd scRW (fun vs H Q E h => ?_) fun A outer s H vs Q E hr h => ?_
  · obtain ⟨r, l, ws, g, rfl, _⟩ := h
    rfl
  · obtain ⟨r, l, ws, g, rfl, at_, ⟨ne, hlen, wok⟩, lam, k1, k2⟩ := h
    refine ⟨_, (pss_cons (ps_set (i := 2) scRW.nd rfl (Or.inl rfl) (pe_lst pa_nil))
      (pss_cons (ps_if (pt_cmpR op_eq (pe_mx0 (E := C8.E0) (pv 0) RM.rc.cl RM.A hr (by decide) (passes_call takes0 (fun _ _ _ _ z => z))) pe_str (nomark _)) (pss_cons (ps_expr (pe_mx (E := C8.E0) (pv 0) RM.rc.cl RM.X hr (by decide) (passes_call takes0 (fun _ _ _ _ z => z)) (pa_cons pe_str pa_nil))) (pss_one (ps_ret (pv 2)))) pss_nil)
      (pss_cons (ps_while (passes_of rfl) (PW.pt (pw_or (pt_not (pt_truth (pv 2) (by intro _; rfl))) (pw_or1 (pt_val (pe_mx0 (E := C8.E0) (pv 0) RM.rc.cl RM.M hr (by decide) (passes_call takes0 (fun _ _ _ _ z => z))))))) 
        (pss_one (ps_expr (pe_bm PySem.F.plainAttrs_list PySem.F.slot_list_append PySem.F.type_list_append mt_append (pv 2) (pa_cons (pe_mx (pv 0) RM.rc.cl RM.T hr (by decide) (passes_call (takes_of rfl rfl rfl rfl) (fun _ _ _ _ z => z)) (pa_cons (pe_lamcallN (k := 4) (hr.mono (by decide)) (pv 1) (pa_cons (pe_mx0 (E := C8.E0) (pv 0) RM.rc.cl RM.A hr (by decide) (passes_call takes0 (fun _ _ _ _ z => z))) pa_nil)) pa_nil)) pa_nil)))))
      (pss_one (ps_ret (pv 2)))))), ?_⟩
    obtain ⟨w0, hw0⟩ : ∃ w0, ws[0]? = some w0 := by
      cases ws with
      | nil => exact absurd rfl ne
      | cons a b => exact ⟨a, rfl⟩
    refine ⟨(by show 0 ≤ sizeLine; decide), fun q fq => ?_⟩
    have s1 := same_new (o := HO.lst []) fq
    have at1 := at_.same s1
    have lam1 := lam.extn (ExtN.of s1)
    have hq1 : upd H q (.lst []) q = some (.lst []) := upd_same
    generalize upd H q (.lst []) = H1 at s1 at1 lam1 hq1 ⊢
    have kp1 : Kp r H H1 := Kp.of s1
    obtain ⟨⟨dx, hr1⟩, hl⟩ := id at1
    have e0 : handV ws 0 = .str (S w0) := by unfold handV; rw [hw0]
    have no : ∀ {n : Nat} {m : Str}, m ≠ "_words" → m ≠ "_row" → m ≠ "_at" → (rdF l n).lookup m = none := fun h1 h2 h3 => rdF_no l _ h1 h2 h3
    refine ⟨_, rfl, r, dx, _, rfl, hr1, no (by decide +kernel) (by decide +kernel) (by decide +kernel), r, l, ws, 0, rfl, at1, ?_⟩
    rw [e0]
    refine ⟨rfl, _, rfl, ite2 (fun c => ?_) (fun c => ?_)⟩
    · have e1 : w0 = [45] := S_inj (V.str.inj (of_decide_eq_true c))
      refine ⟨_, rfl, r, dx, _, rfl, hr1, no (by decide +kernel) (by decide +kernel) (by decide +kernel), r, l, ws, 0, _, rfl, at1, (by rw [e0, e1]; rfl), fun H2 k' a2 => ?_⟩
      have nq : q ≠ r := fun e => by rw [e, hr1] at hq1; cases hq1
      exact ⟨_, rfl, k1 (by rw [hw0, e1]) q H2 (kp1.trans k') fq (k' _ _ nq hq1) a2⟩
    · have n45 : ws[0]? ≠ some [45] := fun e => by
        rw [hw0] at e
        exact c (decide_eq_true (by rw [Option.some.inj e]; rfl))
      obtain ⟨kA, kB⟩ := k2 n45
      refine ⟨fun m σ' H' => ∃ i, m = lead ws + 1 - i ∧ i ≤ lead ws ∧ σ' = [some (.ref r), some (.ref g), some (.ref q)] ∧ Kp r H H' ∧ H' q = some (.lst (szV ws i)) ∧ RdAt R H' r l ws i ∧ LamAt P w K mg base 4 ["word"] (spL K) H' g, ⟨_, 0, rfl, Nat.zero_le _, rfl, kp1, hq1, at1, lam1⟩, ?_⟩
      rintro m σ' H' ⟨i, rfl, hi, rfl, kp', hq', at', lam'⟩
      obtain ⟨⟨dx', hr'⟩, hl'⟩ := id at'
      have lw := lead_le ws
      refine via (fun b H2 => Same H' H2 ∧ (b = true → i < ws.length) ∧ (b = false → i = lead ws)) ?_ (fun go => ?_)
      · rintro b H2 ⟨s2, h1, h2⟩
        have hq2 := s2 _ _ hq'
        have at2 := at'.same s2
        have kp2 := kp'.trans (Kp.of s2)
        have lam2 := lam'.extn (ExtN.of s2)
        have hr2 := s2 _ _ hr'
        cases b with
        | false =>
          refine iteF ?_
          have ei := h2 rfl
          subst ei
          exact ⟨_, rfl, kA q H2 kp2 fq hq2 at2⟩
        | true =>
          refine iteT ?_
          have il := h1 rfl
          refine ⟨fun σ' H3 => i < lead ws ∧ σ' = [some (.ref r), some (.ref g), some (.ref q)] ∧ Kp r H H3 ∧ H3 q = some (.lst (szV ws (i + 1))) ∧ RdAt R H3 r l ws (i + 1) ∧ LamAt P w K mg base 4 ["word"] (spL K) H3 g, ?_, ?_⟩
          · rintro σ' H3 ⟨z1, z2⟩
            exact ⟨_, by omega, i + 1, rfl, z1, z2⟩
          refine ⟨_, rfl, .inl ⟨rfl, _, SqL.of hq2⟩, _, rfl, r, dx', _, rfl, hr2, no (by decide +kernel) (by decide +kernel) (by decide +kernel), ?_⟩
          refine ⟨_, rfl, g, ["word"], spL K, rfl, lam2, ?_⟩
          refine ⟨_, rfl, r, dx', _, rfl, hr2, no (by decide +kernel) (by decide +kernel) (by decide +kernel), r, l, ws, i, rfl, at2, lam2, handV ws i, rfl, hand_any _ _ _ _, text_hand ws i wok, ?_⟩
          refine ⟨r, l, ws, i, _, rfl, at2, ?_⟩
          by_cases hlt : i < lead ws
          · obtain ⟨w', v, hw', hv⟩ := lead_lt hlt
            have eh : handV ws i = .str (S w') := by unfold handV; rw [hw']
            have ex : optV (numV (handV ws i) 1 (10 ^ 30)) = .int v := by
              rw [eh]
              show optV (szO w') = _
              rw [hv]; rfl
            rw [ex]
            refine ⟨fun e => (by cases e), fun _ H3 k3 a3 => ?_⟩
            have nq : q ≠ r := fun e => by rw [e, hr2] at hq2; cases hq2
            refine ⟨q, _, _, rfl, rfl, k3 _ _ nq hq2, ?_, ?_⟩
            · unfold szV
              rw [List.length_map]
              exact Nat.lt_of_le_of_lt (Nat.le_trans (List.length_take_le _ _) (show i ≤ 20000 by omega)) (by decide)
            · have nl : l ≠ q := ne_of_none at_.2 fq
              have hq3 := k3 _ _ nq hq2
              refine ⟨hlt, rfl, fun b o hb e => ?_, ?_, ⟨?_, ?_⟩, ?_⟩
              · rw [upd_ne (ne_of_none e fq)]
                exact k3 _ _ hb (kp2 _ _ hb e)
              · rw [upd_same, szV_succ hw' hv]
              · obtain ⟨⟨dy, y1⟩, _⟩ := a3
                exact ⟨dy, by rw [upd_ne nq.symm]; exact y1⟩
              · rw [upd_ne nl]
                exact a3.2
              · exact (lam2.butI hr2 k3).butL hq3 fun b o hb e => by rw [upd_ne hb]; exact e
          · have ei : i = lead ws := by omega
            have ex : optV (numV (handV ws i) 1 (10 ^ 30)) = .non := by
              have eh : handV ws i = .str (S ws[i]) := by unfold handV; rw [List.getElem?_eq_getElem il]
              rw [eh]
              have : szO ws[i] = none := lead_at (ws := ws) (by rw [← ei]; exact List.getElem?_eq_getElem il)
              show optV (szO ws[i]) = _
              rw [this]; rfl
            rw [ex]
            refine ⟨fun _ d fs H3 s3 hd f1 f2 => ?_, fun h => absurd rfl h⟩
            rw [ei] at f2
            exact kB (by omega) d fs H3 (kp2.trans (Kp.of s3)) hd f1 f2
      · refine ⟨_, rfl, _, .inl ⟨_, SqL.of hq', rfl⟩, ?_⟩
        by_cases i0 : i = 0
        · subst i0
          refine iteT (go _ _ ⟨Same.refl _, fun _ => ?_, fun e => (by cases e)⟩)
          cases ws with
          | nil => exact absurd rfl ne
          | cons a b => simp
        · have nz : (szV ws i).isEmpty = false := by
            have hlen : (szV ws i).length = i := by
              unfold szV
              rw [List.length_map, List.length_take]
              omega
            cases hz : szV ws i with
            | nil => rw [hz] at hlen; exact absurd hlen.symm i0
            | cons a b => rfl
          rw [nz]
          refine iteF ⟨_, rfl, r, dx', _, rfl, hr', no (by decide +kernel) (by decide +kernel) (by decide +kernel), r, l, ws, i, rfl, at', fun H2 s2 => ⟨_, rfl, go _ _ ⟨s2, fun e => ?_, fun e => ?_⟩⟩⟩
          · unfold moreB at e
            cases hw : ws[i]? with
            | none => rw [hw] at e; cases e
            | some w' => exact (List.getElem?_eq_some_iff.mp hw).1
          · refine Classical.byContradiction fun z => ?_
            obtain ⟨w', v, hw', hv⟩ := lead_lt (ws := ws) (i := i) (by omega)
            unfold moreB at e
            rw [hw'] at e
            dsimp only at e
            have n1 : w' ≠ [47] := fun z => by rw [z] at hv; exact absurd hv (by rw [sz47]; exact fun y => by cases y)
            have n2 : w' ≠ [59] := fun z => by rw [z] at hv; exact absurd hv (by rw [sz59]; exact fun y => by cases y)
            rw [decide_eq_false n1, decide_eq_false n2] at e
            cases e
end
end Lw
namespace Lw
open PySem PySem.Spec PyProof.Rows L2
open SX PySem.NumText TL LamX
structure DefC (K : PySem.W.Frag) (mg : Str → Option Value) (x : Str) (st : Stmt) (f : Addr) (fd : FuncData) (c : Addr) : Prop where
  ex : ∃ (oc : Value) (od : Option Addr) (dV kV doc pm : Value) (an : Option Addr) (ct : Value) (osl : Array (Option Value)),
    fd = PySem.W.fnOf x x (C8.fnArgs st) (C8.fnBody st) (C8.fnScope st) dV kV doc pm an (.ref c) ct ∧ K.lookup f = some ⟨oc, od, .func fd, osl⟩ ∧ PySem.W.codeIn K (.ref c) x = true
  mgf : mg x = some (.ref f)
  kp : PySem.W.keepIn K (.ref f) = true
theorem calGC {P : Program} {w : World} {K : PySem.W.Frag} {mg : Str → Option Value} {base : Heap} {x : Str} {st : Stmt} {f c : Addr} {fd : FuncData} {N ps : List Str} {ds : List Value} {dvs : List V} {k : Nat} {sp : Sp} (F : DefC K mg x st f fd c) (b : Binds K fd ps ds) (d : Vals dvs ds) (S : FnScope N ps (C8.fnScope st)) (len : ∀ vs H Q E, sp vs H Q E → vs.length = ps.length)
    (body : ∀ (A : Around) (outer : List Env) (s : Shared) (H : Hp) (vs : List V) (Q : VK) (E : XK), (A.deeper (envOfC x (C8.fnScope st) s.heap.objs.size f (.ref c))).guards = some [] → Room k (A.deeper (envOfC x (C8.fnScope st) s.heap.objs.size f (.ref c))) → sp vs H Q E →
      ∃ t, PSs (cxOf C8.CX0 P w K mg base N x (C8.fnScope st) f (.ref c) A outer s H E).nox (C8.fnBody st) t ∧ t { nx := fun _ H' => Q .non H', rt := Q } (start N vs) H) : CalG P w K mg base (k + 1) x sp dvs := by
  refine ⟨f, fd, ps, ds, ⟨len, ?_⟩, F.mgf, F.kp, b, d⟩
  intro A outer s H args us vs Q E hg hr e0 hb r hs
  obtain ⟨oc, od, dV, kV, doc, pm, an, ct, osl, rfl, lk, hcd⟩ := F.ex
  refine LamX.run_ofS lk hcd S hr e0 hb r (len _ _ _ _ hs) fun hr' => ?_
  obtain ⟨t, h1, h2⟩ := body A outer s H vs Q E hg hr' hs
  exact ⟨t, h1.nox, h2⟩
theorem Tabs.put {T : List (Addr × Str)} {H : Hp} {l : Addr} {o : HO} {xs : List V} (t : Tabs T H) (hl : H l = some (.lst xs)) : Tabs T (upd H l o) := by
  intro q hq
  obtain ⟨ps, h1, h2, h3⟩ := t q hq
  refine ⟨ps, ?_, h2, fun pos cv hc => ?_⟩
  · rw [upd_ne (fun e => by rw [e, hl] at h1; cases h1)]; exact h1
  · obtain ⟨c, e1, e2⟩ := h3 pos cv hc
    refine ⟨c, e1, ?_⟩
    rw [upd_ne (fun e => by rw [e, hl] at e2; unfold CodeO at e2; cases e2)]; exact e2
theorem Tabs.kp {T : List (Addr × Str)} {p pl : Addr} {n : Nat} {H H' : Hp} (t : Tabs T H) (hp : Pen H p pl n) (k : Kp p H H') : Tabs T H' := by
  intro q hq
  obtain ⟨ps, h1, h2, h3⟩ := t q hq
  obtain ⟨xs, a, g, hh, _⟩ := hp
  refine ⟨ps, k _ _ (fun e => ?_) h1, h2, fun pos cv hc => ?_⟩
  · rw [e, hh.at_] at h1; cases h1
  · obtain ⟨c, e1, e2⟩ := h3 pos cv hc
    refine ⟨c, e1, k _ _ (fun e => ?_) e2⟩
    rw [e, hh.at_] at e2
    unfold CodeO at e2
    cases e2
theorem Pen.extn {H H' : Hp} {p l : Addr} {n : Nat} (h : Pen H p l n) (e : ExtN H H') : Pen H' p l n := by
  obtain ⟨xs, a, g, ⟨h1, h2, h3, h4, h5⟩, h6⟩ := h
  have nl : ∀ (ys : List V) ps, HO.lst ys ≠ .tbl ps := fun ys ps z => by cases z
  exact ⟨xs, a, g, ⟨e _ _ h1 (nl _), e _ _ h2 (nl _), h3, h4, h5⟩, h6⟩
/-- the tables of lambdas: of read_sizes, of _law_right, of law -/
abbrev tabT (B0 B1 B2 : Addr) : List (Addr × Str) := [(B0, (("read_sizes" : Str) ++ (".<locals>." : Str)) ++ ("<lambda>" : Str)), (B1, (("_law_right" : Str) ++ (".<locals>." : Str)) ++ ("<lambda>" : Str)), (B2, (("law" : Str) ++ (".<locals>." : Str)) ++ ("<lambda>" : Str))]
structure Apart3 (B0 B1 B2 : Addr) : Prop where
  n01 : B1 ≠ B0
  n02 : B2 ≠ B0
  n12 : B2 ≠ B1
theorem tabT_0 {B0 B1 B2 : Addr} (n : Apart3 B0 B1 B2) (p : Addr × Str) (hp : p ∈ tabT B0 B1 B2) (e : p.1 = B0) : p.2 = (("read_sizes" : Str) ++ (".<locals>." : Str)) ++ ("<lambda>" : Str) := by
  simp only [List.mem_cons, List.not_mem_nil, or_false] at hp
  rcases hp with rfl | rfl | rfl
  · rfl
  · exact absurd e n.n01
  · exact absurd e n.n02
theorem tabT_1 {B0 B1 B2 : Addr} (n : Apart3 B0 B1 B2) (p : Addr × Str) (hp : p ∈ tabT B0 B1 B2) (e : p.1 = B1) : p.2 = (("_law_right" : Str) ++ (".<locals>." : Str)) ++ ("<lambda>" : Str) := by
  simp only [List.mem_cons, List.not_mem_nil, or_false] at hp
  rcases hp with rfl | rfl | rfl
  · exact absurd e.symm n.n01
  · rfl
  · exact absurd e n.n12
theorem tabT_2 {B0 B1 B2 : Addr} (n : Apart3 B0 B1 B2) (p : Addr × Str) (hp : p ∈ tabT B0 B1 B2) (e : p.1 = B2) : p.2 = (("law" : Str) ++ (".<locals>." : Str)) ++ ("<lambda>" : Str) := by
  simp only [List.mem_cons, List.not_mem_nil, or_false] at hp
  rcases hp with rfl | rfl | rfl
  · exact absurd e.symm n.n02
  · exact absurd e.symm n.n12
  · rfl
/-- all but what stands at r, and the tables, is as it was -/
def KpN (r : Addr) (H H' : Hp) : Prop := ∀ b o, b ≠ r → H b = some o → (∀ ps, o ≠ .tbl ps) → H' b = some o
def RsR (R D r l : Addr) (T : List (Addr × Str)) (ws : List (List Nat)) (H : Hp) (Q : VK) (E : XK) : Prop :=
  (ws[0]? = some [45] → ∀ q H', KpN r H H' → Tabs T H' → H' q = some (.lst []) → RdAt R H' r l ws 1 → Q (.ref q) H') ∧
  (ws[0]? ≠ some [45] → (∀ q H', KpN r H H' → Tabs T H' → H' q = some (.lst (szV ws (lead ws))) → RdAt R H' r l ws (lead ws) → Q (.ref q) H') ∧
    (lead ws < ws.length → ∀ d fs H', KpN r H H' → Tabs T H' → H' d = none → fs.lookup ("line" : Str) = some (.int 0) → fs.lookup ("word" : Str) = some (.int (lead ws)) → E (.ref D) (some d) (upd H' d (.xd fs))))
def spRS (R D : Addr) (T : List (Addr × Str)) : Sp := fun vs H Q E => ∃ r l ws, vs = [.ref r] ∧ RdAt R H r l ws 0 ∧ WsOk ws ∧ Tabs T H ∧ RsR R D r l T ws H Q E
theorem Tabs.kpI {T : List (Addr × Str)} {H H' : Hp} {r C dx : Addr} {fs : List (Str × V)} (t : Tabs T H) (hr : H r = some (.ins C dx fs)) (k : Kp r H H') : Tabs T H' := by
  intro q hq
  obtain ⟨ps, h1, h2, h3⟩ := t q hq
  refine ⟨ps, k _ _ (fun e => ?_) h1, h2, fun pos cv hc => ?_⟩
  · rw [e, hr] at h1; cases h1
  · obtain ⟨c, e1, e2⟩ := h3 pos cv hc
    refine ⟨c, e1, k _ _ (fun e => ?_) e2⟩
    rw [e, hr] at e2
    unfold CodeO at e2
    cases e2
theorem KpN.of {r : Addr} {H H1 H2 : Hp} (x : ExtN H H1) (k : Kp r H1 H2) : KpN r H H2 := fun b o hb e n => k b o hb (x b o e n)
section
variable {P : Program} {w : World} {K : PySem.W.Frag} {mg : Str → Option Value} {base : Heap}
theorem scRS : FnScope ["reader"] ["reader"] (C8.fnScope sRS) := C8.fnScope_by (by decide +kernel)
theorem fn_rs {R D f fW c B0 B1 B2 : Addr} {fd fdW : FuncData} (F : DefC K mg "read_sizes" sRS f fd c) (T : Txt mg) (TB : TabB base mg c B0) (n : Apart3 B0 B1 B2) (DN : C8.Cal P w K mg base 3 "number_of" (spNumOf K) []) (DW : C8.Def K mg "read_worths" sRW fW fdW) (bW : Binds K fdW ["reader", "worth_of"] []) (FW : FnOk P w K mg base (L2.CX P w) 9 fW fdW ["reader", "worth_of"] (spRW P w K mg base R D)) :
    FnOk P w K mg base (L2.CX P w) 11 f fd ["reader"] (spRS R D (tabT B0 B1 B2)) := by
  obtain ⟨oc, od, dV, kV, doc, pm, an, ct, osl, rfl, lk, hcd⟩ := F.ex
  obtain ⟨tg, hGS⟩ := T.c_GS
  refine fn_of lk hcd scRS (fun vs H Q E h => ?_) fun A outer s H vs Q E hr h => ?_
  · obtain ⟨r, l, ws, rfl, _⟩ := h
    rfl
  · obtain ⟨r, l, ws, rfl, at_, wo, ht, k1, k2⟩ := h
    refine ⟨_, (pss_one (ps_ret (pe_call FW (hr.mono (by decide)) (by rfl) DW.mgf DW.kp bW .nil (passes_call (takes_of rfl rfl rfl rfl) (fun _ _ _ _ z => z)) (pa_cons (pv 0) (pa_cons (pe_lamN (k := 4) (ps := ["word"]) (sp := spL K) (T := tabT B0 B1 B2) TB rfl (List.Mem.head _) (tabT_0 n) rfl (by decide) rfl
      (fun fl cl => ⟨C8.fnScope_by (by decide +kernel), fun pm cv ctv us hl => (match us, hl with | [_], _ => rfl), fun vs H Q E h => (by obtain ⟨x, rfl, _⟩ := h; rfl), fun A out s H vs Q hr2 h => ⟨_, C8.pe_c DN hr2 (by decide) (by rfl) (pa_cons (pv 0) (pa_cons pe_int (pa_cons (pe_glob (v := .int (10 ^ 30)) rfl hGS ⟨_, rfl⟩) pa_nil))), (by
        obtain ⟨x, rfl, av, tx, q⟩ := h
        exact ⟨_, rfl, x, 1, 10 ^ 30, rfl, av, tx, q⟩)⟩⟩)) pa_nil))))), ?_⟩
    obtain ⟨⟨dx, hr1⟩, hl⟩ := id at_
    refine ⟨_, rfl, ht, fun g H1 x1 t1 ng lam => ?_⟩
    have hrT : H1 r = some (.ins R dx (rdF l 0)) := x1 _ _ hr1 fun ps z => by cases z
    have at1 : RdAt R H1 r l ws 0 := ⟨⟨dx, hrT⟩, x1 _ _ hl fun ps z => by cases z⟩
    refine ⟨r, l, ws, g, rfl, at1, wo, lam, fun h q H2 kp fq hq a2 => ?_, fun h => ⟨fun q H2 kp fq hq a2 => ?_, fun hlt d fs H2 kp hd f1 f2 => ?_⟩⟩
    · exact k1 h q H2 (KpN.of x1 kp) (Lw.Tabs.kpI t1 hrT kp) hq a2
    · exact (k2 h).1 q H2 (KpN.of x1 kp) (Lw.Tabs.kpI t1 hrT kp) hq a2
    · exact (k2 h).2 hlt d fs H2 (KpN.of x1 kp) (Lw.Tabs.kpI t1 hrT kp) hd f1 f2
end
end Lw
namespace Lw
open PySem PySem.Spec PyProof.Rows L2
open SX PySem.NumText TL LamX ClX StX
abbrev sCI : Stmt := inClass (top 50) 1
abbrev sCM : Stmt := top 51
/-! ### Chunks, made -/
/-- its attributes -/
def chF (p : Addr) (t : Int) (e r : Addr) : List (Str × V) := putF "rests" (.ref r) (putF "ends" (.ref e) (putF "total" (.int t) (putF "sizes" (.ref p) [])))
theorem chF_sizes (p : Addr) (t : Int) (e r : Addr) : (chF p t e r).lookup ("sizes" : Str) = some (.ref p) := by
  unfold chF
  rw [lookup_putF, if_neg (by decide +kernel), lookup_putF, if_neg (by decide +kernel), lookup_putF, if_neg (by decide +kernel), lookup_putF, if_pos rfl]
/-- the class's constant, the error's class -/
structure ChC (P : Program) (w : World) (K : PySem.W.Frag) (mg : Str → Option Value) (base : Heap) (CC DM : Addr) (mc : Value) : Prop where
  r : CRead K CC mc
  m : ∃ u, CVal K CC mc "MOST" (.int 5000) u
  hm : mg "Chunks" = some (.ref CC)
  cl : Cls K CC
  n1 : NoAttr K CC "sizes"
  n2 : NoAttr K CC "total"
  n3 : NoAttr K CC "ends"
  n4 : NoAttr K CC "rests"
/-- too many chunks -/
def Mf (DM : Addr) (H : Hp) (E : XK) : Prop := ∀ d fs H', Same H H' → H' d = none → fs.lookup ("what" : Str) = some (.str (Str.ofString "chunks")) → fs.lookup ("most" : Str) = some (.int 5000) → E (.ref DM) (some d) (upd H' d (.xd fs))
def spCM (DM : Addr) : Sp := fun vs H Q E => ∃ m : Int, vs = [.int m] ∧ (m ≤ 5000 → Q .non H) ∧ (5000 < m → Mf DM H E)
def SzOk (ns : List Int) : Prop := (∀ v ∈ ns, 1 ≤ v ∧ v ≤ 10 ^ 30) ∧ ns.length ≤ 20000
def spCI (CC DM : Addr) : Sp := fun vs H Q E => ∃ (x dx p : Addr) (ns : List Int), vs = [.ref x, .ref p] ∧ H x = some (.ins CC dx []) ∧ H p = some (.tup (ns.map V.int)) ∧ SzOk ns ∧
  (ns.length ≤ 5000 → ∀ t e r H', Kp x H H' → H' x = some (.ins CC dx (chF p t e r)) → Q .non H') ∧ (5000 < ns.length → Mf DM H E)
section
variable {P : Program} {w : World} {K : PySem.W.Frag} {mg : Str → Option Value} {base : Heap}
theorem scCM : FnScope ["many"] ["many"] (C8.fnScope sCM) := C8.fnScope_by (by decide +kernel)
theorem fn_cm {CC DM fE f : Addr} {mc : Value} {fd fdE : FuncData} (F : C8.Def K mg "check_many" sCM f fd) (Z : ChC P w K mg base CC DM mc) (ER : Err2 "TooMany" "what" "most" P w K mg base DM fE fdE) : FnOk P w K mg base (L2.CX P w) 3 f fd ["many"] (spCM DM) := by
  obtain ⟨oc, od, dV, kV, doc, pm, an, cdv, ct, osl, rfl, lk, hcd⟩ := F.fn.ex
  obtain ⟨u, hu⟩ := Z.m
  refine fn_of lk hcd scCM (fun vs H Q E h => ?_) fun A outer s H vs Q E hr h => ?_
  · obtain ⟨m, rfl, _⟩ := h
    rfl
  · obtain ⟨m, rfl, k1, k2⟩ := h
    have tk : Takes (cxOf (L2.CX P w) P w K mg base ["many"] "check_many" (C8.fnScope sCM) f cdv A outer s H E) (fun cls d _ H' => E cls d H') := takes_of rfl rfl rfl rfl
    refine ⟨_, (pss_one (ps_if (pt_cmpR op_gt (pv 0) (pe_cval (pe_glob (v := .ref CC) (by rfl) Z.hm rfl)) (nomark _)) (pss_one (ps_bad2 (x := "TooMany") rfl tk ER.T ER.iC ER.tI ER.F hr ER.b (by rfl) ER.hm pe_str (pe_cval (pe_glob (v := .ref CC) (by rfl) Z.hm rfl)))) pss_nil)), ?_⟩
    refine ⟨_, rfl, CC, mc, _, u, rfl, Z.r, hu, _, _, rfl, rfl, _, rfl, ite2 (fun c => ?_) (fun c => ?_)⟩
    · refine ⟨CC, mc, _, u, rfl, Z.r, hu, ?_⟩
      exact bad_leaf2 fun d fs hd e1 e2 => k2 (of_decide_eq_true c) d fs H (Same.refl _) hd e1 e2
    · exact k1 (by have := of_decide_eq_false (Bool.eq_false_iff.mpr c); omega)
theorem scCI : FnScope ["self", "sizes", "size", "ends", "done", "end"] (([("self" : Str)] : List Str) ++ [("sizes" : Str)]) (C8.fnScope sCI) := C8.fnScope_by (by decide +kernel)
theorem fn_ci {CC DM fM f : Addr} {mc : Value} {fd fdM : FuncData} (F : C8.Fun K "__init__" "Chunks.__init__" sCI f fd) (df : fd.defaults = .none) (T : Txt mg) (hz : mg "zip" = none) (htu : mg "tuple" = none) (Z : ChC P w K mg base CC DM mc) (DS : C8.Cal P w K mg base 3 "is_size" (spSize K) []) (DM' : C8.Def K mg "check_many" sCM fM fdM) (bM : Binds K fdM ["many"] []) (FM : FnOk P w K mg base (L2.CX P w) 3 fM fdM ["many"] (spCM DM)) :
    FnR P w K mg base (L2.CX P w) 5 f (fun vs H Q E => ∃ ws rest, vs = ws ++ rest ∧ ws.length = ["self"].length ∧ rest.length ≤ sizeLine ∧ ∀ p, H p = none → spCI CC DM (ws ++ [V.ref p]) (upd H p (.tup rest)) Q E) := by
  obtain ⟨oc, od, dV, kV, doc, pm, an, cdv, ct, osl, rfl, lk, hcd⟩ := F.ex
  have e0 : dV = .none := df
  subst e0
  refine fn_star (ps := ["self"]) (pv := "sizes") lk hcd scCI cxUp (fun us rest hl => bind_star1 (p1 := "self") (pv := "sizes") (B := fun zs => bindArgs _ ⟨zs, []⟩) (fun a => rfl) (fun a r rs => rfl) us rest hl) fun A outer s H vs Q E hr h => ?_
  obtain ⟨x, dx, p, ns, rfl, hx, hp, ⟨so, sl⟩, k1, k2⟩ := h
  refine ⟨_, (pss_cons (ps_for (passes_of rfl) rfl (pi_tup (pv 1)) (pg_name (i := 2) scCI.nd rfl (Or.inl rfl)) (pss_one (ps_if (pt_not (pt_val (C8.pe_c DS hr (by decide) (by rfl) (pa_cons (pv 2) pa_nil)))) (pss_one ps_never) pss_nil)))
    (pss_cons (ps_expr (pe_call FM (hr.mono (by decide)) (by rfl) DM'.mgf DM'.kp bM .nil (passes_call (takes_of rfl rfl rfl rfl) (fun _ _ _ _ z => z)) (pa_cons (pe_callB call_len_seq (by rfl) T.n_len (by decide +kernel) (pa_cons (pv 1) pa_nil)) pa_nil)))
    (pss_cons (ps_set (i := 3) scCI.nd rfl (Or.inl rfl) (pe_lst pa_nil))
    (pss_cons (ps_set (i := 4) scCI.nd rfl (Or.inr rfl) pe_int)
    (pss_cons (ps_for (passes_of rfl) rfl (pi_tup (pv 1)) (pg_name (i := 2) scCI.nd rfl (Or.inl rfl)) (pss_cons (ps_set (i := 4) scCI.nd rfl (Or.inr rfl) (pe_op op_add (pv 4) (pv 2))) (pss_one (ps_expr (pe_bm PySem.F.plainAttrs_list PySem.F.slot_list_append PySem.F.type_list_append mt_append (pv 3) (pa_cons (pv 4) pa_nil))))))
    (pss_cons (ps_fld (pv 0) (pv 1) rfl)
    (pss_cons (ps_fld (pv 0) (pv 4) rfl)
    (pss_cons (ps_fld (pv 0) (pe_callTy call_tuple_of (by rfl) htu (by decide +kernel) (pa_cons (pv 3) pa_nil)) rfl)
    (pss_one (ps_fld (pv 0) (pe_callTy call_tuple_of (by rfl) htu (by decide +kernel) (pa_cons (pe_lc (own := [("end", 5), ("size", 2)]) (g := gTup K 2 (gCons (gName 5) (gCons (gName 2) (gNil)))) (tt := tYes) rfl scCI.nd (Zm.pi_zipM (by rfl) hz (pa_cons (pv 3) (pa_cons (pv 1) pa_nil))) (blkOk_by (own := [("end", 5), ("size", 2)]) (N := ["self", "sizes", "size", "ends", "done", "end"]) (sc := (C8.fnScope sCI)) (by decide +kernel)) (fun _ _ _ _ _ => pg_tup rfl (pgs_cons (pg_name (i := 5) scCI.nd rfl (Or.inl rfl)) (pgs_cons (pg_name (i := 2) scCI.nd rfl (Or.inl rfl)) pgs_nil))) (fun _ _ _ _ _ => pts_nil) (fun _ _ _ _ _ => (pe_op op_add (pe_op op_sub (pv 4) (pv 5)) (pv 2)))) pa_nil)) rfl)))))))))), ?_⟩
  have hlen : (ns.map V.int).length = ns.length := List.length_map _
  have xp : x ≠ p := fun e => by rw [e, hp] at hx; cases hx
  have gets : ∀ {i : Nat} {y : V}, (ns.map V.int)[i]? = some y → ∃ v, y = .int v ∧ 1 ≤ v ∧ v ≤ 10 ^ 30 := fun {i y} e => by
    obtain ⟨v, hv, rfl⟩ := List.mem_map.mp (List.mem_of_getElem? e)
    exact ⟨v, rfl, so v hv⟩
  refine ⟨_, rfl, p, rfl, ⟨_, SqT.of hp⟩, for_tup (xs := ns.map V.int) (fun i σ' H' => ∃ v, σ' = [some (.ref x), some (.ref p), v, none, none, none] ∧ H' = H) ⟨_, rfl, rfl⟩ (fun i σ' H' _ h => by obtain ⟨v, _, rfl⟩ := h; exact SqT.of hp) ?_ ?_⟩
  · rintro i y σ' H' hy ⟨v, rfl, rfl⟩
    obtain ⟨v0, rfl, b1, b2⟩ := gets hy
    exact ⟨_, rfl, .int v0, rfl, .int v0, _, rfl, iteF' (by show (!(decide (1 ≤ v0) && decide (v0 ≤ 10 ^ 30))) = false; rw [decide_eq_true b1, decide_eq_true b2]; rfl) ⟨_, rfl, rfl⟩⟩
  · rintro σ1 H1 ⟨v1, rfl, rfl⟩
    refine ⟨_, rfl, p, _, rfl, .inr (SqT.of hp), _, rfl, fun hm => ?_, fun hm => k2 (by rw [hlen] at hm; omega)⟩
    have lm : ns.length ≤ 5000 := by rw [hlen] at hm; omega
    refine ⟨(by show 0 ≤ sizeLine; decide), fun q fq => ?_⟩
    have s1 := same_new (o := HO.lst []) fq
    have hq1 : upd H1 q (.lst []) q = some (.lst []) := upd_same
    generalize upd H1 q (.lst []) = H2 at s1 hq1 ⊢
    dsimp only [gName, tSeq]
    refine ⟨_, rfl, p, rfl, ⟨_, SqT.of (s1 _ _ hp)⟩, for_tup (xs := ns.map V.int) (fun i σ' H' => ∃ (v : Option V) (t : Int) (es : List Int), σ' = [some (.ref x), some (.ref p), v, some (.ref q), some (.int t), none] ∧ Same H1 H' ∧ H' q = some (.lst (es.map V.int)) ∧ es.length = i) ⟨_, _, [], rfl, s1, hq1, rfl⟩ (fun i σ' H' _ h => by obtain ⟨v, t, es, _, s', _⟩ := h; exact SqT.of (s' _ _ hp)) ?_ ?_⟩
    · rintro i y σ' H' hy ⟨v, t, es, rfl, s', hq', el⟩
      obtain ⟨v0, rfl, _, _⟩ := gets hy
      have hi : i < 20000 := by
        have := (List.getElem?_eq_some_iff.mp hy).1
        rw [hlen] at this
        omega
      refine ⟨_, rfl, _, rfl, _, _, rfl, rfl, ?_⟩
      refine ⟨_, rfl, .inl ⟨rfl, _, SqL.of hq'⟩, _, rfl, q, _, _, rfl, rfl, hq', ?_, ?_⟩
      · rw [List.length_map, el]
        exact Nat.lt_of_lt_of_le hi (by decide)
      · refine ⟨_, _, es ++ [t + v0], rfl, fun b o e => ?_, ?_, ?_⟩
        · rw [upd_ne (ne_of_none e fq)]
          exact s' _ _ e
        · rw [upd_same, List.map_append]; rfl
        · rw [List.length_append, el]; rfl
    · rintro σ2 H3 ⟨v, t, es, rfl, s3, hq3, el⟩
      rw [hlen] at el
      have xq : x ≠ q := fun e => by rw [e, fq] at hx; cases hx
      have hx3 := s3 _ _ hx
      have hp3 := s3 _ _ hp
      refine ⟨_, rfl, _, rfl, x, CC, dx, [], rfl, hx3, Z.cl, Z.n1, (by show 0 < 1000; decide), ?_⟩
      refine ⟨_, rfl, _, rfl, x, CC, dx, _, rfl, upd_same, Z.cl, Z.n2, (by show 1 < 1000; decide), ?_⟩
      rw [upd_upd]
      have f2 : (putF "total" (.int t) (putF "sizes" (.ref p) [])).length < 900 := Nat.lt_of_le_of_lt (Nat.le_trans (putF_len _ _ _) (Nat.add_le_add_right (putF_len _ _ _) 1)) (by decide)
      have kp4 : Kp x H1 (upd H3 x (.ins CC dx (putF "total" (.int t) (putF "sizes" (.ref p) [])))) := fun b o hb e => by rw [upd_ne hb]; exact s3 _ _ e
      have hx4 : upd H3 x (.ins CC dx (putF "total" (.int t) (putF "sizes" (.ref p) []))) x = some (.ins CC dx (putF "total" (.int t) (putF "sizes" (.ref p) []))) := upd_same
      have hq4 : upd H3 x (.ins CC dx (putF "total" (.int t) (putF "sizes" (.ref p) []))) q = some (.lst (es.map V.int)) := by rw [upd_ne xq.symm]; exact hq3
      have hp4 : upd H3 x (.ins CC dx (putF "total" (.int t) (putF "sizes" (.ref p) []))) p = some (.tup (ns.map V.int)) := by rw [upd_ne xp.symm]; exact hp3
      generalize hg : putF "total" (.int t) (putF "sizes" (.ref p) []) = fs at *
      generalize upd H3 x (.ins CC dx fs) = H4 at *
      refine ⟨_, rfl, q, _, rfl, .inl ⟨SqL.of hq4, fun e1 fe => ?_⟩⟩
      have s5 := same_new (o := HO.tup (es.map V.int)) fe
      refine ⟨_, rfl, x, CC, dx, fs, rfl, s5 _ _ hx4, Z.cl, Z.n3, by omega, ?_⟩
      have hx6 : upd (upd H4 e1 (.tup (es.map V.int))) x (.ins CC dx (putF "ends" (.ref e1) fs)) x = some (.ins CC dx (putF "ends" (.ref e1) fs)) := upd_same
      have hq6 : upd (upd H4 e1 (.tup (es.map V.int))) x (.ins CC dx (putF "ends" (.ref e1) fs)) q = some (.lst (es.map V.int)) := by rw [upd_ne xq.symm]; exact s5 _ _ hq4
      have hp6 : upd (upd H4 e1 (.tup (es.map V.int))) x (.ins CC dx (putF "ends" (.ref e1) fs)) p = some (.tup (ns.map V.int)) := by rw [upd_ne xp.symm]; exact s5 _ _ hp4
      have kp6 : Kp x H1 (upd (upd H4 e1 (.tup (es.map V.int))) x (.ins CC dx (putF "ends" (.ref e1) fs))) := fun b o hb e => by rw [upd_ne hb]; exact s5 _ _ (kp4 _ _ hb e)
      generalize upd (upd H4 e1 (.tup (es.map V.int))) x (.ins CC dx (putF "ends" (.ref e1) fs)) = H6 at hx6 hq6 hp6 kp6 ⊢
      have ll : (es.map V.int).length = (ns.map V.int).length := by rw [List.length_map, List.length_map, el]
      refine ⟨_, rfl, _, rfl, q, p, _, _, rfl, ⟨SqL.of hq6, SqT.of hp6⟩, fun D hD => lc_it (Zm.walk (xs := es.map V.int) (ys := ns.map V.int) ll) (fun i H' => Same H6 H' ∧ ∃ rs : List Int, H' D = some (.lst (rs.map V.int)) ∧ rs.length = i) ⟨same_new hD, [], upd_same, rfl⟩ (fun i H' _ h => ⟨SqL.of (h.1 _ _ hq6), SqT.of (h.1 _ _ hp6)⟩) ?_ ?_⟩
      · rintro i y H' H'' hi ⟨s', rs, hd, rl⟩ ⟨T', y1, y2, ⟨rfl, fT, rfl⟩, g1, g2⟩
        obtain ⟨a1, _, rfl⟩ := List.mem_map.mp (List.mem_of_getElem? g1)
        obtain ⟨a2, _, rfl⟩ := List.mem_map.mp (List.mem_of_getElem? g2)
        have sT := same_new (o := HO.tup [V.int a1, V.int a2]) fT
        refine ⟨T', _, rfl, SqT.of upd_same, rfl, _, _, rfl, _, _, rfl, rfl, rfl, ?_⟩
        dsimp only [tYes]
        rw [if_pos rfl]
        refine ⟨_, rfl, _, rfl, _, _, rfl, rfl, _, rfl, _, _, rfl, rfl, _, sT _ _ hd, ?_, fun b o e => ?_, rs ++ [t - a1 + a2], ?_, ?_⟩
        · rw [List.length_map, rl]
          rw [ll, hlen] at hi
          exact Nat.lt_of_lt_of_le hi (Nat.le_trans lm (by decide))
        · rw [upd_ne (ne_of_none e hD)]
          exact sT _ _ (s' _ _ e)
        · rw [upd_same, List.map_append]; rfl
        · rw [List.length_append, rl]; rfl
      · rintro H7 ⟨s7, rs, hd, rl⟩
        refine ⟨D, _, rfl, .inl ⟨SqL.of hd, fun r1 fr => ?_⟩⟩
        have s8 := same_new (o := HO.tup (rs.map V.int)) fr
        refine ⟨_, rfl, x, CC, dx, _, rfl, s8 _ _ (s7 _ _ hx6), Z.cl, Z.n4, Nat.lt_of_le_of_lt (putF_len _ _ _) (by omega), ?_⟩
        refine k1 lm t e1 r1 _ (fun b o hb e => ?_) ?_
        · rw [upd_ne hb]
          exact s8 _ _ (s7 _ _ (kp6 _ _ hb e))
        · rw [upd_same, ← hg]
          rfl
end
end Lw
namespace Lw
open PySem PySem.Spec PyProof.Rows L2
/-! ### str(x) of an own class -/
section
variable {X : Cx} {C f : Addr} {k j : Nat} {sp : Sp} {E : XK} {pins : List (Addr × Obj)} {σ : L2.St} {H : Hp} {s : Shared}
/-- a method that runs one or two levels further in -/
theorem run_metA {A : Around} {m : Str} {us : List Value} {vs : List V} {Q : VK} (M : MetX X.prog X.w X.K X.mg X.base k C m sp) (hx : Passes (L2.CX X.prog X.w) X E) (hr : Room k A) (e0 : Env0 X.prog X.w X.K X.mg X.base A X.stack s H) (I : Inv X pins σ H s) (r : Vals vs us) (q : sp vs H Q E) :
    ∃ g : Addr, Meth X.K C m g ∧ wpAny (model X.prog X.w) A (call (.ref g) us) (EP X pins σ Q) X.xe s := by
  obtain ⟨g, fd, ps, hm, F, b⟩ := M.ex
  have l : us.length = ps.length := r.length.symm.trans (F.len _ _ _ _ q)
  have b' := b s us I.kIn (by rw [List.append_nil]; exact l)
  rw [List.append_nil] at b'
  refine ⟨g, hm, wpAny_call (codeAny_mono (F.run A X.stack s H ⟨us, []⟩ us vs Q E hr e0 b' r q) fun r s' hq => ?_)⟩
  cases r with
  | error e => exact hx pins σ H s e s' I hq
  | ok fl =>
    cases fl with
    | ret u => exact I.after hq
    | next => exact False.elim hq
    | brk => exact False.elim hq
    | cont => exact False.elim hq
/-- str(x) of an instance -/
def rStrOwn (C : Addr) (sp : Sp) (E : XK) : List V → Hp → VK → Prop := fun xs H Q => ∃ a dx fs, xs = [V.ref a] ∧ H a = some (.ins C dx fs) ∧ sp [.ref a] H (fun z H' => ∃ y, z = .str y ∧ Q z H') E
theorem call_strOwn (M : MetX X.prog X.w X.K X.mg X.base k C "__str__" sp) (hx : Passes (L2.CX X.prog X.w) X E) (hr : Room j X.A) (hk : k + 2 ≤ j) : CallR X (.type "str") (rStrOwn C sp E) := by
  intro pins s σ H xs us Q I r h
  obtain ⟨a, dx, fs, rfl, ha, q⟩ := h
  obtain ⟨u, rfl, ru⟩ := r.one
  cases (show u = Value.ref a from ru)
  obtain ⟨_, _, J⟩ := ins_at I ha
  have hr2 : Room k X.A.in1.in1 := (show Room (k + 1) X.A.in1 from Room.in1 (hr.mono hk)).in1
  obtain ⟨g, hm, w⟩ := run_metA (us := [.ref a]) (vs := [.ref a]) M hx hr2 I.env0.in1.in1 I (.cons rfl .nil) q
  refine PySem.W.kso_call hr2.units0 I.kIn J hm.at_ hm.fn (wpAny_mono w (fun v s' z => ?_) fun _ _ x => x)
  obtain ⟨z', H', I', rz, y, rfl, qz⟩ := z
  obtain ⟨t, rfl⟩ := rz
  exact ⟨.str y, H', I', ⟨t, rfl⟩, qz⟩
end
end Lw
namespace Lw.Ow
open PySem PySem.Spec PyProof.Rows PySem.W PySem.Calls
/-! ### != by the own == -/
theorem sl_obj_ne : Slot "object" "__ne__" "object.__ne__" :=
  .of (owner := "object") (n := "__ne__") (by rw [typeLookup_type, builtinLookup_eq_fast]; kernel_rfl) (by decide +kernel) (by decide +kernel) (by decide +kernel)
    (by first | exact .inl (by decide +kernel) | exact .inr (by decide +kernel)) (by rw [isSubtype_type]; kernel_rfl)
section
variable {prog : Program} {w : World} {A : Around} {E : Value → Shared → Prop} {s : Shared} {K : Frag} {x C f : Addr} {ox : Obj} {od : Option Obj}
theorem ifBound_S {M : Model} {name : Str} {id : String} {args : List Value} {Q : Option Value → Shared → Prop} (X : K.In s.heap) (I : InstAt s.heap x ox C od) (hs : findIn K (.ref C) name = some (some (.builtin id))) (hb : ∀ self, bindSpecial (.builtin id) self = pure (.builtin id, [self]))
    (h : wpAny M A (call (.builtin id) (.ref x :: args)) (fun v => Q (some v)) E s) : wpAny M A (callSpecialIfBound? (.ref x) name args) Q E s := by
  simp only [callSpecialIfBound?, bindSpecialIfBound?]
  refine wpAny_holding (wpAny_bind (wpAny_bind (wpAny_bind (I.type.here ((looks_findIn X hs).here ?_)))))
  refine wpAny_bind (wpAny_askSetting (wpAny_ite ?_))
  have fin : wpAny M A (call (.builtin id) ([.ref x] ++ args) >>= fun v => pure (some v)) Q E s := wpAny_bind (wpAny_mono h (fun v s' h' => wpAny_pure h') fun _ _ h' => h')
  split
  · exact wpAny_bind ((Looks.of_pure (hb _)).here (wpAny_pure (by exact fin)))
  · exact wpAny_tryCatch (wpAny_bind ((Looks.of_pure (hb _)).here (wpAny_pure (by exact fin))))
theorem try_ne {b : Value} {Q : Value → Shared → Prop} (hu : A.in1.units < cLine) (X : K.In s.heap) (I : InstAt s.heap x ox C od) (hm : mroIn K C (.type "object") = some true) (hn : findIn K (.ref C) "__ne__" = some (some (.builtin "object.__ne__"))) (he : findIn K (.ref C) "__eq__" = some (some (.ref f))) (hf : isFn K (.ref f) = true)
    (h : wpAny (model prog w) A.in1 (call (.ref f) [.ref x, b]) (fun v s' => ∃ c, v = .bool c ∧ Q (.bool (!c)) s') E s) : wpAny (model prog w) A (tryCompare (.ref x) "__ne__" b) (fun r s' => ∃ v, r = some v ∧ Q v s') E s := by
  unfold tryCompare
  refine wpAny_bind (ifBound_S X I hn sl_obj_ne.bind (wpAny_call (codeAny_call_builtin sl_obj_ne.plain F.cmpEntry_ne (check_slot (i := "object.__ne__") (owner := "object") (n := "__ne__") F.cmpKind_ne F.cmpSplit_ne (I.type.andThen (looks_mroIn X hm)) (F.cmpArgs_ne _ _) ?_))))
  unfold Builtin.«object.__ne__»
  refine wpAny_bind (wpAny_of_eq (a := (Value.ref x, [b])) rfl ?_)
  refine wpAny_bind (m := cRoomFor _ _) (wpAny_cRoomFor hu ?_)
  refine wpAny_bind (m := callSpecialIfBound? (.ref x) (Str.ofString "__eq__") _) (ifBound_K X I he hf (wpAny_mono h (fun r s' hq => ?_) fun _ _ y => y))
  obtain ⟨c, rfl, q⟩ := hq
  refine wpAny_bind (m := truthy (.bool c)) (wpAny_truthy_bool ?_)
  first | exact wpAny_pure (wpAny_pure ⟨_, rfl, q⟩) | exact wpAny_pure ⟨_, rfl, q⟩ | exact ⟨_, rfl, wpAny_pure ⟨_, rfl, q⟩⟩
theorem cmp_ne {b tb : Value} {Q : Value → Shared → Prop} (hu : A.units < cLine) (X : K.In s.heap) (I : InstAt s.heap x ox C od) (hb : Looks (model prog w) s.heap (typeOf b) tb) (hn : notFirst K C tb = true)
    (one : wpAny (model prog w) A (tryCompare (.ref x) "__ne__" b) (fun r s' => ∃ v, r = some v ∧ Q v s') E s) : wpAny (model prog w) A (richCompare .NotEq (.ref x) b) Q E s := by
  unfold richCompare
  simp only [oneThing_ref]
  refine wpAny_holding (wpAny_bind (wpAny_cRoomFor hu ?_))
  refine wpAny_bind (I.type.here (wpAny_bind (hb.here ?_)))
  split
  · rename_i q
    have e : subIn K tb (.ref C) = some false := by
      rcases Bool.or_eq_true_iff.mp hn with e | e
      · rw [beq_iff_eq.mp e] at q; simp at q
      · exact beq_iff_eq.mp e
    refine wpAny_bind ((looks_subIn X e).here ?_)
    simp only [Bool.false_eq_true, if_false]
    refine wpAny_bind (wpAny_mono one (fun r s' z => ?_) fun _ _ e => e)
    obtain ⟨v, rfl, hq⟩ := z
    exact wpAny_pure hq
  · refine wpAny_bind (wpAny_pure ?_)
    simp only [Bool.false_eq_true, if_false]
    refine wpAny_bind (wpAny_mono one (fun r s' z => ?_) fun _ _ e => e)
    obtain ⟨v, rfl, hq⟩ := z
    exact wpAny_pure hq
end
end Lw.Ow
namespace Lw
open PySem PySem.Spec PyProof.Rows L2 LamX
section
variable {X : Cx} {C f : Addr} {k j : Nat} {sp : Sp} {E : XK} {pins : List (Addr × Obj)} {σ : L2.St} {H : Hp} {s : Shared}
structure NeC (K : PySem.W.Frag) (C : Addr) : Prop where
  m : PySem.W.mroIn K C (.type "object") = some true
  n : PySem.W.findIn K (.ref C) "__ne__" = some (some (.builtin "object.__ne__"))
def Nb (Q : VK) : VK := fun v H => ∃ c, v = .bl c ∧ Q (.bl (!c)) H
def rNR (C : Addr) (sp : Sp) (E : XK) : R2 := fun x y H Q => ∃ a dx fs b dy gs, x = .ref a ∧ H a = some (.ins C dx fs) ∧ y = .ref b ∧ H b = some (.ins C dy gs) ∧ sp [x, y] H (Nb Q) E
theorem op_neR (nc : NeC X.K C) (M : MetX X.prog X.w X.K X.mg X.base k C "__eq__" sp) (hx : Passes (L2.CX X.prog X.w) X E) (hr : Room j X.A) (hk : k + 1 ≤ j) : OpR X (compareOp .NotEq) (rNR C sp E) := by
  intro pins s σ H x y v u Q I rx ry h
  obtain ⟨a, dx, fs, b, dy, gs, rfl, ha, rfl, hb, q⟩ := h
  cases (show v = Value.ref a from rx)
  cases (show u = Value.ref b from ry)
  obtain ⟨_, _, J⟩ := ins_at I ha
  obtain ⟨_, _, J'⟩ := ins_at I hb
  have hr1 : Room k X.A.in1 := Room.in1 (hr.mono hk)
  obtain ⟨g, hm, w⟩ := run_metA (us := [.ref a, .ref b]) (vs := [.ref a, .ref b]) M hx hr1 I.env0.in1 I (.cons rfl (.cons rfl .nil)) q
  refine Ow.cmp_ne hr.units0 I.kIn J J'.type (by simp [PySem.W.notFirst]) (Ow.try_ne hr1.units0 I.kIn J nc.m nc.n hm.at_ hm.fn (wpAny_mono w (fun v s' z => ?_) fun _ _ x => x))
  obtain ⟨z', H', I', rz, c, rfl, qz⟩ := z
  cases (show v = Value.bool c from rz)
  exact ⟨c, rfl, .bl (!c), H', I', rfl, qz⟩
end
theorem TyX.same {K : PySem.W.Frag} {H H' : Hp} {v : V} {t : Value} (s : Same H H') (h : TyX K H v t) : TyX K H' v t := by
  cases h with
  | base h =>
    refine .base ?_
    cases h with
    | non => exact .non
    | bl x => exact .bl x
    | int i => exact .int i
    | str x => exact .str x
    | flt x => exact .flt x
    | lst e => exact .lst (s _ _ e)
    | frz e => exact .frz (s _ _ e)
    | tup e => exact .tup (s _ _ e)
    | dK e => exact .dK (s _ _ e)
    | dT e => exact .dT (s _ _ e)
    | ins e cl ha hn htk hm => exact .ins (s _ _ e) cl ha hn htk hm
  | byt b => exact .byt b
  | set e => exact .set (s _ _ e)
  | kList e c => exact .kList e c
  | kTuple e c => exact .kTuple e c
  | kDict e c => exact .kDict e c
  | fTuple e => exact .fTuple (s _ _ e)
  | fDict e => exact .fDict (s _ _ e)
theorem TyZ.same {K : PySem.W.Frag} {H H' : Hp} {v : V} {t : Value} (s : Same H H') (h : TyZ K H v t) : TyZ K H' v t := by
  cases h with
  | x h => exact .x (Lw.TyX.same s h)
  | fn e => exact .fn (s _ _ e)
theorem Anyv.same {K : PySem.W.Frag} {H H' : Hp} {v : V} (s : Same H H') (h : Anyv K H v) : Anyv K H' v := by
  cases h with
  | int i => exact .int i
  | non => exact .non
  | bl b => exact .bl b
  | str z => exact .str z
  | obj h h1 h2 h3 => exact .obj (Lw.TyZ.same s h) h1 h2 h3
open SX PySem.NumText TL
theorem tl_neg {n : Nat} (h : 0 < n) : (Str.ofString (toString (-((n : Nat) : Int)))).cps.toList = 45 :: numL n := by
  obtain ⟨m, rfl⟩ : ∃ m, n = m + 1 := ⟨n - 1, by omega⟩
  rw [PyProof.Rows.signs_ofString]
  have e : toString (-(((m + 1 : Nat) : Int))) = "-" ++ Nat.repr (m + 1) := rfl
  rw [e, String.toList_append, List.map_append, Nat.toList_repr]
  rfl
theorem str_neg {n : Nat} (h : 0 < n) : Str.ofString (toString (-((n : Nat) : Int))) = S (45 :: numL n) := TL.ext_tl (tl_neg h)
/-- the figures of an integer, its sign ahead -/
def intL (i : Int) : List Nat := if i < 0 then 45 :: numL i.natAbs else numL i.natAbs
theorem str_int (i : Int) : Str.ofString (toString i) = S (intL i) := by
  unfold intL
  by_cases h : i < 0
  · rw [if_pos h]
    obtain ⟨n, rfl⟩ : ∃ n : Nat, i = -((n : Nat) : Int) := ⟨i.natAbs, by omega⟩
    rw [show (-((n : Nat) : Int)).natAbs = n by omega]
    exact str_neg (by omega)
  · rw [if_neg h]
    obtain ⟨n, rfl⟩ : ∃ n : Nat, i = ((n : Nat) : Int) := ⟨i.natAbs, by omega⟩
    rw [Int.natAbs_natCast]
    exact num_S n
open SX PySem.NumText TL LamX ClX StX
abbrev sHof : Stmt := inClass (top 50) 2
abbrev sHst : Stmt := inClass (top 50) 20
abbrev sHeq : Stmt := inClass (top 50) 19
/-! ### C(*xs) -/
section
variable {X : Cx} {CX : CXT} {k : Nat} {f C : Addr} {sp : Sp} {E : XK} {x : Str} {e : Expr} {te : TE} {p sp_ pos : Pos}
def tMakeS (K : PySem.W.Frag) (C : Addr) (sp : Sp) (E : XK) (te : TE) : TE := fun σ H Q => te σ H fun y H1 => ∃ a xs, y = V.ref a ∧ (SqT K H1 a xs ∨ SqL K H1 a xs) ∧ ∀ x dx, H1 x = Option.none → H1 dx = Option.none → dx ≠ x →
  sp (V.ref x :: xs) (upd (upd H1 dx (.own x)) x (.ins C dx [])) (fun v H2 => v = .non ∧ Q (.ref x) H2) E
theorem pe_makeS1 (M : Mk X.K C f) (F : FnR X.prog X.w X.K X.mg X.base CX k f sp) (hr : Room (k + 1) X.A) (hg : Gl X x) (hm : X.mg x = some (.ref C)) (hx : Passes CX X E) (he : PE X e te) (hd : (x == ("__debug__" : Str)) = false := by decide)
    (hst : starEach [.Starred e sp_] X.env = [(true, eval e X.env)] := by rfl) :
    PE X (.Call (.Name x p) [.Starred e sp_] [] pos) (tMakeS X.K C sp E te) := by
  refine ⟨fun pins s σ H Q I h => ?_⟩
  refine wpAny_Call_Name_kw (ld_glob I hg hm ?_ hd)
  refine PySem.W.callWith_S (h₀ := X.base) I.ok.mod.kin M.kp (thn (he.run pins s σ H _ I h) fun v s1 ⟨y, H1, I1, ry, a, xs, ey, hxs, q⟩ => ?_) hst
  subst ey
  obtain rfl : v = Value.ref a := ry
  exact star_any I1 hxs fun us s2 I2 rv => ⟨I2.kIn, run_makeR M F hr hx I2 rv q⟩
end
theorem seq_cls {K : PySem.W.Frag} {H : Hp} {a : Addr} {xs : List V} (h : H a = some (.lst xs) ∨ H a = some (.tup xs)) : ∃ t, TyX K H (.ref a) t ∧ PySem.W.kitAny K t [.type "list", .type "tuple"] = some true := by
  rcases h with h | h
  · exact ⟨.type "list", .base (.lst h), kitAny_cons (kit_ty (r := true) (by decide +kernel)) (fun z => by cases z) (fun _ => rfl)⟩
  · exact ⟨.type "tuple", .base (.tup h), kitAny_cons (kit_ty (r := false) (by decide +kernel)) (fun _ => kitAny_cons (kit_ty (r := true) (by decide +kernel)) (fun z => by cases z) (fun _ => rfl)) (fun z => by cases z)⟩
/-! ### Chunks -/
/-- Chunks of these sizes -/
def ChAt (CC : Addr) (H : Hp) (c : Addr) (ns : List Int) : Prop := ∃ dx p t e r, H c = some (.ins CC dx (chF p t e r)) ∧ H p = some (.tup (ns.map V.int))
theorem ChAt.same {CC : Addr} {H H' : Hp} {c : Addr} {ns : List Int} (h : ChAt CC H c ns) (s : Same H H') : ChAt CC H' c ns := by
  obtain ⟨dx, p, t, e, r, h1, h2⟩ := h
  exact ⟨dx, p, t, e, r, s _ _ h1, s _ _ h2⟩
theorem ChAt.extn {CC : Addr} {H H' : Hp} {c : Addr} {ns : List Int} (h : ChAt CC H c ns) (s : ExtN H H') : ChAt CC H' c ns := by
  obtain ⟨dx, p, t, e, r, h1, h2⟩ := h
  exact ⟨dx, p, t, e, r, s _ _ h1 (fun ps z => by cases z), s _ _ h2 (fun ps z => by cases z)⟩
theorem Mf.of {DM : Addr} {H H' : Hp} {E : XK} (h : Mf DM H E) (s : Same H H') : Mf DM H' E := fun d fs H2 s2 hd f1 f2 => h d fs H2 (s.trans s2) hd f1 f2
def spHof (CC DM : Addr) : Sp := fun vs H Q E => ∃ (l : Addr) (ns : List Int), vs = [.ref l] ∧ (H l = some (.lst (ns.map V.int)) ∨ H l = some (.tup (ns.map V.int))) ∧ SzOk ns ∧
  (ns.length ≤ 5000 → ∀ c H', Same H H' → H c = none → ChAt CC H' c ns → Q (.ref c) H') ∧ (5000 < ns.length → Mf DM H E)
/-- Chunks.__init__, ready to be called with a star -/
structure ChM (P : Program) (w : World) (K : PySem.W.Frag) (mg : Str → Option Value) (base : Heap) (CC DM fI : Addr) (mc : Value) : Prop where
  Z : ChC P w K mg base CC DM mc
  M : Mk K CC fI
  F : FnR P w K mg base (L2.CX P w) 5 fI (fun vs H Q E => ∃ ws rest, vs = ws ++ rest ∧ ws.length = ["self"].length ∧ rest.length ≤ sizeLine ∧ ∀ p, H p = none → spCI CC DM (ws ++ [V.ref p]) (upd H p (.tup rest)) Q E)
/-- the text of these sizes -/
def chTx : List Int → List Nat
  | [] => [45]
  | n :: r => joinL [32] ((n :: r).map intL)
def spHst (CC : Addr) : Sp := fun vs H Q _ => ∃ c ns, vs = [.ref c] ∧ ChAt CC H c ns ∧ SzOk ns ∧ ns.length ≤ 5000 ∧ ∀ H', Same H H' → Q (.str (S (chTx ns))) H'
def spHeq (CC : Addr) : Sp := fun vs H Q _ => ∃ (a b : Addr) (ns ms : List Int), vs = [.ref a, .ref b] ∧ ChAt CC H a ns ∧ ChAt CC H b ms ∧ Q (.bl (decide (ns = ms))) H
theorem eqvs_ints : ∀ ns ms : List Int, PyData.eqvAll (ns.map PyData.int) (ms.map PyData.int) = decide (ns = ms)
  | [], [] => rfl
  | [], _ :: _ => rfl
  | _ :: _, [] => rfl
  | n :: r, m :: q => by
    show ((n == m) && PyData.eqvAll (r.map PyData.int) (q.map PyData.int)) = _
    rw [eqvs_ints r q]
    by_cases h : n = m
    · subst h; simp
    · simp [h]
theorem lays_ints : ∀ ns : List Int, PyData.canLayAll0 (ns.map PyData.int) = true
  | [] => rfl
  | n :: r => by show (true && PyData.canLayAll0 (r.map PyData.int)) = true; rw [lays_ints r]; rfl
theorem depths_ints : ∀ ns : List Int, PyData.depthAll (ns.map PyData.int) = 0
  | [] => rfl
  | n :: r => by show max 0 (PyData.depthAll (r.map PyData.int)) = 0; rw [depths_ints r]; rfl
theorem shaped_tints (ns : List Int) : SeqAt.shaped (.tuple (ns.map PyData.int)) = true := by
  unfold SeqAt.shaped
  have h1 : PyData.canLay0 (.tuple (ns.map PyData.int)) = true := lays_ints ns
  have h2 : PyData.depth (.tuple (ns.map PyData.int)) = 1 := by
    show PyData.depthAll (ns.map PyData.int) + 1 = 1
    rw [depths_ints]
  rw [h1, h2]; rfl
theorem intL_len2 {i : Int} (h : i.natAbs ≤ 10 ^ 30) : (intL i).length ≤ 32 := by
  have l : (numL i.natAbs).length ≤ 31 := numL_len (k := 31) (by decide) (Nat.lt_of_le_of_lt h (by decide +kernel))
  unfold intL
  split
  · rw [List.length_cons]; omega
  · omega
theorem sum_le {xs : List (List Nat)} {m : Nat} (h : ∀ x ∈ xs, x.length ≤ m) : ((xs.map S).map (·.length)).sum ≤ xs.length * m := by
  induction xs with
  | nil => simp
  | cons x r ih =>
    rw [List.map_cons, List.map_cons, List.sum_cons, List.length_cons, S_len]
    have h1 := h x List.mem_cons_self
    have h2 := ih fun y hy => h y (List.mem_cons_of_mem _ hy)
    rw [Nat.add_mul]
    omega
section
variable {P : Program} {w : World} {K : PySem.W.Frag} {mg : Str → Option Value} {base : Heap}
theorem scHof : FnScope ["sizes"] ["sizes"] (C8.fnScope sHof) := C8.fnScope_by (by decide +kernel)
theorem fn_hof {CC DM fI f : Addr} {mc : Value} {fd : FuncData} (F : C8.Fun K "of" "Chunks.of" sHof f fd) (T : Txt mg) (htu : mg "tuple" = none) (CM : ChM P w K mg base CC DM fI mc) : FnOk P w K mg base (L2.CX P w) 7 f fd ["sizes"] (spHof CC DM) := by
  obtain ⟨oc, od, dV, kV, doc, pm, an, cdv, ct, osl, rfl, lk, hcd⟩ := F.ex
  refine fn_of lk hcd scHof (fun vs H Q E h => ?_) fun A outer s H vs Q E hr h => ?_
  · obtain ⟨l, ns, rfl, _⟩ := h
    rfl
  · obtain ⟨l, ns, rfl, hl, ok, k1, k2⟩ := h
    refine ⟨_, (pss_cons (ps_if (pt_not (pt_val (pe_callB call_isiT (by rfl) T.n_isinstance (by decide +kernel) (pa_cons (pv 0) (pa_cons (pe_tup (pa_cons (pe_bltn (v := .ty "list") (by rfl) T.n_list (by decide +kernel) rfl) (pa_cons (pe_bltn (v := .ty "tuple") (by rfl) htu (by decide +kernel) rfl) pa_nil))) pa_nil))))) (pss_one ps_never) pss_nil)
      (pss_one (ps_ret (pe_makeS1 CM.M CM.F (hr.mono (by decide)) (by rfl) CM.Z.hm (passes_call (takes_of rfl rfl rfl rfl) (fun _ _ _ _ z => z)) (pv 0))))), ?_⟩
    refine ⟨_, rfl, (by show 2 ≤ sizeLine; decide), fun t ft => ?_⟩
    have s1 := same_new (o := HO.tup [V.ty "list", V.ty "tuple"]) ft
    have et : upd H t (HO.tup [V.ty "list", V.ty "tuple"]) t = some (.tup [V.ty "list", V.ty "tuple"]) := upd_same
    generalize upd H t _ = H1 at s1 et ⊢
    obtain ⟨ty, hty, hk⟩ := seq_cls (K := K) hl
    refine ⟨_, t, _, ty, _, true, rfl, et, .cons (.ty _) (.cons (.ty _) .nil), Lw.TyX.same s1 hty, hk, ?_⟩
    refine ⟨_, rfl, iteF ?_⟩
    have hl1 : SqT K H1 l (ns.map V.int) ∨ SqL K H1 l (ns.map V.int) := hl.elim (fun z => .inr (SqL.of (s1 _ _ z))) (fun z => .inl (SqT.of (s1 _ _ z)))
    refine ⟨_, rfl, l, _, rfl, hl1, fun x dx hx hdx ne => ?_⟩
    have hlen : (ns.map V.int).length = ns.length := List.length_map _
    refine ⟨[V.ref x], ns.map V.int, rfl, rfl, (by rw [hlen]; exact Nat.le_trans ok.2 (by decide)), fun p hp => ?_⟩
    have s2 : Same H1 (upd (upd H1 dx (.own x)) x (.ins CC dx [])) := (same_new hdx).trans (same_new (by rw [upd_ne ne.symm]; exact hx))
    have s3 := s2.trans (same_new (o := HO.tup (ns.map V.int)) hp)
    have xp : x ≠ p := fun e => by rw [← e, upd_same] at hp; cases hp
    refine ⟨x, dx, p, ns, rfl, (by rw [upd_ne xp]; exact upd_same), upd_same, ok, fun h5 t e r H' kp hx' => ⟨rfl, ?_⟩, fun h5 => (k2 h5).of (s1.trans s3)⟩
    refine k1 h5 x H' (fun b o e' => kp b o (fun q => ?_) (s3 _ _ (s1 _ _ e'))) (s1.free hx) ⟨dx, p, t, e, r, hx', kp p _ xp.symm upd_same⟩
    rw [q] at e'
    rw [s1 _ _ e'] at hx
    cases hx
theorem scHst : FnScope ["self", "size"] ["self"] (C8.fnScope sHst) := C8.fnScope_by (by decide +kernel)
theorem fn_hst {CC DM f : Addr} {mc : Value} {fd : FuncData} (F : C8.Fun K "__str__" "Chunks.__str__" sHst f fd) (T : Txt mg) (Z : ChC P w K mg base CC DM mc) : FnOk P w K mg base (L2.CX P w) 2 f fd ["self"] (spHst CC) := by
  obtain ⟨oc, od, dV, kV, doc, pm, an, cdv, ct, osl, rfl, lk, hcd⟩ := F.ex
  refine fn_of lk hcd scHst (fun vs H Q E h => ?_) fun A outer s H vs Q E hr h => ?_
  · obtain ⟨c, ns, rfl, _⟩ := h
    rfl
  · obtain ⟨c, ns, rfl, ⟨dx, p, t, e, r, hc, hp⟩, ⟨so, _⟩, lm, k⟩ := h
    refine ⟨_, (pss_cons (ps_if (pt_not (pt_truth (pe_fld (pv 0) rfl) (by intro _; rfl))) (pss_one (ps_ret pe_str)) pss_nil)
      (pss_one (ps_ret (pe_join pe_str (pe_lc (own := [("size", 1)]) (g := gName 1) (tt := tYes) rfl scHst.nd (pi_tup (pe_fld (pv 0) rfl)) (blkOk_by (own := [("size", 1)]) (N := ["self", "size"]) (sc := (C8.fnScope sHst)) (by decide +kernel)) (fun _ _ _ _ _ => pg_name (i := 1) scHst.nd rfl (Or.inl rfl)) (fun _ _ _ _ _ => pts_nil) (fun _ _ _ _ _ => (pe_callTy call_str_int (by rfl) T.n_str (by decide +kernel) (pa_cons (pv 1) pa_nil)))))))), ?_⟩
    have lmem : ∀ v ∈ ns, v.natAbs ≤ 10 ^ 30 := fun v hv => by
      obtain ⟨h1, h2⟩ := so v hv
      have e : ((10 : Int) ^ 30) = ((10 ^ 30 : Nat) : Int) := by decide +kernel
      rw [e] at h2
      omega
    refine ⟨_, rfl, c, CC, dx, _, _, rfl, hc, Z.cl, Z.n1, chF_sizes p t e r, _, .inr (.inl ⟨_, SqT.of hp, rfl⟩), ?_⟩
    cases ns with
    | nil => exact iteT (k H (Same.refl _))
    | cons n0 r0 =>
      refine iteF ?_
      generalize hns : n0 :: r0 = ns at *
      have hlen : (ns.map V.int).length = ns.length := List.length_map _
      refine ⟨⟨_, rfl⟩, _, rfl, c, CC, dx, _, _, rfl, hc, Z.cl, Z.n1, chF_sizes p t e r, p, rfl, ⟨_, SqT.of hp⟩, fun D hD => ?_⟩
      refine lc_tup (xs := ns.map V.int) (fun i H' => Same H H' ∧ H' D = some (.lst ((((ns.take i).map intL).map S).map V.str))) ⟨same_new hD, upd_same⟩ (fun i H' _ h => SqT.of (h.1 _ _ hp)) ?_ ?_
      · rintro i y H' hy ⟨s', hd⟩
        obtain ⟨v, hv, rfl⟩ : ∃ v, ns[i]? = some v ∧ y = .int v := by
          rw [List.getElem?_map] at hy
          cases hq : ns[i]? with
          | none => rw [hq] at hy; cases hy
          | some v => rw [hq] at hy; cases hy; exact ⟨v, rfl, rfl⟩
        have hi : i < ns.length := (List.getElem?_eq_some_iff.mp hv).1
        refine ⟨rfl, ?_⟩
        dsimp only [tYes]
        rw [if_pos rfl]
        refine ⟨_, rfl, v, rfl, ?_, _, hd, ?_, fun b o e => ?_, ?_⟩
        · have := lmem v (List.mem_of_getElem? hv)
          by_cases z : v.natAbs = 0
          · rw [z]; decide
          · exact (Nat.log2_lt z).mpr (Nat.lt_of_le_of_lt this (by decide +kernel))
        · rw [List.length_map, List.length_map, List.length_map]
          exact Nat.lt_of_le_of_lt (Nat.le_trans (List.length_take_le _ _) (Nat.le_trans (Nat.le_of_lt hi) lm)) (by decide)
        · rw [upd_ne (ne_of_none e hD)]
          exact s' _ _ e
        · rw [upd_same, List.take_add_one, hv, str_int]
          simp
      · rintro H2 ⟨s2, hd⟩
        rw [List.take_of_length_le (by rw [hlen]; exact Nat.le_refl _)] at hd
        refine ⟨_, D, (ns.map intL).map S, rfl, rfl, .inl (SqL.of hd), ?_, ?_⟩
        · have h1 := sum_le (xs := ns.map intL) (m := 32) fun x hx => by
            obtain ⟨v, hv, rfl⟩ := List.mem_map.mp hx
            exact intL_len2 (lmem v hv)
          rw [List.length_map] at h1
          rw [List.length_map, List.length_map, show (Str.ofString " ").length = 1 from rfl]
          omega
        · have e1 : chTx ns = joinL [32] (ns.map intL) := by rw [← hns]; rfl
          rw [show (Str.ofString " ") = S [32] from rfl, join_S, ← e1]
          exact k H2 s2
theorem scHeq : FnScope ["self", "other"] ["self", "other"] (C8.fnScope sHeq) := C8.fnScope_by (by decide +kernel)
theorem fn_heq {CC DM f : Addr} {mc : Value} {fd : FuncData} (F : C8.Fun K "__eq__" "Chunks.__eq__" sHeq f fd) (T : Txt mg) (Z : ChC P w K mg base CC DM mc) (I : C8.InsC K CC) : FnOk P w K mg base (L2.CX P w) 2 f fd ["self", "other"] (spHeq CC) := by
  obtain ⟨oc, od, dV, kV, doc, pm, an, cdv, ct, osl, rfl, lk, hcd⟩ := F.ex
  refine fn_of lk hcd scHeq (fun vs H Q E h => ?_) fun A outer s H vs Q E hr h => ?_
  · obtain ⟨a, b, ns, ms, rfl, _⟩ := h
    rfl
  · obtain ⟨a, b, ns, ms, rfl, ⟨dxa, pa, ta, ea, ra, ha, hpa⟩, ⟨dxb, pb, tb, eb, rb, hb, hpb⟩, go⟩ := h
    refine ⟨_, (pss_one (ps_ret (pe_and (pe_callB call_isz (by rfl) T.n_isinstance (by decide +kernel) (pa_cons (pv 1) (pa_cons (pe_glob (v := .ref CC) (by rfl) Z.hm rfl) pa_nil))) (pe_one (pe_cmpR (op_eqD hr.units) (pe_fld (pv 0) rfl) (pe_fld (pv 1) rfl) (nomark _)))))), ?_⟩
    have ty : TyZ K H (.ref b) (.ref CC) := .x (.base (.ins hb I.cl I.ha I.hn I.htk I.hm))
    refine ⟨_, rfl, _, .ref CC, .ref CC, .ref CC, true, rfl, .own CC, ty, I.me, _, rfl, iteT ?_⟩
    refine ⟨_, rfl, a, CC, dxa, _, _, rfl, ha, Z.cl, Z.n1, chF_sizes _ _ _ _, _, rfl, b, CC, dxb, _, _, rfl, hb, Z.cl, Z.n1, chF_sizes _ _ _ _, .tuple (ns.map PyData.int), .tuple (ms.map PyData.int), .tup (SqT.of hpa) (dp_ints ns), .tup (SqT.of hpb) (dp_ints ms), shaped_tints ns, shaped_tints ms, ?_⟩
    rw [show PyData.eqv (.tuple (ns.map PyData.int)) (.tuple (ms.map PyData.int)) = decide (ns = ms) from eqvs_ints ns ms]
    exact go
end
end Lw
namespace Lw
open PySem PySem.Spec PyProof.Rows L2
open SX PySem.NumText TL LamX ClX StX
/-! ### errors of one field, raised -/
def spE1 (C : Addr) (f1 : Str) : Sp := fun vs H Q _ => ∃ (a : Addr) (v1 : V), vs = [.ref a, v1] ∧ H a = some (exo a C none) ∧ ∀ dx, H dx = none → dx ≠ a → ∀ fs, fs.lookup f1 = some v1 → Q .non (upd (upd H dx (exd dx fs)) a (exo a C (some dx)))
/-- the error's class, ready to be raised -/
structure Err1 (nm f1 : Str) (P : Program) (w : World) (K : PySem.W.Frag) (mg : Str → Option Value) (base : Heap) (D fE : Addr) (fdE : FuncData) : Prop where
  T : OexC K D
  iC : PySem.W.findIn K (.ref D) "__init__" = some (some (.ref fE))
  tI : PySem.W.typeIn K (.ref fE) = some (.type "function")
  F : FnOk P w K mg base C8.CX0 1 fE fdE ["self", f1] (spE1 D f1)
  b : Binds K fdE ["self", f1] []
  hm : mg nm = some (.ref D)
section
variable {X : Cx} {f1 : Str} {C fI : Addr} {fd : FuncData} {W : WX} {j : Nat} {e1 : Expr} {te1 : TE} {p pos pos2 : Pos}
/-- raise X(e1), X such a class -/
def tBad1 (f1 : Str) (C : Addr) (W : WX) (te1 : TE) : TS := fun _ σ H => tMkO C (spE1 C f1) [] (tCons te1 tNil) σ H fun cls d H' => W cls d σ H'
theorem ps_bad1 {x : Str} (hc : X.calm = true) (tk : Takes X W) (T : OexC X.K C) (iC : PySem.W.findIn X.K (.ref C) "__init__" = some (some (.ref fI))) (tI : PySem.W.typeIn X.K (.ref fI) = some (.type "function")) (F : FnOk X.prog X.w X.K X.mg X.base C8.CX0 1 fI fd ["self", f1] (spE1 C f1)) (hr : Room (j + 2) X.A) (hb : Binds X.K fd ["self", f1] [])
    (hg : Gl X x) (hm : X.mg x = some (.ref C)) (he1 : PE X e1 te1) (hst : starEach [e1] X.env = (false, eval e1 X.env) :: starEach [] X.env := by rfl) (hdb : (x == ("__debug__" : Str)) = false := by decide) (hpl : (backTo pos (starEach [] X.env)).any (·.1) = false := by rfl) :
    PS X (.Raise (some (.Call (.Name x p) [e1] [] pos)) none pos2) (tBad1 f1 C W te1) :=
  ps_raise hc tk (pmk_oex T iC tI F (hr.mono (by omega)) hb .nil C8.pass0 hg hm (pa_cons he1 pa_nil hst) hdb hst hpl)
theorem bad_leaf1 {H1 : Hp} {v1 : V} {Q : XK} (k : ∀ d fs, H1 d = none → fs.lookup f1 = some v1 → Q (.ref C) (some d) (upd H1 d (.xd fs))) :
    ([v1] : List V).length ≤ 1000 ∧ ∀ a, H1 a = none → spE1 C f1 (.ref a :: ([v1] ++ [])) (upd H1 a (exo a C none)) (fun z H2 => z = .non ∧ ∃ (d : Addr) (fs : List (Str × V)), H2 a = some (exo a C (some d)) ∧ H2 d = some (exd d fs) ∧ H1 d = none ∧ Q (.ref C) (some d) (upd (del H2 a) d (.xd fs))) (fun _ _ _ => False) := by
  refine ⟨(by show 1 ≤ 1000; decide), fun a ha => ⟨a, v1, rfl, upd_same, fun dx h1 h2 fs e1 => ?_⟩⟩
  rw [upd_ne h2] at h1
  refine ⟨rfl, dx, fs, upd_same, by rw [upd_ne h2]; exact upd_same, h1, ?_⟩
  have e : upd (del (upd (upd (upd H1 a (exo a C none)) dx (exd dx fs)) a (exo a C (some dx))) a) dx (.xd fs) = upd H1 dx (.xd fs) := by
    funext b
    by_cases q : b = dx
    · rw [q, upd_same, upd_same]
    · rw [upd_ne q, upd_ne q]
      by_cases q2 : b = a
      · rw [q2, del_same, ha]
      · rw [del_ne q2, upd_ne q2, upd_ne q, upd_ne q2]
  rw [e]
  exact k dx fs h1 e1
end
/-- refused: the error keeps the value -/
def Bf (D : Addr) (f : Str) (x : V) (H : Hp) (E : XK) : Prop := ∀ d fs H', Same H H' → H' d = none → fs.lookup f = some x → E (.ref D) (some d) (upd H' d (.xd fs))
theorem Bf.of {D : Addr} {f : Str} {x : V} {H H' : Hp} {E : XK} (h : Bf D f x H E) (s : Same H H') : Bf D f x H' E := fun d fs H2 s2 hd f1 => h d fs H2 (s.trans s2) hd f1
abbrev sBszE : Stmt := inClass (top 14) 0
theorem scBszE : FnScope ["self", "value"] ["self", "value"] (C8.fnScope sBszE) := C8.fnScope_by (by decide +kernel)
theorem fn_BszE {P : Program} {w : World} {K : PySem.W.Frag} {mg : Str → Option Value} {base : Heap} {C f : Addr} {fd : FuncData} (F : C8.Fun K "__init__" "BadSize.__init__" sBszE f fd) (T : OexC K C) (no1 : PySem.W.findIn K (.ref C) "value" = some none) : FnOk P w K mg base C8.CX0 1 f fd ["self", "value"] (spE1 C "value") := by
  refine C8.fn0 F scBszE (fun vs H Q E h => ?_) (fun cdv A outer st H vs Q E hr h => ?_)
  · obtain ⟨a, v1, rfl, _⟩ := h
    rfl
  · obtain ⟨a, v1, rfl, ha, k⟩ := h
    refine ⟨_, (pss_one (ps_ost (pv 0) (pv 1))), ?_⟩
    exact ⟨_, rfl, _, rfl, a, C, rfl, T, no1, .inl ⟨ha, fun dx h1 h2 => k dx h1 h2 _ (by rw [lookup_put, if_pos rfl])⟩⟩
abbrev sBchE : Stmt := inClass (top 22) 0
theorem scBchE : FnScope ["self", "part"] ["self", "part"] (C8.fnScope sBchE) := C8.fnScope_by (by decide +kernel)
theorem fn_BchE {P : Program} {w : World} {K : PySem.W.Frag} {mg : Str → Option Value} {base : Heap} {C f : Addr} {fd : FuncData} (F : C8.Fun K "__init__" "BadChunks.__init__" sBchE f fd) (T : OexC K C) (no1 : PySem.W.findIn K (.ref C) "part" = some none) : FnOk P w K mg base C8.CX0 1 f fd ["self", "part"] (spE1 C "part") := by
  refine C8.fn0 F scBchE (fun vs H Q E h => ?_) (fun cdv A outer st H vs Q E hr h => ?_)
  · obtain ⟨a, v1, rfl, _⟩ := h
    rfl
  · obtain ⟨a, v1, rfl, ha, k⟩ := h
    refine ⟨_, (pss_one (ps_ost (pv 0) (pv 1))), ?_⟩
    exact ⟨_, rfl, _, rfl, a, C, rfl, T, no1, .inl ⟨ha, fun dx h1 h2 => k dx h1 h2 _ (by rw [lookup_put, if_pos rfl])⟩⟩
abbrev sBtoE : Stmt := inClass (top 18) 0
theorem scBtoE : FnScope ["self", "value"] ["self", "value"] (C8.fnScope sBtoE) := C8.fnScope_by (by decide +kernel)
theorem fn_BtoE {P : Program} {w : World} {K : PySem.W.Frag} {mg : Str → Option Value} {base : Heap} {C f : Addr} {fd : FuncData} (F : C8.Fun K "__init__" "BadTotal.__init__" sBtoE f fd) (T : OexC K C) (no1 : PySem.W.findIn K (.ref C) "value" = some none) : FnOk P w K mg base C8.CX0 1 f fd ["self", "value"] (spE1 C "value") := by
  refine C8.fn0 F scBtoE (fun vs H Q E h => ?_) (fun cdv A outer st H vs Q E hr h => ?_)
  · obtain ⟨a, v1, rfl, _⟩ := h
    rfl
  · obtain ⟨a, v1, rfl, ha, k⟩ := h
    refine ⟨_, (pss_one (ps_ost (pv 0) (pv 1))), ?_⟩
    exact ⟨_, rfl, _, rfl, a, C, rfl, T, no1, .inl ⟨ha, fun dx h1 h2 => k dx h1 h2 _ (by rw [lookup_put, if_pos rfl])⟩⟩
abbrev sNchE : Stmt := inClass (top 27) 0
theorem scNchE : FnScope ["self", "at"] ["self", "at"] (C8.fnScope sNchE) := C8.fnScope_by (by decide +kernel)
theorem fn_NchE {P : Program} {w : World} {K : PySem.W.Frag} {mg : Str → Option Value} {base : Heap} {C f : Addr} {fd : FuncData} (F : C8.Fun K "__init__" "NoChunk.__init__" sNchE f fd) (T : OexC K C) (no1 : PySem.W.findIn K (.ref C) "at" = some none) : FnOk P w K mg base C8.CX0 1 f fd ["self", "at"] (spE1 C "at") := by
  refine C8.fn0 F scNchE (fun vs H Q E h => ?_) (fun cdv A outer st H vs Q E hr h => ?_)
  · obtain ⟨a, v1, rfl, _⟩ := h
    rfl
  · obtain ⟨a, v1, rfl, ha, k⟩ := h
    refine ⟨_, (pss_one (ps_ost (pv 0) (pv 1))), ?_⟩
    exact ⟨_, rfl, _, rfl, a, C, rfl, T, no1, .inl ⟨ha, fun dx h1 h2 => k dx h1 h2 _ (by rw [lookup_put, if_pos rfl])⟩⟩

/-! ### Chunks, made of any values -/
def isZ (y : V) : Bool := inB y 1 (10 ^ 30)
theorem isZ_int {y : V} (h : isZ y = true) : ∃ v, y = .int v ∧ 1 ≤ v ∧ v ≤ 10 ^ 30 := by
  unfold isZ inB at h
  split at h
  · rename_i v
    rw [Bool.and_eq_true, decide_eq_true_eq, decide_eq_true_eq] at h
    exact ⟨v, rfl, h.1, h.2⟩
  · cases h
theorem isZ_of {v : Int} (h1 : 1 ≤ v) (h2 : v ≤ 10 ^ 30) : isZ (.int v) = true := by
  show (decide (1 ≤ v) && decide (v ≤ 10 ^ 30)) = true
  rw [decide_eq_true h1, decide_eq_true h2]; rfl
def SzB (ns : List Int) : Prop := ∀ v ∈ ns, 1 ≤ v ∧ v ≤ 10 ^ 30
theorem all_int {xs : List V} (h : ∀ y ∈ xs, isZ y = true) : ∃ ns, xs = ns.map V.int ∧ SzB ns := by
  induction xs with
  | nil => exact ⟨[], rfl, fun v hv => by cases hv⟩
  | cons y r ih =>
    obtain ⟨ns, e, sb⟩ := ih fun z hz => h z (List.mem_cons_of_mem _ hz)
    obtain ⟨v, rfl, h1, h2⟩ := isZ_int (h y List.mem_cons_self)
    exact ⟨v :: ns, by rw [List.map_cons, e], fun u hu => by
      rcases List.mem_cons.mp hu with rfl | hu
      · exact ⟨h1, h2⟩
      · exact sb u hu⟩
/-- the ends, from a on -/
def endsL : Int → List Int → List Int
  | _, [] => []
  | a, n :: r => (a + n) :: endsL (a + n) r
theorem endsL_len : ∀ (a : Int) (ns : List Int), (endsL a ns).length = ns.length
  | _, [] => rfl
  | a, n :: r => by show (endsL (a + n) r).length + 1 = r.length + 1; rw [endsL_len]
theorem endsL_snoc : ∀ (a n : Int) (ns : List Int), endsL a (ns ++ [n]) = endsL a ns ++ [a + ns.sum + n]
  | a, n, [] => by show [a + n] = [a + 0 + n]; rw [Int.add_zero]
  | a, n, m :: r => by
    show (a + m) :: endsL (a + m) (r ++ [n]) = (a + m) :: (endsL (a + m) r ++ [a + (m :: r).sum + n])
    rw [endsL_snoc (a + m) n r, List.sum_cons, Int.add_assoc a m r.sum]
def restsL (ns : List Int) : List Int := List.zipWith (fun e s => ns.sum - e + s) (endsL 0 ns) ns
def MkR (CC DM DS x dx p : Addr) (xs : List V) (H : Hp) (Q : VK) (E : XK) : Prop :=
  (∀ (i : Nat) y, xs[i]? = some y → (∀ (j : Nat) z, j < i → xs[j]? = some z → isZ z = true) → isZ y = false → Bf DS "value" y H E) ∧
  (∀ ns, xs = ns.map V.int → SzB ns → (ns.length ≤ 5000 → ∀ e r H', Kp x H H' → H' x = some (.ins CC dx (chF p ns.sum e r)) → H' e = some (.tup ((endsL 0 ns).map V.int)) → H' r = some (.tup ((restsL ns).map V.int)) → Q .non H') ∧ (5000 < ns.length → Mf DM H E))
def spCI2 (K : PySem.W.Frag) (CC DM DS : Addr) : Sp := fun vs H Q E => ∃ (x dx p : Addr) (xs : List V), vs = [.ref x, .ref p] ∧ H x = some (.ins CC dx []) ∧ H p = some (.tup xs) ∧ xs.length ≤ 20000 ∧ (∀ y ∈ xs, Anyv K H y) ∧ MkR CC DM DS x dx p xs H Q E
theorem chF_total (p : Addr) (t : Int) (e r : Addr) : (chF p t e r).lookup ("total" : Str) = some (.int t) := by
  unfold chF
  rw [lookup_putF, if_neg (by decide +kernel), lookup_putF, if_neg (by decide +kernel), lookup_putF, if_pos rfl]
theorem chF_ends (p : Addr) (t : Int) (e r : Addr) : (chF p t e r).lookup ("ends" : Str) = some (.ref e) := by
  unfold chF
  rw [lookup_putF, if_neg (by decide +kernel), lookup_putF, if_pos rfl]
theorem chF_rests (p : Addr) (t : Int) (e r : Addr) : (chF p t e r).lookup ("rests" : Str) = some (.ref r) := by
  unfold chF
  rw [lookup_putF, if_pos rfl]
section
variable {P : Program} {w : World} {K : PySem.W.Frag} {mg : Str → Option Value} {base : Heap}
theorem fn_ci2 {CC DM DS fM fE f : Addr} {mc : Value} {fd fdM fdE : FuncData} (F : C8.Fun K "__init__" "Chunks.__init__" sCI f fd) (df : fd.defaults = .none) (T : Txt mg) (hz : mg "zip" = none) (htu : mg "tuple" = none) (Z : ChC P w K mg base CC DM mc) (ES : Err1 "BadSize" "value" P w K mg base DS fE fdE) (DSz : C8.Cal P w K mg base 3 "is_size" (spSize K) []) (DM' : C8.Def K mg "check_many" sCM fM fdM) (bM : Binds K fdM ["many"] []) (FM : FnOk P w K mg base (L2.CX P w) 3 fM fdM ["many"] (spCM DM)) :
    FnR P w K mg base (L2.CX P w) 5 f (fun vs H Q E => ∃ ws rest, vs = ws ++ rest ∧ ws.length = ["self"].length ∧ rest.length ≤ sizeLine ∧ ∀ p, H p = none → spCI2 K CC DM DS (ws ++ [V.ref p]) (upd H p (.tup rest)) Q E) := by
  obtain ⟨oc, od, dV, kV, doc, pm, an, cdv, ct, osl, rfl, lk, hcd⟩ := F.ex
  have e0 : dV = .none := df
  subst e0
  refine fn_star (ps := ["self"]) (pv := "sizes") lk hcd scCI cxUp (fun us rest hl => bind_star1 (p1 := "self") (pv := "sizes") (B := fun zs => bindArgs _ ⟨zs, []⟩) (fun a => rfl) (fun a r rs => rfl) us rest hl) fun A outer s H vs Q E hr h => ?_
  obtain ⟨x, dx, p, xs, rfl, hx, hp, sl, av, k0, k1⟩ := h
  have tk : Takes (cxOf (L2.CX P w) P w K mg base ["self", "sizes", "size", "ends", "done", "end"] "Chunks.__init__" (C8.fnScope sCI) f cdv A outer s H E) (fun cls d _ H' => E cls d H') := takes_of rfl rfl rfl rfl
  refine ⟨_, (pss_cons (ps_for (passes_of rfl) rfl (pi_tup (pv 1)) (pg_name (i := 2) scCI.nd rfl (Or.inl rfl)) (pss_one (ps_if (pt_not (pt_val (C8.pe_c DSz hr (by decide) (by rfl) (pa_cons (pv 2) pa_nil)))) (pss_one (ps_bad1 (x := "BadSize") rfl tk ES.T ES.iC ES.tI ES.F hr ES.b (by rfl) ES.hm (pv 2))) pss_nil)))
    (pss_cons (ps_expr (pe_call FM (hr.mono (by decide)) (by rfl) DM'.mgf DM'.kp bM .nil (passes_call (takes_of rfl rfl rfl rfl) (fun _ _ _ _ z => z)) (pa_cons (pe_callB call_len_seq (by rfl) T.n_len (by decide +kernel) (pa_cons (pv 1) pa_nil)) pa_nil)))
    (pss_cons (ps_set (i := 3) scCI.nd rfl (Or.inl rfl) (pe_lst pa_nil))
    (pss_cons (ps_set (i := 4) scCI.nd rfl (Or.inr rfl) pe_int)
    (pss_cons (ps_for (passes_of rfl) rfl (pi_tup (pv 1)) (pg_name (i := 2) scCI.nd rfl (Or.inl rfl)) (pss_cons (ps_set (i := 4) scCI.nd rfl (Or.inr rfl) (pe_op op_add (pv 4) (pv 2))) (pss_one (ps_expr (pe_bm PySem.F.plainAttrs_list PySem.F.slot_list_append PySem.F.type_list_append mt_append (pv 3) (pa_cons (pv 4) pa_nil))))))
    (pss_cons (ps_fld (pv 0) (pv 1) rfl)
    (pss_cons (ps_fld (pv 0) (pv 4) rfl)
    (pss_cons (ps_fld (pv 0) (pe_callTy call_tuple_of (by rfl) htu (by decide +kernel) (pa_cons (pv 3) pa_nil)) rfl)
    (pss_one (ps_fld (pv 0) (pe_callTy call_tuple_of (by rfl) htu (by decide +kernel) (pa_cons (pe_lc (own := [("end", 5), ("size", 2)]) (g := gTup K 2 (gCons (gName 5) (gCons (gName 2) (gNil)))) (tt := tYes) rfl scCI.nd (Zm.pi_zipM (by rfl) hz (pa_cons (pv 3) (pa_cons (pv 1) pa_nil))) (blkOk_by (own := [("end", 5), ("size", 2)]) (N := ["self", "sizes", "size", "ends", "done", "end"]) (sc := (C8.fnScope sCI)) (by decide +kernel)) (fun _ _ _ _ _ => pg_tup rfl (pgs_cons (pg_name (i := 5) scCI.nd rfl (Or.inl rfl)) (pgs_cons (pg_name (i := 2) scCI.nd rfl (Or.inl rfl)) pgs_nil))) (fun _ _ _ _ _ => pts_nil) (fun _ _ _ _ _ => (pe_op op_add (pe_op op_sub (pv 4) (pv 5)) (pv 2)))) pa_nil)) rfl)))))))))), ?_⟩
  have xp : x ≠ p := fun e => by rw [e, hp] at hx; cases hx
  refine ⟨_, rfl, p, rfl, ⟨_, SqT.of hp⟩, for_tup (xs := xs) (fun i σ' H' => ∃ v, σ' = [some (.ref x), some (.ref p), v, none, none, none] ∧ H' = H ∧ ∀ j z, j < i → xs[j]? = some z → isZ z = true) ⟨_, rfl, rfl, fun j z h => absurd h (Nat.not_lt_zero _)⟩ (fun i σ' H' _ h => by obtain ⟨v, _, rfl, _⟩ := h; exact SqT.of hp) ?_ ?_⟩
  · rintro i y σ' H' hy ⟨v, rfl, rfl, good⟩
    refine ⟨_, rfl, y, rfl, av y (List.mem_of_getElem? hy), _, rfl, ?_⟩
    show if (!isZ y) = true then _ else _
    cases hzy : isZ y with
    | false => exact iteT ⟨_, rfl, bad_leaf1 fun d fs hd e1 => k0 i y hy good hzy d fs H' (Same.refl _) hd e1⟩
    | true =>
      refine iteF ⟨_, rfl, rfl, fun j z hj hz' => ?_⟩
      by_cases e : j = i
      · subst e
        rw [hy] at hz'
        cases hz'
        exact hzy
      · exact good j z (by omega) hz'
  · rintro σ1 H1 ⟨v1, rfl, rfl, good⟩
    obtain ⟨ns, rfl, sb⟩ := all_int (xs := xs) fun y hy => by
      obtain ⟨i, hi, e⟩ := List.mem_iff_getElem.mp hy
      exact good i y hi (by rw [← e]; exact List.getElem?_eq_getElem hi)
    obtain ⟨k1, k2⟩ := k1 ns rfl sb
    clear good k0 av tk
    have hlen : (ns.map V.int).length = ns.length := List.length_map _
    have gets : ∀ {i : Nat} {y : V}, (ns.map V.int)[i]? = some y → ∃ v, y = .int v ∧ ns[i]? = some v := fun {i y} e => by
      rw [List.getElem?_map] at e
      cases hq : ns[i]? with
      | none => rw [hq] at e; cases e
      | some v => rw [hq] at e; cases e; exact ⟨v, rfl, rfl⟩
    refine ⟨_, rfl, p, _, rfl, .inr (SqT.of hp), _, rfl, fun hm => ?_, fun hm => k2 (by rw [hlen] at hm; omega)⟩
    have lm : ns.length ≤ 5000 := by rw [hlen] at hm; omega
    have k1 := k1 lm
    refine ⟨(by show 0 ≤ sizeLine; decide), fun q fq => ?_⟩
    have s1 := same_new (o := HO.lst []) fq
    have hq1 : upd H1 q (.lst []) q = some (.lst []) := upd_same
    generalize upd H1 q (.lst []) = H2 at s1 hq1 ⊢
    dsimp only [gName, tSeq]
    refine ⟨_, rfl, p, rfl, ⟨_, SqT.of (s1 _ _ hp)⟩, for_tup (xs := ns.map V.int) (fun i σ' H' => ∃ (v : Option V), σ' = [some (.ref x), some (.ref p), v, some (.ref q), some (.int (ns.take i).sum), none] ∧ Same H1 H' ∧ H' q = some (.lst ((endsL 0 (ns.take i)).map V.int))) ⟨_, rfl, s1, hq1⟩ (fun i σ' H' _ h => by obtain ⟨v, _, s', _⟩ := h; exact SqT.of (s' _ _ hp)) ?_ ?_⟩
    · rintro i y σ' H' hy ⟨v, rfl, s', hq'⟩
      obtain ⟨v0, rfl, hv0⟩ := gets hy
      have hi : i < ns.length := (List.getElem?_eq_some_iff.mp hv0).1
      have et : ns.take (i + 1) = ns.take i ++ [v0] := by rw [List.take_add_one, hv0]; rfl
      refine ⟨_, rfl, _, rfl, _, _, rfl, rfl, ?_⟩
      refine ⟨_, rfl, .inl ⟨rfl, _, SqL.of hq'⟩, _, rfl, q, _, _, rfl, rfl, hq', ?_, ?_⟩
      · rw [List.length_map, endsL_len]
        exact Nat.lt_of_le_of_lt (Nat.le_trans (List.length_take_le _ _) (show i ≤ 5000 by omega)) (by decide)
      · refine ⟨some (.int v0), ?_, fun b o e => ?_, ?_⟩
        · rw [et, List.sum_append, List.sum_singleton]; rfl
        · rw [upd_ne (ne_of_none e fq)]
          exact s' _ _ e
        · rw [upd_same, et, endsL_snoc, List.map_append, Int.zero_add]; rfl
    · rintro σ2 H3 ⟨v, rfl, s3, hq3⟩
      rw [hlen, List.take_of_length_le (Nat.le_refl _)] at hq3
      have xq : x ≠ q := fun e => by rw [e, fq] at hx; cases hx
      have hx3 := s3 _ _ hx
      have hp3 := s3 _ _ hp
      rw [hlen, List.take_of_length_le (Nat.le_refl _)]
      refine ⟨_, rfl, _, rfl, x, CC, dx, [], rfl, hx3, Z.cl, Z.n1, (by show 0 < 1000; decide), ?_⟩
      refine ⟨_, rfl, _, rfl, x, CC, dx, _, rfl, upd_same, Z.cl, Z.n2, (by show 1 < 1000; decide), ?_⟩
      rw [upd_upd]
      have f2 : (putF "total" (.int ns.sum) (putF "sizes" (.ref p) [])).length < 900 := Nat.lt_of_le_of_lt (Nat.le_trans (putF_len _ _ _) (Nat.add_le_add_right (putF_len _ _ _) 1)) (by decide)
      have kp4 : Kp x H1 (upd H3 x (.ins CC dx (putF "total" (.int ns.sum) (putF "sizes" (.ref p) [])))) := fun b o hb e => by rw [upd_ne hb]; exact s3 _ _ e
      have hx4 : upd H3 x (.ins CC dx (putF "total" (.int ns.sum) (putF "sizes" (.ref p) []))) x = some (.ins CC dx (putF "total" (.int ns.sum) (putF "sizes" (.ref p) []))) := upd_same
      have hq4 : upd H3 x (.ins CC dx (putF "total" (.int ns.sum) (putF "sizes" (.ref p) []))) q = some (.lst ((endsL 0 ns).map V.int)) := by rw [upd_ne xq.symm]; exact hq3
      have hp4 : upd H3 x (.ins CC dx (putF "total" (.int ns.sum) (putF "sizes" (.ref p) []))) p = some (.tup (ns.map V.int)) := by rw [upd_ne xp.symm]; exact hp3
      generalize hg : putF "total" (.int ns.sum) (putF "sizes" (.ref p) []) = fs at *
      generalize upd H3 x (.ins CC dx fs) = H4 at *
      refine ⟨_, rfl, q, _, rfl, .inl ⟨SqL.of hq4, fun e1 fe => ?_⟩⟩
      have s5 := same_new (o := HO.tup ((endsL 0 ns).map V.int)) fe
      refine ⟨_, rfl, x, CC, dx, fs, rfl, s5 _ _ hx4, Z.cl, Z.n3, by omega, ?_⟩
      have xe : x ≠ e1 := fun e => by rw [e, fe] at hx4; cases hx4
      have hx6 : upd (upd H4 e1 (.tup ((endsL 0 ns).map V.int))) x (.ins CC dx (putF "ends" (.ref e1) fs)) x = some (.ins CC dx (putF "ends" (.ref e1) fs)) := upd_same
      have hq6 : upd (upd H4 e1 (.tup ((endsL 0 ns).map V.int))) x (.ins CC dx (putF "ends" (.ref e1) fs)) q = some (.lst ((endsL 0 ns).map V.int)) := by rw [upd_ne xq.symm]; exact s5 _ _ hq4
      have hp6 : upd (upd H4 e1 (.tup ((endsL 0 ns).map V.int))) x (.ins CC dx (putF "ends" (.ref e1) fs)) p = some (.tup (ns.map V.int)) := by rw [upd_ne xp.symm]; exact s5 _ _ hp4
      have he6 : upd (upd H4 e1 (.tup ((endsL 0 ns).map V.int))) x (.ins CC dx (putF "ends" (.ref e1) fs)) e1 = some (.tup ((endsL 0 ns).map V.int)) := by rw [upd_ne xe.symm]; exact upd_same
      have kp6 : Kp x H1 (upd (upd H4 e1 (.tup ((endsL 0 ns).map V.int))) x (.ins CC dx (putF "ends" (.ref e1) fs))) := fun b o hb e => by rw [upd_ne hb]; exact s5 _ _ (kp4 _ _ hb e)
      generalize upd (upd H4 e1 (.tup ((endsL 0 ns).map V.int))) x (.ins CC dx (putF "ends" (.ref e1) fs)) = H6 at hx6 hq6 hp6 kp6 he6 ⊢
      have ll : ((endsL 0 ns).map V.int).length = (ns.map V.int).length := by rw [List.length_map, List.length_map, endsL_len]
      have rl0 : (restsL ns).length = ns.length := by unfold restsL; rw [List.length_zipWith, endsL_len, Nat.min_self]
      refine ⟨_, rfl, _, rfl, q, p, _, _, rfl, ⟨SqL.of hq6, SqT.of hp6⟩, fun D hD => lc_it (Zm.walk (xs := (endsL 0 ns).map V.int) (ys := ns.map V.int) ll) (fun i H' => Same H6 H' ∧ H' D = some (.lst (((restsL ns).take i).map V.int))) ⟨same_new hD, upd_same⟩ (fun i H' _ h => ⟨SqL.of (h.1 _ _ hq6), SqT.of (h.1 _ _ hp6)⟩) ?_ ?_⟩
      · rintro i y H' H'' hi ⟨s', hd⟩ ⟨T', y1, y2, ⟨rfl, fT, rfl⟩, g1, g2⟩
        obtain ⟨a1, rfl, ga1⟩ : ∃ a1, y1 = .int a1 ∧ (endsL 0 ns)[i]? = some a1 := by
          rw [List.getElem?_map] at g1
          cases hq : (endsL 0 ns)[i]? with
          | none => rw [hq] at g1; cases g1
          | some v => rw [hq] at g1; cases g1; exact ⟨v, rfl, rfl⟩
        obtain ⟨a2, rfl, ga2⟩ := gets g2
        have sT := same_new (o := HO.tup [V.int a1, V.int a2]) fT
        refine ⟨T', _, rfl, SqT.of upd_same, rfl, _, _, rfl, _, _, rfl, rfl, rfl, ?_⟩
        dsimp only [tYes]
        rw [if_pos rfl]
        have hin : i < ns.length := (List.getElem?_eq_some_iff.mp ga2).1
        have gr : (restsL ns)[i]? = some (ns.sum - a1 + a2) := by unfold restsL; rw [List.getElem?_zipWith, ga1, ga2]
        refine ⟨_, rfl, _, rfl, _, _, rfl, rfl, _, rfl, _, _, rfl, rfl, _, sT _ _ hd, ?_, fun b o e => ?_, ?_⟩
        · rw [List.length_map]
          exact Nat.lt_of_le_of_lt (Nat.le_trans (List.length_take_le _ _) (show i ≤ 5000 by omega)) (by decide)
        · rw [upd_ne (ne_of_none e hD)]
          exact sT _ _ (s' _ _ e)
        · rw [upd_same, List.take_add_one, gr, List.map_append]; rfl
      · rintro H7 ⟨s7, hd⟩
        rw [List.take_of_length_le (by rw [rl0, ll, hlen]; exact Nat.le_refl _)] at hd
        refine ⟨D, _, rfl, .inl ⟨SqL.of hd, fun r1 fr => ?_⟩⟩
        have s8 := same_new (o := HO.tup ((restsL ns).map V.int)) fr
        have hx7 := s7 _ _ hx6
        have xr : x ≠ r1 := fun e => by rw [e, fr] at hx7; cases hx7
        have er : e1 ≠ r1 := fun e => by rw [← e, s7 _ _ he6] at fr; cases fr
        refine ⟨_, rfl, x, CC, dx, _, rfl, s8 _ _ (s7 _ _ hx6), Z.cl, Z.n4, Nat.lt_of_le_of_lt (putF_len _ _ _) (by omega), ?_⟩
        refine k1 e1 r1 _ (fun b o hb e => ?_) ?_ ?_ ?_
        · rw [upd_ne hb]
          exact s8 _ _ (s7 _ _ (kp6 _ _ hb e))
        · rw [upd_same, ← hg]
          rfl
        · rw [upd_ne xe.symm, upd_ne er]
          exact s7 _ _ he6
        · rw [upd_ne xr.symm, upd_same]
end
end Lw
namespace Lw
open PySem PySem.Spec PyProof.Rows L2
open SX PySem.NumText TL LamX ClX StX
abbrev sHln : Stmt := inClass (top 50) 7
section
variable {X : Cx} {CX : CXT} {k : Nat} {f C : Addr} {sp : Sp} {E : XK} {x : Str} {p pos : Pos}
theorem pe_makeR0 (M : Mk X.K C f) (F : FnR X.prog X.w X.K X.mg X.base CX k f sp) (hr : Room (k + 1) X.A) (hg : Gl X x) (hm : X.mg x = some (.ref C)) (hx : Passes CX X E) (hdb : (x == ("__debug__" : Str)) = false := by decide) : PE X (.Call (.Name x p) [] [] pos) (tMakeR C sp E tNil) := by
  refine ⟨fun pins s σ H Q I h => ?_⟩
  refine wpAny_Call_Name_kw (ld_glob I hg hm ?_ hdb)
  exact PySem.W.callWith_K0 I.kIn M.kp (run_makeR M F hr hx I .nil h)
end
/-- Chunks of these sizes, with all that it keeps -/
def ChA (CC : Addr) (H : Hp) (c : Addr) (ns : List Int) : Prop := ∃ dx p e r, H c = some (.ins CC dx (chF p ns.sum e r)) ∧ H p = some (.tup (ns.map V.int)) ∧ H e = some (.tup ((endsL 0 ns).map V.int)) ∧ H r = some (.tup ((restsL ns).map V.int))
theorem ChA.weak {CC : Addr} {H : Hp} {c : Addr} {ns : List Int} (h : ChA CC H c ns) : ChAt CC H c ns := by
  obtain ⟨dx, p, e, r, h1, h2, _⟩ := h
  exact ⟨dx, p, _, e, r, h1, h2⟩
theorem ChA.move {CC : Addr} {H H' : Hp} {c : Addr} {ns : List Int} (h : ChA CC H c ns) (k : ∀ b o, H b = some o → (∀ xs, o ≠ .lst xs) → (∀ ps, o ≠ .tbl ps) → H' b = some o) : ChA CC H' c ns := by
  obtain ⟨dx, p, e, r, h1, h2, h3, h4⟩ := h
  exact ⟨dx, p, e, r, k _ _ h1 (fun ps z => by cases z) (fun ps z => by cases z), k _ _ h2 (fun ps z => by cases z) (fun ps z => by cases z), k _ _ h3 (fun ps z => by cases z) (fun ps z => by cases z), k _ _ h4 (fun ps z => by cases z) (fun ps z => by cases z)⟩
theorem ChA.same {CC : Addr} {H H' : Hp} {c : Addr} {ns : List Int} (h : ChA CC H c ns) (s : Same H H') : ChA CC H' c ns := h.move fun b o e _ _ => s b o e
theorem ChA.extn {CC : Addr} {H H' : Hp} {c : Addr} {ns : List Int} (h : ChA CC H c ns) (s : ExtN H H') : ChA CC H' c ns := h.move fun b o e _ n => s b o e n
theorem ChA.kp {CC : Addr} {H H' : Hp} {c p pl : Addr} {n : Nat} {ns : List Int} (h : ChA CC H c ns) (hp : Pen H p pl n) (k : Kp p H H') : ChA CC H' c ns := by
  obtain ⟨xs, a, g, hh, _⟩ := hp
  exact h.move fun b o e nl _ => k b o (fun z => by rw [z, hh.at_] at e; exact nl _ (Option.some.inj e).symm) e
/-- what making Chunks of these values comes to -/
def MkO (CC DM DS : Addr) (xs : List V) (H : Hp) (Q : VK) (E : XK) : Prop :=
  (∀ (i : Nat) y, xs[i]? = some y → (∀ (j : Nat) z, j < i → xs[j]? = some z → isZ z = true) → isZ y = false → Bf DS "value" y H E) ∧
  (∀ ns, xs = ns.map V.int → SzB ns → (ns.length ≤ 5000 → ∀ c H', Same H H' → H c = none → ChA CC H' c ns → Q (.ref c) H') ∧ (5000 < ns.length → Mf DM H E))
theorem MkO.of {CC DM DS : Addr} {xs : List V} {H H' : Hp} {Q : VK} {E : XK} (h : MkO CC DM DS xs H Q E) (s : Same H H') : MkO CC DM DS xs H' Q E :=
  ⟨fun i y e g z => (h.1 i y e g z).of s, fun ns e sb => ⟨fun l c H2 s2 fc hc => (h.2 ns e sb).1 l c H2 (s.trans s2) (s.free fc) hc, fun l => ((h.2 ns e sb).2 l).of s⟩⟩
theorem map_int_inj : ∀ {ns ms : List Int}, ns.map V.int = ms.map V.int → ns = ms
  | [], [], _ => rfl
  | [], _ :: _, h => by cases h
  | _ :: _, [], h => by cases h
  | n :: r, m :: q, h => by
    rw [List.map_cons, List.map_cons] at h
    obtain ⟨h1, h2⟩ := List.cons.inj h
    rw [V.int.inj h1, map_int_inj h2]
/-- good sizes alone -/
theorem MkO.good {CC DM DS : Addr} {ns : List Int} {H : Hp} {Q : VK} {E : XK} (sb : SzB ns) (h1 : ns.length ≤ 5000 → ∀ c H', Same H H' → H c = none → ChA CC H' c ns → Q (.ref c) H') (h2 : 5000 < ns.length → Mf DM H E) : MkO CC DM DS (ns.map V.int) H Q E := by
  refine ⟨fun i y e _ z => ?_, fun ms e _ => ?_⟩
  · obtain ⟨v, hv, rfl⟩ := List.mem_map.mp (List.mem_of_getElem? e)
    obtain ⟨b1, b2⟩ := sb v hv
    rw [isZ_of b1 b2] at z
    cases z
  · have := map_int_inj e
    subst this
    exact ⟨h1, h2⟩
theorem any_ints (K : PySem.W.Frag) (H : Hp) (ns : List Int) : ∀ y ∈ ns.map V.int, Anyv K H y := fun y hy => by
  obtain ⟨v, _, rfl⟩ := List.mem_map.mp hy
  exact .int v
abbrev spSt (K : PySem.W.Frag) (CC DM DS : Addr) : Sp := fun vs H Q E => ∃ ws rest, vs = ws ++ rest ∧ ws.length = ["self"].length ∧ rest.length ≤ sizeLine ∧ ∀ p, H p = none → spCI2 K CC DM DS (ws ++ [V.ref p]) (upd H p (.tup rest)) Q E
theorem ci_made {K : PySem.W.Frag} {CC DM DS : Addr} {xs : List V} {H : Hp} {Q : VK} {E : XK} (h : MkO CC DM DS xs H Q E) (av : ∀ y ∈ xs, Anyv K H y) (l : xs.length ≤ 20000) (x dx : Addr) (hx : H x = none) (hdx : H dx = none) (ne : dx ≠ x) :
    spSt K CC DM DS (V.ref x :: xs) (upd (upd H dx (.own x)) x (.ins CC dx [])) (fun v H2 => v = .non ∧ Q (.ref x) H2) E := by
  refine ⟨[V.ref x], xs, rfl, rfl, Nat.le_trans l (by decide), fun p hp => ?_⟩
  have s2 : Same H (upd (upd H dx (.own x)) x (.ins CC dx [])) := (same_new hdx).trans (same_new (by rw [upd_ne ne.symm]; exact hx))
  have s3 := s2.trans (same_new (o := HO.tup xs) hp)
  have xp : x ≠ p := fun e => by rw [← e, upd_same] at hp; cases hp
  refine ⟨x, dx, p, xs, rfl, (by rw [upd_ne xp]; exact upd_same), upd_same, l, fun y hy => Lw.Anyv.same s3 (av y hy), fun i y e g z => (h.1 i y e g z).of s3, fun ns e sb => ⟨fun h5 e1 r1 H' kp hx' he hr => ⟨rfl, ?_⟩, fun h5 => ((h.2 ns e sb).2 h5).of s3⟩⟩
  subst e
  refine (h.2 ns rfl sb).1 h5 x H' (fun b o e' => kp b o (fun q => ?_) (s3 _ _ e')) hx ⟨dx, p, e1, r1, hx', kp p _ xp.symm upd_same, he, hr⟩
  rw [q, hx] at e'
  cases e'
/-- Chunks.__init__, ready to be called with a star -/
structure ChM2 (P : Program) (w : World) (K : PySem.W.Frag) (mg : Str → Option Value) (base : Heap) (CC DM DS fI : Addr) (mc : Value) : Prop where
  Z : ChC P w K mg base CC DM mc
  M : Mk K CC fI
  F : FnR P w K mg base (L2.CX P w) 5 fI (spSt K CC DM DS)
/-- neither a list nor a tuple -/
def NoSeq (K : PySem.W.Frag) (H : Hp) (v : V) : Prop := ∃ t, TyX K H v t ∧ PySem.W.kitAny K t [.type "list", .type "tuple"] = some false
theorem NoSeq.same {K : PySem.W.Frag} {H H' : Hp} {v : V} (h : NoSeq K H v) (s : Same H H') : NoSeq K H' v := by
  obtain ⟨t, h1, h2⟩ := h
  exact ⟨t, Lw.TyX.same s h1, h2⟩
def spCof2 (K : PySem.W.Frag) (CC DM DS DC : Addr) : Sp := fun vs H Q E => ∃ v : V, vs = [v] ∧
  ((NoSeq K H v ∧ Bf DC "part" (.str (Str.ofString "sizes")) H E) ∨
   ∃ (l : Addr) (xs : List V), v = .ref l ∧ (H l = some (.lst xs) ∨ H l = some (.tup xs)) ∧ (∀ y ∈ xs, Anyv K H y) ∧ xs.length ≤ 20000 ∧ MkO CC DM DS xs H Q E)
def spHln (CC : Addr) : Sp := fun vs H Q _ => ∃ c ns, vs = [.ref c] ∧ ChA CC H c ns ∧ Q (.int (ns.length : Int)) H
section
variable {P : Program} {w : World} {K : PySem.W.Frag} {mg : Str → Option Value} {base : Heap}
theorem fn_cof2 {CC DM DS DC fI fE f : Addr} {mc : Value} {fd fdE : FuncData} (F : C8.Fun K "of" "Chunks.of" sHof f fd) (T : Txt mg) (htu : mg "tuple" = none) (EC : Err1 "BadChunks" "part" P w K mg base DC fE fdE) (CM : ChM2 P w K mg base CC DM DS fI mc) : FnOk P w K mg base (L2.CX P w) 7 f fd ["sizes"] (spCof2 K CC DM DS DC) := by
  obtain ⟨oc, od, dV, kV, doc, pm, an, cdv, ct, osl, rfl, lk, hcd⟩ := F.ex
  refine fn_of lk hcd scHof (fun vs H Q E h => ?_) fun A outer s H vs Q E hr h => ?_
  · obtain ⟨v, rfl, _⟩ := h
    rfl
  · obtain ⟨v, rfl, h⟩ := h
    have tk : Takes (cxOf (L2.CX P w) P w K mg base ["sizes"] "Chunks.of" (C8.fnScope sHof) f cdv A outer s H E) (fun cls d _ H' => E cls d H') := takes_of rfl rfl rfl rfl
    refine ⟨_, (pss_cons (ps_if (pt_not (pt_val (pe_callB call_isiT (by rfl) T.n_isinstance (by decide +kernel) (pa_cons (pv 0) (pa_cons (pe_tup (pa_cons (pe_bltn (v := .ty "list") (by rfl) T.n_list (by decide +kernel) rfl) (pa_cons (pe_bltn (v := .ty "tuple") (by rfl) htu (by decide +kernel) rfl) pa_nil))) pa_nil))))) (pss_one (ps_bad1 (x := "BadChunks") rfl tk EC.T EC.iC EC.tI EC.F hr EC.b (by rfl) EC.hm pe_str)) pss_nil)
      (pss_one (ps_ret (pe_makeS1 CM.M CM.F (hr.mono (by decide)) (by rfl) CM.Z.hm (passes_call (takes_of rfl rfl rfl rfl) (fun _ _ _ _ z => z)) (pv 0))))), ?_⟩
    refine ⟨_, rfl, (by show 2 ≤ sizeLine; decide), fun t ft => ?_⟩
    have s1 := same_new (o := HO.tup [V.ty "list", V.ty "tuple"]) ft
    have et : upd H t (HO.tup [V.ty "list", V.ty "tuple"]) t = some (.tup [V.ty "list", V.ty "tuple"]) := upd_same
    generalize upd H t _ = H1 at s1 et ⊢
    rcases h with ⟨nos, k⟩ | ⟨l, xs, rfl, hl, av, len, k⟩
    · obtain ⟨ty, hty, hk⟩ := nos.same s1
      refine ⟨_, t, _, ty, _, false, rfl, et, .cons (.ty _) (.cons (.ty _) .nil), hty, hk, ?_⟩
      exact ⟨_, rfl, iteT (bad_leaf1 fun d fs hd e1 => k d fs H1 s1 hd e1)⟩
    · obtain ⟨ty, hty, hk⟩ := seq_cls (K := K) hl
      refine ⟨_, t, _, ty, _, true, rfl, et, .cons (.ty _) (.cons (.ty _) .nil), Lw.TyX.same s1 hty, hk, ?_⟩
      refine ⟨_, rfl, iteF ?_⟩
      exact ⟨_, rfl, l, _, rfl, hl.elim (fun z => .inr (SqL.of (s1 _ _ z))) (fun z => .inl (SqT.of (s1 _ _ z))), fun x dx hx hdx ne => ci_made (k.of s1) (fun y hy => Lw.Anyv.same s1 (av y hy)) len x dx hx hdx ne⟩
theorem scHln : FnScope ["self"] ["self"] (C8.fnScope sHln) := C8.fnScope_by (by decide +kernel)
theorem fn_hln {CC DM f : Addr} {mc : Value} {fd : FuncData} (F : C8.Fun K "__len__" "Chunks.__len__" sHln f fd) (T : Txt mg) (Z : ChC P w K mg base CC DM mc) : FnOk P w K mg base (L2.CX P w) 1 f fd ["self"] (spHln CC) := by
  obtain ⟨oc, od, dV, kV, doc, pm, an, cdv, ct, osl, rfl, lk, hcd⟩ := F.ex
  refine fn_of lk hcd scHln (fun vs H Q E h => ?_) fun A outer s H vs Q E hr h => ?_
  · obtain ⟨c, ns, rfl, _⟩ := h
    rfl
  · obtain ⟨c, ns, rfl, ⟨dx, p, e, r, hc, hp, _⟩, k⟩ := h
    refine ⟨_, (pss_one (ps_ret (pe_callB call_len_seq (by rfl) T.n_len (by decide +kernel) (pa_cons (pe_fld (pv 0) rfl) pa_nil)))), ?_⟩
    refine ⟨_, rfl, c, CC, dx, _, _, rfl, hc, Z.cl, Z.n1, chF_sizes _ _ _ _, p, _, rfl, .inr (SqT.of hp), ?_⟩
    rw [List.length_map]
    exact k
end
end Lw
namespace Lw
open PySem PySem.Spec PyProof.Rows L2
end Lw
namespace Lw.Ow
open PySem PySem.Spec PyProof.Rows PySem.W PySem.Calls
section
variable {prog : Program} {w : World} {A : Around} {E : Value → Shared → Prop} {s : Shared} {K : Frag} {x C f : Addr} {ox : Obj} {od : Option Obj}
theorem len_own {Q : Value → Shared → Prop} (X : K.In s.heap) (I : InstAt s.heap x ox C od) (hs : findIn K (.ref C) "__len__" = some (some (.ref f))) (hf : isFn K (.ref f) = true)
    (h : wpAny (model prog w) A.in1 (call (.ref f) [.ref x]) (fun v s' => ∃ (n : Int) (t : Tok), v = .int n t ∧ 0 ≤ n ∧ n < 2 ^ 63 ∧ ∀ t' tk, Q (.int n t') { s' with toks := tk }) E s) : wpAny (model prog w) A (call (.builtin "len") [.ref x]) Q E s := by
  refine call_function_entry kind_len plain_len entry_len (args_len1 _) ?_
  unfold Builtin.«len»
  refine wpAny_bind (m := oneArg "len" _) (wpAny_pure ?_)
  refine wpAny_bind (m := callSpecial? (.ref x) (Str.ofString "__len__")) (special_fn X I hs (beq_iff_eq.mp hf) (wpAny_mono h (fun r s' hr => ?_) fun _ _ y => y))
  obtain ⟨n, t, rfl, h0, h1, q⟩ := hr
  refine wpAny_bind (wpAny_holding (wpAny_pure ?_))
  refine wpAny_bind (wpAny_letGo ?_)
  show wpAny _ _ (if n < 0 then _ else _) _ _ _
  rw [if_neg (by omega)]
  show wpAny _ _ (if n ≥ 2 ^ 63 then _ else _) _ _ _
  rw [if_neg (by omega)]
  exact wpAny_bind (wpAny_mkInt (wpAny_pure ⟨_, rfl, q _ _⟩))
theorem cmp_eq {b tb : Value} {Q : Value → Shared → Prop} (hu : A.units < cLine) (X : K.In s.heap) (I : InstAt s.heap x ox C od) (hb : Looks (model prog w) s.heap (typeOf b) tb) (hn : notFirst K C tb = true)
    (one : wpAny (model prog w) A (tryCompare (.ref x) "__eq__" b) (fun r s' => ∃ v, r = some v ∧ Q v s') E s) : wpAny (model prog w) A (richCompare .Eq (.ref x) b) Q E s := by
  unfold richCompare
  simp only [oneThing_ref]
  refine wpAny_holding (wpAny_bind (wpAny_cRoomFor hu ?_))
  refine wpAny_bind (I.type.here (wpAny_bind (hb.here ?_)))
  split
  · rename_i q
    have e : subIn K tb (.ref C) = some false := by
      rcases Bool.or_eq_true_iff.mp hn with e | e
      · rw [beq_iff_eq.mp e] at q; simp at q
      · exact beq_iff_eq.mp e
    refine wpAny_bind ((looks_subIn X e).here ?_)
    simp only [Bool.false_eq_true, if_false]
    refine wpAny_bind (wpAny_mono one (fun r s' z => ?_) fun _ _ e => e)
    obtain ⟨v, rfl, hq⟩ := z
    exact wpAny_pure hq
  · refine wpAny_bind (wpAny_pure ?_)
    simp only [Bool.false_eq_true, if_false]
    refine wpAny_bind (wpAny_mono one (fun r s' z => ?_) fun _ _ e => e)
    obtain ⟨v, rfl, hq⟩ := z
    exact wpAny_pure hq
theorem try_ownE {nm : Str} {b : Value} {Q : Value → Shared → Prop} (X : K.In s.heap) (I : InstAt s.heap x ox C od) (hs : findIn K (.ref C) nm = some (some (.ref f))) (hf : isFn K (.ref f) = true) (h : wpAny (model prog w) A (call (.ref f) [.ref x, b]) (PySem.W.CmpBack Q) E s) :
    wpAny (model prog w) A (tryCompare (.ref x) nm b) (fun r s' => ∃ v, r = some v ∧ Q v s') E s := by
  unfold tryCompare
  refine wpAny_bind (ifBound_K X I hs hf (wpAny_mono h (fun v s' hv => ?_) fun _ _ e => e))
  cases v <;> first | exact hv.elim | exact wpAny_pure ⟨_, rfl, hv⟩
end
end Lw.Ow
namespace Lw
open PySem PySem.Spec PyProof.Rows L2 LamX
section
variable {X : Cx} {C f : Addr} {k j : Nat} {sp : Sp} {E : XK} {pins : List (Addr × Obj)} {σ : L2.St} {H : Hp} {s : Shared}
/-- x == y by the own == of both -/
def rER (C : Addr) (sp : Sp) (E : XK) : R2 := fun x y H Q => ∃ a dx fs b dy gs, x = .ref a ∧ H a = some (.ins C dx fs) ∧ y = .ref b ∧ H b = some (.ins C dy gs) ∧ sp [x, y] H Q E
theorem op_eqR (M : MetX X.prog X.w X.K X.mg X.base k C "__eq__" sp) (hx : Passes (L2.CX X.prog X.w) X E) (hr : Room j X.A) (hk : k ≤ j) : OpR X (compareOp .Eq) (rER C sp E) := by
  intro pins s σ H x y v u Q I rx ry h
  obtain ⟨a, dx, fs, b, dy, gs, rfl, ha, rfl, hb, q⟩ := h
  cases (show v = Value.ref a from rx)
  cases (show u = Value.ref b from ry)
  obtain ⟨_, _, J⟩ := ins_at I ha
  obtain ⟨_, _, J'⟩ := ins_at I hb
  obtain ⟨g, hm, w, _⟩ := run_met (us := [.ref a, .ref b]) (vs := [.ref a, .ref b]) M hx hr hk I (.cons rfl (.cons rfl .nil)) q
  exact Ow.cmp_eq hr.units0 I.kIn J J'.type (by simp [PySem.W.notFirst]) (Ow.try_ownE I.kIn J hm.at_ hm.fn w)
/-- len(x) by the own __len__ -/
def rLenOwn (C : Addr) (sp : Sp) (E : XK) : List V → Hp → VK → Prop := fun xs H Q => ∃ a dx fs, xs = [V.ref a] ∧ H a = some (.ins C dx fs) ∧ sp [.ref a] H (fun z H' => ∃ n : Int, z = .int n ∧ 0 ≤ n ∧ n < 2 ^ 63 ∧ Q z H') E
theorem call_lenOwn (M : MetX X.prog X.w X.K X.mg X.base k C "__len__" sp) (hx : Passes (L2.CX X.prog X.w) X E) (hr : Room j X.A) (hk : k + 1 ≤ j) : CallR X (.builtin "len") (rLenOwn C sp E) := by
  intro pins s σ H xs us Q I r h
  obtain ⟨a, dx, fs, rfl, ha, q⟩ := h
  obtain ⟨u, rfl, ru⟩ := r.one
  cases (show u = Value.ref a from ru)
  obtain ⟨_, _, J⟩ := ins_at I ha
  have hr1 : Room k X.A.in1 := Room.in1 (hr.mono hk)
  obtain ⟨g, hm, w⟩ := run_metA (us := [.ref a]) (vs := [.ref a]) M hx hr1 I.env0.in1 I (.cons rfl .nil) q
  refine Ow.len_own I.kIn J hm.at_ hm.fn (wpAny_mono w (fun v s' z => ?_) fun _ _ x => x)
  obtain ⟨z', H', I', rz, n, rfl, h0, h1, qz⟩ := z
  obtain ⟨t, rfl⟩ := rz
  exact ⟨n, t, rfl, h0, h1, fun t' tk => ⟨.int n, H', I'.tok tk, ⟨t', rfl⟩, qz⟩⟩
end
/-! ### a static method by keywords -/
section
variable {X : Cx} {CX : CXT} {C p g : Addr} {k : Nat} {fd : FuncData} {ps ks : List Str} {sp : Sp} {E : XK} {o : Expr} {kws : List Keyword} {m : Str} {pos apos : Pos} {ta : TE} {tkw : TA} {gU : List Value → List Value → List Value} {gV : List V → List V → List V} {pl : Sem Bool}
theorem pe_staticK (he : PE X o ta) (c : SMet X.K C m p g) (F : FnOk X.prog X.w X.K X.mg X.base CX k g fd ps sp) (hr : Room k X.A) (hb : KBn X.K fd ps 0 ks gU gV) (hx : Passes CX X E) (hkw : PK X kws tkw)
    (hall : (backToKw pos (keywordEach kws X.env)).all (·.1.isSome) = true := by rfl) (hks : (backToKw pos (keywordEach kws X.env)).filterMap (·.1) = ks := by rfl)
    (hpl : ((backTo pos (starEach [] X.env)).any (·.1) || (backToKw pos (keywordEach kws X.env)).any (·.1.isNone)) = false := by rfl)
    (ht : eval (.Call (.Attribute o m apos) [] kws pos) X.env = (do
      let ov ← eval o X.env
      standAt apos.atName
      let (f, first) ← holding [ov] (getMethod ov m pl)
      callWith pos f first (backTo pos (starEach [] X.env)) (backToKw pos (keywordEach kws X.env))) := by rfl) :
    PE X (.Call (.Attribute o m apos) [] kws pos) (fun σ H Q => ta σ H fun x H1 => x = .ref C ∧ tkw σ H1 fun zs H2 => zs.length = ks.length ∧ sp (gV [] zs) H2 Q E) := by
  refine ⟨fun pins s σ H Q I h => ?_⟩
  refine PySem.W.methodCall_KW (pl := pl) (thn (he.run pins s σ H _ I h) fun u s1 ⟨x, H1, I1, rx, ex, q⟩ => ?_) ht
  subst ex
  obtain rfl : u = Value.ref C := rx
  obtain ⟨mc, h1, h2, h3⟩ := c.mc
  obtain ⟨rest, h4⟩ := c.rc
  obtain ⟨fm, hF⟩ := I1.fr
  refine PySem.W.method_cls I1.kIn c.ga (PySem.W.cls_sm hF I1.ok.mod.kin h1 h2 h3 h4 rfl ?_)
  have I2 : Inv X pins σ H1 { s1 with toks := s1.toks + 1 } := I1.tok _
  refine PySem.W.callWith_KW0 (h₀ := X.base) I2.ok.mod.kin c.kp hall ?_ hpl
  refine thn (hkw.run pos pins _ σ H1 _ I2 q) fun ws s2 ⟨zs, H2, I3, rz, l2, q2⟩ => ⟨I3.kIn, ?_⟩
  rw [hks]
  exact run_fnN (us := []) (vs := []) F hr hb hx I3 .nil rz rfl l2 q2
end

end Lw
namespace Lw.Ow
open PySem PySem.Spec PyProof.Rows PySem.W PySem.Calls
section
variable {prog : Program} {w : World} {A : Around} {E : Value → Shared → Prop} {s : Shared}
theorem call_iterTup {t : Addr} {items : Array Value} {Q : Value → Shared → Prop} (ht : s.heap.IsTuple t items) (h : Q (.ref s.heap.objs.size) { s with heap := s.heap.push { cls := .type "tuple_iterator", data := .fields #[.ref t, .int 0 0] } }) : wpAny (model prog w) A (call (.builtin "iter") [.ref t]) Q E s := by
  refine Calls.call_function_entry (by decide +kernel) (by decide +kernel) PySem.W.kdk_entry_iter (PySem.W.kdk_args_iter _) ?_
  unfold Builtin.«iter»
  refine wpAny_bind (m := someArgs "iter" 1 2 _) (wpAny_of_eq (a := [Value.ref t]) (by first | rfl | kernel_rfl!) ?_)
  show wpAny _ _ (pyIter (.ref t) >>= _) _ _ _
  exact wpAny_bind (wpAny_pyIter_tuple ht (wpAny_pure ⟨_, rfl, h⟩))
end
end Lw.Ow
namespace Lw
open PySem PySem.Spec PyProof.Rows L2 LamX
/-- a tuple's iterator, at its begin -/
def ItT0 (p it : Addr) : HO := .ext fun h => h.get? it = some { cls := .type "tuple_iterator", data := .fields #[.ref p, .int 0 0] }
theorem itT0_ok {P : Program} {w : World} {H : Hp} {h : Heap} {p it : Addr} (e : h.get? it = some { cls := .type "tuple_iterator", data := .fields #[.ref p, .int 0 0] }) : ObjOk P w H h it (ItT0 p it) := ⟨e, ⟨_, e⟩, fun h1 h2 q k => k _ q⟩
section
variable {X : Cx} {pins : List (Addr × Obj)} {σ : L2.St} {H : Hp} {s : Shared}
theorem hp_lt (I : Inv X pins σ H s) {a : Addr} {o : HO} (e : H a = some o) : a < s.heap.objs.size := by
  apply Nat.lt_of_not_le
  intro z
  rw [I.hok.fresh z] at e
  cases e
/-- iter(t), t a tuple: the iterator stands above all that is tracked -/
def rIterT (K : PySem.W.Frag) : List V → Hp → VK → Prop := fun xs H Q => ∃ (p : Addr) (zs : List V), xs = [.ref p] ∧ SqT K H p zs ∧ ∀ it, H it = none → (∀ a o, H a = some o → a < it) → Q (.ref it) (upd H it (ItT0 p it))
theorem call_iterT : CallR X (.builtin "iter") (rIterT X.K) := by
  intro pins s σ H xs us Q I r h
  obtain ⟨p, zs, rfl, hq, q⟩ := h
  obtain rfl := Vals.ref1 r
  obtain ⟨its, rv, pl, hz⟩ := I.tuple hq
  refine Ow.call_iterTup (show s.heap.IsTuple p its.toArray from pl) ?_
  exact ⟨.ref s.heap.objs.size, _, I.laid (t' := s.toks) (fun b u e => Heap.get?_push_of_some _ e) (Nat.le_refl _) (itT0_ok (Heap.get?_push_size _ rfl)), rfl, q _ (I.hok.fresh (Nat.le_refl _)) fun a o e => hp_lt I e⟩
variable {tg e : Expr} {te : TE} {k j : Nat} {E : XK}
/-- a walk over an instance by its own __iter__; y: a tracked thing of this frame -/
def iOwnT (P : Program) (w : World) (K : PySem.W.Frag) (mg : Str → Option Value) (base : Heap) (k n : Nat) (E : XK) (te : TE) : TI := fun σ H R => te σ H fun x H1 => ∃ (C a dx : Addr) (fs : List (Str × V)) (sp : Sp) (y : Addr) (o : HO), x = .ref a ∧ H1 a = some (.ins C dx fs) ∧ MetX P w K mg base k C "__iter__" sp ∧ H1 y = some o ∧ n ≤ y ∧
  sp [.ref a] H1 (fun v H2 => ∃ it p, v = .ref it ∧ H2 it = some (ItT0 p it) ∧ y < it ∧ R (Itt K p) (ItX.dropH H2 it)) E
theorem pi_ownT (he : PE X e te) (hx : Passes (L2.CX X.prog X.w) X E) (hr : Room j X.A) (hk : k ≤ j) : PI X tg e (iOwnT X.prog X.w X.K X.mg X.base k X.s_0.heap.objs.size E te) := by
  refine ⟨fun pins s σ H R I h => ?_⟩
  refine thn (he.run pins s σ H _ I h) fun u s1 ⟨x, H1, I1, rx, C, a, dx, fs, sp, y, o, ex, ha, M, hy, ny, q⟩ => ?_
  subst ex
  cases (show u = Value.ref a from rx)
  obtain ⟨_, _, J⟩ := ins_at I1 ha
  obtain ⟨g, hm, _, w2⟩ := run_met (us := [.ref a]) (vs := [.ref a]) M hx hr hk I1 (.cons rfl .nil) q
  obtain ⟨m, F⟩ := I1.fr
  refine PySem.W.owit_iter F I1.ok.mod.kin J hm.at_ hm.fn (wpAny_mono w2 (fun v s2 z => ?_) fun _ _ e => e)
  obtain ⟨v', H2, I2, rv, it, p, rfl, hit, yt, hR⟩ := z
  cases (show v = Value.ref it from rv)
  have eo : s2.heap.get? it = some { cls := .type "tuple_iterator", data := .fields #[.ref p, .int 0 0] } := (I2.hok it _ hit).1
  have hit' := hit
  unfold ItT0 at hit'
  unfold PySem.W.OwitIt
  refine wpAny_specialOf (name := "__next__") (⟨_, eo, rfl⟩ : s2.TypeIs (.ref it) "tuple_iterator") PySem.F.slot_tuple_iterator_next.lookup ?_
  refine ⟨it, [it], _, _, ItX.dropH H2 it, rfl, ItX.inv_drop I2 hit', turn_tuple p it, ⟨_, eo, rfl, rfl⟩, fun b hb => ?_, hR⟩
  have e : b = it := by simpa using hb
  rw [e]
  exact ItX.inv_fp I2 hit' (Nat.le_trans ny (Nat.le_of_lt yt))
end
end Lw
namespace Lw
open PySem PySem.Spec PyProof.Rows L2
open LamX
/-! ### x in y, x not in y, y[x]: y an instance with its own defs -/
section
variable {X : Cx} {pins : List (Addr × Obj)} {σ : L2.St} {H : Hp} {s : Shared} {e a b : Expr} {te ta tb : TE} {k j : Nat} {E : XK} {pos : Pos}
/-- x in y (neg: x not in y) -/
def rInOwn (P : Program) (w : World) (K : PySem.W.Frag) (mg : Str → Option Value) (base : Heap) (k : Nat) (neg : Bool) (E : XK) : R2 := fun x y H Q => ∃ (C a dx : Addr) (fs : List (Str × V)) (sp : Sp), y = .ref a ∧ H a = some (.ins C dx fs) ∧ MetX P w K mg base k C "__contains__" sp ∧ sp [.ref a, x] H (fun v H' => ∃ c, v = .bl c ∧ Q (.bl (if neg then !c else c)) H') E
theorem op_inOwn (hx : Passes (L2.CX X.prog X.w) X E) (hr : Room j X.A) (hk : k ≤ j) : OpR X (compareOp .In) (rInOwn X.prog X.w X.K X.mg X.base k false E) := by
  intro pins s σ H x y v u Q I rx ry h
  obtain ⟨C, a, dx, fs, sp, rfl, ha, M, q⟩ := h
  cases (show u = Value.ref a from ry)
  obtain ⟨_, _, J⟩ := ins_at I ha
  obtain ⟨g, hm, _, w2⟩ := run_met (us := [.ref a, v]) (vs := [.ref a, x]) M hx hr hk I (.cons rfl (.cons rx .nil)) q
  obtain ⟨m, F⟩ := I.fr
  refine PySem.W.in_K F I.ok.mod.kin J hm.at_ hm.fn (wpAny_mono w2 (fun r s' z => ?_) fun _ _ e => e)
  obtain ⟨v', H', I', rv, c, rfl, qz⟩ := z
  cases (show r = Value.bool c from rv)
  unfold truthy
  exact wpAny_pure ⟨.bl c, H', I', rfl, qz⟩
theorem op_notInOwn (hx : Passes (L2.CX X.prog X.w) X E) (hr : Room j X.A) (hk : k ≤ j) : OpR X (compareOp .NotIn) (rInOwn X.prog X.w X.K X.mg X.base k true E) := by
  intro pins s σ H x y v u Q I rx ry h
  obtain ⟨C, a, dx, fs, sp, rfl, ha, M, q⟩ := h
  cases (show u = Value.ref a from ry)
  obtain ⟨_, _, J⟩ := ins_at I ha
  obtain ⟨g, hm, _, w2⟩ := run_met (us := [.ref a, v]) (vs := [.ref a, x]) M hx hr hk I (.cons rfl (.cons rx .nil)) q
  obtain ⟨m, F⟩ := I.fr
  refine PySem.W.notIn_K F I.ok.mod.kin J hm.at_ hm.fn (wpAny_mono w2 (fun r s' z => ?_) fun _ _ e => e)
  obtain ⟨v', H', I', rv, c, rfl, qz⟩ := z
  cases (show r = Value.bool c from rv)
  unfold truthy
  exact wpAny_pure ⟨.bl (!c), H', I', rfl, qz⟩
/-- a class's own __getitem__ -/
structure MetG (P : Program) (w : World) (K : PySem.W.Frag) (mg : Str → Option Value) (base : Heap) (k : Nat) (C : Addr) (sp : Sp) : Prop where
  ex : ∃ (g : Addr) (fd : FuncData) (ps : List Str), Meth K C "__getitem__" g ∧ PySem.W.fnIn K g = true ∧ FnOk P w K mg base (L2.CX P w) k g fd ps sp ∧ Binds K fd ps []
  seq : PySem.W.noSeq K C = true
theorem run_getA {A : Around} {C : Addr} {sp : Sp} {us : List Value} {vs : List V} {Q : VK} (M : MetG X.prog X.w X.K X.mg X.base k C sp) (hx : Passes (L2.CX X.prog X.w) X E) (hr : Room k A) (e0 : Env0 X.prog X.w X.K X.mg X.base A X.stack s H) (I : Inv X pins σ H s) (r : Vals vs us) (q : sp vs H Q E) :
    ∃ g : Addr, Meth X.K C "__getitem__" g ∧ PySem.W.fnIn X.K g = true ∧ wpAny (model X.prog X.w) A (call (.ref g) us) (EP X pins σ Q) X.xe s := by
  obtain ⟨g, fd, ps, hm, hf, F, b⟩ := M.ex
  have l : us.length = ps.length := r.length.symm.trans (F.len _ _ _ _ q)
  have b' := b s us I.kIn (by rw [List.append_nil]; exact l)
  rw [List.append_nil] at b'
  refine ⟨g, hm, hf, wpAny_call (codeAny_mono (F.run A X.stack s H ⟨us, []⟩ us vs Q E hr e0 b' r q) fun r s' hq => ?_)⟩
  cases r with
  | error e => exact hx pins σ H s e s' I hq
  | ok fl =>
    cases fl with
    | ret u => exact I.after hq
    | next => exact False.elim hq
    | brk => exact False.elim hq
    | cont => exact False.elim hq
/-- y[x] by the own __getitem__, x no slice -/
def rSubOwn (P : Program) (w : World) (K : PySem.W.Frag) (mg : Str → Option Value) (base : Heap) (k : Nat) (E : XK) : R2 := fun x y H Q => ∃ (C a dx : Addr) (fs : List (Str × V)) (sp : Sp), x = .ref a ∧ H a = some (.ins C dx fs) ∧ MetG P w K mg base k C sp ∧ sp [.ref a, y] H Q E
theorem pe_subOwn (ha : PE X a ta) (hb : PE X b tb) (hx : Passes (L2.CX X.prog X.w) X E) (hr : Room j X.A) (hk : k + 1 ≤ j) (hs : ∀ (o : Addr) (i : Value), subscripted b true (.ref o) i = runValue (.builtin "lifetime.subscript" ⟨[.ref o, i], []⟩) := by intros; with_unfolding_all rfl) :
    PE X (.Subscript a b pos) (tOp (rSubOwn X.prog X.w X.K X.mg X.base k E) ta tb) := by
  refine ⟨fun pins s σ H Q I h => Subscript_ (binT ha hb I h fun v u s2 x y H2 I2 rx ry q => ?_)⟩
  obtain ⟨C, o, dx, fs, sp, rfl, ho, M, q⟩ := q
  cases (show v = Value.ref o from rx)
  obtain ⟨_, _, J⟩ := ins_at I2 ho
  have hr1 : Room k X.A.in1 := Room.in1 (hr.mono hk)
  obtain ⟨g, hm, hf, w2⟩ := run_getA (us := [.ref o, u]) (vs := [.ref o, y]) M hx hr1 I2.env0.in1 I2 (.cons rfl (.cons ry .nil)) q
  obtain ⟨m, F⟩ := I2.fr
  exact PySem.W.sub_K F I2.ok.mod.kin J hm.at_ hf hm.fn w2 (hs o u)
end
end Lw
namespace Lw
open PySem PySem.Spec PyProof.Rows L2
open SX PySem.NumText TL LamX ClX StX
section
variable {X : Cx} {C : Addr} {k j : Nat} {sp spI spL : Sp} {pins : List (Addr × Obj)} {σ : L2.St} {H : Hp} {s : Shared}
/-- a method that raises nothing: any exception's side -/
theorem run_metN {A : Around} {m : Str} {us : List Value} {vs : List V} {Q : VK} {Ev : Value → Shared → Prop} (M : MetX X.prog X.w X.K X.mg X.base k C m sp) (hr : Room k A) (e0 : Env0 X.prog X.w X.K X.mg X.base A X.stack s H) (I : Inv X pins σ H s) (r : Vals vs us) (q : sp vs H Q C8.E0) :
    ∃ g : Addr, Meth X.K C m g ∧ wpAny (model X.prog X.w) A (call (.ref g) us) (EP X pins σ Q) Ev s := by
  obtain ⟨g, fd, ps, hm, F, b⟩ := M.ex
  have l : us.length = ps.length := r.length.symm.trans (F.len _ _ _ _ q)
  have b' := b s us I.kIn (by rw [List.append_nil]; exact l)
  rw [List.append_nil] at b'
  refine ⟨g, hm, wpAny_call (codeAny_mono (F.run A X.stack s H ⟨us, []⟩ us vs Q C8.E0 hr e0 b' r q) fun r s' hq => ?_)⟩
  cases r with
  | error e =>
    obtain ⟨_, _, _, _, _, _, _, _, _, _, _, _, z⟩ := hq
    exact z.elim
  | ok fl =>
    cases fl with
    | ret u => exact I.after hq
    | next => exact False.elim hq
    | brk => exact False.elim hq
    | cont => exact False.elim hq
/-- list(x), x an instance: its own __iter__ gives a tuple's iterator, its own __len__ the hint -/
def rListOwn (C : Addr) (spI spL : Sp) : List V → Hp → VK → Prop := fun xs H Q => ∃ (a dx : Addr) (fs : List (Str × V)), xs = [.ref a] ∧ H a = some (.ins C dx fs) ∧ ∀ S, H S = none → S ≠ a →
  spI [.ref a] (upd H S (.lst [])) (fun v H2 => ∃ (it p dy : Addr) (gs : List (Str × V)) (zs : List V), v = .ref it ∧ H2 it = some (ItT0 p it) ∧ S < it ∧ H2 a = some (.ins C dy gs) ∧
    spL [.ref a] H2 (fun z H3 => ∃ n : Int, z = .int n ∧ 0 ≤ n ∧ n < 1000000 ∧ H3 it = some (ItT0 p it) ∧ H3 S = some (.lst []) ∧ H3 p = some (.tup zs) ∧ zs.length ≤ 1000000 ∧ Q (.ref S) (upd (ItX.dropH H3 it) S (.lst zs))) C8.E0) C8.E0
theorem call_listOwn (MI : MetX X.prog X.w X.K X.mg X.base k C "__iter__" spI) (ML : MetX X.prog X.w X.K X.mg X.base k C "__len__" spL) (hc : X.calm = true) (hr : Room j X.A) (hk : k + 3 ≤ j) : CallR X (.type "list") (rListOwn C spI spL) := by
  intro pins s σ H xs us Q I r h
  obtain ⟨a, dx, fs, rfl, ha, q⟩ := h
  obtain ⟨u, rfl, ru⟩ := r.one
  cases (show u = Value.ref a from ru)
  have hh := I.ok.hd hc
  have la := hp_lt I ha
  have big : (1000000 : Nat) ≤ sizeLine := by decide
  obtain ⟨S, eS⟩ : ∃ S, S = s.heap.objs.size := ⟨_, rfl⟩
  have Sa : S ≠ a := by rw [eS]; exact Nat.ne_of_gt la
  have sz := I.sz
  refine callType_codes (Q₁ := fun obj s₁ => obj = .ref S ∧ s₁ = { s with heap := s.heap.push { cls := .type "list", data := .seq #[] } }) PySem.F.called_list (PySem.F.typeCall_list_1 _) PySem.F.entry_list_init
    (code_list_new _ ⟨by rw [eS], rfl⟩) fun obj s₁ h₁ => ?_
  obtain ⟨rfl, rfl⟩ := h₁
  have hS : (s.heap.push { cls := .type "list", data := .seq #[] }).get? S = some { cls := .type "list", data := .seq #[] } := by rw [eS]; exact Heap.get?_push_size _ rfl
  have I1 : Inv X pins σ (upd H S (.lst [])) { s with heap := s.heap.push { cls := .type "list", data := .seq #[] } } := by
    rw [eS]
    exact I.lnew (its := []) (t' := s.toks) .nil (Nat.zero_le _)
  refine ⟨⟨_, hS, rfl⟩, PySem.F.args_list_init_2 _ _, ?_⟩
  show wpAny _ _ (do let old ← Builtin.List.listItems (.ref S); Builtin.List.listUpdate (.ref S) (fun _ => #[]); letGo old.toList.reverse; Builtin.List.listExtendWith (.ref S) (.ref a) .none) _ _ _
  refine wpAny_bind ?_
  unfold Builtin.List.listItems
  refine wpAny_bind (wpAny_seqItems hS rfl (wpAny_pure ?_))
  show wpAny _ _ (updateSeq S (fun _ => #[]) >>= fun _ => letGo (#[] : Array Value).toList.reverse >>= fun _ => Builtin.List.listExtendWith (.ref S) (.ref a) .none) _ _ _
  refine wpAny_bind (wpAny_updateSeq hS rfl ?_)
  refine wpAny_bind (wpAny_letGo ?_)
  have I2 := I1.lset (its := []) (its' := []) (f := fun _ => #[]) (t' := s.toks) upd_same hS rfl .nil (Nat.zero_le _)
  rw [upd_upd] at I2
  have ha2 : upd H S (.lst []) a = some (.ins C dx fs) := by rw [upd_ne Sa.symm]; exact ha
  obtain ⟨_, _, J⟩ := ins_at I2 ha2
  have fS : H S = none := by rw [eS]; exact I.hok.fresh (Nat.le_refl _)
  have q1 := q S fS Sa
  have lS : X.s_0.heap.objs.size ≤ S := by rw [eS]; exact sz
  have hr2 : Room k X.A.in1.in1 := Room.in1 (Room.in1 (hr.mono (Nat.le_trans (Nat.le_succ _) hk)))
  have hr3 : Room k X.A.in1.in1.in1 := Room.in1 (Room.in1 (Room.in1 (hr.mono hk)))
  unfold Builtin.List.listExtendWith
  refine wpAny_bind (J.type.here ?_)
  have h1 : Builtin.List.listSameRef (.ref S) (.ref a) = false := by simp [Builtin.List.listSameRef, Sa]
  have h2 : (Value.ref C == Value.type "list") = false := rfl
  have h3 : (Value.ref C == Value.type "tuple") = false := rfl
  simp only [h1, h2, h3, Bool.or_false, Bool.false_eq_true, if_false]
  obtain ⟨gI, hmI, wI⟩ := run_metN (us := [.ref a]) (vs := [.ref a]) MI hr2 I2.env0.in1.in1 I2 (.cons rfl .nil) q1
  obtain ⟨mm, F⟩ := I2.fr
  refine wpAny_bind (PySem.W.owit_iter F I2.ok.mod.kin J hmI.at_ hmI.fn (wpAny_mono wI (fun v s2 z => ?_) fun _ _ e => e))
  obtain ⟨v', H2, I3, rv, it, p, dy, gs, zs, rfl, hit, Sit, ha3, q2⟩ := z
  cases (show v = Value.ref it from rv)
  have eo : s2.heap.get? it = some { cls := .type "tuple_iterator", data := .fields #[.ref p, .int 0 0] } := (I3.hok it _ hit).1
  unfold PySem.W.OwitIt
  refine wpAny_specialOf (name := "__next__") (⟨_, eo, rfl⟩ : s2.TypeIs (.ref it) "tuple_iterator") PySem.F.slot_tuple_iterator_next.lookup ?_
  show wpAny _ _ _ _ _ _
  obtain ⟨_, _, J3⟩ := ins_at I3 ha3
  obtain ⟨gL, hmL, wL⟩ := run_metN (Ev := fun _ _ => False) (us := [.ref a]) (vs := [.ref a]) ML hr3 I3.env0.in1.in1.in1 I3 (.cons rfl .nil) q2
  refine wpAny_bind (wpAny_holding ?_)
  have hint : ∀ (Qh : Bool → Shared → Prop) (Eh : Value → Shared → Prop), (∀ b s', (∃ (H3 : Hp) (n : Int), Inv X pins σ H3 s' ∧ H3 it = some (ItT0 p it) ∧ H3 S = some (.lst []) ∧ H3 p = some (.tup zs) ∧ zs.length ≤ 1000000 ∧ Q (.ref S) (upd (ItX.dropH H3 it) S (.lst zs))) → Qh b s') →
      wpAny (model X.prog X.w) X.A.in1.in1 (Builtin.List.listLengthHint (.ref a)) Qh Eh s2 := fun Qh Eh hq => by
    unfold Builtin.List.listLengthHint
    refine wpAny_bind (wpAny_bind (J3.type.here ((PySem.W.looks_findIn I3.kIn hmL.at_).here ?_)))
    refine wpAny_ite_split (fun z => ?_) (fun _ => ?_)
    · exact absurd z Bool.false_ne_true
    refine wpAny_ite_split (fun _ => ?_) (fun z => absurd rfl z)
    refine wpAny_bind (wpAny_rule ?_)
    refine wpAny_bind (wpAny_attempt (Ow.len_own I3.kIn J3 hmL.at_ hmL.fn (wpAny_mono wL (fun v s' z => ?_) fun _ _ x => x.elim)))
    obtain ⟨z', H3, I4, rz, n, rfl, h0, h1, hit4, hS4, hp4, hz4, q3⟩ := z
    obtain ⟨t, rfl⟩ := rz
    refine ⟨n, t, rfl, h0, Int.lt_trans h1 (by decide), fun t' tk => ?_⟩
    have fin : ∀ b, Qh b { s' with toks := tk } := fun b => hq b _ ⟨H3, n, I4.tok tk, hit4, hS4, hp4, hz4, q3⟩
    refine wpAny_bind (m := asInt? (Value.int n t')) (wpAny_pure ?_)
    show wpAny _ _ (if Builtin.List.listTooLong n.toNat = true then _ else _) _ _ _
    rw [if_neg (by
      unfold Builtin.List.listTooLong
      have : ¬ n.toNat > sizeLine := by
        have : n.toNat < 1000000 := by omega
        omega
      simp [this])]
    exact wpAny_pure (fin _)
  refine hint _ _ fun b s3 z => ?_
  obtain ⟨H3, n, I4, hit4, hS4, hp4, hz4, q3⟩ := z
  have I5 := ItX.inv_drop I4 (show H3 it = some (.ext _) from hit4)
  have fp := ItX.inv_fp I4 hit4 (Nat.le_trans lS (Nat.le_of_lt Sit))
  have nSi : it ≠ S := Nat.ne_of_gt Sit
  have hS5 : ItX.dropH H3 it S = some (.lst []) := by rw [ItX.dropH_ne nSi.symm]; exact hS4
  have pit : p ≠ it := fun e => by rw [e, hit4] at hp4; cases hp4
  have pS : p ≠ S := fun e => by rw [e, hS4] at hp4; cases hp4
  obtain ⟨its, rvs, tup, _⟩ := I4.tuple (SqT.of (K := X.K) hp4)
  have tup : s3.heap.IsTuple p its.toArray := tup
  have eo4 : s3.heap.get? it = some { cls := .type "tuple_iterator", data := .fields #[.ref p, .int 0 0] } := (I4.hok it _ hit4).1
  obtain ⟨_, its0, n0, r0, l0, e0⟩ := I5.lstM hS5
  obtain rfl : its0 = [] := List.eq_nil_of_length_eq_zero (by rw [← r0.length]; rfl)
  have go : ∀ (h : Heap) (c₁ : Nat), (∀ b o, b ≠ S → s3.heap.get? b = some o → h.get? b = some o) → h.get? S = some { cls := .type "list", data := .seq #[] c₁ } →
      codeAny (model X.prog X.w) X.A.in1 (.builtin "list.extend.loop" ⟨[.ref S, .ref it, .none], []⟩) (wants (fun r s₂ => r = Value.none ∧ EP X pins σ Q (.ref S) s₂) X.xe) { s3 with heap := h } := fun h c₁ hk hS₁ => by
    have W := (Walks.tuple (prog := X.prog) (w := X.w) (A := X.A.in1.in1) hh it p pit its.toArray).toS
    refine codeAny_extend_loopS W ?_ S ?_ .none its.toArray.size 0 _ #[] c₁ rfl (Nat.zero_le _) ?_ hS₁ (ItemsOf.nil _) fun s' acc' c' hm hS' hacc => ?_
    · rw [List.size_toArray, ← rvs.length]
      exact Nat.le_trans hz4 big
    · simp only [List.mem_cons, List.not_mem_nil, or_false, not_or]
      exact ⟨nSi.symm, pS.symm⟩
    · exact ⟨⟨_, hk _ _ nSi eo4, rfl, rfl⟩, tup.at fun o e => hk p o pS e⟩
    rw [Moved.eq_with hm]
    refine ⟨rfl, .ref S, _, ?_, rfl, q3⟩
    have eacc : acc' = its.toArray := Array.ext_getElem? fun i => by
      cases hi : acc'[i]? with
      | none =>
        have := Array.getElem?_eq_none_iff.mp hi
        rw [hacc.1] at this
        exact (Array.getElem?_eq_none_iff.mpr this).symm
      | some v => exact (hacc.2 i v hi).symm
    subst eacc
    have M := Heap.get?_update_self (fun _ => ({ cls := .type "list", dict := none, data := .seq its.toArray c', slots := #[] } : Obj)) e0 rfl
    have I6 : Inv X pins σ (upd (ItX.dropH H3 it) S (.lst zs)) { s3 with heap := s3.heap.update S fun _ => { cls := .type "list", dict := none, data := .seq its.toArray c', slots := #[] }, toks := s3.toks } :=
      I5.write (x := S) (e := S) (by rw [hS5]; exact True.intro) (.inl rfl) (fun b u hb e => (Heap.get?_update_other _ _ (Ne.symm hb)).trans e) ⟨_, M⟩ ⟨Nat.le_trans hz4 big, its, c', rvs, M⟩
    have fin := I6.turnedL (ch := [it]) (h' := s'.heap) (t' := s'.toks) (fun b o hb e => ?x1) fun b hb => ?x2
    · exact fin
    case x1 =>
      have nb : b ≠ it := fun z => hb (List.mem_singleton.mpr z)
      by_cases bS : b = S
      · rw [bS] at e ⊢
        rw [M] at e
        rw [hS']
        exact e
      · rw [Heap.get?_update_other _ _ (Ne.symm bS)] at e
        exact hm.heap b o (fun z => by
          rcases List.mem_cons.mp z with z | z
          · exact bS z
          · exact nb (List.mem_singleton.mp z)) (hk b o bS e)
    case x2 =>
      rw [List.mem_singleton.mp hb]
      exact ⟨by rw [upd_ne nSi]; exact fp.1, fp.2⟩
  refine wpAny_ite_split (fun _ => ?_) (fun _ => wpAny_pure ⟨plainId_quiet PySem.F.plain_extend_loop _, go _ _ (fun b o _ e => e) e0⟩)
  refine wpAny_bind (wpAny_rule ?_)
  refine wpAny_bind ?_
  show wpAny _ _ (updateSeq S (·.push .none) >>= fun _ => updateSeq S (·.pop)) _ _ _
  refine wpAny_bind (wpAny_updateSeq e0 rfl ?_)
  have hS₂ := Heap.get?_update_self (Obj.mapSeq (·.push Value.none)) e0 rfl
  refine wpAny_updateSeq (hz := by seq_fits) hS₂ rfl ?_
  have hS₃ := Heap.get?_update_self (Obj.mapSeq (·.pop)) hS₂ rfl
  refine wpAny_pure ⟨plainId_quiet PySem.F.plain_extend_loop _, go _ _ (fun b o hb e => ?_) hS₃⟩
  exact (Heap.get?_update_other _ _ (Ne.symm hb)).trans ((Heap.get?_update_other _ _ (Ne.symm hb)).trans e)
end
end Lw
namespace Lw
open PySem PySem.Spec PyProof.Rows L2
open LamX
abbrev sIsName : Stmt := top 10
def letters : Str := "abcdefghijklmnopqrstuvwxyz"
def resW : List Str := ["cost", "fee", "none", "order", "ready", "self", "chunks", "crew", "late", "at"]
/-- whether a text is a name -/
def nameT (z : Str) : Bool := !decide (z ∈ resW) && (decide (1 ≤ z.length) && decide (z.length ≤ 8) && z.cps.toList.all fun c => decide (c ∈ letters.cps.toList))
def nameB : V → Bool
  | .str z => nameT z
  | _ => false
def resV : List V := resW.map V.str
structure TxtK (K : PySem.W.Frag) (mg : Str → Option Value) : Prop extends Txt mg where
  c_LN : ∃ t, mg "LONGEST_NAME" = some (.int 8 t)
  c_LE : ∃ t, mg "LETTERS" = some (.str letters t)
  c_TW : ∃ a, mg "TEXT_WORDS" = some (.ref a) ∧ ∀ H, SqT K H a resV
def spName (K : PySem.W.Frag) : Sp := fun vs H Q _ => ∃ x, vs = [x] ∧ Anyv K H x ∧ (∀ z, x = .str z → z.length ≤ 1000000) ∧ ∀ H', Same H H' → Q (.bl (nameB x)) H'
section
variable {P : Program} {w : World} {K : PySem.W.Frag} {mg : Str → Option Value} {base : Heap}
theorem scIsName : FnScope ["value", "letter"] ["value"] (C8.fnScope sIsName) := C8.fnScope_by (by decide +kernel)
theorem fn_isname {f : Addr} {fd : FuncData} (F : C8.Def K mg "is_name" sIsName f fd) (T : TxtK K mg) : FnOk P w K mg base C8.CX0 1 f fd ["value"] (spName K) := by
  refine C8.fn0 F.fn scIsName (fun vs H Q E h => ?_) (fun cdv A outer st H vs Q E hr h => ?_)
  · obtain ⟨x, rfl, _⟩ := h
    rfl
  · obtain ⟨x, rfl, a, hl, k⟩ := h
    obtain ⟨t1, hLN⟩ := T.c_LN
    obtain ⟨t2, hLE⟩ := T.c_LE
    obtain ⟨aW, hW, hS⟩ := T.c_TW
    refine ⟨_, (pss_cons (ps_if (PW.pt (pw_or (pt_not (pt_val (pe_callB call_isz (by rfl) T.n_isinstance (by decide +kernel) (pa_cons (pv 0) (pa_cons (pe_bltn (v := .ty "str") (by rfl) T.n_str (by decide +kernel) rfl) pa_nil))))) (pw_or1 (pt_cmpR op_in_seq (pv 0) (pe_glob (v := .ref aW) rfl hW rfl) (by rfl))))) (pss_one (ps_ret pe_bl)) pss_nil)
  (pss_one (ps_ret (pe_and (pe_chain op_le op_le pe_int (pe_callB call_len_str (by rfl) T.n_len (by decide +kernel) (pa_cons (pv 0) pa_nil)) (pe_glob (v := .int 8) rfl hLN ⟨_, rfl⟩)) (pe_one (pe_callB (cr_all rfl) (by rfl) T.n_all (by decide +kernel) (pa_cons (pe_lc (own := [("letter", 1)]) (g := gName 1) (tt := tYes) rfl scIsName.nd (pi_str (pv 0)) (blkOk_by (own := [("letter", 1)]) (N := ["value", "letter"]) (sc := (C8.fnScope sIsName)) (by decide +kernel)) (fun _ _ _ _ _ => pg_name (i := 1) scIsName.nd rfl (Or.inl rfl)) (fun _ _ _ _ _ => pts_nil) (fun _ _ _ _ _ => (pe_cmpR op_in_sign (pv 1) (pe_glob (v := .str letters) rfl hLE ⟨_, rfl⟩) (by rfl)))) pa_nil))))))), ?_⟩
    refine ⟨_, rfl, ?_⟩
    dsimp only [tCons, tC, tNil]
    refine isz_str a ⟨_, rfl, ?_⟩
    cases a with
    | str z =>
      have hz := hl z rfl
      have hzl : z.length ≤ sizeLine := Nat.le_trans hz (by decide)
      refine iteF ?_
      refine ⟨_, rfl, aW, resV, rfl, .inr (hS _), rfl, flat_strs _, _, rfl, ite2 (fun c => ?_) (fun c => ?_)⟩
      · have e : nameT z = false := by
          unfold nameT
          rw [show (if false = true then !inV (.str z) resV else inV (.str z) resV) = inV (.str z) resV from rfl, resV, inV_str] at c
          rw [c]; rfl
        have := k H (Same.refl H)
        rw [show nameB (.str z) = nameT z from rfl, e] at this
        exact this
      · have c0 : decide (z ∈ resW) = false := by
          rw [show (if false = true then !inV (.str z) resV else inV (.str z) resV) = inV (.str z) resV from rfl, resV, inV_str] at c
          exact Bool.eq_false_iff.mpr c
        have kk : ∀ (bb : Bool) (H' : Hp), Same H H' → bb = nameT z → Q (.bl bb) H' := fun bb H' s e => by rw [e]; exact k H' s
        refine ⟨_, rfl, _, rfl, hzl, _, _, rfl, rfl, _, rfl, ite2 (fun c1 => ?_) (fun c1 => ?_)⟩
        · refine ⟨_, _, rfl, rfl, _, rfl, ite2 (fun c2 => ?_) (fun c2 => ?_)⟩
          · refine ⟨_, rfl, z, rfl, fun D hD => lc_text (fun c => [some (.str z), some (.str ⟨#[c]⟩)]) (fun _ => true) (fun c => .bl (decide (c ∈ letters.cps.toList))) (fun _ _ _ h => h) (fun _ => rfl) (fun _ _ _ h => h) (fun c _ _ _ h => ⟨_, rfl, c, letters, rfl, rfl, h⟩) hz ?_⟩
            refine ⟨D, z.cps.toList.map fun c => decide (c ∈ letters.cps.toList), rfl, SqL.of ?_, ?_⟩
            · rw [upd_same, List.filter_eq_self.mpr (fun _ _ => rfl), List.map_map]; rfl
            · refine kk _ _ (same_new hD) ?_
              unfold nameT
              rw [c0]
              have e1 : decide (1 ≤ z.length) = true := decide_eq_true (by have := of_decide_eq_true c1; omega)
              have e2 : decide (z.length ≤ 8) = true := decide_eq_true (by have := of_decide_eq_true c2; omega)
              rw [e1, e2, List.all_map]; rfl
          · refine kk _ _ (Same.refl H) ?_
            unfold nameT
            have e2 : decide (z.length ≤ 8) = false := decide_eq_false (by have := of_decide_eq_false (Bool.eq_false_iff.mpr c2); omega)
            rw [e2]; simp
        · refine ⟨_, rfl, iteF (kk _ _ (Same.refl H) ?_)⟩
          unfold nameT
          have e1 : decide (1 ≤ z.length) = false := decide_eq_false (by have := of_decide_eq_false (Bool.eq_false_iff.mpr c1); omega)
          rw [e1]; simp
    | int i => exact iteT (k H (Same.refl H))
    | bl b => exact iteT (k H (Same.refl H))
    | non => exact iteT (k H (Same.refl H))
    | obj h h1 h2 h3 => exact iteT (k H (Same.refl H))
theorem cal_isname {f : Addr} {fd : FuncData} (F : C8.Def K mg "is_name" sIsName f fd) (b : Binds K fd ["value"] []) (T : TxtK K mg) : C8.Cal P w K mg base 1 "is_name" (spName K) [] :=
  ⟨f, fd, _, [], fn_isname F T, F.mgf, F.kp, b, .nil⟩
end
end Lw
namespace Lw
open PySem PySem.Spec PyProof.Rows L2
open SX PySem.NumText TL ClX StX
abbrev sBnmE : Stmt := inClass (top 13) 0
theorem scBnmE : FnScope ["self", "value"] ["self", "value"] (C8.fnScope sBnmE) := C8.fnScope_by (by decide +kernel)
theorem fn_BnmE {P : Program} {w : World} {K : PySem.W.Frag} {mg : Str → Option Value} {base : Heap} {C f : Addr} {fd : FuncData} (F : C8.Fun K "__init__" "BadName.__init__" sBnmE f fd) (T : OexC K C) (no1 : PySem.W.findIn K (.ref C) "value" = some none) : FnOk P w K mg base C8.CX0 1 f fd ["self", "value"] (spE1 C "value") := by
  refine C8.fn0 F scBnmE (fun vs H Q E h => ?_) (fun cdv A outer st H vs Q E hr h => ?_)
  · obtain ⟨a, v1, rfl, _⟩ := h
    rfl
  · obtain ⟨a, v1, rfl, ha, k⟩ := h
    refine ⟨_, (pss_one (ps_ost (pv 0) (pv 1))), ?_⟩
    exact ⟨_, rfl, _, rfl, a, C, rfl, T, no1, .inl ⟨ha, fun dx h1 h2 => k dx h1 h2 _ (by rw [lookup_put, if_pos rfl])⟩⟩
abbrev sBspE : Stmt := inClass (top 15) 0
theorem scBspE : FnScope ["self", "value"] ["self", "value"] (C8.fnScope sBspE) := C8.fnScope_by (by decide +kernel)
theorem fn_BspE {P : Program} {w : World} {K : PySem.W.Frag} {mg : Str → Option Value} {base : Heap} {C f : Addr} {fd : FuncData} (F : C8.Fun K "__init__" "BadSpeed.__init__" sBspE f fd) (T : OexC K C) (no1 : PySem.W.findIn K (.ref C) "value" = some none) : FnOk P w K mg base C8.CX0 1 f fd ["self", "value"] (spE1 C "value") := by
  refine C8.fn0 F scBspE (fun vs H Q E h => ?_) (fun cdv A outer st H vs Q E hr h => ?_)
  · obtain ⟨a, v1, rfl, _⟩ := h
    rfl
  · obtain ⟨a, v1, rfl, ha, k⟩ := h
    refine ⟨_, (pss_one (ps_ost (pv 0) (pv 1))), ?_⟩
    exact ⟨_, rfl, _, rfl, a, C, rfl, T, no1, .inl ⟨ha, fun dx h1 h2 => k dx h1 h2 _ (by rw [lookup_put, if_pos rfl])⟩⟩
abbrev sBcrE : Stmt := inClass (top 23) 0
theorem scBcrE : FnScope ["self", "part"] ["self", "part"] (C8.fnScope sBcrE) := C8.fnScope_by (by decide +kernel)
theorem fn_BcrE {P : Program} {w : World} {K : PySem.W.Frag} {mg : Str → Option Value} {base : Heap} {C f : Addr} {fd : FuncData} (F : C8.Fun K "__init__" "BadCrew.__init__" sBcrE f fd) (T : OexC K C) (no1 : PySem.W.findIn K (.ref C) "part" = some none) : FnOk P w K mg base C8.CX0 1 f fd ["self", "part"] (spE1 C "part") := by
  refine C8.fn0 F scBcrE (fun vs H Q E h => ?_) (fun cdv A outer st H vs Q E hr h => ?_)
  · obtain ⟨a, v1, rfl, _⟩ := h
    rfl
  · obtain ⟨a, v1, rfl, ha, k⟩ := h
    refine ⟨_, (pss_one (ps_ost (pv 0) (pv 1))), ?_⟩
    exact ⟨_, rfl, _, rfl, a, C, rfl, T, no1, .inl ⟨ha, fun dx h1 h2 => k dx h1 h2 _ (by rw [lookup_put, if_pos rfl])⟩⟩
abbrev sNwkE : Stmt := inClass (top 26) 0
theorem scNwkE : FnScope ["self", "name"] ["self", "name"] (C8.fnScope sNwkE) := C8.fnScope_by (by decide +kernel)
theorem fn_NwkE {P : Program} {w : World} {K : PySem.W.Frag} {mg : Str → Option Value} {base : Heap} {C f : Addr} {fd : FuncData} (F : C8.Fun K "__init__" "NoWorker.__init__" sNwkE f fd) (T : OexC K C) (no1 : PySem.W.findIn K (.ref C) "name" = some none) : FnOk P w K mg base C8.CX0 1 f fd ["self", "name"] (spE1 C "name") := by
  refine C8.fn0 F scNwkE (fun vs H Q E h => ?_) (fun cdv A outer st H vs Q E hr h => ?_)
  · obtain ⟨a, v1, rfl, _⟩ := h
    rfl
  · obtain ⟨a, v1, rfl, ha, k⟩ := h
    refine ⟨_, (pss_one (ps_ost (pv 0) (pv 1))), ?_⟩
    exact ⟨_, rfl, _, rfl, a, C, rfl, T, no1, .inl ⟨ha, fun dx h1 h2 => k dx h1 h2 _ (by rw [lookup_put, if_pos rfl])⟩⟩
end Lw
namespace Lw
open PySem PySem.Spec PyProof.Rows L2
end Lw
/-! ### dicts merged into dicts; keywords by ** and **keywords -/
namespace Lw.Md
open PySem PySem.Spec PySem.Calls PyProof.Rows PySem.W L2
section
variable {prog : Program} {w : World} {A : Around} {E : Value → Shared → Prop} {s : Shared}
abbrev Dk (prog : Program) (w : World) (h : Heap) (d : Addr) (xs : List (Key × Value)) : Prop := h.DictOf (mixKind prog w) d xs
theorem arr_idx {α : Type} (es : Array α) (p : α → Bool) : es.toList.findIdx? p = es.findIdx? p := by
  obtain ⟨l⟩ := es
  simp
/-- a pair put whose hash is told -/
theorem put_of {d : Addr} {xs : List (Key × Value)} {k : Key} {u v : Value} {Q : Unit → Shared → Prop} (hu : (mixKind prog w).is k u = true) (M : Dk prog w s.heap d xs) (l : xs.length ≤ sizeLine)
    (q : ∀ g, Dk prog w g d (stored xs k v) → Heap.SameBut d s.heap g → Q () { s with heap := g }) : wpAny (model prog w) A (dictPut d ((mixKind prog w).hash k) u v) Q E s := by
  obtain ⟨ob, es, n, e1, e2, e3, e4, e5, e6⟩ := M
  have ln : es.size = xs.length := by rw [← e5.length, Array.length_toList]
  have ix : (es.findIdx? fun z => (mixKind prog w).is k z.key) = xs.findIdx? fun z => decide (z.1 = k) := by rw [← e5.findIdx k, arr_idx]
  unfold dictPut
  refine wpAny_bind (wpAny_dictFind_of hu e1 e3 e4 ?_)
  rw [ix]
  cases c : xs.findIdx? fun z => decide (z.1 = k) with
  | some i =>
    have yes : stored xs k v = xs.map fun z => if z.1 = k then (z.1, v) else z := if_pos (any_of_findIdx_some c)
    rw [yes] at q
    have pr := e5.modify e6 (by rw [arr_idx, ix, c]) v
    refine wpAny_updateDict e1 e3 (q _ ⟨_, _, n, Heap.get?_update_self _ e1 (Obj.isFreed_of_dict (Obj.data_mapDict e3 _)), e2.mapDict _, Obj.data_mapDict e3 _, e4.modify _ _, ?_, by rw [keys_map_store]; exact e6⟩ (Heap.SameBut.update ..))
    rw [Array.toList_modify]
    exact pr
  | none =>
    have out : k ∉ xs.map (·.1) := not_mem_of_findIdx_none c
    have no : stored xs k v = xs ++ [(k, v)] := if_neg fun z => by
      obtain ⟨y, y1, y2⟩ := List.any_eq_true.mp z
      exact out (List.mem_map.mpr ⟨y, y1, of_decide_eq_true y2⟩)
    rw [no] at q
    refine wpAny_updateDictKeys (hz := ln ▸ l) e1 e3 (q _ ⟨_, _, n + 1, Heap.get?_update_self _ e1 (Obj.isFreed_of_dict (Obj.data_mapDictKeys e3 _)), e2.mapDictKeys _, Obj.data_mapDictKeys e3 _, e4.push hu _, ?_, ?_⟩ (Heap.SameBut.update ..))
    · rw [Array.toList_push]
      exact e5.append hu _ v
    · rw [List.map_append, List.map_singleton]
      exact List.nodup_append.mpr ⟨e6, by simp, fun a ha b hb e => out (by have z := List.mem_singleton.mp hb; rw [z] at e; have e' : a = k := e; rw [← e']; exact ha)⟩
theorem mem_merged {k : Key} : ∀ {ys xs : List (Key × Value)}, k ∈ (merged xs ys).map (·.1) → k ∈ xs.map (·.1) ∨ k ∈ ys.map (·.1)
  | [], xs, h => .inl h
  | y :: r, xs, h => by
    have z : k ∈ (merged (stored xs y.1 y.2) r).map (·.1) := h
    rcases mem_merged z with z | z
    · unfold stored at z
      split at z
      · rw [keys_map_store] at z; exact .inl z
      · rw [List.map_append] at z
        rcases List.mem_append.mp z with z | z
        · exact .inl z
        · exact .inr (by rw [List.map_cons]; rw [List.map_singleton] at z; exact List.mem_cons.mpr (.inl (List.mem_singleton.mp z)))
    · exact .inr (List.mem_cons_of_mem _ z)
theorem take_out {ys : List (Key × Value)} (hn : (ys.map (·.1)).Nodup) {i : Nat} {y : Key × Value} (h : ys[i]? = some y) : y.1 ∉ (ys.take i).map (·.1) := by
  intro z
  obtain ⟨u, u1, u2⟩ := List.mem_map.mp z
  obtain ⟨j, j1⟩ := List.mem_iff_getElem?.mp u1
  rw [List.getElem?_take] at j1
  split at j1
  · rename_i ji
    have a1 : (ys.map (·.1))[j]? = some y.1 := by rw [List.getElem?_map, j1, ← u2]; rfl
    have a2 : (ys.map (·.1))[i]? = some y.1 := by rw [List.getElem?_map, h]; rfl
    obtain ⟨b1, c1⟩ := List.getElem?_eq_some_iff.mp a1
    obtain ⟨b2, c2⟩ := List.getElem?_eq_some_iff.mp a2
    exact List.pairwise_iff_getElem.mp hn j i b1 b2 ji (c1.trans c2.symm)
  · cases j1
/-- looks ahead of what is done either way -/
theorem pre_or {M : Model} {α β γ : Type} {c : Prop} [Decidable c] {p : Sem α} {g : α → Sem β} {t : Sem γ} {Q : γ → Shared → Prop} (h : c → wpAny M A p (fun x s' => ∃ y, (∀ R : β → Shared → Prop, (∀ z, R z s) → wpAny M A (g y) R E s) ∧ x = y ∧ s' = s) E s) (q : wpAny M A t Q E s) :
    wpAny M A (if c then p >>= fun x => g x >>= fun _ => t else t) Q E s := by
  split
  · rename_i hc
    refine wpAny_bind (wpAny_mono (h hc) (fun x s' hx => ?_) fun _ _ e => e)
    obtain ⟨y, hy, rfl, rfl⟩ := hx
    exact wpAny_bind (hy _ fun _ => q)
  · exact q
/-- what a merge of a dict into another one leaves; uni: where no key may stand twice, none of them stands there yet -/
theorem merge_of {d a : Addr} {xs ys : List (Key × Value)} {uni : Bool} {Q : Unit → Shared → Prop} (ne : d ≠ a) (ns : (a == sysModules) = false) (M : Dk prog w s.heap d xs) (N : Dk prog w s.heap a ys) (hu : uni = true → ∀ y ∈ ys, y.1 ∉ xs.map (·.1)) (l : xs.length + ys.length ≤ sizeLine)
    (q : ∀ g, Dk prog w g d (merged xs ys) → Dk prog w g a ys → Heap.SameBut d s.heap g → Q () { s with heap := g }) : wpAny (model prog w) A (mergeMapping d (.ref a) uni) Q E s := by
  obtain ⟨oa, fs, m, f1, f2, f3, f4, f5, f6⟩ := id N
  obtain ⟨od, es, n, e1, e2, e3, e4, e5, e6⟩ := id M
  have ln : fs.size = ys.length := by rw [← f5.length, Array.length_toList]
  have plain : ∀ z ∈ fs, (∃ i t, z.key = .int i t) ∨ ∃ x t, z.key = .str x t := fun z hz => by
    obtain ⟨k, k1, _⟩ := f4 z hz
    rcases keyIs_shape (show keyIs k z.key = true from k1) with ⟨i, t, _, e⟩ | ⟨x, t, _, e⟩
    · exact .inl ⟨i, t, e⟩
    · exact .inr ⟨x, t, e⟩
  unfold mergeMapping
  refine wpAny_bind (m := isInstance (.ref a) (.type "dict")) (wpAny_isInstance N.typeIs isSubtype_dict_dict ?_)
  rw [if_pos rfl]
  refine wpAny_bind (m := specialOf (.ref a) "__iter__") (wpAny_specialOf N.typeIs PySem.F.slot_dict_iter.lookup ?_)
  rw [beq_self_eq_true]
  refine wpAny_bind (wpAny_pure ?_)
  dsimp only
  rw [if_neg (show ¬ (a == sysModules) = true by rw [ns]; exact Bool.false_ne_true)]
  refine wpAny_bind (wpAny_dictEntries e1 e3 (pre_or (fun _ => wpAny_dictEntries f1 f3 ⟨fs, ?_, rfl, rfl⟩) ?_))
  · intro R hR
    rw [← Array.forIn_toList]
    refine wpAny_forIn_list _ (fun rest _ s' => s' = s ∧ ∀ z ∈ rest, z ∈ fs) _ ?_ ?_ _ _ ⟨rfl, fun z hz => Array.mem_toList_iff.mp hz⟩
    · rintro ⟨hh, kk, vv⟩ rest b s' ⟨rfl, hr⟩
      rcases plain _ (hr _ List.mem_cons_self) with ⟨i, t, e⟩ | ⟨x, t, e⟩
      · have e : kk = .int i t := e
        subst e
        exact wpAny_pure ⟨rfl, fun z hz => hr z (List.mem_cons_of_mem _ hz)⟩
      · have e : kk = .str x t := e
        subst e
        exact wpAny_pure ⟨rfl, fun z hz => hr z (List.mem_cons_of_mem _ hz)⟩
    · rintro b s' ⟨rfl, _⟩
      exact hR b
  · refine wpAny_bind (wpAny_dictEntries f1 f3 (wpAny_bind (wpAny_dictEpoch f1 f3 (wpAny_bind ?_))))
    rw [List.range_eq_range']
    refine wpAny_forIn_list _ (fun rest _ s' => ∃ g i, s' = { s with heap := g } ∧ rest = List.range' i (fs.size - i) ∧ i ≤ fs.size ∧ Dk prog w g d (merged xs (ys.take i)) ∧ g.get? a = some oa ∧ Heap.SameBut d s.heap g) _ ?_ ?_ _ _
      ⟨s.heap, 0, rfl, rfl, Nat.zero_le _, M, f1, Heap.SameBut.refl _ _⟩
    · rintro j rest b s' ⟨g, i, rfl, hr, hi, hd, ha, hs⟩
      have lt : i < fs.size := by
        apply Nat.lt_of_not_le
        intro z
        rw [Nat.sub_eq_zero_of_le z] at hr
        cases hr
      obtain ⟨rfl, rfl⟩ : j = i ∧ rest = List.range' (i + 1) (fs.size - (i + 1)) := by
        rw [show fs.size - i = fs.size - (i + 1) + 1 by omega, List.range'_succ] at hr
        exact List.cons.inj hr
      obtain ⟨y, hy⟩ : ∃ y, ys[j]? = some y := ⟨_, List.getElem?_eq_getElem (by rw [← ln]; exact lt)⟩
      obtain ⟨p1, p2⟩ := f5.get? (e := fs[j]) (by simp [lt]) hy
      obtain ⟨k', p3, p4⟩ := f4 fs[j] (Array.getElem_mem lt)
      obtain rfl : k' = y.1 := (mixKind prog w).inj _ _ _ p3 p1
      have room : (merged xs (ys.take j)).length ≤ sizeLine := by
        have z := merged_length_le xs (ys.take j)
        rw [List.length_take] at z
        omega
      have step : merged xs (ys.take (j + 1)) = stored (merged xs (ys.take j)) y.1 y.2 := merged_take_succ xs ys j y hy
      have put : wpAny (model prog w) A (dictPut d fs[j].hash fs[j].key fs[j].val) (fun _ s' => ∃ g', s' = { s with heap := g' } ∧ Dk prog w g' d (merged xs (ys.take (j + 1))) ∧ g'.get? a = some oa ∧ Heap.SameBut d s.heap g') E { s with heap := g } := by
        rw [p4, p2]
        exact put_of (s := { s with heap := g }) p1 hd room fun g' h1 h2 => ⟨g', rfl, by rw [step]; exact h1, (h2.2 a (Ne.symm ne)).trans ha, hs.trans h2⟩
      refine wpAny_bind (wpAny_dictEntries (s := { s with heap := g }) ha f3 ?_)
      rw [Array.getElem?_eq_getElem lt]
      refine wpAny_bind (wpAny_holding ?_)
      have both : ∀ {R : Unit → Shared → Prop}, (∀ g', Dk prog w g' d (merged xs (ys.take (j + 1))) → g'.get? a = some oa → Heap.SameBut d s.heap g' → R () { s with heap := g' }) → wpAny (model prog w) A (dictPut d fs[j].hash fs[j].key fs[j].val) R E { s with heap := g } := fun hR =>
        wpAny_mono put (fun _ s' ⟨g', e, h1, h2, h3⟩ => by rw [e]; exact hR g' h1 h2 h3) fun _ _ e => e
      cases uni with
      | false =>
        refine both fun g' h1 h2 h3 => ?_
        refine wpAny_bind (wpAny_dictEpoch (s := { s with heap := g' }) h2 f3 ?_)
        rw [if_neg (show ¬ (m != m) = true by simp)]
        exact wpAny_pure ⟨g', j + 1, rfl, rfl, lt, h1, h2, h3⟩
      | true =>
        obtain ⟨_, es', n', q1, q2, q3, q4, q5, q6⟩ := id hd
        have out : y.1 ∉ (merged xs (ys.take j)).map (·.1) := fun z => by
          rcases mem_merged z with z | z
          · exact hu rfl y (List.mem_of_getElem? hy) z
          · exact take_out f6 hy z
        have nofind : (es'.findIdx? fun z => (mixKind prog w).is y.1 z.key) = none := by
          rw [← arr_idx, q5.findIdx y.1, List.findIdx?_eq_none_iff]
          exact fun z hz => decide_eq_false fun e => out (List.mem_map.mpr ⟨z, hz, e⟩)
        have fnd : wpAny (model prog w) A (dictFind d fs[j].key fs[j].hash) (fun r s' => r = none ∧ s' = { s with heap := g }) E { s with heap := g } := by
          rw [p4]
          exact wpAny_dictFind_of (s := { s with heap := g }) p1 q1 q3 q4 (by rw [nofind]; exact ⟨rfl, rfl⟩)
        refine wpAny_bind (wpAny_mono fnd (fun r s' hr => ?_) fun _ _ e => e)
        obtain ⟨rfl, rfl⟩ := hr
        refine both fun g' h1 h2 h3 => ?_
        refine wpAny_bind (wpAny_dictEpoch (s := { s with heap := g' }) h2 f3 ?_)
        rw [if_neg (show ¬ (m != m) = true by simp)]
        exact wpAny_pure ⟨g', j + 1, rfl, rfl, lt, h1, h2, h3⟩
    · rintro b s' ⟨g, i, rfl, hr, hi, hd, ha, hs⟩
      have e : i = fs.size := by
        apply Nat.le_antisymm hi
        apply Nat.le_of_not_lt
        intro z
        rw [show fs.size - i = fs.size - (i + 1) + 1 by omega, List.range'_succ] at hr
        cases hr
      rw [e, ln, List.take_length] at hd
      exact wpAny_pure (q g hd ⟨oa, fs, m, ha, f2, f3, f4, f5, f6⟩ hs)
/-- the entries of a dict with texts as keys, as keywords -/
theorem kws_in {f : Value} {d : Addr} {kw : List (Str × Value)} {Q : List (Str × Value) → Shared → Prop} (M : Dk prog w s.heap d (kw.map fun p => (Sum.inr p.1, p.2))) (q : Q kw s) : wpAny (model prog w) A (keywordsIn f d) Q E s := by
  obtain ⟨ob, es, n, e1, e2, e3, e4, e5, e6⟩ := M
  unfold keywordsIn
  refine wpAny_bind (wpAny_dictEntries e1 e3 ?_)
  rw [← Array.forIn_toList]
  refine wpAny_bind (wpAny_forIn_list _ (fun rest acc s' => s' = s ∧ ∃ more, acc ++ more = kw ∧ Pairs (mixKind prog w) rest (more.map fun p => (Sum.inr p.1, p.2))) _ ?_ ?_ _ _ ⟨rfl, kw, List.nil_append _, e5⟩)
  · rintro z rest acc s' ⟨rfl, more, h1, h2⟩
    cases more with
    | nil => cases h2
    | cons p r =>
      obtain ⟨hh, kk, vv⟩ := z
      cases h2 with
      | cons y1 y2 y3 =>
        rcases keyIs_shape (show keyIs (Sum.inr p.1) kk = true from y1) with ⟨_, _, e, _⟩ | ⟨x, t, e, rfl⟩
        · cases e
        · cases (Sum.inr.inj e)
          have y2 : vv = p.2 := y2
          subst y2
          exact wpAny_pure ⟨rfl, r, by rw [List.append_assoc]; exact h1, y3⟩
  · rintro acc s' ⟨rfl, more, h1, h2⟩
    cases more with
    | nil => rw [List.append_nil] at h1; subst h1; exact wpAny_pure q
    | cons p r => cases h2
/-- f(**x): the keywords that the call hands on -/
theorem mkw_of {f : Value} {x : Sem Value} {Q : Addr → Shared → Prop} (h : wpAny (model prog w) A x (fun v s1 => ∃ a ys, v = .ref a ∧ (a == sysModules) = false ∧ s.heap.objs.size ≠ a ∧ Dk prog w s1.heap s.heap.objs.size [] ∧ Dk prog w s1.heap a ys ∧ ys.length ≤ sizeLine ∧
      ∀ g, Dk prog w g s.heap.objs.size ys → Heap.SameBut s.heap.objs.size s1.heap g → Q s.heap.objs.size { s1 with heap := g }) E { s with heap := s.heap.push { cls := .type "dict", data := .dict #[] } }) :
    wpAny (model prog w) A (mergedKeywords f [(none, x)]) Q E s := by
  unfold mergedKeywords
  refine wpAny_bind (wpAny_alloc (wpAny_bind (wpAny_holding ?_)))
  dsimp only
  rw [List.forIn_cons]
  refine wpAny_bind (wpAny_bind ?_)
  dsimp only
  rw [if_pos (show (List.nil : List (Str × Sem Value)).isEmpty = true from rfl)]
  refine wpAny_bind (wpAny_pure ?_)
  refine wpAny_bind (wpAny_mono h (fun v s1 hv => ?_) fun _ _ e => e)
  obtain ⟨a, ys, rfl, h1, h2, h3, h4, h5, hq⟩ := hv
  obtain ⟨_, fs, _, _, _, _, _, f5, _⟩ := id h4
  refine wpAny_bind (wpAny_onRaise (wpAny_holding (wpAny_tryCatch (wpAny_onRaise (merge_of h2 h1 h3 h4 (fun _ y _ z => by cases z) (by rw [List.length_nil]; omega) fun g g1 g2 g3 => ?_)))))
  refine wpAny_pure ?_
  dsimp only
  rw [List.forIn_nil]
  refine wpAny_pure ?_
  rw [if_pos (show (List.nil : List (Str × Sem Value)).isEmpty = true from rfl)]
  refine wpAny_pure (wpAny_pure ?_)
  rw [merged_nil_of_nodup ys (by obtain ⟨_, _, _, _, _, _, _, _, z⟩ := h4; exact z)] at g1
  exact hq g g1 g3
theorem forIn_kw {sl : List (Str × Value)} (f : Str × Value → List (Str × Value) × List (Str × Value) → Sem (ForInStep (List (Str × Value) × List (Str × Value)))) : ∀ (kw ex : List (Str × Value)), (∀ p ∈ kw, ∀ ex, f p (sl, ex) = pure (.yield (sl, ex ++ [p]))) →
    forIn kw (sl, ex) f = pure (sl, ex ++ kw)
  | [], ex, _ => by rw [List.forIn_nil, List.append_nil]
  | p :: r, ex, h => by
    have z := forIn_kw (sl := sl) f r (ex ++ [p]) fun q hq => h q (List.mem_cons_of_mem _ hq)
    rw [List.append_assoc] at z
    rw [List.forIn_cons, h p List.mem_cons_self ex, pure_bind]
    exact z
/-- the binding of a def with one name and **keywords -/
theorem bind_kw {fd : FuncData} {u : Value} {kw : List (Str × Value)} {nm : Str} {ar : Arg} (h1 : fd.params.posonlyargs = []) (h2 : fd.params.args.map (·.arg) = [nm]) (h3 : fd.params.kwonlyargs = []) (h4 : fd.params.vararg = none) (h5 : fd.params.kwarg = some ar) (h6 : fd.defaults = .none)
    (hk : ∀ p ∈ kw, p.1 ≠ nm) (hz : kw.length ≤ sizeLine + 1) :
    bindArgs fd ⟨[u], kw⟩ = (do
      let d ← alloc { cls := .type "dict", data := .dict #[] }
      let _ ← forIn kw PUnit.unit fun p _ => (do nsSet d p.1 p.2; pure (ForInStep.yield PUnit.unit) : Sem (ForInStep PUnit))
      pure [(nm, u), (ar.arg, Value.ref d)]) := by
  unfold bindArgs
  simp only [h1, h2, h3, h4, h5, h6, List.map_nil, List.nil_append]
  rw [forIn_kw _ kw [] fun p hp ex => by
    rw [if_neg (by simpa using hk p hp)]
    rfl]
  rw [pure_bind, show seqItems? Value.none = pure Option.none from rfl, pure_bind]
  have lk : List.lookup nm [(nm, u)] = some u := by simp [List.lookup]
  have big : ¬ kw.length > sizeLine + 1 := by omega
  simp [lk, big]
theorem eargs_of {f : Value} {x : Sem Value} {Q : Args → Shared → Prop} (h : wpAny (model prog w) A (mergedKeywords f [(none, x)]) (fun d s1 => wpAny (model prog w) A (keywordsIn f d) (fun kw s2 => Q ⟨[], kw⟩ s2) E s1) E s) :
    wpAny (model prog w) A (evalArgs f true [] [(none, x)]) Q E s := by
  unfold evalArgs
  refine wpAny_bind (m := spliced []) (wpAny_pure ?_)
  refine wpAny_bind (wpAny_pure ?_)
  refine wpAny_holding ?_
  dsimp only
  rw [if_neg (show ¬ ([((none : Option Str), x)].all (·.1.isSome)) = true by simp)]
  refine wpAny_bind (wpAny_mono h (fun d s1 h1 => ?_) fun _ _ e => e)
  refine wpAny_bind (wpAny_pure ?_)
  exact wpAny_bind (wpAny_holding (wpAny_mono h1 (fun kw s2 h2 => wpAny_pure h2) fun _ _ e => e))
theorem call_dstar {K : PySem.W.Frag} {f : Value} {pos kp : Pos} {env : Env} {e : Expr} {Q : Value → Shared → Prop} (hk : keepIn K f = true)
    (h : wpAny (model prog w) A (evalArgs f true [] [(none, do let v ← eval e env; standAt pos; pure v)]) (fun z s1 => K.In s1.heap ∧ wpAny (model prog w) A (call f z.pos z.kw) Q E s1) E s) :
    wpAny (model prog w) A (callWith pos f [] (backTo pos (starEach [] env)) (backToKw pos (keywordEach [⟨none, e, kp⟩] env))) Q E s := by
  unfold callWith
  refine wpAny_bind (wpAny_holding (wpAny_mono h (fun z s1 h1 => wpAny_bind (wpAny_standAt ?_)) fun _ _ e => e))
  have st : ((backTo pos (starEach [] env)).any (·.1) || (backToKw pos (keywordEach [⟨none, e, kp⟩] env)).any (·.1.isNone)) = true := rfl
  obtain ⟨kk, hkk, L⟩ := keeps_K (M := model prog w) hk _ h1.1
  have tail : ∀ {t : Sem Value}, wpAny (model prog w) A t Q E s1 → wpAny (model prog w) A (t >>= fun r => holding [r] point >>= fun _ => pure r) Q E s1 :=
    fun ht => wpAny_bind (wpAny_mono ht (fun r s2 hr => wpAny_bind (wpAny_holding (wpAny_point (wpAny_pure hr)))) fun _ _ e => e)
  refine wpAny_bind (L.here ?_)
  rw [st]
  have marked : ∀ mk : Value, wpAny (model prog w) A (callMarked mk f ([] ++ z.pos) z.kw) Q E s1 := fun mk => by
    unfold callMarked
    exact wpAny_keep h1.2
  rcases hkk with rfl | rfl | rfl
  · exact tail (marked _)
  · exact tail (wpAny_operating h1.2)
  · exact tail (wpAny_operating h1.2)
theorem pairs_at {z : DictEntry} : ∀ {l : List DictEntry} {ys : List (Key × Value)}, Pairs (mixKind prog w) l ys → z ∈ l → ∃ y ∈ ys, (mixKind prog w).is y.1 z.key = true
  | _, _, .nil, h => by cases h
  | _, _, .cons a b r, h => by
    rcases List.mem_cons.mp h with rfl | h
    · exact ⟨_, List.mem_cons_self, a⟩
    · obtain ⟨y, y1, y2⟩ := pairs_at r h
      exact ⟨y, List.mem_cons_of_mem _ y1, y2⟩
/-- one name more in a dict of names -/
theorem ns_put {d : Addr} {xs : List (Str × Value)} {k : Str} {v : Value} {Q : Unit → Shared → Prop} (M : Dk prog w s.heap d (xs.map fun p => (Sum.inr p.1, p.2))) (out : k ∉ xs.map (·.1))
    (q : ∀ g, Dk prog w g d ((xs ++ [(k, v)]).map fun p => (Sum.inr p.1, p.2)) → Heap.SameBut d s.heap g → Q () { s with heap := g, toks := s.toks + 1 }) : wpAny (model prog w) A (nsSet d k v) Q E s := by
  obtain ⟨⟨c, dd, dt, sl⟩, es, n, e1, e2, e3, e4, e5, e6⟩ := M
  have e3 : dt = .dict es n := e3
  subst e3
  have keys : ∀ z ∈ es, ∃ x t, z.key = .str x t ∧ x ≠ k := fun z hz => by
    obtain ⟨y, hy, is⟩ := pairs_at e5 (Array.mem_toList_iff.mpr hz)
    obtain ⟨p, hp, rfl⟩ := List.mem_map.mp hy
    rcases keyIs_shape (show keyIs (Sum.inr p.1) z.key = true from is) with ⟨_, _, e, _⟩ | ⟨x, t, e, e'⟩
    · cases e
    · cases Sum.inr.inj e
      exact ⟨p.1, t, e', fun e => out (List.mem_map.mpr ⟨p, hp, e⟩)⟩
  have notk : ∀ z ∈ es, z.key.isStr k = false := fun z hz => by
    obtain ⟨x, t, e, ne⟩ := keys z hz
    rw [e]
    exact beq_eq_false_iff_ne.mpr ne
  have none1 : (es.findIdx? fun z => z.key.isStr k) = none := by
    rw [← arr_idx, List.findIdx?_eq_none_iff]
    exact fun z hz => notk z (Array.mem_toList_iff.mp hz)
  have c0 : aRefKeyMayBeTheName k es = false := by
    rw [aRefKeyMayBeTheName_at]
    have : (es.any (·.refKey)) = false := by
      rw [← Array.any_toList, List.any_eq_false]
      intro z hz
      obtain ⟨x, t, e, _⟩ := keys z (Array.mem_toList_iff.mp hz)
      rw [show z.refKey = false by unfold DictEntry.refKey; rw [e]]
      exact Bool.false_ne_true
    rw [this, Bool.and_false]
  unfold nsSet
  refine wpAny_bind (wpAny_bind (wpAny_askSetting (wpAny_pure (wpAny_bind (wpAny_mkText (wpAny_bind (wpAny_loadPart e1 ?_)))))))
  dsimp only
  rw [c0, if_neg Bool.false_ne_true]
  refine wpAny_updatePart e1 (q _ ⟨_, es.push ⟨(mixKind prog w).hash (Sum.inr k), .str k s.toks, v⟩, n + 1, Heap.get?_update_self _ e1 (by simp only [Obj.putName_eq, Obj.putNameByArray, none1]; rfl), ?_, ?_, e4.push (mixKind_str prog w k s.toks) _, ?_, ?_⟩ (Heap.SameBut.update ..))
  · simp only [Obj.putName_eq, Obj.putNameByArray, none1]
    exact e2
  · simp only [Obj.putName_eq, Obj.putNameByArray, none1]
    rfl
  · rw [Array.toList_push, List.map_append]
    exact e5.append (mixKind_str prog w k s.toks) _ v
  · rw [List.map_append, List.map_append]
    refine List.nodup_append.mpr ⟨e6, by simp, fun a ha b hb e => ?_⟩
    have hb : b = Sum.inr k := List.mem_singleton.mp hb
    subst hb
    rw [List.map_map] at ha
    obtain ⟨p, hp, e'⟩ := List.mem_map.mp ha
    have e' : Sum.inr p.1 = a := e'
    rw [e] at e'
    exact out (List.mem_map.mpr ⟨p, hp, Sum.inr.inj e'⟩)
theorem ns_fill {d : Addr} {Q : PUnit → Shared → Prop} : ∀ (kw xs : List (Str × Value)) (s : Shared), Dk prog w s.heap d (xs.map fun p => (Sum.inr p.1, p.2)) → ((xs ++ kw).map (·.1)).Nodup →
    (∀ g tk, Dk prog w g d ((xs ++ kw).map fun p => (Sum.inr p.1, p.2)) → Heap.SameBut d s.heap g → Q PUnit.unit { s with heap := g, toks := tk }) →
    wpAny (model prog w) A (forIn kw PUnit.unit fun p _ => (do nsSet d p.1 p.2; pure (ForInStep.yield PUnit.unit) : Sem (ForInStep PUnit))) Q E s
  | [], xs, s, M, _, q => by
    rw [List.forIn_nil]
    rw [List.append_nil] at q
    exact wpAny_pure (q s.heap s.toks M (Heap.SameBut.refl _ _))
  | p :: r, xs, s, M, nd, q => by
    rw [List.forIn_cons]
    have out : p.1 ∉ xs.map (·.1) := fun z => by
      rw [List.map_append, List.nodup_append] at nd
      exact nd.2.2 _ z _ (by rw [List.map_cons]; exact List.mem_cons_self) rfl
    refine wpAny_bind (wpAny_bind (ns_put M out fun g g1 g2 => wpAny_pure ?_))
    refine ns_fill r (xs ++ [(p.1, p.2)]) { s with heap := g, toks := s.toks + 1 } g1 (by rw [List.append_assoc]; exact nd) fun g' tk h1 h2 => ?_
    exact q g' tk (by rw [List.append_assoc] at h1; exact h1) (g2.trans h2)
end
end Lw.Md
namespace Lw
open PySem PySem.Spec PyProof.Rows L2 StX
/-! ### a def (self, **d) -/
abbrev KwR (ks : List (Str × V)) (kw : List (Str × Value)) : Prop := Paired (fun p q => p.1 = q.1 ∧ RelV p.2 q.2) ks kw
abbrev SpK := V → List (Str × V) → Hp → VK → XK → Prop
/-- the pairs of a dict with texts as keys -/
abbrev dkOf (ks : List (Str × V)) : List (L2.Key × V) := ks.map fun p => (Sum.inr p.1, p.2)
theorem KwR.names : ∀ {ks : List (Str × V)} {kw : List (Str × Value)}, KwR ks kw → ks.map (·.1) = kw.map (·.1)
  | _, _, .nil => rfl
  | _, _, .cons a r => by rw [List.map_cons, List.map_cons, a.1, KwR.names r]
theorem KwR.kv : ∀ {ks : List (Str × V)} {kw : List (Str × Value)}, KwR ks kw → KV (dkOf ks) (kw.map fun p => ((Sum.inr p.1 : L2.Key), p.2))
  | _, _, .nil => .nil
  | _, _, .cons a r => .cons ⟨congrArg Sum.inr a.1, a.2⟩ (KwR.kv r)
def FnKw (P : Program) (w : World) (K : PySem.W.Frag) (mg : Str → Option Value) (base : Heap) (CX : CXT) (k : Nat) (f : Addr) (sp : SpK) : Prop := ∀ (A : Around) (outer : List Env) (s : Shared) (H : Hp) (u : Value) (kw : List (Str × Value)) (x : V) (ks : List (Str × V)) (Q : VK) (E : XK),
  Room k A → Env0 P w K mg base A outer s H → RelV x u → KwR ks kw → (ks.map (·.1)).Nodup → sp x ks H Q E → codeAny (model P w) A (.call (.ref f) ⟨[u], kw⟩) (CR CX outer P w H s Q E) s
section
variable {CX : CXT} {P : Program} {w : World} {K : PySem.W.Frag} {mg : Str → Option Value} {base : Heap} {k : Nat} {f : Addr} {name qual : Str} {params : Arguments} {body : List Stmt} {scope : Scope} {dV kV doc pm cdv ct oc : Value} {an od : Option Addr}
  {osl : Array (Option Value)} {N : List Str} {sp : SpK} {nm dn : Str}
theorem env0_more {A : Around} {outer : List Env} {s : Shared} {H : Hp} {g : Heap} {tk : Nat} {u : HO} (e0 : Env0 P w K mg base A outer s H) (kp : ∀ b x, s.heap.get? b = some x → g.get? b = some x) (new : ObjOk P w (upd H s.heap.objs.size u) g s.heap.objs.size u) (there : ∃ o, g.get? s.heap.objs.size = some o) :
    Env0 P w K mg base A outer { s with heap := g, toks := tk } (upd H s.heap.objs.size u) := by
  have sz : s.heap.objs.size ≤ g.objs.size := by
    obtain ⟨o, ho⟩ := there
    exact Nat.le_of_lt (Heap.lt_size ho)
  refine ⟨e0.frames, e0.mod, fun b x e => ⟨kp b x (e0.bs b x e).1, ?_⟩, Nat.le_trans e0.bsz sz, Heap.FunFrames.of_keeps (fun b x e _ => ⟨x, kp b x e, rfl⟩) e0.funs, fun b hb => ?_, e0.hok.laid kp (Nat.le_refl _) new, e0.bare⟩
  · rw [upd_ne (Nat.ne_of_lt (Heap.lt_size (e0.bs b x e).1))]
    exact (e0.bs b x e).2
  · obtain ⟨_, x, hx, _⟩ := e0.funs.mem hb
    rw [upd_ne (Nat.ne_of_lt (Heap.lt_size hx))]
    exact e0.frf b hb
theorem fn_kw {ar : Arg} (lk : K.lookup f = some ⟨oc, od, .func (PySem.W.fnOf name qual params body scope dV kV doc pm an cdv ct), osl⟩) (hcd : PySem.W.codeIn K cdv qual = true) (S : FnScope N [nm, ar.arg] scope) (hCX : CXUp CX)
    (h1 : params.posonlyargs = []) (h2 : params.args.map (·.arg) = [nm]) (h3 : params.kwonlyargs = []) (h4 : params.vararg = none) (h5 : params.kwarg = some ar) (h6 : dV = .none) (hk : ∀ x ks H Q E, sp x ks H Q E → (∀ p ∈ ks, p.1 ≠ nm) ∧ ks.length ≤ sizeLine)
    (hbody : ∀ (A : Around) (outer : List Env) (s : Shared) (H : Hp) (x : V) (d : Addr) (ks : List (Str × V)) (Q : VK) (E : XK), Room k (A.deeper (envOfC qual scope s.heap.objs.size f cdv)) → H d = none → (ks.map (·.1)).Nodup → sp x ks H Q E →
      ∃ t, PSs (cxOf CX P w K mg base N qual scope f cdv A outer s (upd H d (.dK (dkOf ks))) E) body t ∧ t { nx := fun _ H' => Q .non H', rt := Q } (start N [x, .ref d]) (upd H d (.dK (dkOf ks)))) : FnKw P w K mg base CX (k + 1) f sp := by
  intro A outer s H u kw x ks Q E hr e0 rx rk nd hsp
  obtain ⟨hnm, hz⟩ := hk _ _ _ _ _ hsp
  have hn : H s.heap.objs.size = Option.none := e0.hok.fresh (Nat.le_refl _)
  have lk2 : kw.length = ks.length := by have z := congrArg List.length rk.names; rw [List.length_map, List.length_map] at z; exact z.symm
  refine run_bnd lk hcd S hr e0 (G := fun xs H2 => ∃ d, H d = none ∧ xs = [x, V.ref d] ∧ H2 = upd H d (.dK (dkOf ks))) (fun A' Ex Q' h => ?_) fun s2 H2 xs ⟨d, hd, ex, eH⟩ hr' => ?_
  · rw [Md.bind_kw (nm := nm) (ar := ar) h1 h2 h3 h4 h5 h6 (fun p hp => ?_) (by omega)]
    · refine wpAny_bind (wpAny_alloc (wpAny_bind (Md.ns_fill kw [] _ (Heap.DictOf.new _) (by rw [List.nil_append, ← rk.names]; exact nd) fun g tk g1 g2 => wpAny_pure ?_)))
      have kp : ∀ b o, s.heap.get? b = some o → g.get? b = some o := fun b o e => (g2.2 b (Nat.ne_of_lt (Heap.lt_size e))).trans (Heap.get?_push_of_some _ e)
      have new : ObjOk P w (upd H s.heap.objs.size (.dK (dkOf ks))) g s.heap.objs.size (.dK (dkOf ks)) := ⟨by rw [List.length_map]; exact hz, beq_eq_false_iff_ne.mpr (Nat.ne_of_gt (env0_big e0)), _, rk.kv, g1⟩
      have un : Un (frs outer) [] H (upd H s.heap.objs.size (.dK (dkOf ks))) s.heap g := Un.laid kp (Nat.le_refl _) hn
      have z := h _ _ [x, V.ref s.heap.objs.size] [u, Value.ref s.heap.objs.size] (env0_more (tk := tk) e0 kp new (by obtain ⟨o, _, _, ho, _⟩ := g1; exact ⟨o, ho⟩)) un rfl (fun e s' => hCX outer s H _ _ E e s' un kp rfl) (.cons rx (.cons rfl .nil)) rfl ⟨_, hn, rfl, rfl⟩
      exact z
    · obtain ⟨q, hq, e⟩ : ∃ q ∈ ks, q.1 = p.1 := by
        have z : p.1 ∈ ks.map (·.1) := by rw [rk.names]; exact List.mem_map_of_mem hp
        obtain ⟨q, hq, e⟩ := List.mem_map.mp z
        exact ⟨q, hq, e⟩
      rw [← e]
      exact hnm q hq
  · subst ex eH
    exact hbody A outer s2 H x d ks Q E hr' hd nd hsp
end
/-! ### C(**d), C(a = e, ..), C() -/
section
variable {X : Cx} {CX : CXT} {k : Nat} {f C : Addr} {sp : SpK} {E : XK} {x : Str} {p pos kp : Pos} {e : Expr} {te : TE}
def MakK (C : Addr) (sp : SpK) (E : XK) (ks : List (Str × V)) (H : Hp) (Q : VK) : Prop := ∀ x dx, H x = none → H dx = none → dx ≠ x → sp (V.ref x) ks (upd (upd H dx (.own x)) x (.ins C dx [])) (fun v H2 => v = .non ∧ Q (.ref x) H2) E
theorem run_makeK {pins : List (Addr × Obj)} {σ : L2.St} {H : Hp} {s : Shared} {Q : VK} {kw : List (Str × Value)} {ks : List (Str × V)} (M : Mk X.K C f) (F : FnKw X.prog X.w X.K X.mg X.base CX k f sp) (hr : Room (k + 1) X.A) (hx : Passes CX X E) (I : Inv X pins σ H s) (r : KwR ks kw)
    (nd : (ks.map (·.1)).Nodup) (h : MakK C sp E ks H Q) : wpAny (model X.prog X.w) X.A (call (.ref C) [] kw) (EP X pins σ Q) X.xe s := by
  have hq := h (s.heap.objs.size + 1) s.heap.objs.size (I.hok.fresh (Nat.le_succ _)) (I.hok.fresh (Nat.le_refl _)) (Nat.ne_of_lt (Nat.lt_succ_self _))
  have I2 := Inv.made (C := C) I
  refine wpAny_call (make_map (f := f) I.kIn M.makes M.init (beq_iff_eq.mp M.fn) (codeAny_mono (F _ X.stack _ _ (Value.ref (s.heap.objs.size + 1)) kw (V.ref (s.heap.objs.size + 1)) ks _ E (hr.make C [] kw) (I2.env0.make C [] kw) rfl r nd hq) fun z s' hz => ?_))
  cases z with
  | error e => exact hx pins σ _ _ e s' I2 hz
  | ok fl =>
    cases fl with
    | ret u =>
      obtain ⟨v, H', I3, rv, rfl, q3⟩ := I2.after hz
      exact ⟨rv, ⟨V.ref (s.heap.objs.size + 1), H', I3, rfl, q3⟩⟩
    | next => exact False.elim hz
    | brk => exact False.elim hz
    | cont => exact False.elim hz
/-- C(**e) -/
def tMakeKD (C : Addr) (sp : SpK) (E : XK) (te : TE) : TE := fun σ H Q => ∀ D, H D = none → te σ (upd H D (.dK [])) fun y H1 => ∃ (a : Addr) (ks : List (Str × V)), y = .ref a ∧ H1 D = some (.dK []) ∧ D ≠ a ∧ H1 a = some (.dK (dkOf ks)) ∧ MakK C sp E ks (upd H1 D (.dK (dkOf ks))) Q
theorem dk_names {pins : List (Addr × Obj)} {σ : L2.St} {H : Hp} {s : Shared} {a : Addr} {ks : List (Str × V)} (I : Inv X pins σ H s) (h : H a = some (.dK (dkOf ks))) : ∃ kw : List (Str × Value), KwR ks kw ∧ (ks.map (·.1)).Nodup ∧ Md.Dk X.prog X.w s.heap a (kw.map fun p => (Sum.inr p.1, p.2)) ∧ kw.length ≤ sizeLine ∧ (a == sysModules) = false := by
  obtain ⟨z, lo, vs, rel, dd⟩ := dk_of I.hok h
  have go : ∀ {ks : List (Str × V)} {vs : List (L2.Key × Value)}, KV (dkOf ks) vs → ∃ kw : List (Str × Value), KwR ks kw ∧ vs = kw.map fun p => (Sum.inr p.1, p.2) := by
    intro ks
    induction ks with
    | nil => intro vs r; cases r; exact ⟨[], .nil, rfl⟩
    | cons p r ih =>
      intro vs rr
      cases rr with
      | @cons _ q _ qs a b =>
        obtain ⟨kw, h1, rfl⟩ := ih b
        obtain ⟨q1, q2⟩ := q
        obtain ⟨a1, a2⟩ := a
        have a1 : Sum.inr p.1 = q1 := a1
        subst a1
        exact ⟨(p.1, q2) :: kw, .cons ⟨rfl, a2⟩ h1, rfl⟩
  obtain ⟨kw, h1, rfl⟩ := go rel
  refine ⟨kw, h1, ?_, dd, ?_, lo⟩
  · obtain ⟨_, _, _, _, _, _, _, _, nd⟩ := dd
    rw [h1.names]
    rw [List.map_map] at nd
    exact List.Pairwise.of_map (S := (· ≠ ·)) (f := fun z : Str => (Sum.inr z : L2.Key)) (fun a b n e => n (congrArg Sum.inr e)) (by rw [List.map_map]; exact nd)
  · have e := congrArg List.length h1.names
    rw [List.length_map, List.length_map] at e
    rw [List.length_map] at z
    omega
theorem pe_makeKD (M : Mk X.K C f) (F : FnKw X.prog X.w X.K X.mg X.base CX k f sp) (hr : Room (k + 1) X.A) (hg : Gl X x) (hm : X.mg x = some (.ref C)) (hx : Passes CX X E) (he : PE X e te) (hdb : (x == ("__debug__" : Str)) = false := by decide) :
    PE X (.Call (.Name x p) [] [⟨none, e, kp⟩] pos) (tMakeKD C sp E te) := by
  refine ⟨fun pins s σ H Q I h => ?_⟩
  refine wpAny_Call_Name_kw (ld_glob I hg hm ?_ hdb)
  refine Md.call_dstar (K := X.K) M.kp (Md.eargs_of (Md.mkw_of ?_))
  have hn := I.hok.fresh (Nat.le_refl s.heap.objs.size)
  have I1 := I.laid (a := s.heap.objs.size) (o := .dK []) (h' := s.heap.push { cls := .type "dict", data := .dict #[] }) (t' := s.toks) (fun _ _ q => Heap.get?_push_of_some _ q) (Nat.le_refl _) (dk_empty s.heap I.big)
  refine wpAny_bind (thn (he.run pins _ σ _ _ I1 (h _ hn)) fun v s2 ⟨y, H2, I2, ry, a, ks, ey, eD, ne, ea, q⟩ => wpAny_bind (wpAny_standAt (wpAny_pure ?_)))
  subst ey
  cases (show v = Value.ref a from ry)
  obtain ⟨kw, rk, nd, dd, lz, lo⟩ := dk_names I2 ea
  obtain ⟨_, hD, vs0, r0, d0⟩ := dk_of I2.hok eD
  cases r0
  refine ⟨a, _, rfl, lo, ne, d0, dd, by rw [List.length_map]; exact lz, fun g g1 g2 => ?_⟩
  have I3 : Inv X pins σ (upd H2 s.heap.objs.size (.dK (dkOf ks))) { s2 with heap := g } := d_write (t' := s2.toks) I2 (by rw [eD]; exact True.intro) g2 (by obtain ⟨o, _, _, ho, _⟩ := g1; exact ⟨o, ho⟩) ⟨by rw [List.length_map]; have e := congrArg List.length rk.names; rw [List.length_map, List.length_map] at e; omega, hD, _, rk.kv, g1⟩
  exact Md.kws_in g1 ⟨I3.kIn, run_makeK M F hr hx I3 rk nd q⟩
/-- C(a = e, ..), C() -/
def tMakeKN (C : Addr) (sp : SpK) (E : XK) (ks : List Str) (t : TA) : TE := fun σ H Q => t σ H fun zs H1 => zs.length = ks.length ∧ MakK C sp E (ks.zip zs) H1 Q
theorem pe_makeKN {kws : List Keyword} {ks : List Str} {tkw : TA} (M : Mk X.K C f) (F : FnKw X.prog X.w X.K X.mg X.base CX k f sp) (hr : Room (k + 1) X.A) (hg : Gl X x) (hm : X.mg x = some (.ref C)) (hx : Passes CX X E) (hkw : PK X kws tkw) (nd : ks.Nodup) (hdb : (x == ("__debug__" : Str)) = false := by decide)
    (hall : (backToKw pos (keywordEach kws X.env)).all (·.1.isSome) = true := by rfl) (hks : (backToKw pos (keywordEach kws X.env)).filterMap (·.1) = ks := by rfl)
    (hpl : ((backTo pos (starEach [] X.env)).any (·.1) || (backToKw pos (keywordEach kws X.env)).any (·.1.isNone)) = false := by rfl) :
    PE X (.Call (.Name x p) [] kws pos) (tMakeKN C sp E ks tkw) := by
  refine ⟨fun pins s σ H Q I h => ?_⟩
  refine wpAny_Call_Name_kw (ld_glob I hg hm ?_ hdb)
  refine PySem.W.callWith_KW0 (h₀ := X.base) I.ok.mod.kin M.kp hall ?_ hpl
  refine thn (hkw.run pos pins s σ H _ I h) fun ws s2 ⟨zs, H2, I2, rz, l2, q⟩ => ⟨I2.kIn, ?_⟩
  rw [hks]
  have both : ∀ {ks : List Str} {zs : List V} {ws : List Value}, Vals zs ws → zs.length = ks.length → KwR (ks.zip zs) (ks.zip ws) ∧ (ks.zip zs).map (·.1) = ks := by
    intro ks
    induction ks with
    | nil => intro zs ws _ _; exact ⟨.nil, rfl⟩
    | cons k r ih =>
      intro zs ws rz l
      cases rz with
      | nil => cases l
      | cons a b =>
        obtain ⟨h1, h2⟩ := ih b (by simpa using l)
        exact ⟨.cons ⟨rfl, a⟩ h1, by rw [List.zip_cons_cons, List.map_cons, h2]⟩
  obtain ⟨h1, h2⟩ := both rz l2
  exact run_makeK M F hr hx I2 h1 (by rw [h2]; exact nd) q
end
end Lw
namespace Lw
end Lw
namespace Lw
open PySem PySem.Spec PyProof.Rows L2
end Lw
/-! ### d[k] = v where k is None, a bool, or a tuple of keys, d a dict with texts as keys -/
namespace Lw.Od
open PySem PySem.Spec PySem.Calls PyProof.Rows PySem.W L2
section
variable {prog : Program} {w : World} {A : Around} {E : Value → Shared → Prop} {s : Shared}
inductive OddK (prog : Program) (w : World) (h : Heap) : Value → Prop
  | non : OddK prog w h .none
  | bl (b : Bool) : OddK prog w h (.bool b)
  | tup {a : Addr} {ks : List Key} (t : (tupleKind (mixKind prog w)).is h ks a) : OddK prog w h (.ref a)
theorem walk_no {d : Addr} {ob : Obj} {es : Array DictEntry} {n : Nat} {key : Value} {hh : Int} {Q : Option Nat → Shared → Prop} (e1 : s.heap.get? d = some ob) (e3 : ob.data = .dict es n) (str : ∀ z ∈ es, ∃ x t, z.key = .str x t)
    (ne : ∀ {x : Str} {t : Tok} {R : Bool → Shared → Prop}, R false s → wpAny (model prog w) A (eqBool (.str x t) key) R E s) (q : Q none s) (places : List Nat) : wpAny (model prog w) A (dictWalkPlain d key hh es places) Q E s := by
  unfold dictWalkPlain
  refine wpAny_bind (wpAny_forIn_list _ (fun _ b s' => s' = s ∧ b = (none, PUnit.unit)) _ ?_ ?_ _ _ ⟨rfl, rfl⟩)
  · rintro i rest b s' ⟨rfl, rfl⟩
    cases hi : es[i]? with
    | none => exact wpAny_pure ⟨rfl, rfl⟩
    | some z =>
      dsimp only
      split
      · obtain ⟨x, t, e⟩ := str z (Array.mem_of_getElem? hi)
        rw [e]
        refine wpAny_bind (wpAny_dictEpoch e1 e3 (wpAny_bind (ne (wpAny_bind (wpAny_dictEpoch e1 e3 ?_)))))
        rw [if_neg (show ¬ (n != n) = true by simp)]
        exact wpAny_bind (wpAny_rule (wpAny_pure ⟨rfl, rfl⟩))
      · exact wpAny_pure ⟨rfl, rfl⟩
  · rintro b s' ⟨rfl, rfl⟩
    exact wpAny_pure q
theorem quiet_strs {a : Addr} {ks : List Key} {stored : List Value} {Q : Bool → Shared → Prop} (t : (tupleKind (mixKind prog w)).is s.heap ks a) (h : ∀ v ∈ stored, ∃ x t, v = .str x t) (q : Q false s) : wpAny (model prog w) A (tableMayTell (.ref a) stored) Q E s := by
  unfold tableMayTell
  split
  · exact wpAny_pure q
  refine wpAny_bind ((tupleKind (mixKind prog w)).quiet t ?_)
  rw [if_neg (show ¬ (!true) = true by decide)]
  refine wpAny_bind (wpAny_forIn_list _ (fun rest b s' => s' = s ∧ b = (none, PUnit.unit) ∧ ∀ v ∈ rest, ∃ x t, v = .str x t) _ ?_ ?_ _ _ ⟨rfl, rfl, h⟩)
  · rintro v rest b s' ⟨rfl, rfl, hv⟩
    obtain ⟨x, t, rfl⟩ := hv v List.mem_cons_self
    rw [eqIsQuiet_byValue 8 rfl]
    refine wpAny_bind (wpAny_pure ?_)
    rw [if_neg (show ¬ (!true) = true by decide)]
    exact wpAny_pure ⟨rfl, rfl, fun u hu => hv u (List.mem_cons_of_mem _ hu)⟩
  · rintro b s' ⟨rfl, rfl, _⟩
    exact wpAny_pure q
theorem find_odd {d : Addr} {ob : Obj} {es : Array DictEntry} {n : Nat} {key : Value} {hh : Int} {Q : Option Nat → Shared → Prop} (hu : A.units < cLine) (e1 : s.heap.get? d = some ob) (e3 : ob.data = .dict es n) (str : ∀ z ∈ es, ∃ x t, z.key = .str x t) (o : OddK prog w s.heap key) (q : Q none s) :
    wpAny (model prog w) A (dictFind d key hh) Q E s := by
  have ne : ∀ {x : Str} {t : Tok} {R : Bool → Shared → Prop}, R false s → wpAny (model prog w) A (eqBool (.str x t) key) R E s := fun {x t R} hR => by
    cases o with
    | non => exact SeqAt.EqAt.str_none x t prog w E R hR
    | bl b => exact SeqAt.EqAt.str_bool x t b prog w E R hR
    | @tup a ks t' =>
      obtain ⟨o, its, m, h1, h2, h3, _⟩ := (show IsTupleKey (mixKind prog w) s.heap ks a from t')
      exact SeqAt.EqAt.str_tuple x t (show s.heap.IsTuple a its from ⟨o, h1, h2, m, h3⟩) hu prog w E R hR
  have st : ∀ v ∈ (placesWithHash es.size (fun i => Option.map (fun x => x.hash) es[i]?) hh).filterMap (fun i => Option.map (fun x => x.key) es[i]?), ∃ x t, v = .str x t := fun v hv => by
    obtain ⟨i, _, hi⟩ := List.mem_filterMap.mp hv
    cases hz : es[i]? with
    | none => rw [hz] at hi; cases hi
    | some z =>
      rw [hz] at hi
      obtain ⟨x, t, e⟩ := str z (Array.mem_of_getElem? hz)
      have hi : z.key = v := Option.some.inj hi
      exact ⟨x, t, hi ▸ e⟩
  have allc : ((placesWithHash es.size (fun i => Option.map (fun x => x.hash) es[i]?) hh).filterMap (fun i => Option.map (fun x => x.key) es[i]?)).all carriedByValue = true := by
    rw [List.all_eq_true]
    intro v hv
    obtain ⟨x, t, rfl⟩ := st v hv
    rfl
  unfold dictFind
  refine wpAny_holding (wpAny_bind (wpAny_dictEntries e1 e3 ?_))
  cases o with
  | non =>
    dsimp only
    rw [List.all_cons, allc, if_pos (show (carriedByValue Value.none && true) = true from rfl)]
    exact walk_no e1 e3 str ne q _
  | bl b =>
    dsimp only
    rw [List.all_cons, allc, if_pos (show (carriedByValue (Value.bool b) && true) = true from rfl)]
    exact walk_no e1 e3 str ne q _
  | @tup a ks t' =>
    dsimp only
    rw [List.all_cons, if_neg (show ¬ (carriedByValue (Value.ref a) && _) = true from Bool.false_ne_true)]
    have hany : ¬ (es.any fun z => z.key == Value.ref a && z.hash != hh) = true := by
      rw [← Array.any_toList, List.any_eq_true]
      rintro ⟨z, hz, hc⟩
      obtain ⟨x, t, e⟩ := str z (Array.mem_toList_iff.mp hz)
      rw [e] at hc
      cases hc
    rw [if_neg hany]
    have hone : ¬ ((placesWithHash es.size (fun i => Option.map (fun x => x.hash) es[i]?) hh).filterMap (fun i => Option.map (fun x => x.key) es[i]?) == [Value.ref a]) = true := fun z => by
      have e := eq_of_beq z
      obtain ⟨x, t, h⟩ := st (.ref a) (by rw [e]; exact List.mem_singleton.mpr rfl)
      cases h
    rw [if_neg hone]
    refine wpAny_bind (quiet_strs t' st ?_)
    rw [if_neg (show ¬ (false && _) = true from Bool.false_ne_true)]
    refine wpAny_bind (wpAny_forIn_list _ (fun _ b s' => s' = s ∧ b = (none, none)) _ ?_ ?_ _ _ ⟨rfl, rfl⟩)
    · rintro i rest b s' ⟨rfl, rfl⟩
      cases hi : es[i]? with
      | none => exact wpAny_pure ⟨rfl, rfl⟩
      | some z =>
        dsimp only
        split
        · obtain ⟨x, t, e⟩ := str z (Array.mem_of_getElem? hi)
          rw [e]
          refine wpAny_bind (wpAny_dictEpoch e1 e3 (wpAny_bind (ne (wpAny_bind (wpAny_dictEpoch e1 e3 ?_)))))
          rw [if_neg (show ¬ (n != n) = true by simp)]
          exact wpAny_bind (wpAny_rule (wpAny_pure ⟨rfl, rfl⟩))
        · exact wpAny_pure ⟨rfl, rfl⟩
    · rintro b s' ⟨rfl, rfl⟩
      exact wpAny_pure q
theorem hash_odd {key : Value} {Q : Int → Shared → Prop} (hu : A.units < cLine) (o : OddK prog w s.heap key) (q : ∀ h tk, Q h { s with toks := tk }) : wpAny (model prog w) A (pyHash key) Q E s := by
  cases o with
  | non =>
    have ty : s.TypeIs .none "NoneType" := rfl
    show wpAny _ _ (pyHashByItsType .none) _ _ _
    unfold pyHashByItsType cRoomFor
    rw [if_neg (show ¬ ([Value.none].any Value.onHeap) = true by decide)]
    refine wpAny_bind (wpAny_pure (wpAny_bind (m := specialOf .none "__hash__") (wpAny_specialOf ty PySem.F.slot_NoneType_hash.lookup ?_)))
    rw [if_neg (show ¬ (some (Value.builtin "NoneType.__hash__") == some Value.none) = true by decide)]
    refine wpAny_bind (m := specialOf .none "__hash__") (wpAny_specialOf ty PySem.F.slot_NoneType_hash.lookup ?_)
    rw [if_neg (show ¬ (some (Value.builtin "NoneType.__hash__")).isNone = true by decide)]
    refine wpAny_bind (wpAny_callSpecialIfBoundUnlessNone?_slot ty PySem.F.slot_NoneType_hash (wpAny_call_entry PySem.F.slot_NoneType_hash ty PySem.F.entry_NoneType_hash ?_ (PySem.F.args_NoneType_hash_1 _)))
    refine (show wpAny _ _ (do ret (← mkInt 0xFCA86420)) _ _ s from wpAny_bind (wpAny_mkInt (wpAny_pure ⟨_, rfl, ?_⟩)))
    show wpAny _ _ (pyHashByItsType.reduced 0xFCA86420) _ _ _
    unfold pyHashByItsType.reduced
    rw [if_pos (show (decide (-(2 ^ 63 : Int) ≤ 0xFCA86420) && decide ((0xFCA86420 : Int) < 2 ^ 63)) = true by decide)]
    exact wpAny_pure (q _ _)
  | bl b => exact PpSet.pyHash_bool (q _ _)
  | tup t => exact (tupleKind (mixKind prog w)).pyHash hu t (q _ _)
/-- the dict at d: its keys in order -/
def KeysAt (h : Heap) (d : Addr) (us : List Value) : Prop := ∃ (ob : Obj) (es : Array DictEntry) (n : Nat), h.get? d = some ob ∧ ob.ExactDict ∧ ob.data = .dict es n ∧ es.toList.map (·.key) = us
theorem KeysAt.typeIs {d : Addr} {us : List Value} (h : KeysAt s.heap d us) : s.TypeIs (.ref d) "dict" := by
  obtain ⟨ob, _, _, h1, h2, _⟩ := h
  exact ⟨ob, h1, h2.1⟩
theorem set_odd {d : Addr} {ob : Obj} {es : Array DictEntry} {n : Nat} {key v : Value} {Q : Unit → Shared → Prop} (hu : A.in1.units < cLine) (e1 : s.heap.get? d = some ob) (e2 : ob.ExactDict) (e3 : ob.data = .dict es n) (hz : es.size ≤ sizeLine) (str : ∀ z ∈ es, ∃ x t, z.key = .str x t) (o : OddK prog w s.heap key)
    (q : ∀ g tk, KeysAt g d (es.toList.map (·.key) ++ [key]) → Heap.SameBut d s.heap g → Q () { s with heap := g, toks := tk }) : wpAny (model prog w) A (setItem (.ref d) key v) Q E s := by
  have ty : s.TypeIs (.ref d) "dict" := ⟨ob, e1, e2.1⟩
  unfold setItem
  refine wpAny_holding ?_
  refine wpAny_bind (wpAny_sequenceKey ty (by decide) ?_)
  refine wpAny_bind (wpAny_callSpecial?_slot (name := Str.ofString "__setitem__") ty slot_dict_setitem (wpAny_call_entry slot_dict_setitem ty entry_dict_setitem ?_ (args_dict_setitem _ _ _)))
  show wpAny _ _ (Builtin.Dict.notOrdered "__setitem__" ⟨[.ref d, key, v], []⟩ >>= _) _ _ s
  refine wpAny_bind (wpAny_notOrdered_dict ty ?_)
  show wpAny _ _ (dictSet d key v >>= _) _ _ s
  refine wpAny_bind ?_
  unfold dictSet
  refine wpAny_holding (wpAny_bind (hash_odd hu o fun hh tk => ?_))
  unfold dictSetHashed
  have o' : OddK prog w ({ s with toks := tk } : Shared).heap key := o
  refine wpAny_holding (wpAny_bind (find_odd (s := { s with toks := tk }) hu e1 e3 str o' ?_))
  refine wpAny_bind (wpAny_rule (wpAny_updateDictKeys (s := { s with toks := tk }) (hz := hz) e1 e3 (wpAny_pure ⟨.none, rfl, wpAny_pure (q _ _ ⟨_, _, n + 1, Heap.get?_update_self _ e1 (Obj.isFreed_of_dict (Obj.data_mapDictKeys e3 _)), e2.mapDictKeys _, Obj.data_mapDictKeys e3 _, ?_⟩ (Heap.SameBut.update ..))⟩)))
  rw [Array.toList_push, List.map_append]
  rfl
theorem src_raw {d : Addr} {es : Array DictEntry} {ep : Nat} (lo : (d == sysModules) = false) : KdlSrc prog w "dict" d d es.size (fun i v => ∃ hi : i < es.size, v = es[i].key) (fun h => h.DictRaw d es ep) where
  type := fun _ hm => hm.typeIs
  there := fun _ hm => by obtain ⟨o, ho, _⟩ := hm; exact ⟨Heap.lt_size ho, Heap.lt_size ho⟩
  keep := fun _ _ hm hk => hm.at fun o e => hk d (.inl rfl) o e
  notList := by decide
  notTuple := by decide
  hint := fun _ _ _ _ hm hq => kdl_hint_dict hm.typeIs hq
  iter := fun _ s hh hm => by
    have lt : d < s.heap.objs.size := by obtain ⟨o, ho, _⟩ := hm; exact Heap.lt_size ho
    exact ⟨_, _, (fun _ _ hq => wpAny_pyIter_dict_raw lo hm hq), Walks.rawKeys hh _ d (Nat.ne_of_lt lt) es ep, ⟨⟨_, Heap.get?_push_size _ rfl, rfl, rfl⟩, hm.at fun o e => Heap.get?_push_of_some _ e⟩⟩
end
end Lw.Od
namespace Lw
open PySem PySem.Spec PyProof.Rows L2 LamX
/-- a dict with odd keys: its keys in order -/
def OdD (d : Addr) (ks : List V) : HO := .ext fun h => (d == sysModules) = false ∧ ∃ (es : Array DictEntry) (ep : Nat), h.DictRaw d es ep ∧ es.size ≤ sizeLine ∧ Vals ks (es.toList.map (·.key))
/-- what has no text as a key's value -/
inductive OddV (H : Hp) : V → Prop
  | non : OddV H .non
  | bl (b : Bool) : OddV H (.bl b)
  | tup {a : Addr} {ks : List L2.Key} (e : H a = some (.tup (ks.map kV))) : OddV H (.ref a)
section
variable {X : Cx} {pins : List (Addr × Obj)} {σ : L2.St} {H : Hp} {s : Shared}
theorem OddV.k {x : V} {u : Value} (o : OddV H x) (I : Inv X pins σ H s) (r : RelV x u) : Od.OddK X.prog X.w s.heap u := by
  cases o with
  | non => cases (show u = Value.none from r); exact .non
  | bl b => cases (show u = Value.bool b from r); exact .bl b
  | tup e => cases r; exact .tup (key_of I.hok e)
/-- d[x] = v: x a text or an int, or (of a dict with texts as keys) an odd value -/
def rSetDO : TSet := fun o i v H Q => (∃ a H', o = .ref a ∧ DPut H a i v H' ∧ Q H') ∨
  ∃ (a : Addr) (ks : List (Str × V)), o = .ref a ∧ H a = some (.dK (dkOf ks)) ∧ ks.length < sizeLine ∧ OddV H i ∧ Q (upd H a (OdD a (ks.map (fun p => V.str p.1) ++ [i])))
theorem set_dictO (hu : X.A.units + 1 < cLine) : PSet X rSetDO := by
  intro pins s σ H o i v ov iv u Q I ro ri rv h
  rcases h with h | ⟨a, ks, rfl, ha, kl, od, q⟩
  · exact set_dict hu pins s σ H o i v ov iv u Q I ro ri rv h
  · cases (show ov = Value.ref a from ro)
    obtain ⟨z, lo, vs, rel, dd⟩ := dk_of I.hok ha
    have hu2 : X.A.in1.units < cLine := by show X.A.units + 1 < cLine; omega
    obtain ⟨ob, es, n, e1, e2, e3, e4, e5, e6⟩ := id dd
    have str : ∀ z ∈ es, ∃ x t, z.key = .str x t := fun z hz => by
      obtain ⟨y, hy, is⟩ := Md.pairs_at e5 (Array.mem_toList_iff.mpr hz)
      have hk : y.1 ∈ vs.map (·.1) := List.mem_map_of_mem hy
      rw [← rel.keys, List.map_map] at hk
      obtain ⟨p, _, ep⟩ := List.mem_map.mp hk
      rw [← ep] at is
      rcases keyIs_shape (show keyIs (Sum.inr p.1) z.key = true from is) with ⟨_, _, e, _⟩ | ⟨x, t, e, e'⟩
      · cases e
      · exact ⟨x, t, e'⟩
    have ln : es.size = ks.length := by
      have h1 := e5.length
      have h2 := rel.length
      rw [Array.length_toList] at h1
      rw [List.length_map] at h2
      omega
    have kv : Vals (ks.map fun p => V.str p.1) (es.toList.map (·.key)) := by
      have go : ∀ {l : List DictEntry} {vs : List (L2.Key × Value)} {ks : List (Str × V)}, Pairs (mixKind X.prog X.w) l vs → KV (dkOf ks) vs → Vals (ks.map fun p => V.str p.1) (l.map (·.key)) := by
        intro l
        induction l with
        | nil =>
          intro vs ks p r
          cases p
          cases ks with
          | nil => exact .nil
          | cons _ _ => cases r
        | cons z l ih =>
          intro vs ks p r
          cases p with
          | @cons _ kv _ kvs p1 p2 p3 =>
            cases ks with
            | nil => cases r
            | cons q ks =>
              cases r with
              | cons r1 r2 =>
                obtain ⟨a1, _⟩ := r1
                have a1 : Sum.inr q.1 = kv.1 := a1
                rw [← a1] at p1
                rcases keyIs_shape (show keyIs (Sum.inr q.1) z.key = true from p1) with ⟨_, _, e, _⟩ | ⟨x, t, e, e'⟩
                · cases e
                · cases Sum.inr.inj e
                  exact .cons ⟨t, e'⟩ (ih p3 r2)
      exact go e5 rel
    refine Od.set_odd (prog := X.prog) (w := X.w) hu2 e1 e2 e3 (by rw [List.length_map] at z; omega) str (od.k I ri) fun g tk g1 g2 => ?_
    obtain ⟨ob2, es2, n2, h1, h2, h3, h4⟩ := g1
    have sz2 : es2.size = es.size + 1 := by
      have e := congrArg List.length h4
      rw [List.length_map, Array.length_toList, List.length_append, List.length_map, Array.length_toList] at e
      exact e
    refine ⟨_, d_write (t' := tk) I (by rw [ha]; exact True.intro) g2 ⟨_, h1⟩ (ob := OdD a (ks.map (fun p => V.str p.1) ++ [i])) ⟨⟨lo, es2, n2, ⟨ob2, h1, h2, h3⟩, by rw [List.length_map] at z; omega, by rw [h4]; exact Paired.snoc kv ri⟩, ⟨_, h1⟩, fun h1' h2' p kk => ?_⟩, q⟩
    obtain ⟨lo, es3, n3, ⟨ob3, y1, y2, y3⟩, y4⟩ := p
    exact ⟨lo, es3, n3, ⟨ob3, kk _ y1, y2, y3⟩, y4⟩
/-- isinstance: of a dict with odd keys, too -/
inductive TyO (K : PySem.W.Frag) (H : Hp) : V → Value → Prop where
  | z {v : V} {t : Value} (h : TyZ K H v t) : TyO K H v t
  | od {a : Addr} {ks : List V} (e : H a = some (OdD a ks)) : TyO K H (.ref a) (.type "dict")
def rIsO (K : PySem.W.Frag) : List V → Hp → VK → Prop := fun xs H Q => ∃ (x c : V) (t u : Value) (b : Bool), xs = [x, c] ∧ ClsV c u ∧ TyO K H x t ∧ PySem.W.kitOne K t u = some b ∧ Q (.bl b) H
theorem call_isO : CallR X (.builtin "isinstance") (rIsO X.K) := by
  intro pins s σ H xs us Q I r h
  obtain ⟨x, c, t, u, b, rfl, k, ty, e, q⟩ := h
  cases ty with
  | z ty => exact call_isz pins s σ H _ us Q I r ⟨x, c, t, u, b, rfl, k, ty, e, q⟩
  | @od a ks ea =>
    obtain ⟨w1, w2, rfl, r1, r2⟩ := vals2 r
    obtain rfl := k.eq r2
    obtain rfl : w1 = Value.ref a := r1
    obtain ⟨⟨_, es, ep, ⟨o, h1, h2, _⟩, _⟩, _⟩ := I.hok a _ ea
    exact PySem.W.kia_one PySem.W.kitx_dict I.kIn ⟨o, h1, h2.1⟩ e (fun z => by cases z) fun tk => ⟨.bl b, H, I.tok tk, rfl, q⟩
/-- list(d): the keys, odd ones, too -/
def rListO : List V → Hp → VK → Prop := fun xs H Q => ∃ (a : Addr) (ks : List V), xs = [.ref a] ∧ ((∃ kvs : List (L2.Key × V), Rd H a (.dK kvs) ∧ ks = kvs.map fun kv => kV kv.1) ∨ H a = some (OdD a ks)) ∧ ∀ p, H p = none → Q (.ref p) (upd H p (.lst ks))
theorem call_listO (hcalm : X.calm = true) : CallR X (.type "list") rListO := by
  intro pins s σ H xs us Q I r h
  obtain ⟨a, ks, rfl, h | ha, q⟩ := h
  · obtain ⟨kvs, hd, rfl⟩ := h
    exact call_listD hcalm pins s σ H _ us Q I r ⟨a, kvs, rfl, hd, q⟩
  · obtain ⟨u, rfl, rx⟩ := vals1 r
    cases rx
    obtain ⟨⟨lo, es, ep, dr, sz, vv⟩, _⟩ := I.hok a _ ha
    refine PySem.W.kdl_call (Od.src_raw lo) (I.ok.hd hcalm) dr sz fun h' tk acc c' hk hD hacc => ?_
    have e : acc.toList = es.toList.map (·.key) := by
      apply List.ext_getElem?
      intro j
      rw [List.getElem?_map, Array.getElem?_toList, Array.getElem?_toList]
      cases hj : acc[j]? with
      | none =>
        have lt : acc.size ≤ j := Array.getElem?_eq_none_iff.mp hj
        rw [Array.getElem?_eq_none_iff.mpr (by rw [← hacc.1]; exact lt)]
        rfl
      | some v =>
        obtain ⟨hi, rfl⟩ := hacc.2 j v hj
        rw [Array.getElem?_eq_getElem hi]
        rfl
    have sz2 : ks.length ≤ sizeLine := by
      rw [show ks.length = es.size from by rw [vv.length, List.length_map, Array.length_toList]]
      exact sz
    refine ⟨.ref s.heap.objs.size, upd H s.heap.objs.size (.lst ks), I.laid (t' := tk) hk (Nat.le_refl _) ⟨sz2, acc.toList, c', by rw [e]; exact vv, by rw [Array.toArray_toList]; exact hD⟩, rfl, q _ (I.hok.fresh (Nat.le_refl _))⟩
end
end Lw
namespace Lw
open PySem PySem.Spec PyProof.Rows L2
open SX PySem.NumText TL LamX ClX StX
abbrev sIsp : Stmt := top 63
abbrev sChk : Stmt := top 64
section
variable {X : Cx} {pins : List (Addr × Obj)} {σ : L2.St} {H : Hp} {s : Shared} {C : Addr} {sp : Sp} {a b : Expr} {ta tb : TE} {k j : Nat} {E : XK} {pos : Pos} {K : PySem.W.Frag}
theorem pe_fldK (K' : PySem.W.Frag) (hK : X.K = K') {e : Expr} {te : TE} {f : Str} {pos : Pos} (he : PE X e te) (hb : attributeBase e f X.env (eval e X.env) = eval e X.env) : PE X (.Attribute e f pos) (tFld K' te f) := by
  subst hK
  exact pe_fld he hb
theorem call_iszK (K' : PySem.W.Frag) (hK : X.K = K') : CallR X (.builtin "isinstance") (rIsz K') := by
  subst hK
  exact call_isz
def rLof (K : PySem.W.Frag) : List V → Hp → VK → Prop := fun xs H Q => ∃ p ys, xs = [.ref p] ∧ (SqL K H p ys ∨ SqT K H p ys) ∧ ∀ l, H l = none → Q (.ref l) (upd H l (.lst ys))
theorem call_list_ofK (K' : PySem.W.Frag) (hK : X.K = K') : CallR X (.type "list") (rLof K') := by
  subst hK
  exact call_list_of
/-- x in y, x not in y: y an instance of C -/
def rInC (C : Addr) (sp : Sp) (neg : Bool) (E : XK) : R2 := fun x y H Q => ∃ (a dx : Addr) (fs : List (Str × V)), y = .ref a ∧ H a = some (.ins C dx fs) ∧ sp [.ref a, x] H (fun v H' => ∃ c, v = .bl c ∧ Q (.bl (if neg then !c else c)) H') E
theorem op_inC (M : MetX X.prog X.w X.K X.mg X.base k C "__contains__" sp) (hx : Passes (L2.CX X.prog X.w) X E) (hr : Room j X.A) (hk : k ≤ j) : OpR X (compareOp .In) (rInC C sp false E) := fun pins s σ H x y v u Q I rx ry h => by
  obtain ⟨a, dx, fs, e, ha, q⟩ := h
  exact op_inOwn hx hr hk pins s σ H x y v u Q I rx ry ⟨C, a, dx, fs, sp, e, ha, M, q⟩
theorem op_notInC (M : MetX X.prog X.w X.K X.mg X.base k C "__contains__" sp) (hx : Passes (L2.CX X.prog X.w) X E) (hr : Room j X.A) (hk : k ≤ j) : OpR X (compareOp .NotIn) (rInC C sp true E) := fun pins s σ H x y v u Q I rx ry h => by
  obtain ⟨a, dx, fs, e, ha, q⟩ := h
  exact op_notInOwn hx hr hk pins s σ H x y v u Q I rx ry ⟨C, a, dx, fs, sp, e, ha, M, q⟩
/-- y[x], y an instance of C, x no slice -/
def rSubC (C : Addr) (sp : Sp) (E : XK) : R2 := fun x y H Q => ∃ (o dx : Addr) (fs : List (Str × V)), x = .ref o ∧ H o = some (.ins C dx fs) ∧ sp [.ref o, y] H Q E
theorem pe_subC (M : MetG X.prog X.w X.K X.mg X.base k C sp) (ha : PE X a ta) (hb : PE X b tb) (hx : Passes (L2.CX X.prog X.w) X E) (hr : Room j X.A) (hk : k + 1 ≤ j) (hs : ∀ (o : Addr) (i : Value), subscripted b true (.ref o) i = runValue (.builtin "lifetime.subscript" ⟨[.ref o, i], []⟩) := by intros; with_unfolding_all rfl) :
    PE X (.Subscript a b pos) (tOp (rSubC C sp E) ta tb) := by
  refine ⟨fun pins s σ H Q I h => Subscript_ (binT ha hb I h fun v u s2 x y H2 I2 rx ry q => ?_)⟩
  obtain ⟨o, dx, fs, rfl, ho, q⟩ := q
  cases (show v = Value.ref o from rx)
  obtain ⟨_, _, J⟩ := ins_at I2 ho
  have hr1 : Room k X.A.in1 := Room.in1 (hr.mono hk)
  obtain ⟨g, hm, hf, w2⟩ := run_getA (us := [.ref o, u]) (vs := [.ref o, y]) M hx hr1 I2.env0.in1 I2 (.cons rfl (.cons ry .nil)) q
  obtain ⟨m, F⟩ := I2.fr
  exact PySem.W.sub_K F I2.ok.mod.kin J hm.at_ hf hm.fn w2 (hs o u)
end

/-- a dict comprehension over what is walked -/
theorem dc_it {J : It} {n : Nat} {G : Hp → Prop} {Y : Nat → Hp → V → Hp → Prop} (w : Walk J n G Y) {g : TG} {tt : TT} {tk tv : TE} {vs : List Nat} {σ : L2.St} {H1 : Hp} {D : Addr} {Qd : Hp → Prop} (Pv : Nat → Hp → Prop) (h0 : Pv 0 (upd H1 D (.dK []))) (hG : ∀ i H, i ≤ n → Pv i H → G H)
    (hs : ∀ i x H H', i < n → Pv i H → Y i H x H' → g x (wipe σ vs) H' fun σ2 H2 => wipe σ2 vs = wipe σ vs ∧ tt σ2 H2 fun b H3 =>
      if b = true then tk σ2 H3 fun y H4 => tv σ2 H4 fun z H5 => ∃ (kvs : List (L2.Key × V)) (k : L2.Key), y = kV k ∧ H5 D = some (.dK kvs) ∧ kvs.length < sizeLine ∧ Pv (i + 1) (upd H5 D (.dK (putK kvs k z))) else Pv (i + 1) H3) (hd : ∀ H, Pv n H → Qd H) :
    ∃ W : Nat → Nat → Hp → Prop, (∃ m, W 0 m (upd H1 D (.dK []))) ∧ ∀ i m H, W i m H →
      (J.stop i H ∧ Qd H) ∨ (J.go i H ∧ ∃ Nx : Hp → Prop, (∀ H', Nx H' → ∃ m', m' < m ∧ W (i + 1) m' H') ∧ ∀ x H', J.yld i H x H' → g x (wipe σ vs) H' fun σ2 H2 => wipe σ2 vs = wipe σ vs ∧ tt σ2 H2 fun b H3 =>
        if b = true then tk σ2 H3 fun y H4 => tv σ2 H4 fun z H5 => ∃ kvs k, y = kV k ∧ H5 D = some (.dK kvs) ∧ kvs.length < sizeLine ∧ Nx (upd H5 D (.dK (putK kvs k z))) else Nx H3) := by
  refine ⟨fun i m H => m = n - i ∧ i ≤ n ∧ Pv i H, ⟨n, by simp, Nat.zero_le _, h0⟩, fun i m H ⟨e, hi, p⟩ => ?_⟩
  subst e
  have q := hG i H hi p
  rcases Nat.lt_or_ge i n with lt | ge
  · exact .inr ⟨w.goes i H lt q, Pv (i + 1), fun H' p' => ⟨n - (i + 1), by omega, rfl, lt, p'⟩, fun x H' y => hs i x H H' lt p (w.yields i H x H' lt q y)⟩
  · obtain rfl : i = n := Nat.le_antisymm hi ge
    exact .inl ⟨w.stops H q, hd H p⟩
theorem val_dk (n : Str) : ∀ ks : List (Str × V), valV (dkOf ks) (Sum.inr n : L2.Key) = ks.lookup n
  | [] => rfl
  | p :: r => by
    by_cases e : p.1 = n
    · rw [show dkOf (p :: r) = (Sum.inr p.1, p.2) :: dkOf r from rfl, valV_pos (p := ((Sum.inr p.1 : L2.Key), p.2)) (congrArg Sum.inr e)]
      obtain ⟨a, b⟩ := p
      have e : a = n := e
      subst e
      simp [List.lookup]
    · rw [show dkOf (p :: r) = (Sum.inr p.1, p.2) :: dkOf r from rfl, valV_neg (p := ((Sum.inr p.1 : L2.Key), p.2)) (fun z => e (Sum.inr.inj z)), val_dk n r]
      obtain ⟨a, b⟩ := p
      have e : ¬ a = n := e
      have e2 : (n == a) = false := beq_eq_false_iff_ne.mpr fun z => e z.symm
      simp [List.lookup, e2]
theorem d_look {H : Hp} {d : Addr} {ks : List (Str × V)} {n : Str} {v : V} (h : H d = some (.dK (dkOf ks))) (l : ks.lookup n = some v) : DGet H d (.str n) (some v) := by
  rw [← l, ← val_dk n ks]
  exact DGet.k (k := Sum.inr n) h
/-- [str(name) for name in d] -/
theorem names_of {i j : Nat} {σ : L2.St} {H : Hp} {Q : VK} {d : Addr} {ks : List (Str × V)} (hi : σ[i]? = some (some (V.ref d))) (lj : j < σ.length) (hd : H d = some (.dK (dkOf ks))) (hz : ks.length ≤ 5000)
    (q : ∀ D H', Same H H' → H D = none → H' D = some (.lst (ks.map fun p => V.str p.1)) → Q (.ref D) H') :
    tLockE (tLc (iKeys (tVar i)) (gName j) tYes (tCB (fun xs H Q => ∃ a, xs = [V.str a] ∧ Q (V.str a) H) (tCons (tVar j) tNil)) [j]) σ H Q := by
  refine ⟨d, _, hd, trivial, fun od => ⟨_, hi, d, od, rfl, .inl ⟨_, upd_same, fun D hD => ?_⟩⟩⟩
  have ne : D ≠ d := fun e => by rw [e, upd_same] at hD; cases hD
  rw [upd_ne ne] at hD
  refine lc_it walk_keys (fun n H' => H' = upd (upd H d (.frz od (.dK (dkOf ks)))) D (.lst ((ks.take n).map fun p => V.str p.1))) rfl (fun n H' _ e => by rw [e, upd_ne ne.symm, upd_same]) ?_ ?_
  · rintro n x H' H'' hn e ⟨rfl, k, v, hk, rfl⟩
    rw [List.getElem?_map] at hk
    obtain ⟨p, hp, e2⟩ := Option.map_eq_some_iff.mp hk
    have e3 : k = Sum.inr p.1 := (congrArg Prod.fst e2).symm
    subst e3
    refine ⟨by simp [wipe, List.set_set], ?_⟩
    dsimp only [tYes]
    rw [if_pos rfl]
    have gt : ((wipe σ [j]).set j (some (V.str p.1)))[j]? = some (some (V.str p.1)) := by
      rw [List.getElem?_set_self]
      simpa [wipe] using lj
    refine ⟨_, gt, p.1, rfl, _, by rw [e, upd_same], ?_, ?_⟩
    · rw [List.length_map]
      exact Nat.lt_of_le_of_lt (Nat.le_trans (List.length_take_le' _ _) hz) (by decide)
    · rw [e, upd_upd, List.take_add_one, hp, List.map_append]; rfl
  · rintro H' e
    rw [List.length_map, List.take_of_length_le (Nat.le_refl _)] at e
    refine ⟨by rw [e, upd_ne ne.symm, upd_same], q D _ (fun b o hb => ?_) hD ?_⟩
    · by_cases bd : b = d
      · rw [bd] at hb ⊢
        rw [upd_same, ← hd]
        exact hb
      · rw [upd_ne bd, e, upd_ne (ne_of_none hb hD), upd_ne bd]
        exact hb
    · rw [upd_ne ne, e, upd_same]
/-! ### is_speed, check_speeds -/
def isSp (v : V) : Bool := inB v 1 60
def spIsp (K : PySem.W.Frag) : Sp := fun vs H Q _ => ∃ x, vs = [x] ∧ Anyv K H x ∧ Q (.bl (isSp x)) H
/-- what check_speeds comes to: the first name that is none, then the first speed that is none -/
def ChkR (K : PySem.W.Frag) (DN DS d : Addr) (xs : List V) (H : Hp) (Q : VK) (E : XK) : Prop :=
  (∀ (i : Nat) x, xs[i]? = some x → (∀ (j : Nat) y, j < i → xs[j]? = some y → nameB y = true) → nameB x = false → Bf DN "value" x H E) ∧
  ((∀ x ∈ xs, nameB x = true) → ∃ (ns : List Str) (ks : List (Str × V)), xs = ns.map V.str ∧ H d = some (.dK (dkOf ks)) ∧ (∀ n ∈ ns, ∃ v, ks.lookup n = some v ∧ Anyv K H v) ∧
    (∀ (i : Nat) n v, ns[i]? = some n → ks.lookup n = some v → (∀ (j : Nat) m u, j < i → ns[j]? = some m → ks.lookup m = some u → isSp u = true) → isSp v = false → Bf DS "value" v H E) ∧
    ((∀ n ∈ ns, ∀ v, ks.lookup n = some v → isSp v = true) → ∀ H', Same H H' → Q .non H'))
def spChk (K : PySem.W.Frag) (DN DS : Addr) : Sp := fun vs H Q E => ∃ (l d : Addr) (xs : List V), vs = [.ref l, .ref d] ∧ H l = some (.lst xs) ∧ (∀ x ∈ xs, Anyv K H x ∧ ∀ z, x = .str z → z.length ≤ 1000000) ∧ ChkR K DN DS d xs H Q E
section
variable {P : Program} {w : World} {K : PySem.W.Frag} {mg : Str → Option Value} {base : Heap}
theorem scIsp : FnScope ["value"] ["value"] (C8.fnScope sIsp) := C8.fnScope_by (by decide +kernel)
theorem cal_isp {f : Addr} {fd : FuncData} (F : C8.Def K mg "is_speed" sIsp f fd) (b : Binds K fd ["value"] []) (hG : ∃ t, mg "GREATEST_SPEED" = some (.int 60 t)) (DW : C8.Cal P w K mg base 2 "is_within" (spWithin K) []) : C8.Cal P w K mg base 3 "is_speed" (spIsp K) [] := by
  refine C8.cal0 F b .nil scIsp (fun vs H Q E h => ?_) (fun cdv A outer st H vs Q E hr h => ?_)
  · obtain ⟨x, rfl, _⟩ := h
    rfl
  · obtain ⟨x, rfl, a, k⟩ := h
    obtain ⟨t, hG⟩ := hG
    refine ⟨_, (pss_one (ps_ret (C8.pe_c DW hr (by decide) (by rfl) (pa_cons (pv 0) (pa_cons pe_int (pa_cons (pe_glob (v := .int 60) rfl hG ⟨_, rfl⟩) pa_nil)))))), ?_⟩
    exact ⟨_, rfl, x, 1, 60, rfl, a, k⟩
theorem scChk : FnScope ["names", "speeds", "name"] ["names", "speeds"] (C8.fnScope sChk) := C8.fnScope_by (by decide +kernel)
theorem fn_chk {DN DS fN fS f : Addr} {fd fdN fdS : FuncData} (F : C8.Def K mg "check_speeds" sChk f fd) (EN : Err1 "BadName" "value" P w K mg base DN fN fdN) (ES : Err1 "BadSpeed" "value" P w K mg base DS fS fdS) (DNm : C8.Cal P w K mg base 1 "is_name" (spName K) []) (DSp : C8.Cal P w K mg base 3 "is_speed" (spIsp K) []) :
    FnOk P w K mg base (L2.CX P w) 4 f fd ["names", "speeds"] (spChk K DN DS) := by
  obtain ⟨oc, od, dV, kV, doc, pm, an, cdv, ct, osl, rfl, lk, hcd⟩ := F.fn.ex
  refine fn_of lk hcd scChk (fun vs H Q E h => ?_) fun A outer s H vs Q E hr h => ?_
  · obtain ⟨l, d, xs, rfl, _⟩ := h
    rfl
  · obtain ⟨l, d, xs, rfl, hl, av, h1, h2⟩ := h
    have tk : Takes (cxOf (L2.CX P w) P w K mg base ["names", "speeds", "name"] "check_speeds" (C8.fnScope sChk) f cdv A outer s H E) (fun cls d _ H' => E cls d H') := takes_of rfl rfl rfl rfl
    refine ⟨_, (pss_cons (ps_for (passes_of rfl) rfl (pi_list (pv 0)) (pg_name (i := 2) scChk.nd rfl (Or.inl rfl)) (pss_one (ps_if (pt_not (pt_val (C8.pe_c DNm hr (by decide) (by rfl) (pa_cons (pv 2) pa_nil)))) (pss_one (ps_bad1 (x := "BadName") rfl tk EN.T EN.iC EN.tI EN.F hr EN.b (by rfl) EN.hm (pv 2))) pss_nil)))
  (pss_one (ps_for (passes_of rfl) rfl (pi_list (pv 0)) (pg_name (i := 2) scChk.nd rfl (Or.inl rfl)) (pss_one (ps_if (pt_not (pt_val (C8.pe_c DSp hr (by decide) (by rfl) (pa_cons (pe_dget (hu_of hr) (pv 1) (pv 2) (fun _ _ => rfl)) pa_nil)))) (pss_one (ps_bad1 (x := "BadSpeed") rfl tk ES.T ES.iC ES.tI ES.F hr ES.b (by rfl) ES.hm (pe_dget (hu_of hr) (pv 1) (pv 2) (fun _ _ => rfl)))) pss_nil))))), ?_⟩
    dsimp only [gName, tSeq]
    refine ⟨_, rfl, l, rfl, ⟨_, SqL.of hl⟩, for_list (xs := xs) (fun i σ' H' => ∃ v, σ' = [some (.ref l), some (.ref d), v] ∧ Same H H' ∧ ∀ (j : Nat) y, j < i → xs[j]? = some y → nameB y = true) ⟨_, rfl, Same.refl _, fun j y hj => absurd hj (Nat.not_lt_zero _)⟩ (fun i σ' H' _ h => by obtain ⟨_, _, s', _⟩ := h; exact SqL.of (s' _ _ hl)) ?_ ?_⟩
    · rintro i y σ' H' hy ⟨v, rfl, s', good⟩
      obtain ⟨ay, ly⟩ := av y (List.mem_of_getElem? hy)
      refine ⟨_, rfl, y, rfl, Lw.Anyv.same s' ay, ly, fun H2 s2 => ⟨_, rfl, ?_⟩⟩
      show if (!nameB y) = true then _ else _
      cases hn : nameB y with
      | false => exact iteT ⟨_, rfl, bad_leaf1 fun e fs hd e1 => h1 i y hy good hn e fs H2 (s'.trans s2) hd e1⟩
      | true =>
        refine iteF ⟨_, rfl, s'.trans s2, fun j z hj hz => ?_⟩
        rcases Nat.lt_or_ge j i with lt | ge
        · exact good j z lt hz
        · obtain rfl : j = i := by omega
          rw [hy] at hz
          cases hz
          exact hn
    · rintro σ1 H1 ⟨v1, rfl, s1, good⟩
      obtain ⟨ns, ks, rfl, hd, look, h3, h4⟩ := h2 fun x hx => by
        obtain ⟨i, hi, e⟩ := List.mem_iff_getElem.mp hx
        exact good i x hi (by rw [← e]; exact List.getElem?_eq_getElem hi)
      refine ⟨_, rfl, l, rfl, ⟨_, SqL.of (s1 _ _ hl)⟩, for_list (xs := ns.map V.str) (fun i σ' H' => ∃ v, σ' = [some (.ref l), some (.ref d), v] ∧ H' = H1 ∧ ∀ (j : Nat) m u, j < i → ns[j]? = some m → ks.lookup m = some u → isSp u = true) ⟨_, rfl, rfl, fun j m u hj => absurd hj (Nat.not_lt_zero _)⟩ (fun i σ' H' _ h => by obtain ⟨_, _, rfl, _⟩ := h; exact SqL.of (s1 _ _ hl)) ?_ ?_⟩
      · rintro i y σ' H' hy ⟨v, rfl, rfl, fine⟩
        rw [List.getElem?_map] at hy
        obtain ⟨n, hn, rfl⟩ := Option.map_eq_some_iff.mp hy
        obtain ⟨u, hu, au⟩ := look n (List.mem_of_getElem? hn)
        have dg : DGet H' d (.str n) (some u) := d_look (s1 _ _ hd) hu
        refine ⟨_, rfl, _, rfl, d, u, rfl, dg, u, rfl, Lw.Anyv.same s1 au, _, rfl, ?_⟩
        show if (!isSp u) = true then _ else _
        cases hs : isSp u with
        | false => exact iteT ⟨_, rfl, _, rfl, d, u, rfl, dg, bad_leaf1 fun e fs hd e1 => h3 i n u hn hu fine hs e fs H' s1 hd e1⟩
        | true =>
          refine iteF ⟨_, rfl, rfl, fun j m w hj hm hw => ?_⟩
          rcases Nat.lt_or_ge j i with lt | ge
          · exact fine j m w lt hm hw
          · obtain rfl : j = i := by omega
            rw [hn] at hm
            cases hm
            rw [hu] at hw
            cases hw
            exact hs
      · rintro σ2 H2 ⟨v2, rfl, rfl, fine⟩
        refine h4 (fun n hn v hv => ?_) _ s1
        obtain ⟨i, hi, e⟩ := List.mem_iff_getElem.mp hn
        exact fine i n v (by rw [List.length_map]; exact hi) (by rw [← e]; exact List.getElem?_eq_getElem hi) hv
end
end Lw
namespace Lw
open PySem PySem.Spec PyProof.Rows L2
open SX PySem.NumText TL LamX ClX StX
abbrev sCrI : Stmt := inClass (top 62) 0
/-- pairs as tuples -/
abbrev PrT (H : Hp) (ts : List Addr) (ps : List (Str × Int)) : Prop := Paired (fun t q => H t = some (.tup [.str q.1, .int q.2])) ts ps
theorem PrT.len : ∀ {H : Hp} {ts : List Addr} {ps : List (Str × Int)}, PrT H ts ps → ts.length = ps.length
  | _, _, _, .nil => rfl
  | _, _, _, .cons _ r => congrArg Nat.succ (PrT.len r)
theorem PrT.at : ∀ {H : Hp} {ts : List Addr} {ps : List (Str × Int)} {i : Nat} {x : V}, PrT H ts ps → (ts.map V.ref)[i]? = some x → ∃ t q, x = .ref t ∧ ps[i]? = some q ∧ H t = some (.tup [.str q.1, .int q.2])
  | _, _, _, _, _, .nil, e => by simp at e
  | _, _, _, 0, _, .cons h _, e => by simp at e; exact ⟨_, _, e.symm, rfl, h⟩
  | _, _, _, i + 1, x, .cons _ r, e => by
    obtain ⟨t, q, h1, h2, h3⟩ := PrT.at (i := i) (x := x) r (by simpa using e)
    exact ⟨t, q, h1, by simpa using h2, h3⟩
theorem PrT.mono {H H' : Hp} (k : ∀ b xs, H b = some (.tup xs) → H' b = some (.tup xs)) : ∀ {ts : List Addr} {ps : List (Str × Int)}, PrT H ts ps → PrT H' ts ps
  | _, _, .nil => .nil
  | _, _, .cons h r => .cons (k _ _ h) (PrT.mono k r)
theorem PrT.same {H H' : Hp} {ts : List Addr} {ps : List (Str × Int)} (h : PrT H ts ps) (s : Same H H') : PrT H' ts ps := h.mono fun b _ e => s b _ e
/-- a list comprehension over pairs, target a tuple of two names, whose test and element leave the heap as it is -/
theorem lc_pairs {K : PySem.W.Frag} {J : It} {G : Hp → Prop} {ts : List Addr} {ps : List (Str × Int)} (w : Walk J (ts.map V.ref).length G (YAt (ts.map V.ref))) {a b : Nat} {tt : TT} {te : TE} {vs : List Nat} {σ : L2.St} {H : Hp} {D : Addr} {Qd : Hp → Prop} (flt : Str × Int → Bool) (f : Str × Int → V)
    (pr : PrT H ts ps) (hG : ∀ xs, G (upd H D (.lst xs))) (hD : H D = none) (hz : ps.length ≤ 5000) (hw : ∀ q : Str × Int, wipe (((wipe σ vs).set a (some (.str q.1))).set b (some (.int q.2))) vs = wipe σ vs)
    (ht : ∀ q xs (R : Bool → Hp → Prop), q ∈ ps → R (flt q) (upd H D (.lst xs)) → tt (((wipe σ vs).set a (some (.str q.1))).set b (some (.int q.2))) (upd H D (.lst xs)) R)
    (he : ∀ q xs (R : V → Hp → Prop), q ∈ ps → flt q = true → R (f q) (upd H D (.lst xs)) → te (((wipe σ vs).set a (some (.str q.1))).set b (some (.int q.2))) (upd H D (.lst xs)) R) (hd : Qd (upd H D (.lst ((ps.filter flt).map f)))) :
    ∃ W : Nat → Nat → Hp → Prop, (∃ m, W 0 m (upd H D (.lst []))) ∧ ∀ i m H, W i m H →
      (J.stop i H ∧ Qd H) ∨ (J.go i H ∧ ∃ Nx : Hp → Prop, (∀ H', Nx H' → ∃ m', m' < m ∧ W (i + 1) m' H') ∧ ∀ x H', J.yld i H x H' → gTup K 2 (gCons (gName a) (gCons (gName b) gNil)) x (wipe σ vs) H' fun σ2 H2 => wipe σ2 vs = wipe σ vs ∧ tt σ2 H2 fun b H3 =>
        if b = true then te σ2 H3 fun y H4 => ∃ acc, H4 D = some (.lst acc) ∧ acc.length < sizeLine ∧ Nx (upd H4 D (.lst (acc ++ [y]))) else Nx H3) := by
  refine lc_it w (fun i H' => H' = upd H D (.lst (((ps.take i).filter flt).map f))) rfl (fun i H' _ e => by rw [e]; exact hG _) ?_ ?_
  · rintro i x H' H'' hi e ⟨rfl, hx⟩
    obtain ⟨t, q, rfl, hq, h3⟩ := pr.at hx
    have hm := List.mem_of_getElem? hq
    have h3' : H'' t = some (.tup [.str q.1, .int q.2]) := by rw [e, upd_ne (ne_of_none h3 hD)]; exact h3
    refine ⟨t, _, rfl, SqT.of h3', rfl, _, _, rfl, _, _, rfl, rfl, hw q, ?_⟩
    have tk : ps.take (i + 1) = ps.take i ++ [q] := by rw [List.take_add_one, hq]; rfl
    rw [e]
    refine ht q _ _ hm ?_
    cases hf : flt q with
    | true =>
      refine iteT (he q _ _ hm hf ⟨_, upd_same, ?_, ?_⟩)
      · rw [List.length_map]
        exact Nat.lt_of_le_of_lt (Nat.le_trans (List.length_filter_le _ _) (Nat.le_trans (List.length_take_le' _ _) hz)) (by decide)
      · rw [upd_upd, tk, List.filter_append, List.map_append]
        simp [hf]
    | false =>
      refine iteF ?_
      rw [tk, List.filter_append, List.map_append]
      simp [hf]
  · rintro H' e
    rw [List.length_map, pr.len, List.take_of_length_le (Nat.le_refl _)] at e
    rw [e]
    exact hd
theorem putK_out {ks : List (Str × V)} {n : Str} {v : V} (h : n ∉ ks.map (·.1)) : putK (dkOf ks) (Sum.inr n : L2.Key) v = dkOf (ks ++ [(n, v)]) := by
  have e : valV (dkOf ks) (Sum.inr n : L2.Key) = none := by
    rw [val_dk]
    cases hl : ks.lookup n with
    | none => rfl
    | some u =>
      exfalso
      clear v
      induction ks with
      | nil => cases hl
      | cons p r ih =>
        obtain ⟨m, x⟩ := p
        by_cases e : n = m
        · exact h (by rw [e]; exact List.mem_cons_self)
        · have e2 : (n == m) = false := beq_eq_false_iff_ne.mpr e
          simp only [List.lookup, e2] at hl
          exact ih (fun z => h (List.mem_cons_of_mem _ z)) hl
  rw [putK_new v e]
  simp [dkOf]
/-- the same of a dict comprehension whose key is the name -/
theorem dc_pairs {K : PySem.W.Frag} {J : It} {G : Hp → Prop} {ts : List Addr} {ps : List (Str × Int)} (w : Walk J (ts.map V.ref).length G (YAt (ts.map V.ref))) {a b : Nat} {tt : TT} {tk tv : TE} {vs : List Nat} {σ : L2.St} {H : Hp} {D : Addr} {Qd : Hp → Prop} (flt : Str × Int → Bool) (f : Str × Int → V)
    (nd : (ps.map (·.1)).Nodup) (pr : PrT H ts ps) (hG : ∀ xs, G (upd H D (.dK xs))) (hD : H D = none) (hz : ps.length ≤ 5000) (hw : ∀ q : Str × Int, wipe (((wipe σ vs).set a (some (.str q.1))).set b (some (.int q.2))) vs = wipe σ vs)
    (ht : ∀ q xs (R : Bool → Hp → Prop), q ∈ ps → R (flt q) (upd H D (.dK xs)) → tt (((wipe σ vs).set a (some (.str q.1))).set b (some (.int q.2))) (upd H D (.dK xs)) R)
    (hk : ∀ q xs (R : V → Hp → Prop), q ∈ ps → flt q = true → R (.str q.1) (upd H D (.dK xs)) → tk (((wipe σ vs).set a (some (.str q.1))).set b (some (.int q.2))) (upd H D (.dK xs)) R)
    (he : ∀ q xs (R : V → Hp → Prop), q ∈ ps → flt q = true → R (f q) (upd H D (.dK xs)) → tv (((wipe σ vs).set a (some (.str q.1))).set b (some (.int q.2))) (upd H D (.dK xs)) R) (hd : Qd (upd H D (.dK (dkOf ((ps.filter flt).map fun q => (q.1, f q)))))) :
    ∃ W : Nat → Nat → Hp → Prop, (∃ m, W 0 m (upd H D (.dK []))) ∧ ∀ i m H, W i m H →
      (J.stop i H ∧ Qd H) ∨ (J.go i H ∧ ∃ Nx : Hp → Prop, (∀ H', Nx H' → ∃ m', m' < m ∧ W (i + 1) m' H') ∧ ∀ x H', J.yld i H x H' → gTup K 2 (gCons (gName a) (gCons (gName b) gNil)) x (wipe σ vs) H' fun σ2 H2 => wipe σ2 vs = wipe σ vs ∧ tt σ2 H2 fun b H3 =>
        if b = true then tk σ2 H3 fun y H4 => tv σ2 H4 fun z H5 => ∃ kvs k, y = kV k ∧ H5 D = some (.dK kvs) ∧ kvs.length < sizeLine ∧ Nx (upd H5 D (.dK (putK kvs k z))) else Nx H3) := by
  refine dc_it w (fun i H' => H' = upd H D (.dK (dkOf (((ps.take i).filter flt).map fun q => (q.1, f q))))) rfl (fun i H' _ e => by rw [e]; exact hG _) ?_ ?_
  · rintro i x H' H'' hi e ⟨rfl, hx⟩
    obtain ⟨t, q, rfl, hq, h3⟩ := pr.at hx
    have hm := List.mem_of_getElem? hq
    have h3' : H'' t = some (.tup [.str q.1, .int q.2]) := by rw [e, upd_ne (ne_of_none h3 hD)]; exact h3
    refine ⟨t, _, rfl, SqT.of h3', rfl, _, _, rfl, _, _, rfl, rfl, hw q, ?_⟩
    have tke : ps.take (i + 1) = ps.take i ++ [q] := by rw [List.take_add_one, hq]; rfl
    rw [e]
    refine ht q _ _ hm ?_
    cases hf : flt q with
    | true =>
      refine iteT (hk q _ _ hm hf (he q _ _ hm hf ⟨_, Sum.inr q.1, rfl, upd_same, ?_, ?_⟩))
      · rw [List.length_map, List.length_map]
        exact Nat.lt_of_le_of_lt (Nat.le_trans (List.length_filter_le _ _) (Nat.le_trans (List.length_take_le' _ _) hz)) (by decide)
      · have out : q.1 ∉ (((ps.take i).filter flt).map fun q => (q.1, f q)).map (·.1) := fun z => by
          rw [List.map_map] at z
          obtain ⟨r, hr, e⟩ := List.mem_map.mp z
          have hr2 := (List.mem_filter.mp hr).1
          obtain ⟨j, hj⟩ := List.mem_iff_getElem?.mp hr2
          rw [List.getElem?_take] at hj
          split at hj
          · rename_i ji
            have a1 : (ps.map (·.1))[j]? = some q.1 := by rw [List.getElem?_map, hj]; exact congrArg some e
            have a2 : (ps.map (·.1))[i]? = some q.1 := by rw [List.getElem?_map, hq]; rfl
            obtain ⟨b1, c1⟩ := List.getElem?_eq_some_iff.mp a1
            obtain ⟨b2, c2⟩ := List.getElem?_eq_some_iff.mp a2
            exact List.pairwise_iff_getElem.mp nd j i b1 b2 ji (c1.trans c2.symm)
          · cases hj
        rw [upd_upd, tke, List.filter_append, List.map_append, putK_out out]
        simp [hf]
    | false =>
      refine iteF ?_
      rw [tke, List.filter_append, List.map_append]
      simp [hf]
  · rintro H' e
    rw [List.length_map, pr.len, List.take_of_length_le (Nat.le_refl _)] at e
    rw [e]
    exact hd
/-- a crew's attributes -/
def crF (w : Addr) (s mn mx : Int) (sl fa : Str) (p d : Addr) : List (Str × V) := putF "_speeds" (.ref d) (putF "_pairs" (.ref p) (putF "fastest" (.str fa) (putF "slowest" (.str sl) (putF "greatest_speed" (.int mx) (putF "least_speed" (.int mn) (putF "speed" (.int s) (putF "workers" (.ref w) [])))))))
/-- the first that has this speed -/
def First (ps : List (Str × Int)) (m : Int) (n : Str) : Prop := ∃ i : Nat, ps[i]? = some (n, m) ∧ ∀ (j : Nat) q, j < i → ps[j]? = some q → q.2 ≠ m
abbrev dkI (ps : List (Str × Int)) : List (L2.Key × V) := dkOf (ps.map fun q => (q.1, V.int q.2))
theorem kp_new {a : Addr} {H H' : Hp} {D : Addr} {o : HO} (k : Kp a H H') (hD : H' D = none) : Kp a H (upd H' D o) := fun b u hb e => by rw [upd_ne (ne_of_none (k b u hb e) hD)]; exact k b u hb e
theorem kp_at {a : Addr} {H H' : Hp} {o : HO} (k : Kp a H H') : Kp a H (upd H' a o) := fun b u hb e => by rw [upd_ne hb]; exact k b u hb e
theorem pF_len (f : Str) (v : V) : ∀ fs : List (Str × V), (putF f v fs).length ≤ fs.length + 1
  | [] => Nat.le_refl _
  | (g, x) :: r => by
    unfold putF
    split
    · rw [List.length_cons, List.length_cons]; omega
    · rw [List.length_cons, List.length_cons]
      exact Nat.succ_le_succ (pF_len f v r)
theorem isSp_int {v : V} (h : isSp v = true) : ∃ i, v = .int i ∧ 1 ≤ i ∧ i ≤ 60 := by
  unfold isSp inB at h
  split at h
  · rename_i i
    rw [Bool.and_eq_true, decide_eq_true_eq, decide_eq_true_eq] at h
    exact ⟨i, rfl, h.1, h.2⟩
  · cases h
theorem look_mem {n : Str} : ∀ {ks : List (Str × V)}, n ∈ ks.map (·.1) → ∃ v, ks.lookup n = some v ∧ (n, v) ∈ ks
  | (m, x) :: r, h => by
    by_cases e : n = m
    · subst e
      exact ⟨x, by simp [List.lookup], List.mem_cons_self⟩
    · have e2 : (n == m) = false := beq_eq_false_iff_ne.mpr e
      rcases List.mem_cons.mp h with h | h
      · exact absurd h e
      · obtain ⟨v, h1, h2⟩ := look_mem (ks := r) h
        exact ⟨v, by simp only [List.lookup, e2]; exact h1, List.mem_cons_of_mem _ h2⟩
def spOf (ks : List (Str × V)) (n : Str) : Int := match ks.lookup n with
  | some (.int i) => i
  | _ => 0
theorem first_of {m : Int} : ∀ {ps : List (Str × Int)}, m ∈ ps.map (·.2) → ∃ n, ((ps.filter fun q => decide (V.int q.2 = V.int m)).map fun q => V.str q.1)[0]? = some (.str n) ∧ First ps m n
  | (k, i) :: r, h => by
    by_cases e : i = m
    · subst e
      exact ⟨k, by simp, 0, rfl, fun j q hj => absurd hj (Nat.not_lt_zero _)⟩
    · have hr : m ∈ r.map (·.2) := by
        rcases List.mem_cons.mp h with h | h
        · exact absurd h.symm e
        · exact h
      obtain ⟨n, h1, j, h2, h3⟩ := first_of hr
      have e2 : ¬ V.int i = V.int m := fun z => e (V.int.inj z)
      refine ⟨n, by rw [List.filter_cons, if_neg (by simpa using e)]; exact h1, j + 1, h2, fun k' q hk hq => ?_⟩
      cases k' with
      | zero => cases hq; exact e
      | succ k' => exact h3 k' q (Nat.lt_of_succ_lt_succ hk) hq
theorem DGet.kr {H : Hp} {a : Addr} {kvs : List (L2.Key × V)} {k : L2.Key} (e : L2.Rd H a (.dK kvs)) : DGet H a (kV k) (valV kvs k) := .inl ⟨kvs, k, e, rfl, rfl⟩
def CwAt (CC : Addr) (H : Hp) (c : Addr) (ps : List (Str × Int)) : Prop := ∃ (dx w p d : Addr) (ts : List Addr) (mn mx : Int) (sl fa : Str),
  H c = some (.ins CC dx (crF w (ps.map (·.2)).sum mn mx sl fa p d)) ∧ H w = some (.tup (ps.map fun q => V.str q.1)) ∧ H p = some (.tup (ts.map V.ref)) ∧ PrT H ts ps ∧ L2.Rd H d (.dK (dkI ps)) ∧
  (∀ q ∈ ps, mn ≤ q.2 ∧ q.2 ≤ mx) ∧ First ps mn sl ∧ First ps mx fa
/-- the crew's own dict is none of those before -/
def NewD (H H' : Hp) (c : Addr) : Prop := ∀ D, H D ≠ none → ∀ C dx fs, H' c = some (.ins C dx fs) → fs.lookup ("_speeds" : Str) ≠ some (.ref D)
def Bf2 (D : Addr) (f1 : Str) (v1 : V) (f2 : Str) (v2 : V) (H : Hp) (E : XK) : Prop := ∀ d fs H', Same H H' → H' d = none → fs.lookup f1 = some v1 → fs.lookup f2 = some v2 → E (.ref D) (some d) (upd H' d (.xd fs))
/-- the class and what its __init__ needs of the module -/
structure CrC (K : PySem.W.Frag) (mg : Str → Option Value) (CC : Addr) : Prop where
  cl : Cls K CC
  hm : mg "Crew" = some (.ref CC)
  n1 : PySem.W.findIn K (.ref CC) "workers" = some none
  n2 : PySem.W.findIn K (.ref CC) "speed" = some none
  n3 : PySem.W.findIn K (.ref CC) "least_speed" = some none
  n4 : PySem.W.findIn K (.ref CC) "greatest_speed" = some none
  n5 : PySem.W.findIn K (.ref CC) "slowest" = some none
  n6 : PySem.W.findIn K (.ref CC) "fastest" = some none
  n7 : PySem.W.findIn K (.ref CC) "_pairs" = some none
  n8 : PySem.W.findIn K (.ref CC) "_speeds" = some none
structure TxtC (mg : Str → Option Value) : Prop extends Txt mg where
  n_sorted : mg "sorted" = none
  n_tuple : mg "tuple" = none
  n_sum : mg "sum" = none
  n_min : mg "min" = none
  n_max : mg "max" = none
  n_dict : mg "dict" = none
  n_iter : mg "iter" = none
  c_MW : ∃ t, mg "MOST_WORKERS" = some (.int 8 t)
def spCrI (K : PySem.W.Frag) (CC DN DS DC DM : Addr) : SpK := fun x ks H Q E => ∃ (a dx : Addr), x = .ref a ∧ H a = some (.ins CC dx []) ∧ (∀ p ∈ ks, Anyv K H p.2 ∧ p.1.length ≤ 1000000 ∧ p.1 ≠ "this_crew") ∧ ks.length < 64 ∧
  ∀ ys : List Str, ys.Perm (ks.map (·.1)) → sortedS ys = true →
    (∀ (i : Nat) n, ys[i]? = some n → (∀ (j : Nat) m, j < i → ys[j]? = some m → nameT m = true) → nameT n = false → Bf DN "value" (.str n) H E) ∧
    ((∀ n ∈ ys, nameT n = true) →
      (∀ (i : Nat) n v, ys[i]? = some n → ks.lookup n = some v → (∀ (j : Nat) m u, j < i → ys[j]? = some m → ks.lookup m = some u → isSp u = true) → isSp v = false → Bf DS "value" v H E) ∧
      (∀ ps : List (Str × Int), ps.map (·.1) = ys → (∀ q ∈ ps, ks.lookup q.1 = some (.int q.2) ∧ 1 ≤ q.2 ∧ q.2 ≤ 60) →
        (ps = [] → Bf DC "part" (.str (Str.ofString "empty")) H E) ∧ (8 < ps.length → Bf2 DM "what" (.str (Str.ofString "workers")) "most" (.int 8) H E) ∧
        (ps ≠ [] → ps.length ≤ 8 → ∀ H', Kp a H H' → CwAt CC H' a ps → NewD H H' a → Q .non H')))
section
variable {P : Program} {w : World} {K : PySem.W.Frag} {mg : Str → Option Value} {base : Heap}
theorem scCrI : FnScope ["this_crew", "speeds", "names", "pairs", "name", "speed", "_"] ["this_crew", "speeds"] (C8.fnScope sCrI) := C8.fnScope_by (by decide +kernel)
set_option maxHeartbeats 2000000 in
theorem fn_crI {CC DN DS DC DM fC fM fK f : Addr} {fd fdC fdM fdK : FuncData} (F : C8.Fun K "__init__" "Crew.__init__" sCrI f fd) (df : fd.defaults = .none) (T : TxtC mg) (Z : CrC K mg CC) (EC : Err1 "BadCrew" "part" P w K mg base DC fC fdC) (EM : Err2 "TooMany" "what" "most" P w K mg base DM fM fdM)
    (DK : C8.Def K mg "check_speeds" sChk fK fdK) (bK : Binds K fdK ["names", "speeds"] []) (FK : FnOk P w K mg base (L2.CX P w) 4 fK fdK ["names", "speeds"] (spChk K DN DS)) :
    FnKw P w K mg base (L2.CX P w) 6 f (spCrI K CC DN DS DC DM) := by
  obtain ⟨oc, od, dV, kV, doc, pm, an, cdv, ct, osl, rfl, lk, hcd⟩ := F.ex
  have e0 : dV = .none := df
  subst e0
  obtain ⟨tMW, hMW⟩ := T.c_MW
  refine fn_kw (nm := "this_crew") lk hcd scCrI cxUp rfl rfl rfl rfl rfl rfl (fun x ks H Q E h => ?_) fun A outer s H x d ks Q E hr hd nd h => ?_
  · obtain ⟨a, dx, _, _, h1, h2, _⟩ := h
    exact ⟨fun p hp => (h1 p hp).2.2, Nat.le_of_lt (Nat.lt_trans h2 (by decide))⟩
  · obtain ⟨a, dx, rfl, ha, h1, h2, h3⟩ := h
    have tk : Takes (cxOf (L2.CX P w) P w K mg base ["this_crew", "speeds", "names", "pairs", "name", "speed", "_"] "Crew.__init__" (C8.fnScope sCrI) f cdv A outer s (upd H d (.dK (dkOf ks))) E) (fun cls d _ H' => E cls d H') := takes_of rfl rfl rfl rfl
    refine ⟨_, (pss_cons (ps_set (i := 2) scCrI.nd rfl (Or.inl rfl) (pe_callB cr_sortedS (by rfl) T.n_sorted (by decide +kernel) (pa_cons (pe_lock (pe_lc (own := [("name", 4)]) (g := gName 4) (tt := tYes) rfl scCrI.nd (pi_keys (pv 1)) (blkOk_by (own := [("name", 4)]) (N := ["this_crew", "speeds", "names", "pairs", "name", "speed", "_"]) (sc := (C8.fnScope sCrI)) (by decide +kernel)) (fun _ _ _ _ _ => (pg_name (i := 4) scCrI.nd rfl (Or.inl rfl))) (fun _ _ _ _ _ => pts_nil) (fun _ _ _ _ _ => (pe_callTy SkE.call_str_str (by rfl) T.n_str (by decide +kernel) (pa_cons (pv 4) pa_nil))))) pa_nil)))
  (pss_cons (ps_expr (pe_call FK (hr.mono (by decide)) (by rfl) DK.mgf DK.kp bK .nil (passes_call (takes_of rfl rfl rfl rfl) (fun _ _ _ _ z => z)) (pa_cons (pv 2) (pa_cons (pv 1) pa_nil))))
  (pss_cons (ps_if (pt_not (pt_truth (pv 2) (by intro _; rfl))) (pss_one (ps_bad1 (x := "BadCrew") rfl tk EC.T EC.iC EC.tI EC.F hr EC.b (by rfl) EC.hm pe_str)) pss_nil)
  (pss_cons (ps_if (pt_cmpR op_gt (pe_callB call_len_seq (by rfl) T.n_len (by decide +kernel) (pa_cons (pv 2) pa_nil)) (pe_glob (v := .int 8) rfl hMW ⟨_, rfl⟩) (nomark _)) (pss_one (ps_bad2 (x := "TooMany") rfl tk EM.T EM.iC EM.tI EM.F hr EM.b (by rfl) EM.hm pe_str (pe_glob (v := .int 8) rfl hMW ⟨_, rfl⟩))) pss_nil)
  (pss_cons (ps_setLc (i := 3) (own := [("name", 4)]) (g := gName 4) (tt := tYes) rfl scCrI.nd rfl rfl (sw_true rfl rfl rfl (by decide +kernel)) (pi_list (pv 2)) (blkOk_by (own := [("name", 4)]) (N := ["this_crew", "speeds", "names", "pairs", "name", "speed", "_"]) (sc := (C8.fnScope sCrI)) (by decide +kernel)) (fun _ _ _ _ _ => (pg_name (i := 4) scCrI.nd rfl (Or.inl rfl))) (fun _ _ _ _ _ => pts_nil) (fun _ _ _ _ _ => (pe_tup (pa_cons (pv 4) (pa_cons (pe_dget (hu_of hr) (pv 1) (pv 4) (fun _ _ => rfl)) pa_nil)))))
  (pss_cons (ps_fld (pv 0) (pe_callTy call_tuple_of (by rfl) T.n_tuple (by decide +kernel) (pa_cons (pv 2) pa_nil)) rfl)
  (pss_cons (ps_fld (pv 0) (pe_callB (cr_sum rfl) (by rfl) T.n_sum (by decide +kernel) (pa_cons (pe_lc (own := [("_", 6), ("speed", 5)]) (g := gTup K 2 (gCons (gName 6) (gCons (gName 5) (gNil)))) (tt := tYes) rfl scCrI.nd (pi_list (pv 3)) (blkOk_by (own := [("_", 6), ("speed", 5)]) (N := ["this_crew", "speeds", "names", "pairs", "name", "speed", "_"]) (sc := (C8.fnScope sCrI)) (by decide +kernel)) (fun _ _ _ _ _ => (pg_tup rfl (pgs_cons (pg_name (i := 6) scCrI.nd rfl (Or.inl rfl)) (pgs_cons (pg_name (i := 5) scCrI.nd rfl (Or.inl rfl)) pgs_nil)))) (fun _ _ _ _ _ => pts_nil) (fun _ _ _ _ _ => (pv 5))) pa_nil)) rfl)
  (pss_cons (ps_fld (pv 0) (pe_callB (cr_min rfl) (by rfl) T.n_min (by decide +kernel) (pa_cons (pe_lc (own := [("_", 6), ("speed", 5)]) (g := gTup K 2 (gCons (gName 6) (gCons (gName 5) (gNil)))) (tt := tYes) rfl scCrI.nd (pi_list (pv 3)) (blkOk_by (own := [("_", 6), ("speed", 5)]) (N := ["this_crew", "speeds", "names", "pairs", "name", "speed", "_"]) (sc := (C8.fnScope sCrI)) (by decide +kernel)) (fun _ _ _ _ _ => (pg_tup rfl (pgs_cons (pg_name (i := 6) scCrI.nd rfl (Or.inl rfl)) (pgs_cons (pg_name (i := 5) scCrI.nd rfl (Or.inl rfl)) pgs_nil)))) (fun _ _ _ _ _ => pts_nil) (fun _ _ _ _ _ => (pe_callTy call_int1 (by rfl) T.n_int (by decide +kernel) (pa_cons (pv 5) pa_nil)))) pa_nil)) rfl)
  (pss_cons (ps_fld (pv 0) (pe_callB (cr_max rfl) (by rfl) T.n_max (by decide +kernel) (pa_cons (pe_lc (own := [("_", 6), ("speed", 5)]) (g := gTup K 2 (gCons (gName 6) (gCons (gName 5) (gNil)))) (tt := tYes) rfl scCrI.nd (pi_list (pv 3)) (blkOk_by (own := [("_", 6), ("speed", 5)]) (N := ["this_crew", "speeds", "names", "pairs", "name", "speed", "_"]) (sc := (C8.fnScope sCrI)) (by decide +kernel)) (fun _ _ _ _ _ => (pg_tup rfl (pgs_cons (pg_name (i := 6) scCrI.nd rfl (Or.inl rfl)) (pgs_cons (pg_name (i := 5) scCrI.nd rfl (Or.inl rfl)) pgs_nil)))) (fun _ _ _ _ _ => pts_nil) (fun _ _ _ _ _ => (pe_callTy call_int1 (by rfl) T.n_int (by decide +kernel) (pa_cons (pv 5) pa_nil)))) pa_nil)) rfl)
  (pss_cons (ps_fld (pv 0) (pe_ix ix_list (pe_lc (own := [("name", 4), ("speed", 5)]) (g := gTup K 2 (gCons (gName 4) (gCons (gName 5) (gNil)))) rfl scCrI.nd (pi_list (pv 3)) (blkOk_by (own := [("name", 4), ("speed", 5)]) (N := ["this_crew", "speeds", "names", "pairs", "name", "speed", "_"]) (sc := (C8.fnScope sCrI)) (by decide +kernel)) (fun _ _ _ _ _ => (pg_tup rfl (pgs_cons (pg_name (i := 4) scCrI.nd rfl (Or.inl rfl)) (pgs_cons (pg_name (i := 5) scCrI.nd rfl (Or.inl rfl)) pgs_nil)))) (fun _ _ _ _ _ => pts_one (pt_cmpR op_eq (pv 5) (pe_fldK K rfl (pv 0) rfl) (nomark _))) (fun _ _ _ _ _ => (pv 4))) pe_int (fun _ _ => rfl)) rfl)
  (pss_cons (ps_fld (pv 0) (pe_ix ix_list (pe_lc (own := [("name", 4), ("speed", 5)]) (g := gTup K 2 (gCons (gName 4) (gCons (gName 5) (gNil)))) rfl scCrI.nd (pi_list (pv 3)) (blkOk_by (own := [("name", 4), ("speed", 5)]) (N := ["this_crew", "speeds", "names", "pairs", "name", "speed", "_"]) (sc := (C8.fnScope sCrI)) (by decide +kernel)) (fun _ _ _ _ _ => (pg_tup rfl (pgs_cons (pg_name (i := 4) scCrI.nd rfl (Or.inl rfl)) (pgs_cons (pg_name (i := 5) scCrI.nd rfl (Or.inl rfl)) pgs_nil)))) (fun _ _ _ _ _ => pts_one (pt_cmpR op_eq (pv 5) (pe_fldK K rfl (pv 0) rfl) (nomark _))) (fun _ _ _ _ _ => (pv 4))) pe_int (fun _ _ => rfl)) rfl)
  (pss_cons (ps_fld (pv 0) (pe_callTy call_tuple_of (by rfl) T.n_tuple (by decide +kernel) (pa_cons (pv 3) pa_nil)) rfl)
  (pss_one (ps_fld (pv 0) (pe_dc (own := [("name", 4), ("speed", 5)]) (g := gTup K 2 (gCons (gName 4) (gCons (gName 5) (gNil)))) (tt := tYes) rfl scCrI.nd (pi_list (pv 3)) (blkOk_by (own := [("name", 4), ("speed", 5)]) (N := ["this_crew", "speeds", "names", "pairs", "name", "speed", "_"]) (sc := (C8.fnScope sCrI)) (by decide +kernel)) (fun _ _ _ _ _ => (pg_tup rfl (pgs_cons (pg_name (i := 4) scCrI.nd rfl (Or.inl rfl)) (pgs_cons (pg_name (i := 5) scCrI.nd rfl (Or.inl rfl)) pgs_nil)))) (fun _ _ _ _ _ => pts_nil) (fun _ _ _ _ _ => (pv 4)) (fun _ _ _ _ _ => (pv 5))) rfl)))))))))))))), ?_⟩
    dsimp only [gName, tSeq]
    have hd0 : upd H d (.dK (dkOf ks)) d = some (.dK (dkOf ks)) := upd_same
    have s0 := same_new (o := HO.dK (dkOf ks)) hd
    have ha0 := s0 _ _ ha
    generalize upd H d (.dK (dkOf ks)) = H0 at hd0 s0 ha0 tk ⊢
    refine (show tLockE _ _ _ _ from names_of (d := d) (ks := ks) rfl (by show 4 < 7; decide) hd0 (by omega) fun D H1 s1 fD hD1 => ?_)
    refine ⟨D, ks.map (·.1), rfl, SqL.of (by rw [List.map_map]; exact hD1), by rw [List.length_map]; exact h2, fun ys p pm srt hp => ?_⟩
    obtain ⟨k1, k2⟩ := h3 ys pm srt
    have s2 := s1.trans (same_new (o := HO.lst (ys.map V.str)) hp)
    have hp2 : upd H1 p (.lst (ys.map V.str)) p = some (.lst (ys.map V.str)) := upd_same
    have ap : p ≠ a := fun e => by rw [e, s1 _ _ ha0] at hp; cases hp
    generalize upd H1 p (.lst (ys.map V.str)) = H2 at s2 hp2 ⊢
    have sH := s0.trans s2
    have hd2 := s2 _ _ hd0
    have mem : ∀ n ∈ ys, n ∈ ks.map (·.1) := fun n hn => pm.subset hn
    have ly : ys.length = ks.length := by rw [pm.length_eq, List.length_map]
    dsimp only [gName, tSeq]
    refine ⟨_, rfl, _, rfl, p, d, ys.map V.str, rfl, hp2, fun x hx => ?_, fun i x hx h4 h5 => ?_, fun h4 => ⟨ys, ks, rfl, hd2, fun n hn => ?_, fun i n v hn hv h5 h6 => ?_, fun h5 H3 s3 => ?_⟩⟩
    · obtain ⟨n, hn, rfl⟩ := List.mem_map.mp hx
      obtain ⟨v, _, hv⟩ := look_mem (mem n hn)
      exact ⟨.str n, fun z e => by cases e; exact (h1 _ hv).2.1⟩
    · rw [List.getElem?_map] at hx
      obtain ⟨n, hn, rfl⟩ := Option.map_eq_some_iff.mp hx
      exact (k1 i n hn (fun j m hj hm => h4 j (.str m) hj (by rw [List.getElem?_map, hm]; rfl)) h5).of sH
    · obtain ⟨v, hv, hm⟩ := look_mem (mem n hn)
      exact ⟨v, hv, Lw.Anyv.same sH (h1 _ hm).1⟩
    · exact ((k2 fun m hm => h4 _ (List.mem_map_of_mem hm)).1 i n v hn hv h5 h6).of sH
    have k3 := (k2 fun m hm => h4 _ (List.mem_map_of_mem hm)).2 (ys.map fun n => (n, spOf ks n)) (by rw [List.map_map]; exact List.map_id _) fun q hq => by
      obtain ⟨n, hn, rfl⟩ := List.mem_map.mp hq
      obtain ⟨v, hv, _⟩ := look_mem (mem n hn)
      obtain ⟨i, rfl, l1, l2⟩ := isSp_int (h5 n hn v hv)
      show ks.lookup n = some (.int (spOf ks n)) ∧ 1 ≤ spOf ks n ∧ spOf ks n ≤ 60
      unfold spOf
      rw [hv]
      exact ⟨rfl, l1, l2⟩
    have ndy : ys.Nodup := pm.symm.nodup nd
    have eqv : ∀ n ∈ ys, ks.lookup n = some (.int (spOf ks n)) := fun n hn => by
      obtain ⟨v, hv, _⟩ := look_mem (mem n hn)
      obtain ⟨i, rfl, _, _⟩ := isSp_int (h5 n hn v hv)
      unfold spOf
      rw [hv]
    clear k1 k2 h5 h4 h3 h1 mem
    generalize hps : (ys.map fun n => (n, spOf ks n)) = ps at k3
    have eny : ps.map (·.1) = ys := by rw [← hps, List.map_map]; exact List.map_id _
    have lp : ps.length = ys.length := by rw [← hps, List.length_map]
    obtain ⟨k3, k4, k5⟩ := k3
    have s3' := sH.trans s3
    have hp3 := s3 _ _ hp2
    have hd3 := s3 _ _ hd2
    dsimp only [tNext, tSeq]
    refine ⟨_, rfl, !(ys.map V.str).isEmpty, .inl ⟨_, SqL.of hp3, rfl⟩, ?_⟩
    by_cases cy : ys = []
    · have e : ps = [] := by rw [cy] at lp; exact List.eq_nil_of_length_eq_zero lp
      rw [cy]
      exact iteT (bad_leaf1 fun e1 fs hd e2 => k3 e e1 fs H3 s3' hd e2)
    have ne : (ys.map V.str).isEmpty = false := by
      cases ys with
      | nil => exact absurd rfl cy
      | cons _ _ => rfl
    rw [ne]
    refine iteF ?_
    dsimp only [tNext, tSeq]
    refine ⟨_, rfl, p, _, rfl, .inl (SqL.of hp3), _, _, rfl, rfl, _, rfl, ?_⟩
    rw [List.length_map]
    by_cases c8 : 8 < ys.length
    · exact iteT' (decide_eq_true (by omega)) (bad_leaf2 fun e1 fs hd e2 e3 => k4 (by omega) e1 fs H3 s3' hd e2 e3)
    refine iteF' (decide_eq_false (by omega)) ?_
    have kQ := k5 (fun e => cy (by rw [e] at lp; exact List.eq_nil_of_length_eq_zero lp.symm)) (by omega)
    clear k3 k4 k5
    have c8 : ys.length ≤ 8 := by omega
    have ha3 := s3 _ _ (s2 _ _ ha0)
    dsimp only [tNext, tSeq]
    refine ⟨_, rfl, p, rfl, ⟨_, SqL.of hp3⟩, fun L hL => lc_it walk_list (fun i H' => Same H3 H' ∧ ∃ ts : List Addr, H' L = some (.lst (ts.map V.ref)) ∧ PrT H' ts (ps.take i)) ⟨same_new hL, [], upd_same, .nil⟩ (fun i H' _ h => SqL.of (h.1 _ _ hp3)) ?_ ?_⟩
    · rintro i x H' H'' hi ⟨s', ts, hLt, pr⟩ ⟨rfl, hx⟩
      rw [List.getElem?_map] at hx
      obtain ⟨n, hn, rfl⟩ := Option.map_eq_some_iff.mp hx
      have hm := List.mem_of_getElem? hn
      have hq : ps[i]? = some (n, spOf ks n) := by rw [← hps, List.getElem?_map, hn]; rfl
      refine ⟨rfl, ?_⟩
      dsimp only [tYes]
      rw [if_pos rfl]
      refine ⟨_, rfl, _, rfl, _, rfl, d, .int (spOf ks n), rfl, d_look (s' _ _ hd3) (eqv n hm), (by show 2 ≤ sizeLine; decide), fun T' hT => ?_⟩
      have TL : T' ≠ L := fun e => by rw [e, hLt] at hT; cases hT
      have sT : Same H'' (upd H'' T' (.tup [.str n, .int (spOf ks n)])) := same_new hT
      refine ⟨ts.map V.ref, sT _ _ hLt, ?_, fun b o e => ?_, ts ++ [T'], ?_, ?_⟩
      · rw [List.length_map, pr.len]
        exact Nat.lt_of_le_of_lt (Nat.le_trans (List.length_take_le _ _) (show i ≤ 5000 by rw [List.length_map] at hi; omega)) (by decide)
      · rw [upd_ne (ne_of_none e hL)]
        exact sT _ _ (s' _ _ e)
      · rw [upd_same, List.map_append]; rfl
      · rw [List.take_add_one, hq]
        have k : ∀ b xs, H'' b = some (.tup xs) → upd (upd H'' T' (.tup [.str n, .int (spOf ks n)])) L (.lst (ts.map V.ref ++ [.ref T'])) b = some (.tup xs) := fun b xs e => by
          rw [upd_ne (fun z => by rw [z, hLt] at e; cases e)]
          exact sT _ _ e
        exact Paired.snoc (pr.mono k) (by rw [upd_ne TL]; exact upd_same)
    · rintro H4 ⟨s4, ts, hL4, pr⟩
      rw [List.length_map, ← lp, List.take_of_length_le (Nat.le_refl _)] at pr
      have ha4 := s4 _ _ ha3
      have hp4 := s4 _ _ hp3
      have kH : Kp a H H4 := .of ((s0.trans s2).trans (s3.trans s4))
      clear hp3 hd3 s3' s3 s4 hd2 ha0 hd0 s0 s1 s2 sH hp2 ha3 hD1 fD
      have aL : L ≠ a := fun e => by rw [e, ha4] at hL4; cases hL4
      have notA : ∀ {b : Addr} {xs : List V}, H4 b = some (.tup xs) → b ≠ a := fun {b xs} e z => by rw [z, ha4] at e; cases e
      have hz : ps.length ≤ 5000 := by omega
      have pos : 0 < ps.length := by
        rw [lp]
        exact Nat.pos_of_ne_zero fun e => cy (List.eq_nil_of_length_eq_zero e)
      have tru : ∀ f : Str × Int → V, (ps.filter fun _ => true).map f = ps.map f := fun f => by rw [List.filter_eq_self.mpr fun _ _ => rfl]
      dsimp only [gName, tSeq]
      refine ⟨_, rfl, p, _, rfl, .inl ⟨SqL.of hp4, fun wt hwt => ?_⟩⟩
      have aw : wt ≠ a := fun e => by rw [e, ha4] at hwt; cases hwt
      refine ⟨_, rfl, a, CC, dx, [], rfl, (same_new hwt) _ _ ha4, Z.cl, Z.n1, (by show 0 < 1000; decide), ?_⟩
      have k5 : Kp a H4 (upd (upd H4 wt (.tup (ys.map V.str))) a (.ins CC dx (putF "workers" (.ref wt) []))) := kp_at (kp_new (.of (Same.refl _)) hwt)
      have ha5 : upd (upd H4 wt (.tup (ys.map V.str))) a (.ins CC dx (putF "workers" (.ref wt) [])) a = some (.ins CC dx (putF "workers" (.ref wt) [])) := upd_same
      have hw5 : upd (upd H4 wt (.tup (ys.map V.str))) a (.ins CC dx (putF "workers" (.ref wt) [])) wt = some (.tup (ys.map V.str)) := by rw [upd_ne aw]; exact upd_same
      have l1 : (putF "workers" (.ref wt) []).length ≤ 1 := pF_len _ _ _
      generalize upd (upd H4 wt (.tup (ys.map V.str))) a (.ins CC dx (putF "workers" (.ref wt) [])) = H5 at k5 ha5 hw5 ⊢
      dsimp only [tNext, tSeq]
      have hL5 := k5 _ _ aL hL4
      have pr5 : PrT H5 ts ps := pr.mono fun b xs e => k5 _ _ (notA e) e
      refine ⟨_, rfl, L, rfl, ⟨_, SqL.of hL5⟩, fun D5 hD5 => lc_pairs walk_list (fun _ => true) (fun q => .int q.2) pr5 (fun xs => SqL.of ((same_new hD5) _ _ hL5)) hD5 hz (fun q => rfl) (fun q xs R _ h => h) (fun q xs R _ _ h => ⟨_, rfl, h⟩) ?_⟩
      rw [tru]
      refine ⟨D5, ps.map (·.2), rfl, SqL.of (by rw [List.map_map]; exact upd_same), ?_⟩
      refine ⟨_, rfl, a, CC, dx, _, rfl, (same_new hD5) _ _ ha5, Z.cl, Z.n2, by omega, ?_⟩
      generalize hO : HO.lst (ps.map fun q => V.int q.2) = O5
      clear hO
      have k6 : Kp a H4 (upd (upd H5 D5 O5) a (.ins CC dx (putF "speed" (.int (ps.map (·.2)).sum) (putF "workers" (.ref wt) [])))) := kp_at (kp_new k5 hD5)
      have ha6 : upd (upd H5 D5 O5) a (.ins CC dx (putF "speed" (.int (ps.map (·.2)).sum) (putF "workers" (.ref wt) []))) a = some (.ins CC dx (putF "speed" (.int (ps.map (·.2)).sum) (putF "workers" (.ref wt) []))) := upd_same
      have hw6 : upd (upd H5 D5 O5) a (.ins CC dx (putF "speed" (.int (ps.map (·.2)).sum) (putF "workers" (.ref wt) []))) wt = some (.tup (ys.map V.str)) := by rw [upd_ne aw]; exact (same_new hD5) _ _ hw5
      have l2 : (putF "speed" (.int (ps.map (·.2)).sum) (putF "workers" (.ref wt) [])).length ≤ 2 := Nat.le_trans (pF_len _ _ _) (by omega)
      generalize hf6 : putF "speed" (.int (ps.map (·.2)).sum) (putF "workers" (.ref wt) []) = f6 at k6 ha6 hw6 l2 ⊢
      generalize upd (upd H5 D5 O5) a (.ins CC dx f6) = H6 at k6 ha6 hw6 ⊢
      clear ha5 hw5 k5 hL5 pr5 hD5 D5 O5 H5
      dsimp only [tNext, tSeq]
      have hL6 := k6 _ _ aL hL4
      have pr6 : PrT H6 ts ps := pr.mono fun b xs e => k6 _ _ (notA e) e
      refine ⟨_, rfl, L, rfl, ⟨_, SqL.of hL6⟩, fun D6 hD6 => lc_pairs walk_list (fun _ => true) (fun q => .int q.2) pr6 (fun xs => SqL.of ((same_new hD6) _ _ hL6)) hD6 hz (fun q => rfl) (fun q xs R _ h => h) (fun q xs R _ _ h => ⟨_, rfl, .inl ⟨_, rfl, h⟩⟩) ?_⟩
      rw [tru]
      refine ⟨D6, ps.map (·.2), rfl, SqL.of (by rw [List.map_map]; exact upd_same), by rw [List.length_map]; exact pos, fun mn mn1 mn2 => ?_⟩
      refine ⟨_, rfl, a, CC, dx, f6, rfl, (same_new hD6) _ _ ha6, Z.cl, Z.n3, by omega, ?_⟩
      generalize hO : HO.lst (ps.map fun q => V.int q.2) = O6
      clear hO
      have k7 : Kp a H4 (upd (upd H6 D6 O6) a (.ins CC dx (putF "least_speed" (.int mn) f6))) := kp_at (kp_new k6 hD6)
      have ha7 : (upd (upd H6 D6 O6) a (.ins CC dx (putF "least_speed" (.int mn) f6))) a = some (.ins CC dx (putF "least_speed" (.int mn) f6)) := upd_same
      have hw7 : (upd (upd H6 D6 O6) a (.ins CC dx (putF "least_speed" (.int mn) f6))) wt = some (.tup (ys.map V.str)) := by rw [upd_ne aw]; exact (same_new hD6) _ _ hw6
      have l7 : (putF "least_speed" (.int mn) f6).length ≤ 3 := Nat.le_trans (pF_len _ _ _) (by omega)
      generalize hf7 : putF "least_speed" (.int mn) f6 = f7 at k7 ha7 hw7 l7 ⊢
      generalize upd (upd H6 D6 O6) a (.ins CC dx f7) = H7 at k7 ha7 hw7 ⊢
      clear ha6 hw6 k6 hL6 pr6 hD6 D6 O6 H6
      dsimp only [tNext, tSeq]
      have hL7 := k7 _ _ aL hL4
      have pr7 : PrT H7 ts ps := pr.mono fun b xs e => k7 _ _ (notA e) e
      refine ⟨_, rfl, L, rfl, ⟨_, SqL.of hL7⟩, fun D7 hD7 => lc_pairs walk_list (fun _ => true) (fun q => .int q.2) pr7 (fun xs => SqL.of ((same_new hD7) _ _ hL7)) hD7 hz (fun q => rfl) (fun q xs R _ h => h) (fun q xs R _ _ h => ⟨_, rfl, .inl ⟨_, rfl, h⟩⟩) ?_⟩
      rw [tru]
      refine ⟨D7, ps.map (·.2), rfl, SqL.of (by rw [List.map_map]; exact upd_same), by rw [List.length_map]; exact pos, fun mx mx1 mx2 => ?_⟩
      refine ⟨_, rfl, a, CC, dx, f7, rfl, (same_new hD7) _ _ ha7, Z.cl, Z.n4, by omega, ?_⟩
      generalize hO : HO.lst (ps.map fun q => V.int q.2) = O7
      clear hO
      have k8 : Kp a H4 (upd (upd H7 D7 O7) a (.ins CC dx (putF "greatest_speed" (.int mx) f7))) := kp_at (kp_new k7 hD7)
      have ha8 : (upd (upd H7 D7 O7) a (.ins CC dx (putF "greatest_speed" (.int mx) f7))) a = some (.ins CC dx (putF "greatest_speed" (.int mx) f7)) := upd_same
      have hw8 : (upd (upd H7 D7 O7) a (.ins CC dx (putF "greatest_speed" (.int mx) f7))) wt = some (.tup (ys.map V.str)) := by rw [upd_ne aw]; exact (same_new hD7) _ _ hw7
      have l8 : (putF "greatest_speed" (.int mx) f7).length ≤ 4 := Nat.le_trans (pF_len _ _ _) (by omega)
      generalize hf8 : putF "greatest_speed" (.int mx) f7 = f8 at k8 ha8 hw8 l8 ⊢
      generalize upd (upd H7 D7 O7) a (.ins CC dx f8) = H8 at k8 ha8 hw8 ⊢
      clear ha7 hw7 k7 hL7 pr7 hD7 D7 O7 H7
      dsimp only [tNext, tSeq]
      have hL8 := k8 _ _ aL hL4
      have pr8 : PrT H8 ts ps := pr.mono fun b xs e => k8 _ _ (notA e) e
      obtain ⟨sl, sl1, sl2⟩ := first_of mn1
      obtain ⟨fa, fa1, fa2⟩ := first_of mx1
      have hz8 : f8.lookup ("least_speed" : Str) = some (.int mn) := by
        rw [← hf8, ← hf7]
        first | rw [lookup_putF, if_pos rfl] | rw [lookup_putF, if_neg (by decide +kernel), lookup_putF, if_pos rfl]
      refine ⟨_, rfl, L, rfl, ⟨_, SqL.of hL8⟩, fun D8 hD8 => lc_pairs walk_list (fun q => decide (V.int q.2 = V.int mn)) (fun q => .str q.1) pr8 (fun xs => SqL.of ((same_new hD8) _ _ hL8)) hD8 hz (fun q => rfl)
        (fun q xs R _ h => ⟨_, rfl, _, rfl, a, CC, dx, f8, _, rfl, (same_new hD8) _ _ ha8, Z.cl, Z.n3, hz8, rfl, _, rfl, h⟩) (fun q xs R _ _ h => ⟨_, rfl, h⟩) ?_⟩
      refine ⟨D8, _, 0, _, rfl, rfl, SqL.of upd_same, atI_nat (j := 0) sl1, ?_⟩
      refine ⟨_, rfl, a, CC, dx, f8, rfl, (same_new hD8) _ _ ha8, Z.cl, Z.n5, by omega, ?_⟩
      generalize hO : HO.lst ((ps.filter fun q => decide (V.int q.2 = V.int mn)).map fun q => V.str q.1) = O8
      clear hO
      have k9 : Kp a H4 (upd (upd H8 D8 O8) a (.ins CC dx (putF "slowest" (.str sl) f8))) := kp_at (kp_new k8 hD8)
      have ha9 : (upd (upd H8 D8 O8) a (.ins CC dx (putF "slowest" (.str sl) f8))) a = some (.ins CC dx (putF "slowest" (.str sl) f8)) := upd_same
      have hw9 : (upd (upd H8 D8 O8) a (.ins CC dx (putF "slowest" (.str sl) f8))) wt = some (.tup (ys.map V.str)) := by rw [upd_ne aw]; exact (same_new hD8) _ _ hw8
      have l9 : (putF "slowest" (.str sl) f8).length ≤ 5 := Nat.le_trans (pF_len _ _ _) (by omega)
      generalize hf9 : putF "slowest" (.str sl) f8 = f9 at k9 ha9 hw9 l9 ⊢
      generalize upd (upd H8 D8 O8) a (.ins CC dx f9) = H9 at k9 ha9 hw9 ⊢
      clear ha8 hw8 k8 hL8 pr8 hD8 D8 O8 H8
      dsimp only [tNext, tSeq]
      have hL9 := k9 _ _ aL hL4
      have pr9 : PrT H9 ts ps := pr.mono fun b xs e => k9 _ _ (notA e) e
      have hz9' : f9.lookup ("greatest_speed" : Str) = some (.int mx) := by
        rw [← hf9, ← hf8, lookup_putF, if_neg (by decide +kernel), lookup_putF, if_pos rfl]
      have hz9 : f9.lookup ("greatest_speed" : Str) = some (.int mx) := by
        rw [← hf9, ← hf8]
        first | rw [lookup_putF, if_pos rfl] | rw [lookup_putF, if_neg (by decide +kernel), lookup_putF, if_pos rfl]
      refine ⟨_, rfl, L, rfl, ⟨_, SqL.of hL9⟩, fun D9 hD9 => lc_pairs walk_list (fun q => decide (V.int q.2 = V.int mx)) (fun q => .str q.1) pr9 (fun xs => SqL.of ((same_new hD9) _ _ hL9)) hD9 hz (fun q => rfl)
        (fun q xs R _ h => ⟨_, rfl, _, rfl, a, CC, dx, f9, _, rfl, (same_new hD9) _ _ ha9, Z.cl, Z.n4, hz9, rfl, _, rfl, h⟩) (fun q xs R _ _ h => ⟨_, rfl, h⟩) ?_⟩
      refine ⟨D9, _, 0, _, rfl, rfl, SqL.of upd_same, atI_nat (j := 0) fa1, ?_⟩
      refine ⟨_, rfl, a, CC, dx, f9, rfl, (same_new hD9) _ _ ha9, Z.cl, Z.n6, by omega, ?_⟩
      generalize hO : HO.lst ((ps.filter fun q => decide (V.int q.2 = V.int mx)).map fun q => V.str q.1) = O9
      clear hO
      have k10 : Kp a H4 (upd (upd H9 D9 O9) a (.ins CC dx (putF "fastest" (.str fa) f9))) := kp_at (kp_new k9 hD9)
      have ha10 : (upd (upd H9 D9 O9) a (.ins CC dx (putF "fastest" (.str fa) f9))) a = some (.ins CC dx (putF "fastest" (.str fa) f9)) := upd_same
      have hw10 : (upd (upd H9 D9 O9) a (.ins CC dx (putF "fastest" (.str fa) f9))) wt = some (.tup (ys.map V.str)) := by rw [upd_ne aw]; exact (same_new hD9) _ _ hw9
      have l10 : (putF "fastest" (.str fa) f9).length ≤ 6 := Nat.le_trans (pF_len _ _ _) (by omega)
      generalize hf10 : putF "fastest" (.str fa) f9 = f10 at k10 ha10 hw10 l10 ⊢
      generalize upd (upd H9 D9 O9) a (.ins CC dx f10) = H10 at k10 ha10 hw10 ⊢
      clear ha9 hw9 k9 hL9 pr9 hD9 D9 O9 H9
      dsimp only [tNext, tSeq]
      have hL10 := k10 _ _ aL hL4
      have pr10 : PrT H10 ts ps := pr.mono fun b xs e => k10 _ _ (notA e) e
      refine ⟨_, rfl, L, _, rfl, .inl ⟨SqL.of hL10, fun D10 hD10 => ?_⟩⟩
      refine ⟨_, rfl, a, CC, dx, f10, rfl, (same_new hD10) _ _ ha10, Z.cl, Z.n7, by omega, ?_⟩
      have aD : D10 ≠ a := fun e => by rw [e, ha10] at hD10; cases hD10
      have k11 : Kp a H4 (upd (upd H10 D10 (.tup (ts.map V.ref))) a (.ins CC dx (putF "_pairs" (.ref D10) f10))) := kp_at (kp_new k10 hD10)
      have ha11 : upd (upd H10 D10 (.tup (ts.map V.ref))) a (.ins CC dx (putF "_pairs" (.ref D10) f10)) a = some (.ins CC dx (putF "_pairs" (.ref D10) f10)) := upd_same
      have hw11 : upd (upd H10 D10 (.tup (ts.map V.ref))) a (.ins CC dx (putF "_pairs" (.ref D10) f10)) wt = some (.tup (ys.map V.str)) := by rw [upd_ne aw]; exact (same_new hD10) _ _ hw10
      have hp11 : upd (upd H10 D10 (.tup (ts.map V.ref))) a (.ins CC dx (putF "_pairs" (.ref D10) f10)) D10 = some (.tup (ts.map V.ref)) := by rw [upd_ne aD]; exact upd_same
      have l11 : (putF "_pairs" (.ref D10) f10).length ≤ 8 := Nat.le_trans (pF_len _ _ _) (by omega)
      generalize hf11 : putF "_pairs" (.ref D10) f10 = f11 at k11 ha11 hw11 hp11 l11 ⊢
      generalize upd (upd H10 D10 (.tup (ts.map V.ref))) a (.ins CC dx f11) = H11 at k11 ha11 hw11 hp11 ⊢
      clear ha10 hw10 k10 hL10 pr10 hD10 H10
      dsimp only [tNext, tSeq]
      have hL11 := k11 _ _ aL hL4
      have pr11 : PrT H11 ts ps := pr.mono fun b xs e => k11 _ _ (notA e) e
      refine ⟨_, rfl, L, rfl, ⟨_, SqL.of hL11⟩, fun D11 hD11 => dc_pairs walk_list (fun _ => true) (fun q => .int q.2) (by rw [eny]; exact ndy) pr11 (fun xs => SqL.of ((same_new hD11) _ _ hL11)) hD11 hz (fun q => rfl) (fun q xs R _ h => h) (fun q xs R _ _ h => ⟨_, rfl, h⟩) (fun q xs R _ _ h => ⟨_, rfl, h⟩) ?_⟩
      rw [List.filter_eq_self.mpr fun _ _ => rfl]
      refine ⟨_, rfl, a, CC, dx, f11, rfl, (same_new hD11) _ _ ha11, Z.cl, Z.n8, by omega, ?_⟩
      have aD2 : D11 ≠ a := fun e => by rw [e, ha11] at hD11; cases hD11
      have k12 : Kp a H4 (upd (upd H11 D11 (.dK (dkOf (ps.map fun q => (q.1, V.int q.2))))) a (.ins CC dx (putF "_speeds" (.ref D11) f11))) := kp_at (kp_new k11 hD11)
      refine kQ _ (kH.trans k12) ⟨dx, wt, D10, D11, ts, mn, mx, sl, fa, ?_, ?_, ?_, ?_, ?_, ?_, sl2, fa2⟩ fun D hD C2 dx2 fs2 e z => ?_
      · rw [upd_same, ← hf11, ← hf10, ← hf9, ← hf8, ← hf7, ← hf6]
        rfl
      · rw [upd_ne aw, (same_new hD11) _ _ hw11, ← eny, List.map_map]
        rfl
      · rw [upd_ne aD]
        exact (same_new hD11) _ _ hp11
      · exact pr11.mono fun b xs e => by
          rw [upd_ne (fun z => by rw [z, ha11] at e; cases e)]
          exact (same_new hD11) _ _ e
      · exact .inl (by rw [upd_ne aD2]; exact upd_same)
      · exact fun q hq => ⟨mn2 _ (List.mem_map_of_mem hq), mx2 _ (List.mem_map_of_mem hq)⟩
      · rw [upd_same] at e
        cases e
        have e2 : (putF ("_speeds" : Str) (.ref D11) f11).lookup ("_speeds" : Str) = some (.ref D11) := by simp only [lookup_putF]; rfl
        rw [e2] at z
        cases z
        cases ho : H D11 with
        | none => exact hD ho
        | some o =>
          have := (kH.trans k11) D11 o aD2 ho
          rw [hD11] at this
          cases this
end
end Lw
namespace Lw
open PySem PySem.Spec PyProof.Rows L2
open SX PySem.NumText TL LamX ClX StX
abbrev sCof : Stmt := inClass (top 62) 1
abbrev sCln : Stmt := inClass (top 62) 4
abbrev sCit : Stmt := inClass (top 62) 5
abbrev sCco : Stmt := inClass (top 62) 6
abbrev sCgi : Stmt := inClass (top 62) 7
abbrev sCeq : Stmt := inClass (top 62) 14
section
variable {w p d : Addr} {s mn mx : Int} {sl fa : Str}
theorem crF_workers : (crF w s mn mx sl fa p d).lookup ("workers" : Str) = some (.ref w) := by
  unfold crF
  simp only [lookup_putF]
  rfl
theorem crF_speed : (crF w s mn mx sl fa p d).lookup ("speed" : Str) = some (.int s) := by
  unfold crF
  simp only [lookup_putF]
  rfl
theorem crF_least : (crF w s mn mx sl fa p d).lookup ("least_speed" : Str) = some (.int mn) := by
  unfold crF
  simp only [lookup_putF]
  rfl
theorem crF_great : (crF w s mn mx sl fa p d).lookup ("greatest_speed" : Str) = some (.int mx) := by
  unfold crF
  simp only [lookup_putF]
  rfl
theorem crF_slow : (crF w s mn mx sl fa p d).lookup ("slowest" : Str) = some (.str sl) := by
  unfold crF
  simp only [lookup_putF]
  rfl
theorem crF_fast : (crF w s mn mx sl fa p d).lookup ("fastest" : Str) = some (.str fa) := by
  unfold crF
  simp only [lookup_putF]
  rfl
theorem crF_pairs : (crF w s mn mx sl fa p d).lookup ("_pairs" : Str) = some (.ref p) := by
  unfold crF
  simp only [lookup_putF]
  rfl
theorem crF_speeds : (crF w s mn mx sl fa p d).lookup ("_speeds" : Str) = some (.ref d) := by
  unfold crF
  simp only [lookup_putF]
  rfl
end
theorem CwAt.move {CC : Addr} {H H' : Hp} {c : Addr} {ps : List (Str × Int)} (h : CwAt CC H c ps) (k : ∀ b o, H b = some o → (∀ xs, o ≠ .lst xs) → (∀ ps, o ≠ .tbl ps) → H' b = some o) : CwAt CC H' c ps := by
  obtain ⟨dx, w, p, d, ts, mn, mx, sl, fa, h1, h2, h3, h4, h5, h6⟩ := h
  exact ⟨dx, w, p, d, ts, mn, mx, sl, fa, k _ _ h1 (fun _ z => by cases z) (fun _ z => by cases z), k _ _ h2 (fun _ z => by cases z) (fun _ z => by cases z), k _ _ h3 (fun _ z => by cases z) (fun _ z => by cases z),
    h4.mono fun b xs e => k _ _ e (fun _ z => by cases z) (fun _ z => by cases z), by
      rcases h5 with e | ⟨o, e⟩
      · exact .inl (k _ _ e (fun _ z => by cases z) (fun _ z => by cases z))
      · exact .inr ⟨o, k _ _ e (fun _ z => by cases z) (fun _ z => by cases z)⟩, h6⟩
theorem CwAt.same {CC : Addr} {H H' : Hp} {c : Addr} {ps : List (Str × Int)} (h : CwAt CC H c ps) (s : Same H H') : CwAt CC H' c ps := h.move fun b o e _ _ => s b o e
theorem CwAt.extn {CC : Addr} {H H' : Hp} {c : Addr} {ps : List (Str × Int)} (h : CwAt CC H c ps) (s : ExtN H H') : CwAt CC H' c ps := h.move fun b o e _ n => s b o e n
theorem CwAt.kp {CC : Addr} {H H' : Hp} {c p pl : Addr} {n : Nat} {ps : List (Str × Int)} (h : CwAt CC H c ps) (hp : Pen H p pl n) (k : Kp p H H') : CwAt CC H' c ps := by
  obtain ⟨xs, a, g, hh, _⟩ := hp
  exact h.move fun b o e nl _ => k b o (fun z => by rw [z, hh.at_] at e; exact nl _ (Option.some.inj e).symm) e
theorem Bf2.of {D : Addr} {f1 f2 : Str} {v1 v2 : V} {H H' : Hp} {E : XK} (h : Bf2 D f1 v1 f2 v2 H E) (s : Same H H') : Bf2 D f1 v1 f2 v2 H' E := fun d fs H2 s2 hd a b => h d fs H2 (s.trans s2) hd a b
theorem NewD.of {H H' H2 : Hp} {c : Addr} (h : NewD H' H2 c) (s : Same H H') : NewD H H2 c := fun D hD => h D fun e => hD (s.free e)
/-- what making a crew of these speeds comes to: names and speeds in the order of ks; then the crew, sorted -/
def MkC (K : PySem.W.Frag) (CC DN DS DC DM : Addr) (ks : List (Str × V)) (H : Hp) (Q : VK) (E : XK) : Prop :=
  (∀ (i : Nat) q, ks[i]? = some q → (∀ (j : Nat) r, j < i → ks[j]? = some r → nameT r.1 = true) → nameT q.1 = false → Bf DN "value" (.str q.1) H E) ∧
  ((∀ q ∈ ks, nameT q.1 = true) →
    (∀ (i : Nat) q, ks[i]? = some q → (∀ (j : Nat) r, j < i → ks[j]? = some r → isSp r.2 = true) → isSp q.2 = false → Bf DS "value" q.2 H E) ∧
    ((∀ q ∈ ks, isSp q.2 = true) → ∀ ps : List (Str × Int), (ps.map (·.1)).Perm (ks.map (·.1)) → sortedS (ps.map (·.1)) = true → (∀ q ∈ ps, (q.1, V.int q.2) ∈ ks ∧ nameT q.1 = true ∧ 1 ≤ q.2 ∧ q.2 ≤ 60) →
      (ps = [] → Bf DC "part" (.str (Str.ofString "empty")) H E) ∧ (8 < ps.length → Bf2 DM "what" (.str (Str.ofString "workers")) "most" (.int 8) H E) ∧
      (ps ≠ [] → ps.length ≤ 8 → ∀ c H', Same H H' → H c = none → CwAt CC H' c ps → NewD H H' c → Q (.ref c) H')))
theorem MkC.of {K : PySem.W.Frag} {CC DN DS DC DM : Addr} {ks : List (Str × V)} {H H' : Hp} {Q : VK} {E : XK} (h : MkC K CC DN DS DC DM ks H Q E) (s : Same H H') : MkC K CC DN DS DC DM ks H' Q E :=
  ⟨fun i q a b c => (h.1 i q a b c).of s, fun g => ⟨fun i q a b c => ((h.2 g).1 i q a b c).of s, fun g2 ps a b c => let z := (h.2 g).2 g2 ps a b c; ⟨fun e => (z.1 e).of s, fun e => (z.2.1 e).of s, fun e l cc H2 s2 f h nd => z.2.2 e l cc H2 (s.trans s2) (s.free f) h (nd.of s)⟩⟩⟩
theorem look_of {ks : List (Str × V)} (nd : (ks.map (·.1)).Nodup) {n : Str} {v : V} (h : (n, v) ∈ ks) : ks.lookup n = some v := by
  induction ks with
  | nil => cases h
  | cons p r ih =>
    obtain ⟨m, x⟩ := p
    rcases List.mem_cons.mp h with h | h
    · cases h
      simp [List.lookup]
    · have ne : n ≠ m := fun e => (List.nodup_cons.mp nd).1 (by rw [← e]; exact List.mem_map.mpr ⟨(n, v), h, rfl⟩)
      have e2 : (n == m) = false := beq_eq_false_iff_ne.mpr ne
      simp only [List.lookup, e2]
      exact ih (List.nodup_cons.mp nd).2 h
abbrev DnK (K : PySem.W.Frag) (H : Hp) (ks : List (Str × V)) : Prop := (ks.map (·.1)).Nodup ∧ ks.length < 64 ∧ ∀ p ∈ ks, Anyv K H p.2 ∧ p.1.length ≤ 1000000
/-- a dict's keys, odd ones, too -/
def KeysD (H : Hp) (d : Addr) (xs : List V) : Prop := H d = some (OdD d xs) ∨ ∃ kvs : List (L2.Key × V), H d = some (.dK kvs) ∧ xs = kvs.map fun kv => kV kv.1
def spCof (K : PySem.W.Frag) (CC DN DS DC DM : Addr) : Sp := fun vs H Q E => ∃ v : V, vs = [v] ∧
  ((∃ t, TyO K H v t ∧ PySem.W.kitOne K t (.type "dict") = some false ∧ Bf DC "part" (.str (Str.ofString "speeds")) H E) ∨
   (∃ (d : Addr) (ks : List (Str × V)), v = .ref d ∧ H d = some (.dK (dkOf ks)) ∧ DnK K H ks ∧ MkC K CC DN DS DC DM ks H Q E) ∨
   ∃ (d : Addr) (xs : List V), v = .ref d ∧ KeysD H d xs ∧ (∀ x ∈ xs, Anyv K H x ∧ ∀ z, x = .str z → z.length ≤ 1000000) ∧
     ∃ (i : Nat) (x : V), xs[i]? = some x ∧ (∀ (j : Nat) y, j < i → xs[j]? = some y → nameB y = true) ∧ nameB x = false ∧ Bf DN "value" x H E)
/-- the class, ready to be made -/
structure CrM (P : Program) (w : World) (K : PySem.W.Frag) (mg : Str → Option Value) (base : Heap) (CC DN DS DC DM fI : Addr) : Prop where
  Z : CrC K mg CC
  M : Mk K CC fI
  F : FnKw P w K mg base (L2.CX P w) 6 fI (spCrI K CC DN DS DC DM)
section
variable {P : Program} {w : World} {K : PySem.W.Frag} {mg : Str → Option Value} {base : Heap}
/-- C(**speeds) and C(a = .., ..): the names sorted -/
theorem mk_kw {CC DN DS DC DM : Addr} {ks : List (Str × V)} {H : Hp} {Q : VK} {E : XK} (dn : DnK K H ks) (tc : ∀ p ∈ ks, p.1 ≠ "this_crew")
    (h : ∀ ys : List Str, ys.Perm (ks.map (·.1)) → sortedS ys = true →
      (∀ (i : Nat) n, ys[i]? = some n → (∀ (j : Nat) m, j < i → ys[j]? = some m → nameT m = true) → nameT n = false → Bf DN "value" (.str n) H E) ∧
      ((∀ n ∈ ys, nameT n = true) →
        (∀ (i : Nat) n v, ys[i]? = some n → ks.lookup n = some v → (∀ (j : Nat) m u, j < i → ys[j]? = some m → ks.lookup m = some u → isSp u = true) → isSp v = false → Bf DS "value" v H E) ∧
        (∀ ps : List (Str × Int), ps.map (·.1) = ys → (∀ q ∈ ps, ks.lookup q.1 = some (.int q.2) ∧ 1 ≤ q.2 ∧ q.2 ≤ 60) →
          (ps = [] → Bf DC "part" (.str (Str.ofString "empty")) H E) ∧ (8 < ps.length → Bf2 DM "what" (.str (Str.ofString "workers")) "most" (.int 8) H E) ∧
          (ps ≠ [] → ps.length ≤ 8 → ∀ c H', Same H H' → H c = none → CwAt CC H' c ps → NewD H H' c → Q (.ref c) H')))) : MakK CC (spCrI K CC DN DS DC DM) E ks H Q := by
  intro x dx hx hdx ne
  have s2 : Same H (upd (upd H dx (.own x)) x (.ins CC dx [])) := (same_new hdx).trans (same_new (by rw [upd_ne ne.symm]; exact hx))
  refine ⟨x, dx, rfl, upd_same, fun p hp => ⟨Lw.Anyv.same s2 (dn.2.2 p hp).1, (dn.2.2 p hp).2, tc p hp⟩, dn.2.1, fun ys h1 h2 => ?_⟩
  obtain ⟨k1, k2⟩ := h ys h1 h2
  refine ⟨fun i n a b c => (k1 i n a b c).of s2, fun g => ?_⟩
  obtain ⟨k3, k4⟩ := k2 g
  refine ⟨fun i n v a b c d => (k3 i n v a b c d).of s2, fun ps e1 e2 => ?_⟩
  obtain ⟨k5, k6, k7⟩ := k4 ps e1 e2
  refine ⟨fun e => (k5 e).of s2, fun e => (k6 e).of s2, fun e l H' kp cw nd => ⟨rfl, k7 e l x H' (fun b o hb => kp b o (fun z => by rw [z, hx] at hb; cases hb) (s2 _ _ hb)) hx cw (nd.of s2)⟩⟩
theorem scCof : FnScope ["speeds"] ["speeds"] (C8.fnScope sCof) := C8.fnScope_by (by decide +kernel)
theorem fn_cof {CC DN DS DC DM fI fC fK f : Addr} {fd fdC fdK : FuncData} (F : C8.Fun K "of" "Crew.of" sCof f fd) (T : TxtC mg) (CM : CrM P w K mg base CC DN DS DC DM fI) (EC : Err1 "BadCrew" "part" P w K mg base DC fC fdC)
    (DK : C8.Def K mg "check_speeds" sChk fK fdK) (bK : Binds K fdK ["names", "speeds"] []) (FK : FnOk P w K mg base (L2.CX P w) 4 fK fdK ["names", "speeds"] (spChk K DN DS)) :
    FnOk P w K mg base (L2.CX P w) 8 f fd ["speeds"] (spCof K CC DN DS DC DM) := by
  obtain ⟨oc, od, dV, kV, doc, pm, an, cdv, ct, osl, rfl, lk, hcd⟩ := F.ex
  refine fn_of lk hcd scCof (fun vs H Q E h => ?_) fun A outer s H vs Q E hr h => ?_
  · obtain ⟨v, rfl, _⟩ := h
    rfl
  · obtain ⟨v, rfl, h⟩ := h
    have tk : Takes (cxOf (L2.CX P w) P w K mg base ["speeds"] "Crew.of" (C8.fnScope sCof) f cdv A outer s H E) (fun cls d _ H' => E cls d H') := takes_of rfl rfl rfl rfl
    refine ⟨_, (pss_cons (ps_if (pt_not (pt_val (pe_callB call_isO (by rfl) T.n_isinstance (by decide +kernel) (pa_cons (pv 0) (pa_cons (pe_bltn (v := .ty "dict") (by rfl) T.n_dict (by decide +kernel) rfl) pa_nil))))) (pss_one (ps_bad1 (x := "BadCrew") rfl tk EC.T EC.iC EC.tI EC.F hr EC.b (by rfl) EC.hm pe_str)) pss_nil)
  (pss_cons (ps_expr (pe_call FK (hr.mono (by decide)) (by rfl) DK.mgf DK.kp bK .nil (passes_call (takes_of rfl rfl rfl rfl) (fun _ _ _ _ z => z)) (pa_cons (pe_callTy (call_listO rfl) (by rfl) T.n_list (by decide +kernel) (pa_cons (pv 0) pa_nil)) (pa_cons (pv 0) pa_nil))))
  (pss_one (ps_ret (pe_makeKD CM.M CM.F (hr.mono (by decide)) (by rfl) CM.Z.hm (passes_call (takes_of rfl rfl rfl rfl) (fun _ _ _ _ z => z)) (pv 0)))))), ?_⟩
    rcases h with ⟨t, ht, hk, go⟩ | ⟨d, ks, rfl, hd, dn, mk⟩ | ⟨d, xs, rfl, hd, av, i, x, hx, good, bad, go⟩
    · exact ⟨_, rfl, _, .ty "dict", t, .type "dict", false, rfl, .ty _, ht, hk, _, rfl, iteT (bad_leaf1 fun e fs hd e1 => go e fs H (Same.refl _) hd e1)⟩
    · refine ⟨_, rfl, _, .ty "dict", .type "dict", .type "dict", true, rfl, .ty _, .z (.x (.base (.dK hd))), kit_ty (by decide +kernel), _, rfl, iteF ?_⟩
      obtain ⟨k1, k2⟩ := mk
      refine ⟨_, rfl, d, _, rfl, .inl ⟨_, .inl hd, rfl⟩, fun l hl => ⟨_, rfl, l, d, _, rfl, upd_same, fun x hx => ?_, fun i x hx h4 h5 => ?_, fun h4 => ⟨ks.map (·.1), ks, by rw [List.map_map, List.map_map]; rfl, (same_new hl) _ _ hd, fun n hn => ?_, fun i n v hn hv h5 h6 => ?_, fun h5 H2 s2 => ?_⟩⟩⟩
      · rw [List.map_map] at hx
        obtain ⟨q, hq, rfl⟩ := List.mem_map.mp hx
        exact ⟨.str _, fun z e => by cases e; exact (dn.2.2 q hq).2⟩
      · rw [List.map_map, List.getElem?_map] at hx
        obtain ⟨q, hq, rfl⟩ := Option.map_eq_some_iff.mp hx
        exact (k1 i q hq (fun j r hj hr => h4 j (.str r.1) hj (by rw [List.map_map, List.getElem?_map, hr]; rfl)) h5).of (same_new hl)
      · obtain ⟨v, hv, hm⟩ := look_mem hn
        exact ⟨v, hv, Lw.Anyv.same (same_new hl) (dn.2.2 _ hm).1⟩
      · rw [List.getElem?_map] at hn
        obtain ⟨q, hq, rfl⟩ := Option.map_eq_some_iff.mp hn
        have hv' := look_of dn.1 (List.mem_of_getElem? hq)
        rw [hv'] at hv
        cases hv
        refine ((k2 fun r hr => h4 (.str r.1) (by rw [List.map_map]; exact List.mem_map_of_mem (f := fun z : Str × V => V.str z.1) hr)).1 i q hq (fun j r hj hr => h5 j r.1 r.2 hj (by rw [List.getElem?_map, hr]; rfl) (look_of dn.1 (List.mem_of_getElem? hr))) h6).of (same_new hl)
      · have names : ∀ q ∈ ks, nameT q.1 = true := fun r hr => h4 (.str r.1) (by rw [List.map_map]; exact List.mem_map_of_mem (f := fun z : Str × V => V.str z.1) hr)
        have speeds : ∀ q ∈ ks, isSp q.2 = true := fun r hr => h5 r.1 (List.mem_map_of_mem hr) r.2 (look_of dn.1 hr)
        have k3 := (k2 names).2 speeds
        have sd := (same_new (o := HO.lst ((dkOf ks).map fun kv => L2.kV kv.1)) hl).trans s2
        dsimp only [tNext, tSeq]
        refine fun D hD => ⟨_, rfl, d, ks, rfl, upd_same, fun e => ?_, (same_new hD) _ _ (sd _ _ hd), ?_⟩
        · rw [e, sd _ _ hd] at hD
          cases hD
        have s3 : Same H (upd (upd H2 D (.dK [])) D (.dK (dkOf ks))) := by rw [upd_upd]; exact sd.trans (same_new hD)
        refine mk_kw ⟨dn.1, dn.2.1, fun p hp => ⟨Lw.Anyv.same s3 (dn.2.2 p hp).1, (dn.2.2 p hp).2⟩⟩ (fun p hp e => ?_) fun ys h1 h2 => ⟨fun i n hn _ h6 => ?_, fun g => ⟨fun i n v hn hv _ h6 => ?_, fun ps e1 e2 => ?_⟩⟩
        · have z := names p hp
          rw [e] at z
          exact absurd z (by decide +kernel)
        · obtain ⟨q, hq, e⟩ := List.mem_map.mp (h1.subset (List.mem_of_getElem? hn))
          rw [← e, names q hq] at h6
          cases h6
        · obtain ⟨u, hu, hm⟩ := look_mem (h1.subset (List.mem_of_getElem? hn))
          rw [hu] at hv
          cases hv
          rw [speeds _ hm] at h6
          cases h6
        · obtain ⟨c1, c2, c3⟩ := k3 ps (by rw [e1]; exact h1) (by rw [e1]; exact h2) fun q hq => by
            obtain ⟨l1, l2, l3⟩ := e2 q hq
            obtain ⟨u, hu, hm⟩ := look_mem (ks := ks) (h1.subset (by rw [← e1]; exact List.mem_map_of_mem hq))
            rw [hu] at l1
            cases l1
            exact ⟨hm, names _ hm, l2, l3⟩
          exact ⟨fun e => (c1 e).of s3, fun e => (c2 e).of s3, fun e l6 c H' s4 f cw nd => c3 e l6 c H' (s3.trans s4) (s3.free f) cw (nd.of s3)⟩
    · have tyd : TyO K H (.ref d) (.type "dict") := by
        rcases hd with h | ⟨kvs, h, rfl⟩
        · exact .od h
        · exact .z (.x (.base (.dK h)))
      have rdd : (∃ kvs : List (L2.Key × V), L2.Rd H d (.dK kvs) ∧ xs = kvs.map fun kv => L2.kV kv.1) ∨ H d = some (OdD d xs) := by
        rcases hd with h | ⟨kvs, h, e⟩
        · exact .inr h
        · exact .inl ⟨kvs, .inl h, e⟩
      refine ⟨_, rfl, _, .ty "dict", .type "dict", .type "dict", true, rfl, .ty _, tyd, kit_ty (by decide +kernel), _, rfl, iteF ?_⟩
      refine ⟨_, rfl, d, xs, rfl, rdd, fun l hl => ⟨_, rfl, l, d, xs, rfl, upd_same, fun y hy => ⟨Lw.Anyv.same (same_new hl) (av y hy).1, (av y hy).2⟩, fun j y hy h4 h5 => ?_, fun h4 => ?_⟩⟩
      · have e : j = i := by
          rcases Nat.lt_trichotomy j i with lt | e | gt
          · rw [good j y lt hy] at h5; cases h5
          · exact e
          · rw [h4 i x gt hx] at bad; cases bad
        subst e
        rw [hx] at hy
        cases hy
        exact go.of (same_new hl)
      · rw [h4 x (List.mem_of_getElem? hx)] at bad
        cases bad
end
end Lw
namespace Lw
open PySem PySem.Spec PyProof.Rows L2
open SX PySem.NumText TL LamX ClX StX
/-- the static method of -/
structure OfC (P : Program) (w : World) (K : PySem.W.Frag) (mg : Str → Option Value) (base : Heap) (CC DN DS DC DM p g : Addr) (fd : FuncData) : Prop where
  S : SMet K CC "of" p g
  F : FnOk P w K mg base (L2.CX P w) 8 g fd ["speeds"] (spCof K CC DN DS DC DM)
  b : Binds K fd ["speeds"] []
end Lw
namespace Lw
open PySem PySem.Spec PyProof.Rows L2
open SX PySem.NumText TL LamX ClX StX
/-- whether a value is the name of one of these -/
def isWk (ps : List (Str × Int)) : V → Bool
  | .str z => decide (z ∈ ps.map (·.1))
  | _ => false
theorem dkI_has (ps : List (Str × Int)) (z : Str) : (valV (dkI ps) (Sum.inr z : L2.Key)).isSome = decide (z ∈ ps.map (·.1)) := by
  rw [val_dk]
  induction ps with
  | nil => rfl
  | cons p r ih =>
    obtain ⟨m, x⟩ := p
    by_cases e : z = m
    · subst e
      simp [List.lookup]
    · have e2 : (z == m) = false := beq_eq_false_iff_ne.mpr e
      simp only [List.map_cons, List.lookup, e2, ih]
      exact decide_eq_decide.mpr ⟨fun h => List.mem_cons_of_mem _ h, fun h => (List.mem_cons.mp h).resolve_left e⟩
theorem dkI_get {ps : List (Str × Int)} {z : Str} {i : Int} (nd : (ps.map (·.1)).Nodup) (h : (z, i) ∈ ps) : valV (dkI ps) (Sum.inr z : L2.Key) = some (.int i) := by
  rw [val_dk]
  refine look_of (by rw [List.map_map]; exact nd) (List.mem_map.mpr ⟨(z, i), h, rfl⟩)
/-! ### pairs as data -/
def pdP (q : Str × Int) : PyData := .tuple [.str q.1, .int q.2]
def OkS (z : Str) : Prop := ∀ c ∈ z.cps.toList, c < 1114112
theorem name_ok {z : Str} (h : nameT z = true) : OkS z := fun c hc => by
  unfold nameT at h
  simp only [Bool.and_eq_true, List.all_eq_true, decide_eq_true_eq] at h
  have m := h.2.2 c hc
  have all : ∀ c ∈ letters.cps.toList, c < 1114112 := by decide +kernel
  exact all c m
theorem dp_pairs {K : PySem.W.Frag} {H : Hp} : ∀ {ts : List Addr} {ps : List (Str × Int)}, PrT H ts ps → DpAll K H (ts.map V.ref) (ps.map pdP)
  | _, _, .nil => .nil
  | _, _, .cons a r => .cons (.tup (SqT.of a) (.cons (.str _) (.cons (.int _) .nil))) (dp_pairs r)
theorem lay_str {z : Str} (h : OkS z) : PyData.canLay0 (.str z) = true := by
  show z.cps.all (· < 1114112) = true
  rw [← Array.all_toList, List.all_eq_true]
  exact fun c hc => decide_eq_true (h c hc)
theorem lay_pairs : ∀ {ps : List (Str × Int)}, (∀ q ∈ ps, OkS q.1) → PyData.canLayAll0 (ps.map pdP) = true
  | [], _ => rfl
  | q :: r, h => by
    show (PyData.canLay0 (pdP q) && PyData.canLayAll0 (r.map pdP)) = true
    rw [lay_pairs fun x hx => h x (List.mem_cons_of_mem _ hx)]
    show ((PyData.canLay0 (.str q.1) && (true && true)) && true) = true
    rw [lay_str (h q List.mem_cons_self)]
    rfl
theorem depth_pairs : ∀ ps : List (Str × Int), PyData.depthAll (ps.map pdP) ≤ 1
  | [] => Nat.zero_le _
  | q :: r => by
    show max (PyData.depth (pdP q)) (PyData.depthAll (r.map pdP)) ≤ 1
    exact Nat.max_le.mpr ⟨by show max 0 (max 0 0) + 1 ≤ 1; decide, depth_pairs r⟩
theorem shaped_pairsT {ps : List (Str × Int)} (h : ∀ q ∈ ps, OkS q.1) : SeqAt.shaped (.tuple (ps.map pdP)) = true := by
  unfold SeqAt.shaped
  have h1 : PyData.canLay0 (.tuple (ps.map pdP)) = true := lay_pairs h
  have h2 : PyData.depth (.tuple (ps.map pdP)) ≤ 64 := by
    show PyData.depthAll (ps.map pdP) + 1 ≤ 64
    have := depth_pairs ps
    omega
  rw [h1, decide_eq_true h2]; rfl
theorem shaped_pairsL {ps : List (Str × Int)} (h : ∀ q ∈ ps, OkS q.1) : SeqAt.shaped (.list (ps.map pdP)) = true := by
  unfold SeqAt.shaped
  have h1 : PyData.canLay0 (.list (ps.map pdP)) = true := lay_pairs h
  have h2 : PyData.depth (.list (ps.map pdP)) ≤ 64 := by
    show PyData.depthAll (ps.map pdP) + 1 ≤ 64
    have := depth_pairs ps
    omega
  rw [h1, decide_eq_true h2]; rfl
theorem eqv_pair (a b : Str × Int) : PyData.eqv (pdP a) (pdP b) = decide (a = b) := by
  obtain ⟨x, i⟩ := a
  obtain ⟨y, j⟩ := b
  show ((x == y) && ((i == j) && true)) = _
  rw [Bool.and_true]
  by_cases e1 : x = y
  · by_cases e2 : i = j
    · subst e1 e2; simp
    · rw [decide_eq_false (fun e => e2 (congrArg Prod.snd e)), beq_eq_false_iff_ne.mpr e2, Bool.and_false]
  · rw [decide_eq_false (fun e => e1 (congrArg Prod.fst e)), beq_eq_false_iff_ne.mpr e1, Bool.false_and]
theorem eqvs_pairs : ∀ ps qs : List (Str × Int), PyData.eqvAll (ps.map pdP) (qs.map pdP) = decide (ps = qs)
  | [], [] => rfl
  | [], _ :: _ => rfl
  | _ :: _, [] => rfl
  | p :: r, q :: s => by
    show (PyData.eqv (pdP p) (pdP q) && PyData.eqvAll (r.map pdP) (s.map pdP)) = _
    rw [eqv_pair, eqvs_pairs r s]
    by_cases e1 : p = q
    · by_cases e2 : r = s
      · subst e1 e2; simp
      · rw [decide_eq_false e2, Bool.and_false, decide_eq_false (fun e => e2 (List.cons.inj e).2)]
    · rw [decide_eq_false e1, Bool.false_and, decide_eq_false (fun e => e1 (List.cons.inj e).1)]
def spCln (CC : Addr) : Sp := fun vs H Q _ => ∃ (c : Addr) (ps : List (Str × Int)), vs = [.ref c] ∧ CwAt CC H c ps ∧ Q (.int (ps.length : Int)) H
def spCit (CC : Addr) : Sp := fun vs H Q _ => ∃ (c : Addr) (ps : List (Str × Int)), vs = [.ref c] ∧ CwAt CC H c ps ∧ ∀ p it ts, H p = some (.tup (ts.map V.ref)) → PrT H ts ps → H it = none → (∀ a o, H a = some o → a < it) → Q (.ref it) (upd H it (ItT0 p it))
def spCco (K : PySem.W.Frag) (CC : Addr) : Sp := fun vs H Q _ => ∃ (c : Addr) (ps : List (Str × Int)) (x : V), vs = [.ref c, x] ∧ CwAt CC H c ps ∧ Anyv K H x ∧ Q (.bl (isWk ps x)) H
def spCgi (K : PySem.W.Frag) (CC DW : Addr) : Sp := fun vs H Q E => ∃ (c : Addr) (ps : List (Str × Int)) (x : V), vs = [.ref c, x] ∧ CwAt CC H c ps ∧ Anyv K H x ∧ (isWk ps x = false → Bf DW "name" x H E) ∧ (∀ z v, x = .str z → valV (dkI ps) (Sum.inr z : L2.Key) = some v → Q v H)
def spCeq (K : PySem.W.Frag) (CC : Addr) : Sp := fun vs H Q _ => ∃ (a : Addr) (ps : List (Str × Int)) (y : V), vs = [.ref a, y] ∧ CwAt CC H a ps ∧ ps.length ≤ 8 ∧ (∀ q ∈ ps, nameT q.1 = true) ∧
  ((∃ t, TyZ K H y t ∧ PySem.W.kitOne K t (.ref CC) = some false ∧ Q (.bl false) H) ∨ ∃ (b : Addr) (qs : List (Str × Int)), y = .ref b ∧ CwAt CC H b qs ∧ qs.length ≤ 8 ∧ (∀ q ∈ qs, nameT q.1 = true) ∧ Q (.bl (decide (ps = qs))) H)
section
variable {P : Program} {w : World} {K : PySem.W.Frag} {mg : Str → Option Value} {base : Heap}
theorem scCln : FnScope ["self"] ["self"] (C8.fnScope sCln) := C8.fnScope_by (by decide +kernel)
theorem fn_cln {CC f : Addr} {fd : FuncData} (F : C8.Fun K "__len__" "Crew.__len__" sCln f fd) (T : TxtC mg) (Z : CrC K mg CC) : FnOk P w K mg base (L2.CX P w) 1 f fd ["self"] (spCln CC) := by
  obtain ⟨oc, od, dV, kV, doc, pm, an, cdv, ct, osl, rfl, lk, hcd⟩ := F.ex
  refine fn_of lk hcd scCln (fun vs H Q E h => ?_) fun A outer s H vs Q E hr h => ?_
  · obtain ⟨c, ps, rfl, _⟩ := h
    rfl
  · obtain ⟨c, ps, rfl, ⟨dx, wt, p, d, ts, mn, mx, sl, fa, hc, hw, _⟩, k⟩ := h
    refine ⟨_, (pss_one (ps_ret (pe_callB call_len_seq (by rfl) T.n_len (by decide +kernel) (pa_cons (pe_fld (pv 0) rfl) pa_nil)))), ?_⟩
    refine ⟨_, rfl, c, CC, dx, _, _, rfl, hc, Z.cl, Z.n1, crF_workers, wt, _, rfl, .inr (SqT.of hw), ?_⟩
    rw [List.length_map]
    exact k
theorem scCit : FnScope ["self"] ["self"] (C8.fnScope sCit) := C8.fnScope_by (by decide +kernel)
theorem fn_cit {CC f : Addr} {fd : FuncData} (F : C8.Fun K "__iter__" "Crew.__iter__" sCit f fd) (T : TxtC mg) (Z : CrC K mg CC) : FnOk P w K mg base (L2.CX P w) 1 f fd ["self"] (spCit CC) := by
  obtain ⟨oc, od, dV, kV, doc, pm, an, cdv, ct, osl, rfl, lk, hcd⟩ := F.ex
  refine fn_of lk hcd scCit (fun vs H Q E h => ?_) fun A outer s H vs Q E hr h => ?_
  · obtain ⟨c, ps, rfl, _⟩ := h
    rfl
  · obtain ⟨c, ps, rfl, ⟨dx, wt, p, d, ts, mn, mx, sl, fa, hc, hw, hp, pr, _⟩, k⟩ := h
    refine ⟨_, (pss_one (ps_ret (pe_callB call_iterT (by rfl) T.n_iter (by decide +kernel) (pa_cons (pe_fld (pv 0) rfl) pa_nil)))), ?_⟩
    exact ⟨_, rfl, c, CC, dx, _, _, rfl, hc, Z.cl, Z.n7, crF_pairs, p, _, rfl, SqT.of hp, fun it h1 h2 => k p it ts hp pr h1 h2⟩
theorem scCco : FnScope ["self", "x"] ["self", "x"] (C8.fnScope sCco) := C8.fnScope_by (by decide +kernel)
theorem fn_cco {CC f : Addr} {fd : FuncData} (F : C8.Fun K "__contains__" "Crew.__contains__" sCco f fd) (T : TxtC mg) (Z : CrC K mg CC) : FnOk P w K mg base (L2.CX P w) 1 f fd ["self", "x"] (spCco K CC) := by
  obtain ⟨oc, od, dV, kV, doc, pm, an, cdv, ct, osl, rfl, lk, hcd⟩ := F.ex
  refine fn_of lk hcd scCco (fun vs H Q E h => ?_) fun A outer s H vs Q E hr h => ?_
  · obtain ⟨c, ps, x, rfl, _⟩ := h
    rfl
  · obtain ⟨c, ps, x, rfl, ⟨dx, wt, p, d, ts, mn, mx, sl, fa, hc, hw, hp, pr, hd, _⟩, a, k⟩ := h
    refine ⟨_, (pss_one (ps_ret (pe_and (pe_callB call_isz (by rfl) T.n_isinstance (by decide +kernel) (pa_cons (pv 1) (pa_cons (pe_bltn (v := .ty "str") (by rfl) T.n_str (by decide +kernel) rfl) pa_nil))) (pe_one (pe_cmp (pc_din (hu_of hr) (pv 1) (pe_fld (pv 0) rfl))))))), ?_⟩
    refine ⟨_, rfl, ?_⟩
    dsimp only [tCons, tC, tNil]
    refine isz_str a ⟨_, rfl, ?_⟩
    cases a with
    | str z =>
      refine iteT ⟨_, rfl, _, rfl, c, CC, dx, _, _, rfl, hc, Z.cl, Z.n8, crF_speeds, d, _, rfl, DGet.kr (k := Sum.inr z) hd, ?_⟩
      rw [dkI_has]
      exact k
    | int i => exact iteF k
    | bl b => exact iteF k
    | non => exact iteF k
    | obj h h1 h2 h3 => exact iteF k
theorem scCgi : FnScope ["self", "at"] ["self", "at"] (C8.fnScope sCgi) := C8.fnScope_by (by decide +kernel)
theorem fn_cgi {CC DW fW f : Addr} {fd fdW : FuncData} (F : C8.Fun K "__getitem__" "Crew.__getitem__" sCgi f fd) (T : TxtC mg) (Z : CrC K mg CC) (EW : Err1 "NoWorker" "name" P w K mg base DW fW fdW) (MO : MetX P w K mg base 1 CC "__contains__" (spCco K CC)) : FnOk P w K mg base (L2.CX P w) 3 f fd ["self", "at"] (spCgi K CC DW) := by
  obtain ⟨oc, od, dV, kV, doc, pm, an, cdv, ct, osl, rfl, lk, hcd⟩ := F.ex
  refine fn_of lk hcd scCgi (fun vs H Q E h => ?_) fun A outer s H vs Q E hr h => ?_
  · obtain ⟨c, ps, x, rfl, _⟩ := h
    rfl
  · obtain ⟨c, ps, x, rfl, cw, a, k1, k2⟩ := h
    obtain ⟨dx, wt, p, d, ts, mn, mx, sl, fa, hc, hw, hp, pr, hd, _⟩ := id cw
    have tk : Takes (cxOf (L2.CX P w) P w K mg base ["self", "at"] "Crew.__getitem__" (C8.fnScope sCgi) f cdv A outer s H E) (fun cls d _ H' => E cls d H') := takes_of rfl rfl rfl rfl
    refine ⟨_, (pss_cons (ps_if (pt_cmpR (op_notInC (E := E) MO (passes_call (takes_of rfl rfl rfl rfl) (fun _ _ _ _ z => z)) hr (by decide)) (pv 1) (pv 0) (by rfl)) (pss_one (ps_bad1 (x := "NoWorker") rfl tk EW.T EW.iC EW.tI EW.F hr EW.b (by rfl) EW.hm (pv 1))) pss_nil)
  (pss_one (ps_ret (pe_dget (hu_of hr) (pe_fld (pv 0) rfl) (pv 1) (fun _ _ => rfl))))), ?_⟩
    refine ⟨_, rfl, _, rfl, c, dx, _, rfl, hc, c, ps, x, rfl, cw, a, _, rfl, _, rfl, ?_⟩
    show if (!isWk ps x) = true then _ else _
    cases hb : isWk ps x with
    | false => exact iteT ⟨_, rfl, bad_leaf1 fun e fs hd e1 => k1 hb e fs H (Same.refl _) hd e1⟩
    | true =>
      obtain ⟨z, rfl, hz⟩ : ∃ z, x = .str z ∧ z ∈ ps.map (·.1) := by
        cases x with
        | str z => exact ⟨z, rfl, of_decide_eq_true hb⟩
        | _ => cases hb
      have hs := dkI_has ps z
      rw [decide_eq_true hz] at hs
      obtain ⟨v, hv⟩ := Option.isSome_iff_exists.mp hs
      have dg : DGet H d (.str z) (some v) := by rw [← hv]; exact DGet.kr (k := Sum.inr z) hd
      exact iteF ⟨_, rfl, c, CC, dx, _, _, rfl, hc, Z.cl, Z.n8, crF_speeds, _, rfl, d, v, rfl, dg, k2 z v rfl hv⟩
theorem scCeq : FnScope ["self", "other"] ["self", "other"] (C8.fnScope sCeq) := C8.fnScope_by (by decide +kernel)
theorem fn_ceq {CC f : Addr} {fd : FuncData} (F : C8.Fun K "__eq__" "Crew.__eq__" sCeq f fd) (T : TxtC mg) (Z : CrC K mg CC) (I : C8.InsC K CC) : FnOk P w K mg base (L2.CX P w) 2 f fd ["self", "other"] (spCeq K CC) := by
  obtain ⟨oc, od, dV, kV, doc, pm, an, cdv, ct, osl, rfl, lk, hcd⟩ := F.ex
  refine fn_of lk hcd scCeq (fun vs H Q E h => ?_) fun A outer s H vs Q E hr h => ?_
  · obtain ⟨a, ps, y, rfl, _⟩ := h
    rfl
  · obtain ⟨a, ps, y, rfl, ⟨dx, wt, p, d, ts, mn, mx, sl, fa, hc, hw, hp, pr, hd, _⟩, lp, np, h⟩ := h
    refine ⟨_, (pss_one (ps_ret (pe_and (pe_callB call_isz (by rfl) T.n_isinstance (by decide +kernel) (pa_cons (pv 1) (pa_cons (pe_glob (v := .ref CC) (by rfl) Z.hm rfl) pa_nil))) (pe_one (pe_cmpR (op_eqD hr.units) (pe_fld (pv 0) rfl) (pe_fld (pv 1) rfl) (nomark _)))))), ?_⟩
    rcases h with ⟨t, ty, kt, go⟩ | ⟨b, qs, rfl, ⟨dx2, wt2, p2, d2, ts2, mn2, mx2, sl2, fa2, hc2, hw2, hp2, pr2, hd2, _⟩, lq, nq, go⟩
    · exact ⟨_, rfl, _, .ref CC, t, .ref CC, false, rfl, .own CC, ty, kt, _, rfl, iteF go⟩
    · have ty : TyZ K H (.ref b) (.ref CC) := .x (.base (.ins hc2 I.cl I.ha I.hn I.htk I.hm))
      refine ⟨_, rfl, _, .ref CC, .ref CC, .ref CC, true, rfl, .own CC, ty, I.me, _, rfl, iteT ?_⟩
      refine ⟨_, rfl, a, CC, dx, _, _, rfl, hc, Z.cl, Z.n7, crF_pairs, _, rfl, b, CC, dx2, _, _, rfl, hc2, Z.cl, Z.n7, crF_pairs, .tuple (ps.map pdP), .tuple (qs.map pdP), .tup (SqT.of hp) (dp_pairs pr), .tup (SqT.of hp2) (dp_pairs pr2), shaped_pairsT fun q hq => name_ok (np q hq), shaped_pairsT fun q hq => name_ok (nq q hq), ?_⟩
      rw [show PyData.eqv (.tuple (ps.map pdP)) (.tuple (qs.map pdP)) = decide (ps = qs) from eqvs_pairs ps qs]
      exact go
end
end Lw
namespace Lw
open PySem PySem.Spec PyProof.Rows L2
open SX PySem.NumText TL LamX ClX StX
abbrev sCst : Stmt := inClass (top 62) 15
/-- f'..' -/
def tJ (ts : List TE) : TE := fun σ H Q => tJs ts Str.empty σ H fun out H1 => Q (.str out) H1
theorem pe_joinedJ {X : Cx} {v1 v2 : Expr} {rest : List Expr} {ts : List TE} {pos : Pos} (h : PJ X (v1 :: v2 :: rest) ts) : PE X (.JoinedStr (v1 :: v2 :: rest) pos) (tJ ts) := pe_joined h
/-- one worker's words -/
def wkL (q : Str × Int) : List Nat := q.1.cps.toList ++ 32 :: intL q.2
def crTx (ps : List (Str × Int)) : List Nat := joinL [32] (ps.map wkL)
theorem S_cps (z : Str) : S z.cps.toList = z := by
  obtain ⟨⟨l⟩⟩ := z
  rfl
def CwOk (ps : List (Str × Int)) : Prop := ∀ q ∈ ps, nameT q.1 = true ∧ 1 ≤ q.2 ∧ q.2 ≤ 60
def spCst (CC : Addr) : Sp := fun vs H Q _ => ∃ (c : Addr) (ps : List (Str × Int)), vs = [.ref c] ∧ CwAt CC H c ps ∧ CwOk ps ∧ ps.length ≤ 8 ∧ ∀ H', Same H H' → Q (.str (S (crTx ps))) H'
theorem name_len {z : Str} (h : nameT z = true) : 1 ≤ z.cps.toList.length ∧ z.cps.toList.length ≤ 8 := by
  unfold nameT at h
  simp only [Bool.and_eq_true, decide_eq_true_eq] at h
  have e : z.length = z.cps.toList.length := by rw [Array.length_toList]; rfl
  rw [← e]
  exact ⟨h.2.1.1, h.2.1.2⟩
theorem wk_len {q : Str × Int} (h : nameT q.1 = true ∧ 1 ≤ q.2 ∧ q.2 ≤ 60) : (wkL q).length ≤ 64 := by
  unfold wkL
  rw [List.length_append, List.length_cons]
  have h1 := (name_len h.1).2
  have h2 := intL_len2 (i := q.2) (by have := h.2.1; have := h.2.2; omega)
  omega
section
variable {P : Program} {w : World} {K : PySem.W.Frag} {mg : Str → Option Value} {base : Heap}
theorem scCst : FnScope ["self", "name", "speed"] ["self"] (C8.fnScope sCst) := C8.fnScope_by (by decide +kernel)
theorem fn_cst {CC f : Addr} {fd : FuncData} (F : C8.Fun K "__str__" "Crew.__str__" sCst f fd) (T : TxtC mg) (Z : CrC K mg CC) : FnOk P w K mg base (L2.CX P w) 2 f fd ["self"] (spCst CC) := by
  obtain ⟨oc, od, dV, kV, doc, pm, an, cdv, ct, osl, rfl, lk, hcd⟩ := F.ex
  refine fn_of lk hcd scCst (fun vs H Q E h => ?_) fun A outer s H vs Q E hr h => ?_
  · obtain ⟨c, ps, rfl, _⟩ := h
    rfl
  · obtain ⟨c, ps, rfl, ⟨dx, wt, p, d, ts, mn, mx, sl, fa, hc, hw, hp, pr, hd, _⟩, ok, l8, k⟩ := h
    refine ⟨_, (pss_one (ps_ret (pe_join pe_str (pe_lc (own := [("name", 1), ("speed", 2)]) (g := gTup K 2 (gCons (gName 1) (gCons (gName 2) (gNil)))) (tt := tYes) rfl scCst.nd (pi_tup (pe_fld (pv 0) rfl)) (blkOk_by (own := [("name", 1), ("speed", 2)]) (N := ["self", "name", "speed"]) (sc := (C8.fnScope sCst)) (by decide +kernel)) (fun _ _ _ _ _ => (pg_tup rfl (pgs_cons (pg_name (i := 1) scCst.nd rfl (Or.inl rfl)) (pgs_cons (pg_name (i := 2) scCst.nd rfl (Or.inl rfl)) pgs_nil)))) (fun _ _ _ _ _ => pts_nil) (fun _ _ _ _ _ => (pe_joinedJ (.cons (pe_fmt (pv 1)) (.cons pe_str (.cons (pe_fmt (pv 2)) .nil))))))))), ?_⟩
    refine ⟨⟨_, rfl⟩, _, rfl, c, CC, dx, _, _, rfl, hc, Z.cl, Z.n7, crF_pairs, p, rfl, ⟨_, SqT.of hp⟩, fun D hD => lc_pairs walk_tup (fun _ => true) (fun q => .str (S (wkL q))) pr (fun xs => SqT.of ((same_new hD) _ _ hp)) hD (by omega) (fun q => rfl) (fun q xs R _ h => h) (fun q xs R hq _ h => ?_) ?_⟩
    · obtain ⟨o1, o2, o3⟩ := ok q hq
      have ln := wk_len (ok q hq)
      have e1 : Str.ofString (toString q.2) = S (intL q.2) := str_int q.2
      have nl := (name_len o1).2
      have lS : ∀ l : List Nat, (S l).length = l.length := fun l => rfl
      have aS : ∀ a b : List Nat, S a ++ S b = S (a ++ b) := fun a b => by
        show (⟨_⟩ : Str) = ⟨_⟩
        simp
      have big : 64 ≤ sizeLine := by decide
      unfold wkL at ln h
      rw [List.length_append, List.length_cons] at ln
      rw [← S_cps q.1]
      refine ⟨_, rfl, .inl ⟨_, rfl, by rw [lS]; exact Nat.le_trans (show q.1.cps.toList.length ≤ 64 by omega) big, _, rfl, by rw [show Str.empty = S [] from rfl, aS, lS]; exact Nat.le_trans (show q.1.cps.toList.length ≤ 64 by omega) big, ?_⟩⟩
      rw [show Str.empty = S [] from rfl, aS, List.nil_append]
      refine ⟨_, rfl, by rw [show Str.ofString " " = S [32] from rfl, aS, lS, List.length_append]; exact Nat.le_trans (show q.1.cps.toList.length + 1 ≤ 64 by omega) big, ?_⟩
      rw [show Str.ofString " " = S [32] from rfl, aS]
      refine ⟨_, rfl, .inr ⟨q.2, rfl, ?_, _, rfl, ?_, ?_⟩⟩
      · exact Nat.lt_of_le_of_lt (Nat.log2_le_self _) (by omega)
      · rw [e1, aS, lS, List.length_append, List.length_append]
        exact Nat.le_trans (show q.1.cps.toList.length + 1 + (intL q.2).length ≤ 64 by omega) big
      · rw [e1, aS, List.append_assoc]
        exact h
    · rw [List.filter_eq_self.mpr fun _ _ => rfl]
      refine ⟨_, D, (ps.map wkL).map S, rfl, rfl, .inl (SqL.of (by rw [List.map_map, List.map_map]; exact upd_same)), ?_, ?_⟩
      · have h1 := sum_le (xs := ps.map wkL) (m := 64) fun x hx => by
          obtain ⟨v, hv, rfl⟩ := List.mem_map.mp hx
          exact wk_len (ok v hv)
        rw [List.length_map] at h1
        rw [List.length_map, List.length_map, show (Str.ofString " ").length = 1 from rfl]
        omega
      · rw [show (Str.ofString " ") = S [32] from rfl, join_S]
        exact k _ (same_new hD)
end
end Lw
namespace Lw
open PySem PySem.Spec PyProof.Rows L2
open SX PySem.NumText TL LamX ClX StX
theorem rise_pw : ∀ {p : Str} {l : List Str}, risingS p l = true → (p :: l).Pairwise fun a b => a.cps.toList ≤ b.cps.toList
  | p, [], _ => List.pairwise_singleton _ _
  | p, x :: r, h => by
    have h : (!ltCps x.cps.toList p.cps.toList && risingS x r) = true := h
    rw [Bool.and_eq_true, PyProof.Rows.ltCps_eq] at h
    have ih := rise_pw h.2
    have px : p.cps.toList ≤ x.cps.toList := by
      have z : ¬ x.cps.toList < p.cps.toList := by simpa using h.1
      exact z
    refine List.pairwise_cons.mpr ⟨fun y hy => ?_, ih⟩
    rcases List.mem_cons.mp hy with rfl | hy
    · exact px
    · exact List.le_trans px ((List.pairwise_cons.mp ih).1 y hy)
theorem sort_pw : ∀ {l : List Str}, sortedS l = true → l.Pairwise fun a b => a.cps.toList ≤ b.cps.toList
  | [], _ => .nil
  | _ :: _, h => rise_pw h
theorem str_ext {a b : Str} (h : a.cps.toList = b.cps.toList) : a = b := by
  obtain ⟨⟨x⟩⟩ := a
  obtain ⟨⟨y⟩⟩ := b
  have h : x = y := h
  subst h
  rfl
theorem sort_uniq {l m : List Str} (p : l.Perm m) (hl : sortedS l = true) (hm : sortedS m = true) : l = m :=
  p.eq_of_pairwise (le := fun a b : Str => a.cps.toList ≤ b.cps.toList) (fun a b _ _ h1 h2 => str_ext (List.le_antisymm h1 h2)) (sort_pw hl) (sort_pw hm)
/-- [d[name] for name in names], all names in d -/
theorem nums_of {i j m : Nat} {K : PySem.W.Frag} {σ : L2.St} {H : Hp} {Q : VK} {d l : Addr} {ks ps : List (Str × Int)} (hi : σ[i]? = some (some (V.ref l))) (hm : (wipe σ [j])[m]? = some (some (V.ref d))) (jm : j ≠ m) (lj : j < σ.length) (hl : H l = some (.lst (ps.map fun q => V.str q.1))) (hd : H d = some (.dK (dkI ks)))
    (nd : (ks.map (·.1)).Nodup) (sub : ∀ q ∈ ps, q ∈ ks) (hz : ps.length ≤ 5000) (q : ∀ D H', Same H H' → H D = none → H' D = some (.lst (ps.map fun q => V.int q.2)) → Q (.ref D) H') :
    tLc (iList K (tVar i)) (gName j) tYes (tDGet (tVar m) (tVar j)) [j] σ H Q := by
  refine ⟨_, hi, l, rfl, ⟨_, SqL.of hl⟩, fun D hD => lc_it walk_list (fun n H' => H' = upd H D (.lst ((ps.take n).map fun q => V.int q.2))) rfl (fun n H' _ e => by rw [e]; exact SqL.of ((same_new hD) _ _ hl)) ?_ ?_⟩
  · rintro n x H' H'' hn e ⟨rfl, hx⟩
    rw [List.getElem?_map] at hx
    obtain ⟨p, hp, rfl⟩ := Option.map_eq_some_iff.mp hx
    have pm := sub p (List.mem_of_getElem? hp)
    refine ⟨by simp [wipe, List.set_set], ?_⟩
    dsimp only [tYes]
    rw [if_pos rfl]
    have g1 : ((wipe σ [j]).set j (some (V.str p.1)))[m]? = some (some (V.ref d)) := by rw [List.getElem?_set_ne jm]; exact hm
    have g2 : ((wipe σ [j]).set j (some (V.str p.1)))[j]? = some (some (V.str p.1)) := by
      rw [List.getElem?_set_self]
      simpa [wipe] using lj
    refine ⟨_, g1, _, g2, d, .int p.2, rfl, ?_, _, by rw [e]; exact upd_same, ?_, ?_⟩
    · have hd' : H'' d = some (.dK (dkI ks)) := by rw [e]; exact (same_new hD) _ _ hd
      have z := DGet.k (k := Sum.inr p.1) hd'
      rw [dkI_get nd pm] at z
      exact z
    · rw [List.length_map]
      exact Nat.lt_of_le_of_lt (Nat.le_trans (List.length_take_le' _ _) hz) (by decide)
    · rw [e, upd_upd, List.take_add_one, hp, List.map_append]; rfl
  · rintro H' e
    rw [List.length_map, List.take_of_length_le (Nat.le_refl _)] at e
    exact q D _ (by rw [e]; exact same_new hD) hD (by rw [e]; exact upd_same)
theorem drop_updK {H : Hp} {a : Addr} {o : HO} (h : H a = none) : ItX.dropH (upd H a o) a = H := by
  funext b
  unfold ItX.dropH upd
  by_cases e : b = a
  · rw [e, if_pos rfl, h]
  · rw [if_neg e, if_neg e]
theorem eqvs_intsK : ∀ ns ms : List Int, PyData.eqvAll (ns.map PyData.int) (ms.map PyData.int) = decide (ns = ms)
  | [], [] => rfl
  | [], _ :: _ => rfl
  | _ :: _, [] => rfl
  | n :: r, m :: s => by
    show ((n == m) && PyData.eqvAll (r.map PyData.int) (s.map PyData.int)) = _
    rw [eqvs_intsK r s]
    by_cases e1 : n = m
    · by_cases e2 : r = s
      · subst e1 e2; simp
      · rw [decide_eq_false e2, Bool.and_false, decide_eq_false (fun e => e2 (List.cons.inj e).2)]
    · rw [beq_eq_false_iff_ne.mpr e1, Bool.false_and, decide_eq_false (fun e => e1 (List.cons.inj e).1)]
/-- [x for x in ..]: the values as they are -/
theorem lc_copy {J : It} {G : Hp → Prop} {xs : List V} (w : Walk J xs.length G (YAt xs)) {j : Nat} {σ : L2.St} {H : Hp} {D : Addr} {Qd : Hp → Prop} (hG : ∀ ys, G (upd H D (.lst ys))) (lj : j < σ.length) (hz : xs.length ≤ 5000) (hd : Qd (upd H D (.lst xs))) :
    ∃ W : Nat → Nat → Hp → Prop, (∃ m, W 0 m (upd H D (.lst []))) ∧ ∀ i m H, W i m H →
      (J.stop i H ∧ Qd H) ∨ (J.go i H ∧ ∃ Nx : Hp → Prop, (∀ H', Nx H' → ∃ m', m' < m ∧ W (i + 1) m' H') ∧ ∀ x H', J.yld i H x H' → gName j x (wipe σ [j]) H' fun σ2 H2 => wipe σ2 [j] = wipe σ [j] ∧ tYes σ2 H2 fun b H3 =>
        if b = true then tVar j σ2 H3 fun y H4 => ∃ acc, H4 D = some (.lst acc) ∧ acc.length < sizeLine ∧ Nx (upd H4 D (.lst (acc ++ [y]))) else Nx H3) := by
  refine lc_it w (fun i H' => H' = upd H D (.lst (xs.take i))) rfl (fun i H' _ e => by rw [e]; exact hG _) ?_ ?_
  · rintro i x H' H'' hi e ⟨rfl, hx⟩
    refine ⟨by simp [wipe, List.set_set], ?_⟩
    dsimp only [tYes]
    rw [if_pos rfl]
    have g2 : ((wipe σ [j]).set j (some x))[j]? = some (some x) := by
      rw [List.getElem?_set_self]
      simpa [wipe] using lj
    refine ⟨_, g2, _, by rw [e]; exact upd_same, ?_, ?_⟩
    · exact Nat.lt_of_le_of_lt (Nat.le_trans (List.length_take_le' _ _) hz) (by decide)
    · rw [e, upd_upd, List.take_add_one, hx]; rfl
  · rintro H' e
    rw [List.take_of_length_le (Nat.le_refl _)] at e
    rw [e]
    exact hd
/-- [(name, d[name]) for name in names], all names in d -/
theorem prs_of {i j m : Nat} {K : PySem.W.Frag} {σ : L2.St} {H : Hp} {Q : VK} {d l : Addr} {ks ps : List (Str × Int)} (hi : σ[i]? = some (some (V.ref l))) (hm : (wipe σ [j])[m]? = some (some (V.ref d))) (jm : j ≠ m) (lj : j < σ.length) (hl : H l = some (.lst (ps.map fun q => V.str q.1))) (hd : H d = some (.dK (dkI ks)))
    (nd : (ks.map (·.1)).Nodup) (sub : ∀ q ∈ ps, q ∈ ks) (hz : ps.length ≤ 5000) (q : ∀ D H' ts, Same H H' → H D = none → H' D = some (.lst (ts.map V.ref)) → PrT H' ts ps → Q (.ref D) H') :
    tLc (iList K (tVar i)) (gName j) tYes (tTup (tCons (tVar j) (tCons (tDGet (tVar m) (tVar j)) tNil))) [j] σ H Q := by
  refine ⟨_, hi, l, rfl, ⟨_, SqL.of hl⟩, fun D hD => lc_it walk_list (fun n H' => Same H H' ∧ ∃ ts : List Addr, H' D = some (.lst (ts.map V.ref)) ∧ PrT H' ts (ps.take n)) ⟨same_new hD, [], upd_same, .nil⟩ (fun n H' _ h => SqL.of (h.1 _ _ hl)) ?_ ?_⟩
  · rintro n x H' H'' hn ⟨s', ts, hDt, pr⟩ ⟨rfl, hx⟩
    rw [List.getElem?_map] at hx
    obtain ⟨p, hp, rfl⟩ := Option.map_eq_some_iff.mp hx
    have pm := sub p (List.mem_of_getElem? hp)
    refine ⟨by simp [wipe, List.set_set], ?_⟩
    dsimp only [tYes]
    rw [if_pos rfl]
    have g1 : ((wipe σ [j]).set j (some (V.str p.1)))[m]? = some (some (V.ref d)) := by rw [List.getElem?_set_ne jm]; exact hm
    have g2 : ((wipe σ [j]).set j (some (V.str p.1)))[j]? = some (some (V.str p.1)) := by
      rw [List.getElem?_set_self]
      simpa [wipe] using lj
    have dg : DGet H'' d (.str p.1) (some (.int p.2)) := by
      have z := DGet.k (k := Sum.inr p.1) (s' _ _ hd)
      rw [dkI_get nd pm] at z
      exact z
    refine ⟨_, g2, _, g1, _, g2, d, .int p.2, rfl, dg, (by show 2 ≤ sizeLine; decide), fun T hT => ?_⟩
    have sT : Same H'' (upd H'' T (.tup [.str p.1, .int p.2])) := same_new hT
    have TD : T ≠ D := fun e => by rw [e, hDt] at hT; cases hT
    refine ⟨ts.map V.ref, sT _ _ hDt, ?_, fun b o e => ?_, ts ++ [T], ?_, ?_⟩
    · rw [List.length_map, pr.len]
      exact Nat.lt_of_le_of_lt (Nat.le_trans (List.length_take_le' _ _) hz) (by decide)
    · rw [upd_ne (ne_of_none e hD)]
      exact sT _ _ (s' _ _ e)
    · rw [upd_same, List.map_append]; rfl
    · rw [List.take_add_one, hp]
      have k : ∀ b xs, H'' b = some (.tup xs) → upd (upd H'' T (.tup [.str p.1, .int p.2])) D (.lst (ts.map V.ref ++ [.ref T])) b = some (.tup xs) := fun b xs e => by
        rw [upd_ne (fun z => by rw [z, hDt] at e; cases e)]
        exact sT _ _ e
      exact Paired.snoc (pr.mono k) (by rw [upd_ne TD]; exact upd_same)
  · rintro H' ⟨s', ts, hDt, pr⟩
    rw [List.length_map, List.take_of_length_le (Nat.le_refl _)] at pr
    exact q D H' ts s' hD hDt pr
/-- tuple(l), l a list: it stands above what the frame found -/
def rTupN (K : PySem.W.Frag) (n : Nat) : List V → Hp → VK → Prop := fun xs H Q => ∃ (p : Addr) (ys : List V), xs = [.ref p] ∧ SqL K H p ys ∧ ∀ l, H l = none → n ≤ l → Q (.ref l) (upd H l (.tup ys))
theorem call_tuple_ofN {X : Cx} : CallR X (.type "tuple") (rTupN X.K X.s_0.heap.objs.size) := fun pins s σ H xs us Q I r h => by
  obtain ⟨p, ys, rfl, hq, q⟩ := h
  obtain ⟨u, rfl, rx⟩ := vals1 r
  cases rx
  obtain ⟨its, rv, pl, hz⟩ := I.list hq
  have e := rv.length
  refine call_tuple_list pl.isList (fun g kp => ?_) (by rw [List.size_toArray]; omega)
  have J : Inv X pins σ H { s with heap := g } := I.kept (t' := s.toks) kp
  exact ⟨.ref g.objs.size, _, J.laid (a := g.objs.size) (o := .tup ys) (t' := s.toks) (fun _ _ z => Heap.get?_push_of_some _ z) (Nat.le_refl _) ⟨hz, its, rv, IsTup.new _ _⟩, rfl, q _ (J.hok.fresh (Nat.le_refl _)) J.sz⟩
theorem flat_intsK : ∀ ns : List Int, (ns.map V.int).all flatV = true
  | [] => rfl
  | n :: r => by rw [List.map_cons, List.all_cons, flat_intsK r]; rfl
theorem cons_i {a : TE} {b : TA} {σ : L2.St} {H : Hp} {Q : List V → Hp → Prop} (h : a σ H fun x H1 => b σ H1 fun vs H2 => Q (x :: vs) H2) : tCons a b σ H Q := h
theorem cb_i {r : List V → Hp → VK → Prop} {t : TA} {σ : L2.St} {H : Hp} {Q : VK} (h : t σ H fun vs H1 => r vs H1 Q) : tCB r t σ H Q := h
/-- [int(x) for x in l], ints -/
theorem ints_of {i j : Nat} {K : PySem.W.Frag} {σ : L2.St} {H : Hp} {Q : VK} {l : Addr} {ns : List Int} (hi : σ[i]? = some (some (V.ref l))) (lj : j < σ.length) (hl : H l = some (.lst (ns.map V.int))) (hz : ns.length ≤ 5000)
    (q : ∀ D H', Same H H' → H D = none → H' D = some (.lst (ns.map V.int)) → Q (.ref D) H') :
    tLc (iList K (tVar i)) (gName j) tYes (tCB (fun xs H Q => (∃ i, xs = [V.int i] ∧ Q (V.int i) H) ∨ ∃ k, xs = [V.bl k] ∧ Q (V.int (if k = true then 1 else 0)) H) (tCons (tVar j) tNil)) [j] σ H Q := by
  refine ⟨_, hi, l, rfl, ⟨_, SqL.of hl⟩, fun D hD => lc_it walk_list (fun n H' => H' = upd H D (.lst ((ns.take n).map V.int))) rfl (fun n H' _ e => by rw [e]; exact SqL.of ((same_new hD) _ _ hl)) ?_ ?_⟩
  · rintro n x H' H'' hn e ⟨rfl, hx⟩
    rw [List.getElem?_map] at hx
    obtain ⟨v, hv, rfl⟩ := Option.map_eq_some_iff.mp hx
    refine ⟨by simp [wipe, List.set_set], ?_⟩
    dsimp only [tYes]
    rw [if_pos rfl]
    have g2 : ((wipe σ [j]).set j (some (V.int v)))[j]? = some (some (V.int v)) := by
      rw [List.getElem?_set_self]
      simpa [wipe] using lj
    refine ⟨_, g2, .inl ⟨_, rfl, _, by rw [e]; exact upd_same, ?_, ?_⟩⟩
    · rw [List.length_map]
      exact Nat.lt_of_le_of_lt (Nat.le_trans (List.length_take_le' _ _) hz) (by decide)
    · rw [e, upd_upd, List.take_add_one, hv, List.map_append]; rfl
  · rintro H' e
    rw [List.length_map, List.take_of_length_le (Nat.le_refl _)] at e
    exact q D _ (by rw [e]; exact same_new hD) hD (by rw [e]; exact upd_same)
theorem dp_strs {K : PySem.W.Frag} {H : Hp} : ∀ zs : List Str, DpAll K H (zs.map V.str) (zs.map PyData.str)
  | [] => .nil
  | x :: r => .cons (.str x) (dp_strs r)
theorem lay_strs : ∀ {zs : List Str}, (∀ z ∈ zs, OkS z) → PyData.canLayAll0 (zs.map PyData.str) = true
  | [], _ => rfl
  | z :: r, h => by
    show (PyData.canLay0 (.str z) && PyData.canLayAll0 (r.map PyData.str)) = true
    rw [lay_str (h z List.mem_cons_self), lay_strs fun x hx => h x (List.mem_cons_of_mem _ hx)]; rfl
theorem depth_strs : ∀ zs : List Str, PyData.depthAll (zs.map PyData.str) = 0
  | [] => rfl
  | z :: r => by
    show max 0 (PyData.depthAll (r.map PyData.str)) = 0
    rw [depth_strs r]; rfl
theorem shaped_strsT {zs : List Str} (h : ∀ z ∈ zs, OkS z) : SeqAt.shaped (.tuple (zs.map PyData.str)) = true := by
  unfold SeqAt.shaped
  have h1 : PyData.canLay0 (.tuple (zs.map PyData.str)) = true := lay_strs h
  have h2 : PyData.depth (.tuple (zs.map PyData.str)) = 1 := by
    show PyData.depthAll (zs.map PyData.str) + 1 = 1
    rw [depth_strs]
  rw [h1, h2]; rfl
theorem shaped_strsL {zs : List Str} (h : ∀ z ∈ zs, OkS z) : SeqAt.shaped (.list (zs.map PyData.str)) = true := by
  unfold SeqAt.shaped
  have h1 : PyData.canLay0 (.list (zs.map PyData.str)) = true := lay_strs h
  have h2 : PyData.depth (.list (zs.map PyData.str)) = 1 := by
    show PyData.depthAll (zs.map PyData.str) + 1 = 1
    rw [depth_strs]
  rw [h1, h2]; rfl
theorem eqvs_strs : ∀ a b : List Str, PyData.eqvAll (a.map PyData.str) (b.map PyData.str) = decide (a = b)
  | [], [] => rfl
  | [], _ :: _ => rfl
  | _ :: _, [] => rfl
  | p :: r, q :: s => by
    show ((p == q) && PyData.eqvAll (r.map PyData.str) (s.map PyData.str)) = _
    rw [eqvs_strs r s]
    by_cases e1 : p = q
    · by_cases e2 : r = s
      · subst e1 e2; simp
      · rw [decide_eq_false e2, Bool.and_false, decide_eq_false (fun e => e2 (List.cons.inj e).2)]
    · rw [beq_eq_false_iff_ne.mpr e1, Bool.false_and, decide_eq_false (fun e => e1 (List.cons.inj e).1)]
/-- ps: the pairs ks, sorted by their names -/
def Srt (ks ps : List (Str × Int)) : Prop := ps.Perm ks ∧ sortedS (ps.map (·.1)) = true
theorem nd_pairs {l : List (Str × Int)} (h : (l.map (·.1)).Nodup) : l.Nodup := List.Pairwise.of_map (fun q : Str × Int => q.1) (fun _ _ ne e => ne (congrArg Prod.fst e)) h
theorem snd_eq {l : List (Str × Int)} (h : (l.map (·.1)).Nodup) {n : Str} {i j : Int} (h1 : (n, i) ∈ l) (h2 : (n, j) ∈ l) : i = j := by
  have a := dkI_get h h1
  have b := dkI_get h h2
  rw [a] at b
  cases b
  rfl
theorem srt_of {ks ps : List (Str × Int)} (nd : (ks.map (·.1)).Nodup) (p : (ps.map (·.1)).Perm (ks.map (·.1))) (s : sortedS (ps.map (·.1)) = true) (h : ∀ q ∈ ps, q ∈ ks) : Srt ks ps := by
  have np : (ps.map (·.1)).Nodup := p.symm.nodup nd
  refine ⟨(List.perm_ext_iff_of_nodup (nd_pairs np) (nd_pairs nd)).mpr fun q => ⟨h q, fun hq => ?_⟩, s⟩
  obtain ⟨r, hr, e⟩ := List.mem_map.mp (p.symm.subset (List.mem_map_of_mem hq))
  obtain ⟨a, i⟩ := q
  obtain ⟨b, j⟩ := r
  have e : b = a := e
  subst e
  rw [snd_eq nd hq (h _ hr)]
  exact hr
/-- a crew made of these speeds -/
def CwK (CC : Addr) (H : Hp) (c : Addr) (ks : List (Str × Int)) : Prop := ∃ ps, CwAt CC H c ps ∧ Srt ks ps
def KsOk (ks : List (Str × Int)) : Prop := (ks.map (·.1)).Nodup ∧ 1 ≤ ks.length ∧ ks.length ≤ 8 ∧ CwOk ks
/-- a def's table of code objects among those that are tracked -/
structure TabOf (T : List (Addr × Str)) (B : Addr) (x : Str) : Prop where
  mem : (B, (x ++ (".<locals>." : Str)) ++ ("<lambda>" : Str)) ∈ T
  own : ∀ p ∈ T, p.1 = B → p.2 = (x ++ (".<locals>." : Str)) ++ ("<lambda>" : Str)
theorem KpN.ofK {p : Addr} {H H' : Hp} (k : Kp p H H') : KpN p H H' := fun b o n e _ => k b o n e
theorem KpN.ext {p : Addr} {H H' : Hp} (x : ExtN H H') : KpN p H H' := fun b o _ e n => x b o e n
theorem KpN.trans {p : Addr} {H H' H'' : Hp} (a : KpN p H H') (b : KpN p H' H'') : KpN p H H'' := fun c o n e z => b c o n (a c o n e z) z
section
variable {X : Cx} {C f : Addr} {k j : Nat} {sp : Sp} {E : XK} {pins : List (Addr × Obj)} {σ : L2.St} {H : Hp} {s : Shared}
/-- x == y by the left one's own ==, y any value whose class is not below -/
def rEqG (K : PySem.W.Frag) (C : Addr) (sp : Sp) (E : XK) : R2 := fun x y H Q => ∃ a dx fs t, x = .ref a ∧ H a = some (.ins C dx fs) ∧ TyX K H y t ∧ PySem.W.notFirst K C t = true ∧ sp [x, y] H Q E
theorem op_eqG (M : MetX X.prog X.w X.K X.mg X.base k C "__eq__" sp) (hx : Passes (L2.CX X.prog X.w) X E) (hr : Room j X.A) (hk : k ≤ j) : OpR X (compareOp .Eq) (rEqG X.K C sp E) := by
  intro pins s σ H x y v u Q I rx ry h
  obtain ⟨a, dx, fs, t, rfl, ha, hy, hn, q⟩ := h
  cases (show v = Value.ref a from rx)
  obtain ⟨_, _, J⟩ := ins_at I ha
  obtain ⟨g, hm, w, _⟩ := run_met (us := [.ref a, u]) (vs := [.ref a, y]) M hx hr hk I (.cons rfl (.cons ry .nil)) q
  obtain ⟨W, Z, p, _⟩ := kit_of I ry hy
  exact Ow.cmp_eq hr.units0 I.kIn J (Z.ty _ _ I.kIn p) hn (Ow.try_ownE I.kIn J hm.at_ hm.fn w)
theorem op_eqGK (K' : PySem.W.Frag) (hK : X.K = K') (M : MetX X.prog X.w X.K X.mg X.base k C "__eq__" sp) (hx : Passes (L2.CX X.prog X.w) X E) (hr : Room j X.A) (hk : k ≤ j) : OpR X (compareOp .Eq) (rEqG K' C sp E) := by
  subst hK
  exact op_eqG M hx hr hk
end
def nfN : List String := ["dict", "list", "int", "NoneType", "str"]
/-- what is no crew -/
structure EqNo (K : PySem.W.Frag) (CC : Addr) : Prop where
  f : (nfN.all fun n => PySem.W.subIn K (.type n) (.ref CC) == some false && PySem.W.kitOne K (.type n) (.ref CC) == some false) = true
theorem EqNo.at_ {K : PySem.W.Frag} {CC : Addr} (h : EqNo K CC) {n : String} (hn : n ∈ nfN) : PySem.W.notFirst K CC (.type n) = true ∧ PySem.W.kitOne K (.type n) (.ref CC) = some false := by
  have h1 := List.all_eq_true.mp h.f n hn
  rw [Bool.and_eq_true] at h1
  refine ⟨?_, eq_of_beq h1.2⟩
  unfold PySem.W.notFirst
  rw [eq_of_beq h1.1]; simp
def gV1 : List V → List V → List V := fun _ zs => zs
/-- the static method of, by its parameter's name, too -/
structure StC (P : Program) (w : World) (K : PySem.W.Frag) (mg : Str → Option Value) (base : Heap) (CC DN DS DC DM : Addr) : Prop where
  ex : ∃ (p g : Addr) (fd : FuncData) (gU : List Value → List Value → List Value), OfC P w K mg base CC DN DS DC DM p g fd ∧ KBn K fd ["speeds"] 0 ["speeds"] gU gV1
theorem srt_uniq {ks ps qs : List (Str × Int)} (nd : (ks.map (·.1)).Nodup) (h1 : Srt ks ps) (h2 : Srt ks qs) : ps = qs := by
  have e : ps.map (·.1) = qs.map (·.1) := sort_uniq ((h1.1.map _).trans (h2.1.map _).symm) h1.2 h2.2
  have l : ps.length = qs.length := h1.1.length_eq.trans h2.1.length_eq.symm
  refine List.ext_getElem l fun i hi hj => ?_
  have e1 : ps[i].1 = qs[i].1 := by
    have z := congrArg (·[i]?) e
    simp only [List.getElem?_map, List.getElem?_eq_getElem hi, List.getElem?_eq_getElem hj, Option.map_some] at z
    exact Option.some.inj z
  have m1 := h1.1.subset (List.getElem_mem hi)
  have m2 := h2.1.subset (List.getElem_mem hj)
  refine Prod.ext e1 (snd_eq (n := ps[i].1) nd m1 ?_)
  rw [e1]
  exact m2
theorem srt_two {ks ls ps qs : List (Str × Int)} (h1 : Srt ks ps) (h2 : Srt ls qs) {n : Str} {i j : Int} (nd : (ks.map (·.1)).Nodup) (m1 : (n, i) ∈ ks) (m2 : (n, j) ∈ ls) (ne : i ≠ j) : ps ≠ qs := fun e => by
  subst e
  have a := h1.1.symm.subset m1
  have b := h2.1.symm.subset m2
  exact ne (snd_eq nd (h1.1.subset a) (h1.1.subset b))
/-- good speeds: a crew of them, sorted -/
theorem mkc_ok {K : PySem.W.Frag} {CC DN DS DC DM : Addr} {ks : List (Str × Int)} {H : Hp} {Q : VK} {E : XK} (ok : KsOk ks) (k : ∀ c H' ps, Same H H' → H c = none → CwAt CC H' c ps → NewD H H' c → Srt ks ps → Q (.ref c) H') : MkC K CC DN DS DC DM (ks.map fun q => (q.1, V.int q.2)) H Q E := by
  obtain ⟨nd, l1, l8, c⟩ := ok
  refine ⟨fun i q hq _ b => ?_, fun _ => ⟨fun i q hq _ b => ?_, fun _ ps pm so sub => ?_⟩⟩
  · rw [List.getElem?_map] at hq
    obtain ⟨r, hr, rfl⟩ := Option.map_eq_some_iff.mp hq
    rw [(c r (List.mem_of_getElem? hr)).1] at b
    cases b
  · rw [List.getElem?_map] at hq
    obtain ⟨r, hr, rfl⟩ := Option.map_eq_some_iff.mp hq
    have e : isSp (V.int r.2) = true := by
      show (decide (1 ≤ r.2) && decide (r.2 ≤ 60)) = true
      rw [decide_eq_true (c r (List.mem_of_getElem? hr)).2.1, decide_eq_true (c r (List.mem_of_getElem? hr)).2.2]; rfl
    rw [e] at b
    cases b
  · have mm : (ks.map fun q => (q.1, V.int q.2)).map (·.1) = ks.map (·.1) := by rw [List.map_map]; rfl
    rw [mm] at pm
    have l : ps.length = ks.length := by have := pm.length_eq; rw [List.length_map, List.length_map] at this; exact this
    have S : Srt ks ps := srt_of nd pm so fun q hq => by
      obtain ⟨r, hr, e⟩ := List.mem_map.mp (sub q hq).1
      have e : (r.1, V.int r.2) = (q.1, V.int q.2) := e
      have e1 : r.1 = q.1 := (Prod.mk.inj e).1
      have e2 : r.2 = q.2 := V.int.inj (Prod.mk.inj e).2
      have : r = q := Prod.ext e1 e2
      rw [← this]; exact hr
    refine ⟨fun e => ?_, fun e => ?_, fun _ _ cc H' s f cw nd => k cc H' ps s f cw nd S⟩
    · rw [e] at l
      exact absurd l (by show (0 : Nat) ≠ _; omega)
    · omega
theorem dn_ok {K : PySem.W.Frag} {H : Hp} {ks : List (Str × Int)} (ok : KsOk ks) : DnK K H (ks.map fun q => (q.1, V.int q.2)) := by
  obtain ⟨nd, l1, l8, c⟩ := ok
  refine ⟨by rw [List.map_map]; exact nd, by rw [List.length_map]; omega, fun p hp => ?_⟩
  obtain ⟨q, hq, rfl⟩ := List.mem_map.mp hp
  refine ⟨.int _, ?_⟩
  have h := name_len (c q hq).1
  have e : q.1.length = q.1.cps.toList.length := by rw [Array.length_toList]; rfl
  show q.1.length ≤ 1000000
  omega
/-- Crew.of of a dict of good speeds -/
theorem cof_ok {K : PySem.W.Frag} {CC DN DS DC DM d : Addr} {ks : List (Str × Int)} {H : Hp} {Q : VK} {E : XK} (ok : KsOk ks) (hd : H d = some (.dK (dkI ks))) (k : ∀ c H' ps, Same H H' → H c = none → CwAt CC H' c ps → NewD H H' c → Srt ks ps → Q (.ref c) H') : spCof K CC DN DS DC DM [.ref d] H Q E :=
  ⟨_, rfl, .inr (.inl ⟨d, _, rfl, hd, dn_ok ok, mkc_ok ok k⟩)⟩
theorem any_tup {K : PySem.W.Frag} {H : Hp} {a : Addr} {xs : List V} (h : H a = some (.tup xs)) : Anyv K H (.ref a) := .obj (.x (.base (.tup h))) (kit_ty (by decide +kernel)) (kit_ty (by decide +kernel)) (kit_ty (by decide +kernel))
theorem any_lst {K : PySem.W.Frag} {H : Hp} {a : Addr} {xs : List V} (h : H a = some (.lst xs)) : Anyv K H (.ref a) := .obj (.x (.base (.lst h))) (kit_ty (by decide +kernel)) (kit_ty (by decide +kernel)) (kit_ty (by decide +kernel))
theorem any_dK {K : PySem.W.Frag} {H : Hp} {a : Addr} {xs : List (L2.Key × V)} (h : H a = some (.dK xs)) : Anyv K H (.ref a) := .obj (.x (.base (.dK h))) (kit_ty (by decide +kernel)) (kit_ty (by decide +kernel)) (kit_ty (by decide +kernel))
theorem CwAt.frz {CC : Addr} {H : Hp} {c d : Addr} {ps : List (Str × Int)} {kvs : List (L2.Key × V)} {od : Obj} (h : CwAt CC H c ps) (hd : H d = some (.dK kvs)) : CwAt CC (upd H d (.frz od (.dK kvs))) c ps := by
  obtain ⟨dx, w, p, dd, ts, mn, mx, sl, fa, h1, h2, h3, h4, h5, h6⟩ := h
  have ne : ∀ {b o}, H b = some o → (∀ x, o ≠ .dK x) → upd H d (.frz od (.dK kvs)) b = some o := fun {b o} e n => by
    rw [upd_ne (fun z => by rw [z, hd] at e; exact n _ (Option.some.inj e).symm)]; exact e
  refine ⟨dx, w, p, dd, ts, mn, mx, sl, fa, ne h1 (fun _ z => by cases z), ne h2 (fun _ z => by cases z), ne h3 (fun _ z => by cases z), h4.mono fun b xs e => ne e (fun _ z => by cases z), ?_, h6⟩
  by_cases bd : dd = d
  · rw [bd] at h5 ⊢
    rcases h5 with e | ⟨o, e⟩
    · rw [hd] at e
      cases e
      exact .inr ⟨od, upd_same⟩
    · rw [hd] at e; cases e
  · rcases h5 with e | ⟨o, e⟩
    · exact .inl (by rw [upd_ne bd]; exact e)
    · exact .inr ⟨o, by rw [upd_ne bd]; exact e⟩
theorem CwAt.put {CC : Addr} {H : Hp} {c D : Addr} {ps : List (Str × Int)} {kvs : List (L2.Key × V)} {o : HO} (h : CwAt CC H c ps) (hD : H D = some (.dK kvs)) (nd : ∀ C dx fs, H c = some (.ins C dx fs) → fs.lookup ("_speeds" : Str) ≠ some (.ref D)) : CwAt CC (upd H D o) c ps := by
  obtain ⟨dx, w, p, dd, ts, mn, mx, sl, fa, h1, h2, h3, h4, h5, h6⟩ := h
  have ne : ∀ {b u}, H b = some u → (∀ x, u ≠ .dK x) → upd H D o b = some u := fun {b u} e n => by
    rw [upd_ne (fun z => by rw [z, hD] at e; exact n _ (Option.some.inj e).symm)]; exact e
  have bd : dd ≠ D := fun z => nd _ _ _ h1 (by rw [crF_speeds, z])
  refine ⟨dx, w, p, dd, ts, mn, mx, sl, fa, ne h1 (fun _ z => by cases z), ne h2 (fun _ z => by cases z), ne h3 (fun _ z => by cases z), h4.mono fun b xs e => ne e (fun _ z => by cases z), ?_, h6⟩
  rcases h5 with e | ⟨u, e⟩
  · exact .inl (by rw [upd_ne bd]; exact e)
  · exact .inr ⟨u, by rw [upd_ne bd]; exact e⟩
theorem same_put {H H2 : Hp} {D : Addr} {o : HO} (s : Same H H2) (hD : H D = none) : Same H (upd H2 D o) := fun b u e => by rw [upd_ne (ne_of_none e hD)]; exact s b u e
/-- [name for name in d if name not in made], all names in it -/
theorem none_out {i j m : Nat} {K : PySem.W.Frag} {CC c : Addr} {E : XK} {ps : List (Str × Int)} {σ : L2.St} {H : Hp} {Q : VK} {d : Addr} {ks : List (Str × V)} (hi : σ[i]? = some (some (V.ref d))) (hm : (wipe σ [j])[m]? = some (some (V.ref c))) (jm : j ≠ m) (lj : j < σ.length) (hd : H d = some (.dK (dkOf ks))) (cw : CwAt CC H c ps) (sub : ∀ p ∈ ks, p.1 ∈ ps.map (·.1))
    (q : ∀ D H', Same H H' → H D = none → H' D = some (.lst []) → Q (.ref D) H') :
    tLockE (tLc (iKeys (tVar i)) (gName j) (tTest (tOp (rInC CC (spCco K CC) true E) (tVar j) (tVar m))) (tVar j) [j]) σ H Q := by
  refine ⟨d, _, hd, trivial, fun od => ⟨_, hi, d, od, rfl, .inl ⟨_, upd_same, fun D hD => ?_⟩⟩⟩
  have ne : D ≠ d := fun e => by rw [e, upd_same] at hD; cases hD
  have cf := cw.frz (od := od) hd
  have sf := same_new (o := HO.lst []) hD
  rw [upd_ne ne] at hD
  refine lc_it walk_keys (fun n H' => H' = upd (upd H d (.frz od (.dK (dkOf ks)))) D (.lst [])) rfl (fun n H' _ e => by rw [e, upd_ne ne.symm, upd_same]) ?_ ?_
  · rintro n x H' H'' hn e ⟨rfl, k, v, hk, rfl⟩
    rw [List.getElem?_map] at hk
    obtain ⟨p, hp, e2⟩ := Option.map_eq_some_iff.mp hk
    have e3 : k = Sum.inr p.1 := (congrArg Prod.fst e2).symm
    subst e3
    refine ⟨by simp [wipe, List.set_set], ?_⟩
    have gt : ((wipe σ [j]).set j (some (V.str p.1)))[j]? = some (some (V.str p.1)) := by
      rw [List.getElem?_set_self]
      simpa [wipe] using lj
    have g1 : ((wipe σ [j]).set j (some (V.str p.1)))[m]? = some (some (V.ref c)) := by rw [List.getElem?_set_ne jm]; exact hm
    have cw2 : CwAt CC H'' c ps := by rw [e]; exact cf.same sf
    obtain ⟨dx, _, _, _, _, _, _, _, _, hc, _⟩ := id cw2
    have yes : isWk ps (.str p.1) = true := decide_eq_true (sub p (List.mem_of_getElem? hp))
    refine ⟨_, gt, _, g1, c, dx, _, rfl, hc, c, ps, _, rfl, cw2, .str _, _, rfl, _, rfl, iteF' (by rw [yes]; rfl) e⟩
  · rintro H' e
    refine ⟨by rw [e, upd_ne ne.symm, upd_same], q D _ (fun b o hb => ?_) hD ?_⟩
    · by_cases bd : b = d
      · rw [bd] at hb ⊢
        rw [upd_same, ← hd]
        exact hb
      · rw [upd_ne bd, e, upd_ne (ne_of_none hb hD), upd_ne bd]
        exact hb
    · rw [upd_ne ne, e, upd_same]
theorem cw_ne {K : PySem.W.Frag} {CC a b : Addr} {ps qs : List (Str × Int)} {H : Hp} {Q : VK} {E : XK} (ha : CwAt CC H a ps) (hb : CwAt CC H b qs) (lp : ps.length ≤ 8) (lq : qs.length ≤ 8) (np : ∀ q ∈ ps, nameT q.1 = true) (nq : ∀ q ∈ qs, nameT q.1 = true) (q : Q (.bl (!decide (ps = qs))) H) : rNR CC (spCeq K CC) E (.ref a) (.ref b) H Q := by
  obtain ⟨dx, _, _, _, _, _, _, _, _, hi, _⟩ := id ha
  obtain ⟨dy, _, _, _, _, _, _, _, _, hj, _⟩ := id hb
  exact ⟨a, dx, _, b, dy, _, rfl, hi, rfl, hj, a, ps, _, rfl, ha, lp, np, .inr ⟨b, qs, rfl, hb, lq, nq, _, rfl, q⟩⟩
theorem cw_eq {K : PySem.W.Frag} {CC a b : Addr} {ps qs : List (Str × Int)} {H : Hp} {Q : VK} {E : XK} (ha : CwAt CC H a ps) (hb : CwAt CC H b qs) (lp : ps.length ≤ 8) (lq : qs.length ≤ 8) (np : ∀ q ∈ ps, nameT q.1 = true) (nq : ∀ q ∈ qs, nameT q.1 = true) (q : Q (.bl (decide (ps = qs))) H) : rER CC (spCeq K CC) E (.ref a) (.ref b) H Q := by
  obtain ⟨dx, _, _, _, _, _, _, _, _, hi, _⟩ := id ha
  obtain ⟨dy, _, _, _, _, _, _, _, _, hj, _⟩ := id hb
  exact ⟨a, dx, _, b, dy, _, rfl, hi, rfl, hj, a, ps, _, rfl, ha, lp, np, .inr ⟨b, qs, rfl, hb, lq, nq, q⟩⟩
theorem putK_head {n : Str} {v w : Int} {r : List (Str × Int)} (h : n ∉ r.map (·.1)) : putK (dkI ((n, v) :: r)) (Sum.inr n : L2.Key) (V.int w) = dkI ((n, w) :: r) := by
  show putK ((Sum.inr n, V.int v) :: dkI r) (Sum.inr n) (V.int w) = (Sum.inr n, V.int w) :: dkI r
  unfold putK
  rw [if_pos (by simp), List.map_cons, if_pos rfl]
  refine congrArg (List.cons _) ((List.map_congr_left fun kv hk => ?_).trans (List.map_id _))
  obtain ⟨p, hp, rfl⟩ := List.mem_map.mp hk
  obtain ⟨q, hq, rfl⟩ := List.mem_map.mp hp
  rw [if_neg (fun e => h (List.mem_map.mpr ⟨q, hq, Sum.inr.inj e⟩))]
  rfl
theorem cw_no {K : PySem.W.Frag} {CC a : Addr} {n : String} {ps : List (Str × Int)} {y : V} {H : Hp} {Q : VK} {E : XK} (N : EqNo K CC) (hn : n ∈ nfN) (ha : CwAt CC H a ps) (lp : ps.length ≤ 8) (np : ∀ q ∈ ps, nameT q.1 = true) (ty : TyX K H y (.type n)) (q : Q (.bl false) H) : rEqG K CC (spCeq K CC) E (.ref a) y H Q := by
  obtain ⟨dx, _, _, _, _, _, _, _, _, hi, _⟩ := id ha
  exact ⟨a, dx, _, .type n, rfl, hi, ty, (N.at_ hn).1, a, ps, _, rfl, ha, lp, np, .inl ⟨_, .x ty, (N.at_ hn).2, q⟩⟩
theorem list_crew {CC c : Addr} {ps : List (Str × Int)} {H : Hp} {Q : VK} (cw : CwAt CC H c ps) (l8 : ps.length ≤ 8) (k : ∀ S ts, H S = none → PrT (upd H S (.lst (ts.map V.ref))) ts ps → Q (.ref S) (upd H S (.lst (ts.map V.ref)))) : rListOwn CC (spCit CC) (spCln CC) [.ref c] H Q := by
  obtain ⟨dx, _, _, _, _, _, _, _, _, hc, _⟩ := id cw
  refine ⟨c, dx, _, rfl, hc, fun S fS Sa => ?_⟩
  have sS := same_new (o := HO.lst []) fS
  have cw1 := cw.same sS
  have hS : upd H S (.lst []) S = some (.lst []) := upd_same
  refine ⟨c, ps, rfl, cw1, fun p it ts hp pr fit hab => ?_⟩
  have sI := same_new (o := ItT0 p it) fit
  refine ⟨it, p, dx, _, ts.map V.ref, rfl, upd_same, hab _ _ hS, sI _ _ (sS _ _ hc), c, ps, rfl, cw1.same sI, _, rfl, by omega, by omega, upd_same, sI _ _ hS, sI _ _ hp, ?_, ?_⟩
  · rw [List.length_map, pr.len]; omega
  · rw [drop_updK fit, upd_upd]
    refine k S ts fS (pr.mono fun b xs e => ?_)
    have bS : b ≠ S := fun z => by rw [z, hS] at e; cases e
    rw [upd_ne bS] at e ⊢
    exact e
theorem test_op {r : R2} {ta tb : TE} {σ : L2.St} {H : Hp} {Q : Bool → Hp → Prop} (h : ta σ H fun x H1 => tb σ H1 fun y H2 => r x y H2 fun z H3 => ∃ k, z = .bl k ∧ Q k H3) : tTest (tOp r ta tb) σ H Q := h
/-- what stays -/
def pSt (a b : Str) : PyData := .tuple [.str a, .str b]
theorem dp_pSt {K : PySem.W.Frag} {H : Hp} {t : Addr} {a b : Str} (h : H t = some (.tup [.str a, .str b])) : Dp K H (.ref t) (pSt a b) := .tup (SqT.of h) (.cons (.str _) (.cons (.str _) .nil))
theorem eqv_pSt (a b : Str) : PyData.eqv (pSt a b) (pSt a b) = true := by simp [pSt, PyData.eqv, PyData.eqvAll]
theorem lay_pSt {a b : Str} (ha : PyData.canLay0 (.str a) = true) (hb : PyData.canLay0 (.str b) = true) : (pSt a b).canLay0 = true := by
  show (PyData.canLay0 (.str a) && (PyData.canLay0 (.str b) && true)) = true
  rw [ha, hb]; rfl
theorem shaped_pSt {a b : Str} (ha : PyData.canLay0 (.str a) = true) (hb : PyData.canLay0 (.str b) = true) : SeqAt.shaped (pSt a b) = true := by
  unfold SeqAt.shaped
  rw [lay_pSt ha hb]; rfl
end Lw
namespace Lw
open PySem PySem.Spec PyProof.Rows L2

section
variable {X : Cx} {C f : Addr} {k j : Nat} {sp : Sp} {E : XK}
def rRightX (C : Addr) (P : V → Prop) (sp : Sp) (E : XK) : R2 := fun x y H Q => ∃ a dx fs, P x ∧ y = .ref a ∧ H a = some (.ins C dx fs) ∧ sp [y, x] H Q E
theorem op_rightIX {op : Operator} {id : String} (M : MetX X.prog X.w X.K X.mg X.base k C (dunderR op.info.2) sp) (hx : Passes (L2.CX X.prog X.w) X E) (hc : PySem.W.selfFirst X.K C = true) (hs : PySem.W.findIn X.K (.ref C) (PySem.dunder op.info.2) = some (some (.ref f))) (hL : fillsNumberSlot (.type "int") op.info.2 = pure true)
    (hsub : PySem.W.subIn X.K (.ref C) (.type "int") = some false) (sl : Slot "int" (PySem.dunder op.info.2) id) (hd : ∀ {A : Around} {E : Value → Shared → Prop} {s : Shared} {i : Int} {t : Tok} {x : Addr} {o : Obj} {Q' : Value → Shared → Prop}, s.heap.get? x = some o → o.data = .plain → Q' .notImplemented s → wpAny (model X.prog X.w) A (call (.builtin id) [.int i t, .ref x]) Q' E s)
    (hr : Room j X.A) (hk : k ≤ j) : OpR X (binaryOp op) (rRightX C (fun x => ∃ i, x = .int i) sp E) := by
  intro pins s σ H x y v u Q I rx ry h
  obtain ⟨a, dx, fs, ⟨i, rfl⟩, rfl, ha, q⟩ := h
  cases (show u = Value.ref a from ry)
  obtain ⟨t, rfl⟩ := (show ∃ t, v = Value.int i t from rx)
  obtain ⟨ox, od, J, h1, h2⟩ := ins_plain I ha
  obtain ⟨g, hm, w, _⟩ := run_met (us := [.ref a, .int i t]) (vs := [.ref a, .int i]) M hx hr hk I (.cons rfl (.cons ⟨t, rfl⟩ .nil)) q
  exact Ow.right_number I.kIn J rfl (typeIs_int s i t) hc hs hm.at_ hm.fn hL hsub sl (fun Q' z => hd h1 h2 z) w
theorem op_rightBX {op : Operator} {T : String} (M : MetX X.prog X.w X.K X.mg X.base k C (dunderR op.info.2) sp) (hx : Passes (L2.CX X.prog X.w) X E) (hc : PySem.W.selfFirst X.K C = true) (hs : PySem.W.findIn X.K (.ref C) (PySem.dunder op.info.2) = some (some (.ref f))) (hL : fillsNumberSlot (.type T) op.info.2 = pure false)
    (hr : Room j X.A) (hk : k ≤ j) : OpR X (binaryOp op) (rRightX C (fun x => Kind x T) sp E) := by
  intro pins s σ H x y v u Q I rx ry h
  obtain ⟨a, dx, fs, hT, rfl, ha, q⟩ := h
  cases (show u = Value.ref a from ry)
  obtain ⟨ox, od, J, h1, h2⟩ := ins_plain I ha
  obtain ⟨g, hm, w, _⟩ := run_met (us := [.ref a, v]) (vs := [.ref a, x]) M hx hr hk I (.cons rfl (.cons rx .nil)) q
  exact Ow.right_bare I.kIn J (PySem.W.Looks.of_pure (hT.type rx)) hc hs hm.at_ hm.fn hL w
theorem iop_sameX {op : Operator} (M : MetX X.prog X.w X.K X.mg X.base k C (PySem.dunder op.info.2) sp) (hx : Passes (L2.CX X.prog X.w) X E) (hc : PySem.W.selfFirst X.K C = true) (ni : NoInplace X.K C op) (hr : Room j X.A) (hk : k ≤ j) : OpR X (inplaceOp op) (rSameX C sp E) := by
  intro pins s σ H x y v u Q I rx ry h
  obtain ⟨a, dx, fs, b, dy, gs, rfl, rfl, ha, hb, q⟩ := h
  cases (show v = Value.ref a from rx)
  cases (show u = Value.ref b from ry)
  obtain ⟨_, _, J⟩ := ins_at I ha
  obtain ⟨_, _, J'⟩ := ins_at I hb
  obtain ⟨g, hm, w, _⟩ := run_met (us := [.ref a, .ref b]) (vs := [.ref a, .ref b]) M hx hr hk I (.cons rfl (.cons rfl .nil)) q
  obtain ⟨cd, h1, h2⟩ := ni.mro
  exact Ow.inplace_of I.kIn J h1 h2 ni.own ni.obj (Ow.half_same I.kIn J J'.type hc hm.at_ hm.fn w)
theorem iop_besideX {op : Operator} (M : MetX X.prog X.w X.K X.mg X.base k C (PySem.dunder op.info.2) sp) (hx : Passes (L2.CX X.prog X.w) X E) (ni : NoInplace X.K C op) (hr : Room j X.A) (hk : k ≤ j) : OpR X (inplaceOp op) (rBesideX X.K C op sp E) := by
  intro pins s σ H x y v u Q I rx ry h
  obtain ⟨a, dx, fs, T, rfl, ha, hT, hB, q⟩ := h
  cases (show v = Value.ref a from rx)
  obtain ⟨_, _, J⟩ := ins_at I ha
  obtain ⟨g, hm, w, _⟩ := run_met (us := [.ref a, u]) (vs := [.ref a, y]) M hx hr hk I (.cons rfl (.cons ry .nil)) q
  obtain ⟨cd, h1, h2⟩ := ni.mro
  obtain ⟨rc, r1, r2⟩ := hB.back
  obtain ⟨fo, f1⟩ := hB.ahead
  obtain ⟨ro, o1⟩ := hB.behind
  exact Ow.inplace_of I.kIn J h1 h2 ni.own ni.obj (Ow.half_left I.kIn J (PySem.W.Looks.of_pure (hT.type ry)) hB.first hm.at_ hm.fn r1 r2 f1 o1 hB.sub w)
end
end Lw
namespace Lw.Ow
open PySem PySem.Spec PyProof.Rows PySem.W PySem.Calls

/-! ### the two halves of an operator, any built-in type beside -/
section
variable {prog : Program} {w : World} {A : Around} {E : Value → Shared → Prop} {s : Shared} {K : Frag} {x C f g : Addr} {ox : Obj} {od : Option Obj}
theorem half_bare {nm : String} {a : Value} {T : String} {Q : Value → Shared → Prop} (X : K.In s.heap) (I : InstAt s.heap x ox C od) (ht : Looks (model prog w) s.heap (typeOf a) (.type T)) (hc : selfFirst K C = true) (hs : findIn K (.ref C) (PySem.dunder nm) = some (some (.ref f))) (hr : findIn K (.ref C) (dunderR nm) = some (some (.ref g)))
    (hg : isFn K (.ref g) = true) (hL : fillsNumberSlot (.type T) nm = pure false) (h : wpAny (model prog w) A (call (.ref g) [.ref x, a]) (PySem.W.CmpBack Q) E s) : wpAny (model prog w) A (binaryOp1 nm a (.ref x)) (Told Q) E s := by
  obtain ⟨cd, rest, hcd, hm⟩ := ksp_first hc
  have one := ksp_try X I hr hg h
  obtain ⟨hh, gg, d, tt, os⟩ := s
  have L2 : Looks (model prog w) hh (typeOf (.ref x)) (.ref C) := I.type
  have L3 : Looks (model prog w) hh (fillsNumberSlot (.ref C) nm) true := fills_K X hcd hm hs
  have hne : (Value.type T == Value.ref C) = false := Bool.eq_false_iff.mpr fun q => by cases beq_iff_eq.mp q
  unfold binaryOp1
  refine wpAny_bind (ht.at (wpAny_bind (L2.at (wpAny_bind (wpAny_of_eq hL ?_)))))
  simp only [hne, Bool.false_eq_true, if_false]
  refine wpAny_bind (L3.at ?_)
  simp only [Bool.false_and, Bool.false_eq_true, if_false, pure_bind, Bool.not_false, Bool.and_true, if_true]
  refine wpAny_bind (wpAny_mono one (fun r s' hr' => ?_) fun _ _ e => e)
  obtain ⟨v, rfl, hq⟩ := hr'
  exact wpAny_bind (wpAny_rule (wpAny_pure ⟨v, rfl, hq⟩))
theorem op_half {op : Operator} {a b : Value} {Q : Value → Shared → Prop} (h : wpAny (model prog w) A (binaryOp1 op.info.2 a b) (Told Q) E s) : wpAny (model prog w) A (binaryOp op a b) Q E s := by
  rcases hi : op.info with ⟨sym, nm⟩
  rw [hi] at h
  dsimp only at h
  simp only [binaryOp, hi]
  refine wpAny_holding (wpAny_bind (wpAny_mono h (fun r s' z => ?_) fun _ _ e => e))
  obtain ⟨v, rfl, hq⟩ := z
  exact wpAny_pure hq
theorem inplace_bare {op : Operator} {a b : Value} {T : String} {Q : Value → Shared → Prop} (ht : Looks (model prog w) s.heap (typeOf a) (.type T)) (hI : fillsInplaceSlot (.type T) op.info.2 (op == .Add) = pure false) (h : wpAny (model prog w) A (binaryOp1 op.info.2 a b) (Told Q) E s) : wpAny (model prog w) A (inplaceOp op a b) Q E s := by
  unfold inplaceOp
  refine wpAny_holding ?_
  refine wpAny_bind (ht.here (wpAny_bind (wpAny_of_eq hI ?_)))
  simp only [Bool.false_eq_true, if_false, pure_bind]
  refine wpAny_bind (wpAny_mono h (fun r s' z => ?_) fun _ _ e => e)
  obtain ⟨v, rfl, hq⟩ := z
  exact wpAny_pure hq
theorem binary_noB {nm : String} {f : Int → Int → Sem Fin} {b : Bool} {x : Addr} {o : Obj} {Q : Value → Shared → Prop} (ho : s.heap.get? x = some o) (hp : o.data = .plain) (h : Q .notImplemented s) :
    wpAny (model prog w) A (Builtin.Int.intBinary nm f false ⟨[.bool b, .ref x], []⟩) (fun fin s' => ∃ v, fin = .done (.ret v) ∧ Q v s') E s := by
  unfold Builtin.Int.intBinary
  refine wpAny_bind (wpAny_of_eq (a := (Value.bool b, [Value.ref x])) rfl ?_)
  refine wpAny_bind (wpAny_of_eq (a := (if b = true then (1 : Int) else 0)) (by cases b <;> rfl) ?_)
  refine wpAny_bind ?_
  show wpAny _ _ (load x >>= fun ob => match ob.data with | .prim (.int i _) => pure (some i) | _ => pure none) _ _ _
  refine wpAny_bind (wpAny_load ho ?_)
  rw [hp]
  exact wpAny_pure (wpAny_bind (wpAny_rule (wpAny_pure ⟨_, rfl, h⟩)))
theorem slot_bool_add : Slot "bool" (PySem.dunder "add") "int.__add__" :=
  .of (owner := "int") (n := "__add__") (by rw [typeLookup_type, builtinLookup_eq_fast]; kernel_rfl) (by decide +kernel) (by decide +kernel) (by decide +kernel)
    (by first | exact .inl (by decide +kernel) | exact .inr (by decide +kernel)) (by rw [isSubtype_type]; kernel_rfl)
theorem slot_bool_sub : Slot "bool" (PySem.dunder "sub") "int.__sub__" :=
  .of (owner := "int") (n := "__sub__") (by rw [typeLookup_type, builtinLookup_eq_fast]; kernel_rfl) (by decide +kernel) (by decide +kernel) (by decide +kernel)
    (by first | exact .inl (by decide +kernel) | exact .inr (by decide +kernel)) (by rw [isSubtype_type]; kernel_rfl)
theorem slot_bool_mul : Slot "bool" (PySem.dunder "mul") "int.__mul__" :=
  .of (owner := "int") (n := "__mul__") (by rw [typeLookup_type, builtinLookup_eq_fast]; kernel_rfl) (by decide +kernel) (by decide +kernel) (by decide +kernel)
    (by first | exact .inl (by decide +kernel) | exact .inr (by decide +kernel)) (by rw [isSubtype_type]; kernel_rfl)
theorem noB_add {b : Bool} {x : Addr} {o : Obj} {Q : Value → Shared → Prop} (ho : s.heap.get? x = some o) (hp : o.data = .plain) (h : Q .notImplemented s) : wpAny (model prog w) A (call (.builtin "int.__add__") [.bool b, .ref x]) Q E s :=
  wpAny_call_entry slot_bool_add rfl F.entry_int_add (binary_noB ho hp h) (F.args_int_add_2 _ _)
theorem noB_sub {b : Bool} {x : Addr} {o : Obj} {Q : Value → Shared → Prop} (ho : s.heap.get? x = some o) (hp : o.data = .plain) (h : Q .notImplemented s) : wpAny (model prog w) A (call (.builtin "int.__sub__") [.bool b, .ref x]) Q E s :=
  wpAny_call_entry slot_bool_sub rfl F.entry_int_sub (binary_noB ho hp h) (F.args_int_sub_2 _ _)
theorem noB_mul {b : Bool} {x : Addr} {o : Obj} {Q : Value → Shared → Prop} (ho : s.heap.get? x = some o) (hp : o.data = .plain) (h : Q .notImplemented s) : wpAny (model prog w) A (call (.builtin "int.__mul__") [.bool b, .ref x]) Q E s :=
  wpAny_call_entry slot_bool_mul rfl F.entry_int_mul (binary_noB ho hp h) (F.args_int_mul_2 _ _)
end
/-! ### what the table of built-in types tells -/
def BTs : List String := ["int", "bool", "NoneType", "str", "tuple", "list", "dict"]
def Bares : List String := ["NoneType", "str", "tuple", "list", "dict"]
def Nms : List String := ["add", "sub", "mul"]
theorem bt_find {T nm : String} (h : T ∈ BTs) (h2 : nm ∈ Nms) : (∃ fo, fastLookup T (PySem.dunder nm) = some fo) ∧ ∃ ro, fastLookup T (dunderR nm) = some ro := by
  have all : (BTs.all fun T => Nms.all fun nm => (fastLookup T (PySem.dunder nm)).isSome && (fastLookup T (dunderR nm)).isSome) = true := by decide +kernel
  have z := List.all_eq_true.mp (List.all_eq_true.mp all T h) nm h2
  rw [Bool.and_eq_true] at z
  exact ⟨Option.isSome_iff_exists.mp z.1, Option.isSome_iff_exists.mp z.2⟩
theorem bt_sub {K : Frag} {C : Addr} {T : String} (h : T ∈ BTs) : subIn K (.type T) (.ref C) = some false := by
  simp only [BTs, List.mem_cons, List.not_mem_nil, or_false] at h
  rcases h with rfl | rfl | rfl | rfl | rfl | rfl | rfl <;> kernel_rfl
theorem bt_bare {T nm : String} (h : T ∈ Bares) (h2 : nm ∈ Nms) : fillsNumberSlot (.type T) nm = pure false := by
  simp only [Bares, List.mem_cons, List.not_mem_nil, or_false] at h
  simp only [Nms, List.mem_cons, List.not_mem_nil, or_false] at h2
  rcases h with rfl | rfl | rfl | rfl | rfl <;> rcases h2 with rfl | rfl | rfl <;>
  · simp only [fillsNumberSlot, typeLookup_type, builtinLookup_eq_fast]
    kernel_rfl
theorem bt_number {T nm : String} (h : T = "int" ∨ T = "bool") (h2 : nm ∈ Nms) : fillsNumberSlot (.type T) nm = pure true := by
  simp only [Nms, List.mem_cons, List.not_mem_nil, or_false] at h2
  rcases h with rfl | rfl <;> rcases h2 with rfl | rfl | rfl <;>
  · simp only [fillsNumberSlot, typeLookup_type, builtinLookup_eq_fast]
    kernel_rfl
end Lw.Ow
namespace Lw
open PySem PySem.Spec PyProof.Rows L2
end Lw
namespace Lw
open PySem PySem.Spec PyProof.Rows L2

/-- half an operator's reading: what binaryOp1 tells -/
def HalfR (X : Cx) (nm : String) (r : R2) : Prop := ∀ (pins : List (Addr × Obj)) (s : Shared) (σ : L2.St) (H : Hp) (x y : V) (v u : Value) (Q : VK), Inv X pins σ H s → RelV x v → RelV y u → r x y H Q →
  wpAny (model X.prog X.w) X.A (binaryOp1 nm v u) (Ow.Told (EP X pins σ Q)) X.xe s
/-- a value of a built-in type that an own operator may stand beside -/
inductive Bt (K : PySem.W.Frag) (H : Hp) : V → String → Prop where
  | int (i : Int) : Bt K H (.int i) "int"
  | bl (b : Bool) : Bt K H (.bl b) "bool"
  | bare {x : V} {T : String} (h : TyX K H x (.type T)) (hT : T ∈ Ow.Bares) : Bt K H x T
theorem Bt.tyx {K : PySem.W.Frag} {H : Hp} {x : V} {T : String} (h : Bt K H x T) : TyX K H x (.type T) ∧ T ∈ Ow.BTs := by
  cases h with
  | int i => exact ⟨.base (.int i), by decide⟩
  | bl b => exact ⟨.base (.bl b), by decide⟩
  | bare h hT => exact ⟨h, by unfold Ow.Bares at hT; unfold Ow.BTs; simp only [List.mem_cons, List.not_mem_nil, or_false] at hT ⊢; rcases hT with h | h | h | h | h <;> simp [h]⟩
theorem Bt.same {K : PySem.W.Frag} {H H' : Hp} {x : V} {T : String} (s : Same H H') (h : Bt K H x T) : Bt K H' x T := by
  cases h with
  | int i => exact .int i
  | bl b => exact .bl b
  | bare h hT => exact .bare (Lw.TyX.same s h) hT
section
variable {X : Cx} {C f : Addr} {k j : Nat} {sp : Sp} {E : XK} {pins : List (Addr × Obj)} {σ : L2.St} {H : Hp} {s : Shared} {nm : String} {r r1 r2 : R2}
theorem Bt.looks {x : V} {T : String} {u : Value} (I : Inv X pins σ H s) (rx : RelV x u) (h : Bt X.K H x T) : PySem.W.Looks (model X.prog X.w) s.heap (typeOf u) (.type T) := by
  obtain ⟨W, Z, p, _⟩ := kit_of I rx h.tyx.1
  exact Z.ty _ _ I.kIn p
theorem half_or (h1 : HalfR X nm r1) (h2 : HalfR X nm r2) : HalfR X nm (fun x y H Q => r1 x y H Q ∨ r2 x y H Q) := fun pins s σ H x y v u Q I rx ry h => h.elim (h1 pins s σ H x y v u Q I rx ry) (h2 pins s σ H x y v u Q I rx ry)
theorem half_imp {r' : R2} (h : HalfR X nm r) (g : ∀ x y H Q, r' x y H Q → r x y H Q) : HalfR X nm r' := fun pins s σ H x y v u Q I rx ry z => h pins s σ H x y v u Q I rx ry (g _ _ _ _ z)
theorem op_of {op : Operator} (h : HalfR X op.info.2 r) : OpR X (binaryOp op) r := fun pins s σ H x y v u Q I rx ry z => Ow.op_half (h pins s σ H x y v u Q I rx ry z)
/-- what op= asks of the value on the left -/
inductive LeftNo (C : Addr) (H : Hp) : V → Prop where
  | own {a dx : Addr} {fs : List (Str × V)} (h : H a = some (.ins C dx fs)) : LeftNo C H (.ref a)
  | int (i : Int) : LeftNo C H (.int i)
theorem iop_of {op : Operator} (h : HalfR X op.info.2 r) (ni : NoInplace X.K C op) (hI : fillsInplaceSlot (.type "int") op.info.2 (op == .Add) = pure false) : OpR X (inplaceOp op) (fun x y H Q => LeftNo C H x ∧ r x y H Q) := by
  intro pins s σ H x y v u Q I rx ry z
  have w := h pins s σ H x y v u Q I rx ry z.2
  cases z.1 with
  | own ha =>
    cases (show v = Value.ref _ from rx)
    obtain ⟨_, _, J⟩ := ins_at I ha
    obtain ⟨cd, h1, h2⟩ := ni.mro
    exact Ow.inplace_of I.kIn J h1 h2 ni.own ni.obj w
  | int i =>
    obtain ⟨t, rfl⟩ := (show ∃ t, v = Value.int i t from rx)
    exact Ow.inplace_bare (PySem.W.Looks.of_pure rfl) hI w
def rOwn (C : Addr) (sp : Sp) (E : XK) : R2 := fun x y H Q => ∃ a dx fs b dy gs, x = .ref a ∧ y = .ref b ∧ H a = some (.ins C dx fs) ∧ H b = some (.ins C dy gs) ∧ sp [x, y] H Q E
theorem half_own (M : MetX X.prog X.w X.K X.mg X.base k C (PySem.dunder nm) sp) (hx : Passes (L2.CX X.prog X.w) X E) (hc : PySem.W.selfFirst X.K C = true) (hr : Room j X.A) (hk : k ≤ j) : HalfR X nm (rOwn C sp E) := by
  intro pins s σ H x y v u Q I rx ry h
  obtain ⟨a, dx, fs, b, dy, gs, rfl, rfl, ha, hb, q⟩ := h
  cases (show v = Value.ref a from rx)
  cases (show u = Value.ref b from ry)
  obtain ⟨_, _, J⟩ := ins_at I ha
  obtain ⟨_, _, J'⟩ := ins_at I hb
  obtain ⟨g, hm, w, _⟩ := run_met (us := [.ref a, .ref b]) (vs := [.ref a, .ref b]) M hx hr hk I (.cons rfl (.cons rfl .nil)) q
  exact Ow.half_same I.kIn J J'.type hc hm.at_ hm.fn w
def rLeft (K : PySem.W.Frag) (C : Addr) (sp : Sp) (E : XK) : R2 := fun x y H Q => ∃ a dx fs T, x = .ref a ∧ H a = some (.ins C dx fs) ∧ Bt K H y T ∧ sp [x, y] H Q E
theorem half_lft (M : MetX X.prog X.w X.K X.mg X.base k C (PySem.dunder nm) sp) (hx : Passes (L2.CX X.prog X.w) X E) (hc : PySem.W.selfFirst X.K C = true) (hb : ∃ g : Addr, PySem.W.findIn X.K (.ref C) (dunderR nm) = some (some (.ref g))) (hn : nm ∈ Ow.Nms) (hr : Room j X.A) (hk : k ≤ j) : HalfR X nm (rLeft X.K C sp E) := by
  intro pins s σ H x y v u Q I rx ry h
  obtain ⟨a, dx, fs, T, rfl, ha, hT, q⟩ := h
  cases (show v = Value.ref a from rx)
  obtain ⟨_, _, J⟩ := ins_at I ha
  obtain ⟨g, hm, w, _⟩ := run_met (us := [.ref a, u]) (vs := [.ref a, y]) M hx hr hk I (.cons rfl (.cons ry .nil)) q
  obtain ⟨g2, h2⟩ := hb
  have hB := hT.tyx.2
  obtain ⟨⟨fo, h3⟩, ⟨ro, h4⟩⟩ := Ow.bt_find hB hn
  exact Ow.half_left I.kIn J (hT.looks I ry) hc hm.at_ hm.fn h2 (.inr ⟨g2, rfl⟩) h3 h4 (Ow.bt_sub hB) w
def rRght (K : PySem.W.Frag) (C : Addr) (sp : Sp) (E : XK) : R2 := fun x y H Q => ∃ a dx fs T, y = .ref a ∧ H a = some (.ins C dx fs) ∧ Bt K H x T ∧ sp [y, x] H Q E
/-- the int's own methods have no answer -/
structure NoNum (nm : String) : Prop where
  i : ∃ id, Slot "int" (PySem.dunder nm) id ∧ ∀ {prog : Program} {w : World} {A : Around} {E : Value → Shared → Prop} {s : Shared} {i : Int} {t : Tok} {x : Addr} {o : Obj} {Q' : Value → Shared → Prop}, s.heap.get? x = some o → o.data = .plain → Q' .notImplemented s → wpAny (model prog w) A (call (.builtin id) [.int i t, .ref x]) Q' E s
  b : ∃ id, Slot "bool" (PySem.dunder nm) id ∧ ∀ {prog : Program} {w : World} {A : Around} {E : Value → Shared → Prop} {s : Shared} {i : Bool} {x : Addr} {o : Obj} {Q' : Value → Shared → Prop}, s.heap.get? x = some o → o.data = .plain → Q' .notImplemented s → wpAny (model prog w) A (call (.builtin id) [.bool i, .ref x]) Q' E s
theorem nn_add : NoNum "add" := ⟨⟨_, F.slot_int_add, fun h1 h2 q => Ow.no_add h1 h2 q⟩, ⟨_, Ow.slot_bool_add, fun h1 h2 q => Ow.noB_add h1 h2 q⟩⟩
theorem nn_sub : NoNum "sub" := ⟨⟨_, F.slot_int_sub, fun h1 h2 q => Ow.no_sub h1 h2 q⟩, ⟨_, Ow.slot_bool_sub, fun h1 h2 q => Ow.noB_sub h1 h2 q⟩⟩
theorem nn_mul : NoNum "mul" := ⟨⟨_, F.slot_int_mul, fun h1 h2 q => Ow.no_mul h1 h2 q⟩, ⟨_, Ow.slot_bool_mul, fun h1 h2 q => Ow.noB_mul h1 h2 q⟩⟩
theorem half_rgt (M : MetX X.prog X.w X.K X.mg X.base k C (dunderR nm) sp) (hx : Passes (L2.CX X.prog X.w) X E) (hc : PySem.W.selfFirst X.K C = true) (hf : ∃ g : Addr, PySem.W.findIn X.K (.ref C) (PySem.dunder nm) = some (some (.ref g))) (hn : nm ∈ Ow.Nms) (nn : NoNum nm) (hs1 : PySem.W.subIn X.K (.ref C) (.type "int") = some false) (hs2 : PySem.W.subIn X.K (.ref C) (.type "bool") = some false)
    (hr : Room j X.A) (hk : k ≤ j) : HalfR X nm (rRght X.K C sp E) := by
  intro pins s σ H x y v u Q I rx ry h
  obtain ⟨a, dx, fs, T, rfl, ha, hT, q⟩ := h
  cases (show u = Value.ref a from ry)
  obtain ⟨ox, od, J, h1, h2⟩ := ins_plain I ha
  obtain ⟨g, hm, w, _⟩ := run_met (us := [.ref a, v]) (vs := [.ref a, x]) M hx hr hk I (.cons rfl (.cons rx .nil)) q
  obtain ⟨g2, hs⟩ := hf
  have look := hT.looks I rx
  cases hT with
  | int i =>
    obtain ⟨t, rfl⟩ := (show ∃ t, v = Value.int i t from rx)
    obtain ⟨id, sl, hd⟩ := nn.i
    exact Ow.half_number I.kIn J rfl (typeIs_int s i t) hc hs hm.at_ hm.fn (Ow.bt_number (.inl rfl) hn) hs1 sl (fun Q' z => hd h1 h2 z) w
  | bl b =>
    cases (show v = Value.bool b from rx)
    obtain ⟨id, sl, hd⟩ := nn.b
    exact Ow.half_number I.kIn J rfl rfl hc hs hm.at_ hm.fn (Ow.bt_number (.inr rfl) hn) hs2 sl (fun Q' z => hd h1 h2 z) w
  | bare h hB => exact Ow.half_bare I.kIn J look hc hs hm.at_ hm.fn (Ow.bt_bare hB hn) w
end
end Lw
namespace Lw
open PySem PySem.Spec PyProof.Rows L2
namespace Ez
open PySem PySem.Spec PyProof.Rows L2
/-! ### enumerate(zip(a, b)): the zip's own pair may still be held when the next one is drawn -/
/-- the zip's record, whatever became of the pair it gave out last -/
abbrev ZAt (h : Heap) (z TI TO : Addr) (f0 : Value) (f : Bool) : Prop :=
  h.get? z = some { cls := .type "zip", dict := none, data := .fields #[f0, .bool f, .bool false, .ref TI, .ref TO], slots := #[] }
def Own (f0 : Value) : Prop := f0 = .none ∨ ∃ T : Addr, f0 = rawInt T
/-- the zip and all it stands on; j, l: how far its two iterators are -/
structure Zs (z TI TO i1 i2 : Addr) (S1 S2 : Nat → Heap → Prop) (h : Heap) (f0 : Value) (f : Bool) (p q : Value) (j l : Nat) : Prop where
  rec_ : ZAt h z TI TO f0 f
  its : IsTupOf2 h TI (.ref i1) (.ref i2)
  own : IsTupOf2 h TO p q
  fst : S1 j h
  snd : S2 l h
/-- how a heap has grown: by n cells, all but four cells as they were -/
structure Grown (z TO i1 i2 : Addr) (n : Nat) (h h' : Heap) : Prop where
  len : h'.objs.size = h.objs.size + n
  old : ∀ c o, c ≠ z → c ≠ TO → c ≠ i1 → c ≠ i2 → h.get? c = some o → h'.get? c = some o
theorem Grown.none {z TO i1 i2 : Addr} {h : Heap} : Grown z TO i1 i2 0 h h := ⟨rfl, fun _ _ _ _ _ _ e => e⟩
theorem Grown.and {z TO i1 i2 b : Addr} {n : Nat} {h h1 h2 : Heap} (k : Grown z TO i1 i2 n h h1) (s : Heap.SameBut b h1 h2) (hb : b = z ∨ b = TO ∨ b = i1 ∨ b = i2) : Grown z TO i1 i2 n h h2 :=
  ⟨s.1.trans k.len, fun c o a1 a2 a3 a4 e => s.extBut _ _ (by rintro rfl; rcases hb with e | e | e | e <;> contradiction) (k.old c o a1 a2 a3 a4 e)⟩
theorem Grown.new {z TO i1 i2 : Addr} {n : Nat} {h h1 : Heap} (k : Grown z TO i1 i2 n h h1) (o : Obj) : Grown z TO i1 i2 (n + 1) h (h1.push o) :=
  ⟨by rw [Heap.size_push, k.len, Nat.add_assoc], fun c x a1 a2 a3 a4 e => Heap.get?_push_of_some _ (k.old c x a1 a2 a3 a4 e)⟩
section
variable {prog : Program} {w : World} {A : Around} {E : Value → Shared → Prop} {s : Shared}
variable {z TI TO i1 i2 : Addr} {fp1 fp2 : List Addr} {n1 n2 j l : Nat} {P1 P2 : Nat → Value → Prop} {St1 St2 : Nat → Heap → Prop} {p q : Value} {f0 : Value} {f : Bool} {h h' : Heap}
theorem Zs.push (Z : Zs z TI TO i1 i2 St1 St2 h f0 f p q j l) (D1 : Draws prog w A i1 fp1 n1 P1 St1) (D2 : Draws prog w A i2 fp2 n2 P2 St2) (o : Obj) : Zs z TI TO i1 i2 St1 St2 (h.push o) f0 f p q j l :=
  ⟨Heap.get?_push_of_some _ Z.rec_, Heap.get?_push_of_some _ Z.its, Heap.get?_push_of_some _ Z.own, D1.frame _ _ _ Z.fst fun _ _ _ e => Heap.get?_push_of_some _ e, D2.frame _ _ _ Z.snd fun _ _ _ e => Heap.get?_push_of_some _ e⟩
theorem Zs.atZ (Z : Zs z TI TO i1 i2 St1 St2 h f0 f p q j l) (S : ZipSep2 z TI TO i1 i2 fp1 fp2) (D1 : Draws prog w A i1 fp1 n1 P1 St1) (D2 : Draws prog w A i2 fp2 n2 P2 St2) (k : Heap.SameBut z h h') {g0 : Value} {g : Bool} (hz : ZAt h' z TI TO g0 g) : Zs z TI TO i1 i2 St1 St2 h' g0 g p q j l :=
  ⟨hz, k.extBut _ _ S.TIz Z.its, k.extBut _ _ S.TOz Z.own, D1.over Z.fst k S.zf1, D2.over Z.snd k S.zf2⟩
theorem Zs.atO (Z : Zs z TI TO i1 i2 St1 St2 h f0 f p q j l) (S : ZipSep2 z TI TO i1 i2 fp1 fp2) (D1 : Draws prog w A i1 fp1 n1 P1 St1) (D2 : Draws prog w A i2 fp2 n2 P2 St2) (k : Heap.SameBut TO h h') {u v : Value} (ho : IsTupOf2 h' TO u v) : Zs z TI TO i1 i2 St1 St2 h' f0 f u v j l :=
  ⟨k.extBut _ _ S.TOz.symm Z.rec_, k.extBut _ _ S.TITO Z.its, ho, D1.over Z.fst k S.Tf1, D2.over Z.snd k S.Tf2⟩
theorem Zs.at1 (Z : Zs z TI TO i1 i2 St1 St2 h f0 f p q j l) (S : ZipSep2 z TI TO i1 i2 fp1 fp2) (D2 : Draws prog w A i2 fp2 n2 P2 St2) (k : Heap.SameBut i1 h h') (s1 : St1 (j + 1) h') : Zs z TI TO i1 i2 St1 St2 h' f0 f p q (j + 1) l :=
  ⟨k.extBut _ _ S.zi1 Z.rec_, k.extBut _ _ S.TIi1 Z.its, k.extBut _ _ S.Ti1 Z.own, s1, D2.over Z.snd k S.sep1_2⟩
theorem Zs.at2 (Z : Zs z TI TO i1 i2 St1 St2 h f0 f p q j l) (S : ZipSep2 z TI TO i1 i2 fp1 fp2) (D1 : Draws prog w A i1 fp1 n1 P1 St1) (k : Heap.SameBut i2 h h') (s2 : St2 (l + 1) h') : Zs z TI TO i1 i2 St1 St2 h' f0 f p q j (l + 1) :=
  ⟨k.extBut _ _ S.zi2 Z.rec_, k.extBut _ _ S.TIi2 Z.its, k.extBut _ _ S.Ti2 Z.own, D1.over Z.fst k S.sep2_1, s2⟩
theorem dead {a : Addr} {Q : Option Obj → Shared → Prop} (ho : s.heap.get? a = none) (k : Q none s) : wpAny (model prog w) A (loadIfAlive a) Q E s := by
  have k' : Q (s.heap.get? a) s := by rw [ho]; exact k
  exact fun _ _ _ => k'
/-- asked whether its pair is free, the zip says so, or notes that it is not -/
theorem asked {Q : Bool → Shared → Prop} (hz : ZAt s.heap z TI TO f0 f) (ho : Own f0) (yes : Q true s)
    (no : ∀ h', ZAt h' z TI TO f0 true → Heap.SameBut z s.heap h' → Q false { s with heap := h' }) : wpAny (model prog w) A (Builtin.SmallTypes.ownedTupleIsFree (.ref z)) Q E s := by
  unfold Builtin.SmallTypes.ownedTupleIsFree
  rcases ho with rfl | ⟨T, rfl⟩
  · exact wpAny_bind (wpAny_field hz rfl (x := .none) rfl (wpAny_pure yes))
  refine wpAny_bind (wpAny_field hz rfl (x := rawInt T) rfl ?_)
  show wpAny _ _ (loadIfAlive ((T : Int).toNat) >>= _) _ _ _
  rw [Int.toNat_natCast]
  cases e : s.heap.get? T with
  | none => exact wpAny_bind (dead e (wpAny_pure yes))
  | some oT =>
    refine wpAny_bind (PySem.W.kdx_alive e ?_)
    simp only [Option.isNone_some, Bool.false_eq_true, if_false]
    refine wpAny_bind (wpAny_field hz rfl (x := .bool f) rfl ?_)
    cases f with
    | true => rw [if_neg (by decide)]; exact wpAny_pure (no s.heap hz (Heap.SameBut.refl _ _))
    | false => rw [if_pos (by decide)]; exact wpAny_bind (wpAny_setField_rec hz (by simp) fun h₁ a b => wpAny_pure (no h₁ a b))
/-- what a draw leaves -/
def Drawn (z TI TO i1 i2 : Addr) (S1 S2 : Nat → Heap → Prop) (j : Nat) (x y : Value) (h h' : Heap) : Prop :=
  (∃ f0 f p q, Zs z TI TO i1 i2 S1 S2 h' f0 f p q (j + 1) (j + 1) ∧ Own f0) ∧ IsTupOf2 h' h.objs.size x y ∧ Grown z TO i1 i2 1 h h'
theorem item {Q : Value → Shared → Prop} (S : ZipSep2 z TI TO i1 i2 fp1 fp2) (D1 : Draws prog w A i1 fp1 n1 P1 St1) (D2 : Draws prog w A i2 fp2 n2 P2 St2) (Z : Zs z TI TO i1 i2 St1 St2 s.heap f0 f p q j j) (ho : Own f0) (b1 : j < n1) (b2 : j < n2)
    (hQ : ∀ x y h' tk, P1 j x → P2 j y → Drawn z TI TO i1 i2 St1 St2 j x y s.heap h' → Q (.ref s.heap.objs.size) { s with heap := h', toks := tk }) :
    wpAny (model prog w) A (Builtin.«zip.__next__» ⟨[.ref z], []⟩) (fun fin s' => ∃ v, fin = .done (.ret v) ∧ Q v s') E s := by
  obtain ⟨h0, g, d, tk0, os⟩ := s
  replace Z : Zs z TI TO i1 i2 St1 St2 h0 f0 f p q j j := Z
  show wpAny _ _ (field (.ref z) 2 >>= _) _ _ _
  refine wpAny_bind (wpAny_field Z.rec_ rfl (x := .bool false) rfl ?_)
  show wpAny _ _ (field (.ref z) 3 >>= _) _ _ _
  refine wpAny_bind (wpAny_field Z.rec_ rfl (x := .ref TI) rfl (wpAny_bind (wpAny_seqItems Z.its rfl ?_)))
  show wpAny _ _ (Builtin.SmallTypes.ownedTupleIsFree (.ref z) >>= _) _ _ _
  refine wpAny_bind (asked Z.rec_ ho ?_ fun ha hz ka => ?_)
  · simp only [if_true]
    refine wpAny_bind (wpAny_rule (wpAny_bind (wpAny_field Z.rec_ rfl (x := .ref TO) rfl (wpAny_bind (wpAny_setField_rec Z.rec_ (by simp) fun ha hz ka => ?_)))))
    have Za := Z.atZ S D1 D2 (g0 := .ellipsis) (g := f) ka hz
    have Ga : Grown z TO i1 i2 0 h0 ha := Grown.none.and ka (.inl rfl)
    clear hz ka Z
    refine wpAny_bind ?_
    simp only [List.zipIdx_cons, List.zipIdx_nil, List.forIn_cons, List.forIn_nil]
    refine wpAny_bind (wpAny_bind (wpAny_onRaise ?_))
    show wpAny _ _ (Builtin.SmallTypes.nextOf (.ref i1) >>= _) _ _ ⟨ha, g, d, tk0, os⟩
    refine wpAny_bind (D1.item j _ _ _ b1 Za.fst fun x hb tb px sb kb => wpAny_pure ?_)
    have Zb := Za.at1 S D2 kb sb
    have Gb := Ga.and kb (.inr (.inr (.inl rfl)))
    clear Za Ga
    refine wpAny_bind (wpAny_seqItems (s := ⟨hb, g, d, tb, os⟩) Zb.own rfl (wpAny_bind (wpAny_updateSeq_pair (s := ⟨hb, g, d, tb, os⟩) Zb.own fun hc oc kc => ?_)))
    have Zc := Zb.atO S D1 D2 kc (u := x) (v := q) (by simpa using oc)
    have Gc := Gb.and kc (.inr (.inl rfl))
    clear Zb Gb
    refine wpAny_bind (wpAny_letGo (wpAny_pure (wpAny_bind (wpAny_bind (wpAny_onRaise ?_)))))
    show wpAny _ _ (Builtin.SmallTypes.nextOf (.ref i2) >>= _) _ _ ⟨hc, g, d, tb, os⟩
    refine wpAny_bind (D2.item j _ _ _ b2 Zc.snd fun y hd td py sd kd => wpAny_pure ?_)
    have Zd := Zc.at2 S D1 kd sd
    have Gd := Gc.and kd (.inr (.inr (.inr rfl)))
    clear Zc Gc
    refine wpAny_bind (wpAny_seqItems (s := ⟨hd, g, d, td, os⟩) Zd.own rfl (wpAny_bind (wpAny_updateSeq_pair (s := ⟨hd, g, d, td, os⟩) Zd.own fun he oe ke => ?_)))
    have Ze := Zd.atO S D1 D2 ke (u := x) (v := y) (by simpa using oe)
    have Ge := Gd.and ke (.inr (.inl rfl))
    clear Zd Gd
    refine wpAny_bind (wpAny_letGo (wpAny_pure (wpAny_pure (wpAny_bind (wpAny_seqItems (s := ⟨he, g, d, td, os⟩) Ze.own rfl (wpAny_bind (wpAny_newTuple ?_)))))))
    have lt : z < he.objs.size := Heap.lt_size Ze.rec_
    have Zf := Ze.push D1 D2 { cls := .type "tuple", data := .seq #[x, y] }
    have Gf := Ge.new { cls := .type "tuple", data := .seq #[x, y] }
    have nf : IsTupOf2 (he.push { cls := .type "tuple", data := .seq #[x, y] }) he.objs.size x y := Heap.get?_push_size _ rfl
    have el : he.objs.size = h0.objs.size := Ge.len
    show wpAny _ _ (Builtin.SmallTypes.ownedTupleHandOut (.ref z) (.ref he.objs.size) >>= _) _ _ ⟨he.push { cls := .type "tuple", data := .seq #[x, y] }, g, d, td, os⟩
    rw [el] at nf lt ⊢
    clear Ze Ge
    generalize he.push { cls := .type "tuple", data := .seq #[x, y] } = hf at Zf Gf nf ⊢
    refine wpAny_bind ?_
    unfold Builtin.SmallTypes.ownedTupleHandOut
    refine wpAny_bind (wpAny_setField_rec Zf.rec_ (by simp) fun hg zg kg => ?_)
    have Zg := Zf.atZ S D1 D2 (g0 := rawInt h0.objs.size) (g := f) kg zg
    refine wpAny_setField_rec Zg.rec_ (by simp) fun hi zi ki => ?_
    have Zi := Zg.atZ S D1 D2 (g0 := rawInt h0.objs.size) (g := false) ki zi
    exact wpAny_pure ⟨_, rfl, hQ x y hi td px py ⟨⟨_, _, _, _, Zi, .inr ⟨_, rfl⟩⟩, ki.extBut _ _ (Nat.ne_of_gt lt) (kg.extBut _ _ (Nat.ne_of_gt lt) nf), (Gf.and kg (.inl rfl)).and ki (.inl rfl)⟩⟩
  · have Za := Z.atZ S D1 D2 ka hz
    have Ga : Grown z TO i1 i2 0 h0 ha := Grown.none.and ka (.inl rfl)
    clear hz ka Z
    simp only [Bool.false_eq_true, if_false]
    refine wpAny_bind ?_
    rw [← Array.forIn_toList]
    simp only [List.forIn_cons, List.forIn_nil]
    refine wpAny_bind (wpAny_bind (wpAny_holding ?_))
    show wpAny _ _ (Builtin.SmallTypes.nextOf (.ref i1) >>= _) _ _ ⟨ha, g, d, tk0, os⟩
    refine wpAny_bind (D1.item j _ _ _ b1 Za.fst fun x hb tb px sb kb => wpAny_pure (wpAny_pure (wpAny_bind (wpAny_bind (wpAny_holding ?_)))))
    have Zb := Za.at1 S D2 kb sb
    have Gb := Ga.and kb (.inr (.inr (.inl rfl)))
    show wpAny _ _ (Builtin.SmallTypes.nextOf (.ref i2) >>= _) _ _ ⟨hb, g, d, tb, os⟩
    refine wpAny_bind (D2.item j _ _ _ b2 Zb.snd fun y hd td py sd kd => wpAny_pure (wpAny_pure (wpAny_pure ?_)))
    have Zd := Zb.at2 S D1 kd sd
    have Gd := Gb.and kd (.inr (.inr (.inr rfl)))
    show wpAny _ _ (newTuple [x, y] >>= _) _ _ _
    refine wpAny_bind (wpAny_newTuple (wpAny_pure ⟨_, rfl, ?_⟩))
    have nf : IsTupOf2 (hd.push { cls := .type "tuple", data := .seq #[x, y] }) hd.objs.size x y := Heap.get?_push_size _ rfl
    have el : hd.objs.size = h0.objs.size := Gd.len
    show Q (.ref hd.objs.size) _
    rw [el] at nf ⊢
    exact hQ x y _ td px py ⟨⟨_, _, _, _, Zd.push D1 D2 _, ho⟩, nf, Gd.new _⟩
/-- a draw at the end -/
theorem ends {Q : Fin → Shared → Prop} (S : ZipSep2 z TI TO i1 i2 fp1 fp2) (D1 : Draws prog w A i1 fp1 n1 P1 St1) (D2 : Draws prog w A i2 fp2 n2 P2 St2) (Z : Zs z TI TO i1 i2 St1 St2 s.heap f0 f p q n1 l) (ho : Own f0)
    (hE : ∀ h' e, (∀ c o, c ≠ z → c ≠ i1 → s.heap.get? c = some o → h'.get? c = some o) → (∃ o, h'.get? e = some o ∧ o.cls = .type "StopIteration") → E (.ref e) { s with heap := h' }) :
    wpAny (model prog w) A (Builtin.«zip.__next__» ⟨[.ref z], []⟩) Q E s := by
  obtain ⟨h0, g, d, tk0, os⟩ := s
  replace Z : Zs z TI TO i1 i2 St1 St2 h0 f0 f p q n1 l := Z
  show wpAny _ _ (field (.ref z) 2 >>= _) _ _ _
  refine wpAny_bind (wpAny_field Z.rec_ rfl (x := .bool false) rfl ?_)
  show wpAny _ _ (field (.ref z) 3 >>= _) _ _ _
  refine wpAny_bind (wpAny_field Z.rec_ rfl (x := .ref TI) rfl (wpAny_bind (wpAny_seqItems Z.its rfl ?_)))
  show wpAny _ _ (Builtin.SmallTypes.ownedTupleIsFree (.ref z) >>= _) _ _ _
  refine wpAny_bind (asked Z.rec_ ho ?_ fun ha hz ka => ?_)
  · simp only [if_true]
    refine wpAny_bind (wpAny_rule (wpAny_bind (wpAny_field Z.rec_ rfl (x := .ref TO) rfl (wpAny_bind (wpAny_setField_rec Z.rec_ (by simp) fun ha hz ka => ?_)))))
    have Za := Z.atZ S D1 D2 (g0 := .ellipsis) (g := f) ka hz
    refine wpAny_bind ?_
    simp only [List.zipIdx_cons, List.zipIdx_nil, List.forIn_cons, List.forIn_nil]
    refine wpAny_bind (wpAny_bind (wpAny_onRaise ?_))
    show wpAny _ _ (Builtin.SmallTypes.nextOf (.ref i1) >>= _) _ _ ⟨ha, g, d, tk0, os⟩
    refine wpAny_bind (D1.done ⟨ha, g, d, tk0, os⟩ _ _ Za.fst fun hb e kb he => ?_)
    obtain ⟨oe, a, b⟩ := he
    replace kb : Heap.ExtBut i1 ha hb := kb
    replace a : hb.get? e = some oe := a
    have zb : ZAt hb z TI TO .ellipsis f := kb _ _ S.zi1 Za.rec_
    have ez : e ≠ z := fun x => by subst x; rw [zb] at a; cases a; simp at b
    exact wpAny_setField_rec (s := ⟨hb, g, d, tk0, os⟩) zb (by simp) fun hc _ kc => hE hc e (fun c o cz c1 x => kc.extBut _ _ cz (kb _ _ c1 (ka.extBut _ _ cz x))) ⟨oe, kc.extBut _ _ ez a, b⟩
  · have Za := Z.atZ S D1 D2 ka hz
    simp only [Bool.false_eq_true, if_false]
    refine wpAny_bind ?_
    rw [← Array.forIn_toList]
    simp only [List.forIn_cons, List.forIn_nil]
    refine wpAny_bind (wpAny_bind (wpAny_holding ?_))
    show wpAny _ _ (Builtin.SmallTypes.nextOf (.ref i1) >>= _) _ _ ⟨ha, g, d, tk0, os⟩
    exact wpAny_bind (D1.done ⟨ha, g, d, tk0, os⟩ _ _ Za.fst fun hb e kb he => hE hb e (fun c o cz c1 x => kb _ _ c1 (ka.extBut _ _ cz x)) he)
theorem drawn {Q : Value → Shared → Prop} (S : ZipSep2 z TI TO i1 i2 fp1 fp2) (D1 : Draws prog w A.in1 i1 fp1 n1 P1 St1) (D2 : Draws prog w A.in1 i2 fp2 n2 P2 St2) (Z : Zs z TI TO i1 i2 St1 St2 s.heap f0 f p q j j) (ho : Own f0) (b1 : j < n1) (b2 : j < n2)
    (hQ : ∀ x y h' tk, P1 j x → P2 j y → Drawn z TI TO i1 i2 St1 St2 j x y s.heap h' → Q (.ref s.heap.objs.size) { s with heap := h', toks := tk }) : wpAny (model prog w) A (Builtin.SmallTypes.nextOf (.ref z)) Q E s := by
  have ty : s.TypeIs (.ref z) "zip" := ⟨_, Z.rec_, rfl⟩
  unfold Builtin.SmallTypes.nextOf
  exact wpAny_bind (wpAny_callSpecial?_slot (name := Str.ofString "__next__") ty F.slot_zip_next (wpAny_call_entry F.slot_zip_next ty F.entry_zip_next (item S D1 D2 Z ho b1 b2 fun x y h' tk a b c => wpAny_pure (hQ x y h' tk a b c)) (F.args_zip_next_1 _)))
theorem ended {Q : Value → Shared → Prop} (S : ZipSep2 z TI TO i1 i2 fp1 fp2) (D1 : Draws prog w A.in1 i1 fp1 n1 P1 St1) (D2 : Draws prog w A.in1 i2 fp2 n2 P2 St2) (Z : Zs z TI TO i1 i2 St1 St2 s.heap f0 f p q n1 l) (ho : Own f0)
    (hE : ∀ h' e, (∀ c o, c ≠ z → c ≠ i1 → s.heap.get? c = some o → h'.get? c = some o) → (∃ o, h'.get? e = some o ∧ o.cls = .type "StopIteration") → E (.ref e) { s with heap := h' }) : wpAny (model prog w) A (Builtin.SmallTypes.nextOf (.ref z)) Q E s := by
  have ty : s.TypeIs (.ref z) "zip" := ⟨_, Z.rec_, rfl⟩
  unfold Builtin.SmallTypes.nextOf
  exact wpAny_bind (wpAny_callSpecial?_slot (name := Str.ofString "__next__") ty F.slot_zip_next (wpAny_call_entry F.slot_zip_next ty F.entry_zip_next (ends S D1 D2 Z ho hE) (F.args_zip_next_1 _)))
/-- enumerate's turn over what draws a new pair (X: what the draw leaves, beside e) -/
theorem counted {e it : Addr} {c : Int} {old : Value} {Q : Value → Shared → Prop} {X : Value → Heap → Prop} (he : IsEnum s.heap e it c old)
    (draw : ∀ Q' : Value → Shared → Prop, (∀ x h' tk, X x h' → IsEnum h' e it c old → h'.objs.size = s.heap.objs.size + 1 → Q' x { s with heap := h', toks := tk }) → wpAny (model prog w) A (Builtin.SmallTypes.nextOf (.ref it)) Q' E s)
    (keep : ∀ x h h', X x h → (∀ b o, b ≠ e → h.get? b = some o → h'.get? b = some o) → X x h')
    (hQ : ∀ x h' tk, X x h' → IsEnumOut h' e it (c + 1) x (s.heap.objs.size + 1) → IsTupOf2 h' (s.heap.objs.size + 1) (.int c tk) x → Q (.ref (s.heap.objs.size + 1)) { s with heap := h', toks := tk + 1 }) :
    wpAny (model prog w) A (Builtin.«enumerate.__next__» ⟨[.ref e], []⟩) (fun fin s' => ∃ v, fin = .done (.ret v) ∧ Q v s') E s := by
  obtain ⟨h0, g, d, t0, os⟩ := s
  have lt : e < h0.objs.size := Heap.lt_size he
  show wpAny _ _ (field (.ref e) 2 >>= _) _ _ _
  refine wpAny_bind (wpAny_field he rfl (x := .ref it) rfl (wpAny_bind (draw _ fun x ha tk Xa ea na => ?_)))
  replace na : ha.objs.size = h0.objs.size + 1 := na
  show wpAny _ _ (field (.ref e) 3 >>= _) _ _ ⟨ha, g, d, tk, os⟩
  refine wpAny_bind (wpAny_field ea rfl (x := rawInt c) rfl ?_)
  show wpAny _ _ (field (.ref e) 4 >>= _) _ _ ⟨ha, g, d, tk, os⟩
  refine wpAny_bind (wpAny_field ea rfl (x := .none) rfl ?_)
  show wpAny _ _ (mkInt c >>= _) _ _ ⟨ha, g, d, tk, os⟩
  refine wpAny_bind (wpAny_mkInt ?_)
  show wpAny _ _ (setField (.ref e) 3 (rawInt (c + 1)) >>= _) _ _ ⟨ha, g, d, tk + 1, os⟩
  refine wpAny_bind (wpAny_setField_rec ea (by simp) fun hb eb kb => ?_)
  replace eb : IsEnum hb e it (c + 1) old := eb
  show wpAny _ _ (setField (.ref e) 4 .none >>= _) _ _ ⟨hb, g, d, tk + 1, os⟩
  refine wpAny_bind (wpAny_setField_rec eb (by simp) fun hc ec kc => ?_)
  replace ec : IsEnum hc e it (c + 1) old := ec
  show wpAny _ _ (newTuple [.int c tk, x] >>= _) _ _ ⟨hc, g, d, tk + 1, os⟩
  refine wpAny_bind (wpAny_newTuple ?_)
  have nc : hc.objs.size = h0.objs.size + 1 := by rw [kc.1, kb.1]; exact na
  have ed : IsEnum (hc.push { cls := .type "tuple", data := .seq #[.int c tk, x] }) e it (c + 1) old := Heap.get?_push_of_some _ ec
  have td : IsTupOf2 (hc.push { cls := .type "tuple", data := .seq #[.int c tk, x] }) hc.objs.size (.int c tk) x := Heap.get?_push_size _ rfl
  have Xd := keep x ha (hc.push { cls := .type "tuple", data := .seq #[.int c tk, x] }) Xa fun b o n r => Heap.get?_push_of_some _ (kc.extBut b o n (kb.extBut b o n r))
  show wpAny _ _ (Builtin.SmallTypes.ownedTupleIsFree (.ref e) >>= _) _ _ ⟨hc.push { cls := .type "tuple", data := .seq #[.int c tk, x] }, g, d, tk + 1, os⟩
  rw [nc] at td ⊢
  generalize hc.push { cls := .type "tuple", data := .seq #[.int c tk, x] } = hd at ed td Xd ⊢
  clear nc ec kc eb kb ea na Xa
  refine wpAny_bind ?_
  unfold Builtin.SmallTypes.ownedTupleIsFree
  refine wpAny_bind (wpAny_field ed rfl (x := .none) rfl (wpAny_pure ?_))
  simp only [if_true]
  refine wpAny_bind (wpAny_rule (wpAny_bind (wpAny_field ed rfl (x := old) rfl (wpAny_bind (wpAny_setField_rec ed (by simp) fun hi ei ki => ?_)))))
  replace ei : IsEnum hi e it (c + 1) x := ei
  show wpAny _ _ (Builtin.SmallTypes.ownedTupleHandOut (.ref e) (.ref (h0.objs.size + 1)) >>= _) _ _ ⟨hi, g, d, tk + 1, os⟩
  refine wpAny_bind ?_
  unfold Builtin.SmallTypes.ownedTupleHandOut
  refine wpAny_bind (wpAny_setField_rec ei (by simp) fun hj ej kj => ?_)
  replace ej : IsEnumOut hj e it (c + 1) x (h0.objs.size + 1) := ej
  refine wpAny_setField_rec ej (by simp) fun hk ek kk => wpAny_bind (wpAny_letGo (wpAny_pure ⟨_, rfl, ?_⟩))
  have up : ∀ b o, b ≠ e → hd.get? b = some o → hk.get? b = some o := fun b o n r => kk.extBut b o n (kj.extBut b o n (ki.extBut b o n r))
  refine hQ x hk tk (keep _ _ _ Xd up) ek (up _ _ (fun r => ?_) td)
  rw [← r] at lt
  exact absurd lt (by show ¬ h0.objs.size + 1 < h0.objs.size; omega)
end
/-! ### as a walk of the hand layer -/
def ItE (K : PySem.W.Frag) (a b : Addr) : It where
  go i H := ∃ (xs ys : List V) (x y : V), (SqT K H a xs ∧ xs[i]? = some x) ∧ SqT K H b ys ∧ ys[i]? = some y
  yld i H v H' := ∃ T U x y, (v = .ref U ∧ H T = none ∧ H U = none ∧ U ≠ T ∧ H' = upd (upd H T (.tup [x, y])) U (.tup [.int i, .ref T])) ∧ (∀ xs, SqT K H a xs → xs[i]? = some x) ∧ ∀ ys, SqT K H b ys → ys[i]? = some y
  stop i H := ∃ xs ys : List V, SqT K H a xs ∧ SqT K H b ys ∧ xs.length = ys.length ∧ i = xs.length
theorem sepT {z TI TO i1 i2 a b : Addr} (D : ZipApart z TI TO i1 i2 a b) : ZipSep2 z TI TO i1 i2 [i1, a] [i2, b] where
  TIz := D.TIz
  TOz := D.TOz
  TITO := D.TITO
  TIi1 := D.TIi1
  TIi2 := D.TIi2
  mem1 := List.mem_cons_self
  mem2 := List.mem_cons_self
  zf1 := by simpa using ⟨D.i1z.symm, D.l1z.symm⟩
  zf2 := by simpa using ⟨D.i2z.symm, D.l2z.symm⟩
  Tf1 := by simpa using ⟨D.TOi1, D.l1TO.symm⟩
  Tf2 := by simpa using ⟨D.TOi2, D.l2TO.symm⟩
  sep1_2 := by simpa using ⟨D.i12, D.l2i1.symm⟩
  sep2_1 := by simpa using ⟨D.i12.symm, D.l1i2.symm⟩
/-- how the records stand at turn i -/
def Rec (e z TI TO i1 i2 a b : Addr) (i : Nat) (h : Heap) : Prop :=
  (∃ old, IsEnum h e z (i : Int) old) ∧ ((∃ f0 f, ZAt h z TI TO f0 f ∧ Own f0) ∧ IsTupOf2 h TI (.ref i1) (.ref i2) ∧ ∃ p q, IsTupOf2 h TO p q) ∧ h.IsTupleIter i1 a i ∧ h.IsTupleIter i2 b i
theorem six {e z TI TO i1 i2 c : Addr} (h : c ∈ [e, z, TI, TO, i1, i2]) : c = e ∨ c = z ∨ c = TI ∨ c = TO ∨ c = i1 ∨ c = i2 := by simpa using h
theorem Rec.obj {e z TI TO i1 i2 a b : Addr} {i : Nat} {h : Heap} (r : Rec e z TI TO i1 i2 a b i h) : ∀ c ∈ [e, z, TI, TO, i1, i2], ∃ o, h.get? c = some o ∧ ∀ v, o.data ≠ .cell v := by
  obtain ⟨⟨old, r0⟩, ⟨⟨f0, f, r1, _⟩, r2, p, q, r3⟩, ⟨o4, g4, _, d4⟩, o5, g5, _, d5⟩ := r
  intro c hc
  rcases six hc with rfl | rfl | rfl | rfl | rfl | rfl
  · exact ⟨_, r0, fun v z => nomatch z⟩
  · exact ⟨_, r1, fun v z => nomatch z⟩
  · exact ⟨_, r2, fun v z => nomatch z⟩
  · exact ⟨_, r3, fun v z => nomatch z⟩
  · exact ⟨o4, g4, fun v z => by rw [d4] at z; cases z⟩
  · exact ⟨o5, g5, fun v z => by rw [d5] at z; cases z⟩
/-- the enumerate's record lies apart from all the zip's -/
structure Apart (e z TI TO i1 i2 a b : Addr) : Prop where
  zip : ZipApart z TI TO i1 i2 a b
  ez : e ≠ z
  eI : e ≠ TI
  eO : e ≠ TO
  e1 : e ≠ i1
  e2 : e ≠ i2
set_option maxHeartbeats 1000000 in
theorem turn {P : Program} {w : World} {K : PySem.W.Frag} {elts : List Expr} {kk : Nat} {tpos : Pos} {a b e z TI TO i1 i2 : Addr} (D : Apart e z TI TO i1 i2 a b) :
    Turn P w K (.Tuple elts kk tpos) (ItE K a b) [e, z, TI, TO, i1, i2] e (Rec e z TI TO i1 i2 a b) where
  mem := List.mem_cons_self
  obj := fun i h r => r.obj
  keep := fun i h h' r k => by
    obtain ⟨⟨old, r0⟩, ⟨⟨f0, f, r1, ho⟩, r2, p, q, r3⟩, r4, r5⟩ := r
    exact ⟨⟨old, k _ (by simp) _ r0⟩, ⟨⟨f0, f, k _ (by simp) _ r1, ho⟩, k _ (by simp) _ r2, p, q, k _ (by simp) _ r3⟩, r4.at fun o g => k _ (by simp) o g, r5.at fun o g => k _ (by simp) o g⟩
  item := by
    intro X hP hw hK hc i pins s σ H E I hf r hg
    subst hP hw hK
    have below := r.obj
    have lz : ∀ c ∈ [e, z, TI, TO, i1, i2], c < s.heap.objs.size := fun c hc => by
      obtain ⟨o, g, _⟩ := below c hc
      exact Heap.lt_size g
    obtain ⟨⟨old, r0⟩, ⟨⟨f0, f, r1, ho⟩, r2, p, q, r3⟩, r4, r5⟩ := r
    obtain ⟨xs, ys, x, y, ⟨sx, ex⟩, sy, ey⟩ := hg
    obtain ⟨us, ru, pu, _⟩ := I.tuple sx
    obtain ⟨ws, rw', pw, _⟩ := I.tuple sy
    obtain ⟨u, hu, ru1⟩ := ru.get ex
    obtain ⟨v, hv, rv1⟩ := rw'.get ey
    have l1 : i < us.toArray.size := by
      have := (List.getElem?_eq_some_iff.mp hu).1
      simpa using this
    have l2 : i < ws.toArray.size := by
      have := (List.getElem?_eq_some_iff.mp hv).1
      simpa using this
    have hh := I.ok.hd hc
    have Z : Zs z TI TO i1 i2 (fun j h => h.IsTupleIter i1 a j ∧ h.IsTuple a us.toArray) (fun j h => h.IsTupleIter i2 b j ∧ h.IsTuple b ws.toArray) s.heap f0 f p q i i := ⟨r1, r2, r3, ⟨r4, pu⟩, ⟨r5, pw⟩⟩
    have D1 := Draws.tuple (prog := X.prog) (w := X.w) (A := X.A.in1.in1) hh i1 a D.zip.l1i1 us.toArray
    have D2 := Draws.tuple (prog := X.prog) (w := X.w) (A := X.A.in1.in1) hh i2 b D.zip.l2i2 ws.toArray
    have hfz : ∀ c ∈ [z, TO, i1, i2], FpOk X pins H c := fun c hc => hf c (by
      simp only [List.mem_cons, List.not_mem_nil, or_false] at hc ⊢
      rcases hc with rfl | rfl | rfl | rfl <;> simp)
    have ty : s.TypeIs (.ref e) "enumerate" := ⟨_, r0, rfl⟩
    unfold pyNext
    refine wpAny_bind (wpAny_attempt (wpAny_callSpecial?_slot (name := Str.ofString "__next__") ty F.slot_enumerate_next (wpAny_call_entry F.slot_enumerate_next ty F.entry_enumerate_next
      (counted (X := fun x' h => ∃ ha tk, x' = .ref s.heap.objs.size ∧ Inv X pins σ (upd H s.heap.objs.size (.tup [x, y])) { s with heap := ha, toks := tk } ∧ ha.objs.size = s.heap.objs.size + 1 ∧
          (∀ c o, c ≠ e → ha.get? c = some o → h.get? c = some o) ∧ (∃ f0 f p q, Zs z TI TO i1 i2 (fun j h => h.IsTupleIter i1 a j ∧ h.IsTuple a us.toArray) (fun j h => h.IsTupleIter i2 b j ∧ h.IsTuple b ws.toArray) ha f0 f p q (i + 1) (i + 1) ∧ Own f0)) r0 (fun Q' kq => ?_) (fun x' h h' hx k => ?_) fun x' h' tk hx eo et => wpAny_pure ?_) (F.args_enumerate_next_1 _))))
    · refine drawn (sepT D.zip) D1 D2 Z ho l1 l2 fun x1 x2 h' tk p1 p2 dr => ?_
      obtain ⟨zs, tT, gr⟩ := dr
      have e1 : x1 = u := by
        have : us.toArray[i]? = some u := by simpa using hu
        rw [this] at p1
        exact (Option.some.inj p1).symm
      have e2 : x2 = v := by
        have : ws.toArray[i]? = some v := by simpa using hv
        rw [this] at p2
        exact (Option.some.inj p2).symm
      subst e1 e2
      have new : ObjOk X.prog X.w (upd H s.heap.objs.size (.tup [x, y])) h' s.heap.objs.size (.tup [x, y]) := ⟨(show 2 ≤ sizeLine by decide), [x1, x2], .cons ru1 (.cons rv1 .nil), _, tT, rfl, _, rfl⟩
      have J : Inv X pins σ (upd H s.heap.objs.size (.tup [x, y])) { s with heap := h', toks := tk } := I.turnedNew (ch := [z, TO, i1, i2]) (fun c o n g => gr.old c o (fun q => n (by simp [q])) (fun q => n (by simp [q])) (fun q => n (by simp [q])) (fun q => n (by simp [q])) g) hfz (Nat.le_refl _) new
      exact kq _ h' tk ⟨h', tk, rfl, J, gr.len, fun c o _ g => g, zs⟩ (gr.old _ _ D.ez D.eO D.e1 D.e2 r0) gr.len
    · obtain ⟨ha, tk, e1, J, sz, up, zs⟩ := hx
      exact ⟨ha, tk, e1, J, sz, fun c o n g => k c o n (up c o n g), zs⟩
    · obtain ⟨ha, tka, rfl, J, sz, up, f0', f', p', q', zs, ho'⟩ := hx
      refine ⟨_, rfl, wpAny_letOwnedTupleGo_enum (s := { s with heap := h', toks := tk + 1 }) eo fun h2 e2 sb => ?_⟩
      have le : e < s.heap.objs.size := lz e List.mem_cons_self
      have ne : s.heap.objs.size + 1 ≠ e := fun q => by
        rw [← q] at le
        exact absurd le (by show ¬ s.heap.objs.size + 1 < s.heap.objs.size; omega)
      have ne0 : e ≠ s.heap.objs.size := Nat.ne_of_lt le
      have up2 : ∀ c o, c ≠ e → ha.get? c = some o → h2.get? c = some o := fun c o n g => sb.extBut _ _ n (up c o n g)
      have atU : h2.get? (s.heap.objs.size + 1) = some { cls := .type "tuple", data := .seq #[.int i tk, .ref s.heap.objs.size] } := sb.extBut _ _ ne et
      have hU : upd H s.heap.objs.size (HO.tup [x, y]) (s.heap.objs.size + 1) = none := by
        rw [upd_ne (Nat.succ_ne_self _)]
        exact I.hok.fresh (Nat.le_succ _)
      have hfe : ∀ c ∈ [e], FpOk X pins (upd H s.heap.objs.size (.tup [x, y])) c := fun c hc => by
        rw [List.mem_singleton.mp hc]
        obtain ⟨q1, q2⟩ := hf e List.mem_cons_self
        exact ⟨by rw [upd_ne ne0]; exact q1, q2⟩
      have new : ObjOk X.prog X.w (upd (upd H s.heap.objs.size (.tup [x, y])) (s.heap.objs.size + 1) (.tup [.int i, .ref s.heap.objs.size])) h2 (s.heap.objs.size + 1) (.tup [.int i, .ref s.heap.objs.size]) :=
        ⟨(show 2 ≤ sizeLine by decide), [.int i tk, .ref s.heap.objs.size], .cons ⟨tk, rfl⟩ (.cons rfl .nil), _, atU, rfl, _, rfl⟩
      have J2 : Inv X pins σ (upd (upd H s.heap.objs.size (.tup [x, y])) (s.heap.objs.size + 1) (.tup [.int i, .ref s.heap.objs.size])) { s with heap := h2, toks := tk + 1 } :=
        J.turnedNew (ch := [e]) (fun c o n g => up2 c o (fun q => n (by simp [q])) g) hfe (Nat.le_of_eq sz) new
      refine ⟨.ref (s.heap.objs.size + 1), _, J2, rfl, ⟨s.heap.objs.size, s.heap.objs.size + 1, x, y, ⟨rfl, I.hok.fresh (Nat.le_refl _), I.hok.fresh (Nat.le_succ _), Nat.succ_ne_self _, rfl⟩, fun l hl => ?_, fun l hl => ?_⟩, ⟨⟨.ref s.heap.objs.size, ?_⟩, ⟨⟨f0', f', up2 _ _ D.ez.symm zs.rec_, ho'⟩, up2 _ _ D.eI.symm zs.its, p', q', up2 _ _ D.eO.symm zs.own⟩, zs.fst.1.at fun o g => up2 _ _ D.e1.symm g, zs.snd.1.at fun o g => up2 _ _ D.e2.symm g⟩, fun c hc => ?_⟩
      · rw [I.tuple_inj hl sx]
        exact ex
      · rw [I.tuple_inj hl sy]
        exact ey
      · have := e2
        rw [show ((i + 1 : Nat) : Int) = (i : Int) + 1 from rfl]
        exact this
      · have lc := lz c hc
        rw [upd_ne (fun q => by rw [q] at lc; exact absurd lc (by show ¬ s.heap.objs.size + 1 < s.heap.objs.size; omega)), upd_ne (Nat.ne_of_lt lc)]
        exact (hf c hc).1
  done := by
    intro X hP hw hK hc i pins s σ H E I hf r hg
    subst hP hw hK
    obtain ⟨⟨old, r0⟩, ⟨⟨f0, f, r1, ho⟩, r2, p, q, r3⟩, r4, r5⟩ := r
    obtain ⟨xs, ys, sx, sy, el, ei⟩ := hg
    obtain ⟨us, ru, pu, _⟩ := I.tuple sx
    obtain ⟨ws, rw', pw, _⟩ := I.tuple sy
    have n1 := ru.length
    have hh := I.ok.hd hc
    have m1 : us.toArray.size = i := by rw [ei, n1]; simp
    have D1 := Draws.tuple (prog := X.prog) (w := X.w) (A := X.A.in1.in1) hh i1 a D.zip.l1i1 us.toArray
    have D2 := Draws.tuple (prog := X.prog) (w := X.w) (A := X.A.in1.in1) hh i2 b D.zip.l2i2 ws.toArray
    have Z : Zs z TI TO i1 i2 (fun j h => h.IsTupleIter i1 a j ∧ h.IsTuple a us.toArray) (fun j h => h.IsTupleIter i2 b j ∧ h.IsTuple b ws.toArray) s.heap f0 f p q us.toArray.size i := ⟨r1, r2, r3, ⟨by rw [m1]; exact r4, pu⟩, ⟨r5, pw⟩⟩
    have ty : s.TypeIs (.ref e) "enumerate" := ⟨_, r0, rfl⟩
    unfold pyNext
    refine wpAny_bind (wpAny_attempt (wpAny_callSpecial?_slot (name := Str.ofString "__next__") ty F.slot_enumerate_next (wpAny_call_entry F.slot_enumerate_next ty F.entry_enumerate_next ?_ (F.args_enumerate_next_1 _))))
    show wpAny _ _ (field (.ref e) 2 >>= _) _ _ _
    refine wpAny_bind (wpAny_field r0 rfl (x := .ref z) rfl (wpAny_bind (ended (sepT D.zip) D1 D2 Z ho fun h' xe k he => ?_)))
    obtain ⟨oe, h1, h2⟩ := he
    refine wpAny_bind (wpAny_isInstance (T := "StopIteration") (b := true) ⟨oe, h1, h2⟩ isSubtype_stop (wpAny_pure ⟨rfl, ?_⟩))
    exact I.turnedL (ch := [z, i1]) (fun c o n g => k c o (fun q => n (by simp [q])) (fun q => n (by simp [q])) g) fun c hc => hf c (by
      simp only [List.mem_cons, List.not_mem_nil, or_false] at hc ⊢
      rcases hc with rfl | rfl <;> simp)
  self := fun A i s Q E r h => by
    obtain ⟨⟨old, he⟩, _⟩ := r
    exact wpAny_pyIter_enum he h
/-! ### its making -/
set_option maxHeartbeats 1000000 in
theorem meets_new (z TI TO : Addr) :
    Meets (Builtin.«enumerate.__new__» ⟨[.type "enumerate", .ref z], []⟩) (fun _ R s => IsZip s.heap z TI TO .none ∧
      R (.ok (.ret (.ref s.heap.objs.size))) { s with heap := s.heap.push { cls := .type "enumerate", data := .fields #[.none, .bool false, .ref z, rawInt 0, .none, .none] } }) :=
  .of_wp fun prog w A R s h => by
    obtain ⟨h0, g, d, tk, os⟩ := s
    obtain ⟨hz, h⟩ := h
    have sb := sub_enumerate
    have own : ∀ {A' : Around} {E : Value → Shared → Prop} {Q : Value → Shared → Prop}, Q (.ref z) ⟨h0, g, d, tk, os⟩ → wpAny (model prog w) A' (pyIter (.ref z)) Q E ⟨h0, g, d, tk, os⟩ := fun q => wpAny_pyIter_zip (s := ⟨h0, g, d, tk, os⟩) hz q
    wp_walk using AutoSeq1.wpAny_loadPart' hz
    refine wpAny_stack_any fun st => wpAny_pure ?_
    split
    · rename_i c _ _ _ _ _
      cases (c == Value.type "enumerate") <;> wp_walk using own, AutoSeq1.wpAny_loadPart' hz <;> exact ⟨_, rfl, h⟩
    · wp_walk using own, AutoSeq1.wpAny_loadPart' hz
      exact ⟨_, rfl, h⟩
theorem call_new {prog : Program} {w : World} {A : Around} {E : Value → Shared → Prop} {s : Shared} {z TI TO : Addr} {Q : Value → Shared → Prop} (hz : IsZip s.heap z TI TO .none)
    (h : ∀ h', IsEnum h' s.heap.objs.size z 0 .none → h'.objs.size = s.heap.objs.size + 1 → (∀ b o, s.heap.get? b = some o → h'.get? b = some o) → Q (.ref s.heap.objs.size) { s with heap := h' }) :
    wpAny (model prog w) A (call (.type "enumerate") [.ref z]) Q E s := by
  refine callType_new F.called_enumerate (by decide) (F.typeCall_enumerate_1 _) (F.newCall_enumerate_1 _) (fun obj => F.args_object_init_2 obj _) F.entry_enumerate_new (meets_new z TI TO) ⟨hz, ?_⟩
  have he : IsEnum (s.heap.push { cls := .type "enumerate", data := .fields #[.none, .bool false, .ref z, rawInt 0, .none, .none] }) s.heap.objs.size z 0 .none := Heap.get?_push_size _ rfl
  exact ⟨⟨_, he, rfl⟩, h _ he (Heap.size_push ..) fun b o x => Heap.get?_push_of_some _ x⟩
def iEz (K : PySem.W.Frag) (ta : TA) : TI := fun σ H R => ta σ H fun vs H1 => ∃ a b xs ys, vs = [.ref a, .ref b] ∧ (SqT K H1 a xs ∧ SqT K H1 b ys) ∧ R (ItE K a b) H1
/-- for n, (x, y) in enumerate(zip(a, b)), two tuples -/
theorem pi_ez {X : Cx} {e e2 : Expr} {ta : TA} {p p2 pos pos2 tpos : Pos} {elts : List Expr} {kk : Nat} (hg : Gl X "enumerate") (hm : X.mg "enumerate" = none) (hg2 : Gl X "zip") (hm2 : X.mg "zip" = none) (ha : PA X [e, e2] ta)
    (hs : starEach [e, e2] X.env = (false, eval e X.env) :: starEach [e2] X.env := by rfl) (hpl : (backTo pos2 (starEach [e2] X.env)).any (·.1) = false := by rfl) :
    PI X (.Tuple elts kk tpos) (.Call (.Name "enumerate" p) [.Call (.Name "zip" p2) [e, e2] [] pos2] [] pos) (iEz X.K ta) := by
  refine ⟨fun pins s σ H R I h => ?_⟩
  refine Call_ (ld_blt I hg hm PyProof.Rows.boot_enumerate (PyProof.Rows.callWith_type1 (args_cons (Call_ (ld_blt I hg2 hm2 PyProof.Rows.boot_zip (PyProof.Rows.callWith_type1 (thn (ha.run pos2 pins s σ H _ I h) fun us s1 got => ?_) hs hpl)))) rfl rfl))
  obtain ⟨vs, H1, J, rv, a, b, xs, ys, rfl, ⟨sx, sy⟩, go⟩ := got
  obtain ⟨u1, u2, rfl, e1, e2'⟩ := vals2 rv
  obtain rfl : u1 = Value.ref a := e1
  obtain rfl : u2 = Value.ref b := e2'
  obtain ⟨us, ru, pu, _⟩ := J.tuple sx
  obtain ⟨ws, rw', pw, _⟩ := J.tuple sy
  refine zip_begins2 (begins_tuple a us.toArray) (begins_tuple b ws.toArray) pu pw fun h' z1 t1 t2 g1 g2 sz kp => args_nil ?_
  refine call_new (s := { s1 with heap := h' }) z1 fun h2 he sz2 kp2 => wpAny_pyIter_enum he ?_
  have sz' : (h'.objs.size : Nat) = s1.heap.objs.size + 5 := sz
  have up : ∀ c o, s1.heap.get? c = some o → h2.get? c = some o := fun c o q => kp2 c o (kp c o q)
  have J' : Inv X pins σ H1 { s1 with heap := h2 } := J.kept (t' := s1.toks) up
  have ne : ∀ k : Nat, k < 5 → (h'.objs.size : Nat) ≠ s1.heap.objs.size + k := fun k hk q => by omega
  refine ⟨h'.objs.size, [h'.objs.size, s1.heap.objs.size + 4, s1.heap.objs.size + 2, s1.heap.objs.size + 3, s1.heap.objs.size, s1.heap.objs.size + 1], _, _, H1, rfl, J',
    turn ⟨PySem.W.ktu_apart s1.heap.objs.size a b pu.lt pw.lt, ne 4 (by decide), ne 2 (by decide), ne 3 (by decide), ne 0 (by decide), ne 1 (by decide)⟩,
    ⟨⟨.none, he⟩, ⟨⟨.none, false, kp2 _ _ z1, .inl rfl⟩, kp2 _ _ t1, _, _, kp2 _ _ t2⟩, ⟨_, kp2 _ _ g1, rfl, rfl⟩, _, kp2 _ _ g2, rfl, rfl⟩, fun c hc => ?_, go⟩
  have le : s1.heap.objs.size ≤ c := by
    rcases six hc with rfl | rfl | rfl | rfl | rfl | rfl
    · exact Nat.le_of_lt (by rw [sz']; exact Nat.lt_add_of_pos_right (by decide))
    all_goals first | exact Nat.le_refl _ | exact Nat.le_add_right _ _
  exact J.fpOk le (J.hok.fresh le)
theorem walk {K : PySem.W.Frag} {a b : Addr} {xs ys : List V} (hl : xs.length = ys.length) : Walk (ItE K a b) xs.length (fun H => SqT K H a xs ∧ SqT K H b ys)
    (fun i H v H' => ∃ T U x y, (v = .ref U ∧ H T = none ∧ H U = none ∧ U ≠ T ∧ H' = upd (upd H T (.tup [x, y])) U (.tup [.int i, .ref T])) ∧ xs[i]? = some x ∧ ys[i]? = some y) := by
  refine ⟨fun i H hi q => ?_, fun H q => ⟨xs, ys, q.1, q.2, hl, rfl⟩, fun i H v H' hi q y => ?_⟩
  · have h2 : i < ys.length := by omega
    exact ⟨xs, ys, xs[i], ys[i], ⟨q.1, by simp [hi]⟩, q.2, by simp [h2]⟩
  · obtain ⟨T, U, x, z, h1, h2, h3⟩ := y
    exact ⟨T, U, x, z, h1, h2 _ q.1, h3 _ q.2⟩
end Ez
end Lw
namespace Lw
open PySem PySem.Spec PyProof.Rows L2
open LamX
def sg (b : Int) : Int := if 0 < b then 1 else -1
def lov (t b : Int) : Int := sg b * t / ((Nat.gcd t.natAbs b.natAbs : Nat) : Int)
def lun (t b : Int) : Int := sg b * b / ((Nat.gcd t.natAbs b.natAbs : Nat) : Int)
def Small (i : Int) : Prop := i.natAbs < 2 ^ 4000
theorem small_log {i : Int} (h : Small i) : i.natAbs.log2 < 4000 := by
  by_cases z : i.natAbs = 0
  · rw [z]; decide
  · exact (Nat.log2_lt z).mpr h
/-- i // j, j of any sign, not too long -/
theorem op_fdivS {X : Cx} : OpR X (binaryOp .FloorDiv) (rI (fun _ j => j ≠ 0 ∧ j.natAbs.log2 < 9000) fun i j => .int (i.fdiv j)) := opI fun i j _ _ _ _ _ hc q => by
  exact floordiv_int hc.1 q (.inl (PyProof.noPylong_of_log2 hc.2))
def com (i j : Int) : Int := if 0 < j then ((Nat.gcd i.natAbs j.natAbs : Nat) : Int) else -((Nat.gcd i.natAbs j.natAbs : Nat) : Int)
def flds (o u : Int) : List (Str × V) := putF "under" (.int u) (putF "over" (.int o) [])
theorem fdiv_com {i j k : Int} (hj : j ≠ 0) : k.fdiv (com i j) = sg j * k / ((Nat.gcd i.natAbs j.natAbs : Nat) : Int) := by
  have g0 : 0 < Nat.gcd i.natAbs j.natAbs := Nat.gcd_pos_of_pos_right _ (by omega)
  by_cases c : 0 < j
  · rw [show com i j = _ from if_pos c, show sg j = 1 from if_pos c, Int.one_mul, Int.fdiv_eq_ediv_of_nonneg _ (by omega)]
  · rw [show com i j = _ from if_neg c, show sg j = -1 from if_neg c]
    have e : k.fdiv (-((Nat.gcd i.natAbs j.natAbs : Nat) : Int)) = (-k).fdiv ((Nat.gcd i.natAbs j.natAbs : Nat) : Int) := by
      rw [← Int.neg_fdiv_neg, Int.neg_neg]
    rw [e, Int.fdiv_eq_ediv_of_nonneg _ (by omega)]
    congr 1
    omega
theorem made_over {i j : Int} (hj : j ≠ 0) : i.fdiv (com i j) = lov i j := fdiv_com hj
theorem made_under {i j : Int} (hj : j ≠ 0) : j.fdiv (com i j) = lun i j := fdiv_com hj
/-- a Ratio of the numbers o, u stands at a -/
def RatAt (C : Addr) (H : Hp) (a : Addr) (o u : Int) : Prop := ∃ dx, H a = some (.ins C dx (flds o u))
theorem flds_over (o u : Int) : (flds o u).lookup ("over" : Str) = some (.int o) := by
  unfold flds
  rw [lookup_putF, if_neg (by decide +kernel), lookup_putF, if_pos rfl]
theorem flds_under (o u : Int) : (flds o u).lookup ("under" : Str) = some (.int u) := by
  unfold flds
  rw [lookup_putF, if_pos rfl]
/-- the least form: what is below is positive, and nothing divides both -/
theorem lun_pos {t b : Int} (h : b ≠ 0) : 0 < lun t b := by
  have g0 : 0 < Nat.gcd t.natAbs b.natAbs := Nat.gcd_pos_of_pos_right _ (by omega)
  have hs : sg b * b = (b.natAbs : Int) := by unfold sg; split <;> omega
  unfold lun
  rw [hs]
  have h1 : Nat.gcd t.natAbs b.natAbs ≤ b.natAbs := Nat.gcd_le_right _ (by omega)
  exact Int.ediv_pos_of_pos_of_dvd (by omega) (by omega) (Int.natCast_dvd_natCast.mpr (Nat.gcd_dvd_right _ _))
theorem sg_abs (b : Int) : sg b * b = (b.natAbs : Int) := by unfold sg; split <;> omega
theorem sg_nat (b t : Int) : (sg b * t).natAbs = t.natAbs := by unfold sg; split <;> omega
theorem lov_rat {t b : Int} (hb : b ≠ 0) : lov t b = (mkRat (sg b * t) b.natAbs).num ∧ lun t b = ((mkRat (sg b * t) b.natAbs).den : Int) := by
  have hn : b.natAbs ≠ 0 := by omega
  rw [Rat.num_mkRat, Rat.den_mkRat, if_neg hn, if_neg hn, sg_nat, Nat.gcd_comm b.natAbs]
  unfold lov lun
  rw [sg_abs]
  exact ⟨rfl, by rw [Int.natCast_ediv]⟩
theorem lov_eq {t b t' b' : Int} (hb : b ≠ 0) (hb' : b' ≠ 0) (e : t * b' = t' * b) : lov t b = lov t' b' ∧ lun t b = lun t' b' := by
  have z : mkRat (sg b * t) b.natAbs = mkRat (sg b' * t') b'.natAbs := by
    rw [Rat.mkRat_eq_iff (by omega) (by omega), ← sg_abs b, ← sg_abs b']
    grind
  rw [(lov_rat hb).1, (lov_rat hb).2, (lov_rat hb').1, (lov_rat hb').2, z]
  exact ⟨rfl, rfl⟩
theorem lov_cross {t b : Int} (hb : b ≠ 0) : lov t b * b = t * lun t b := by
  have hg : (0 : Int) < ((Nat.gcd t.natAbs b.natAbs : Nat) : Int) := by
    have := Nat.gcd_pos_of_pos_right t.natAbs (show 0 < b.natAbs by omega)
    omega
  obtain ⟨x, hx⟩ : ((Nat.gcd t.natAbs b.natAbs : Nat) : Int) ∣ t := Int.ofNat_dvd_left.mpr (Nat.gcd_dvd_left _ _)
  obtain ⟨y, hy⟩ : ((Nat.gcd t.natAbs b.natAbs : Nat) : Int) ∣ b := Int.ofNat_dvd_left.mpr (Nat.gcd_dvd_right _ _)
  unfold lov lun
  generalize sg b = s
  generalize ((Nat.gcd t.natAbs b.natAbs : Nat) : Int) = g at hg hx hy
  have e1 : s * t / g = s * x := by rw [hx, show s * (g * x) = g * (s * x) by grind, Int.mul_ediv_cancel_left _ (by omega)]
  have e2 : s * b / g = s * y := by rw [hy, show s * (g * y) = g * (s * y) by grind, Int.mul_ediv_cancel_left _ (by omega)]
  rw [e1, e2]
  grind
theorem lov_le (t b : Int) : (lov t b).natAbs ≤ t.natAbs := by
  unfold lov
  have h := Int.natAbs_ediv_le_natAbs (sg b * t) ((Nat.gcd t.natAbs b.natAbs : Nat) : Int)
  rw [sg_nat] at h
  exact h
theorem lun_le (t b : Int) : (lun t b).natAbs ≤ b.natAbs := by
  unfold lun
  have h := Int.natAbs_ediv_le_natAbs (sg b * b) ((Nat.gcd t.natAbs b.natAbs : Nat) : Int)
  rw [sg_nat] at h
  exact h
/-- the least form of a least form is this form -/
theorem lov_idem {t b : Int} (hb : b ≠ 0) : lov (lov t b) (lun t b) = lov t b ∧ lun (lov t b) (lun t b) = lun t b := by
  have := lun_pos (t := t) hb
  obtain ⟨e1, e2⟩ := lov_eq (t := lov t b) (b := lun t b) (t' := t) (b' := b) (by omega) hb (by rw [lov_cross hb])
  exact ⟨e1, e2⟩

/-- an integer that can be multiplied with another such one -/
def Md (i : Int) : Prop := i.natAbs < 2 ^ 1900
theorem Md.small {i : Int} (h : Md i) : Small i := Nat.lt_trans h (Nat.pow_lt_pow_right (by decide) (by decide))
theorem md_mul {i j : Int} (h1 : Md i) (h2 : Md j) : (i * j).natAbs < 2 ^ 3800 := by
  rw [Int.natAbs_mul, show (3800 : Nat) = 1900 + 1900 from rfl, Nat.pow_add]
  exact Nat.mul_lt_mul'' h1 h2
theorem md_log {i j : Int} (h1 : Small i) (h2 : Small j) : i.natAbs.log2 + j.natAbs.log2 < 1000000 := by
  have := small_log h1
  have := small_log h2
  omega
theorem lov_1 (i : Int) : lov i 1 = i ∧ lun i 1 = 1 := by
  unfold lov lun
  rw [show sg 1 = 1 from rfl, Int.one_mul, Nat.gcd_comm, show Nat.gcd (1 : Int).natAbs i.natAbs = 1 from Nat.gcd_one_left _]
  exact ⟨Int.ediv_one i, rfl⟩
abbrev sRat : Stmt := inClass (top 40) 0
abbrev sOf : Stmt := inClass (top 40) 1
abbrev sSub : Stmt := inClass (top 40) 6
abbrev sMul : Stmt := inClass (top 40) 8
abbrev sEq : Stmt := inClass (top 40) 19
structure NoB (K : PySem.W.Frag) (C : Addr) : Prop where
  i : PySem.W.kitOne K (.ref C) (.type "int") = some false
  b : PySem.W.kitOne K (.ref C) (.type "bool") = some false
  s : PySem.W.kitOne K (.ref C) (.type "str") = some false
def spEqR (C : Addr) : Sp := fun vs H Q _ => ∃ (a b : Addr) (o u p q : Int), vs = [.ref a, .ref b] ∧ RatAt C H a o u ∧ RatAt C H b p q ∧ Q (.bl (decide (o = p) && decide (u = q))) H
theorem dec_intp {i j : Int} : decide (V.int i = V.int j) = decide (i = j) := decide_eq_decide.mpr ⟨fun e => V.int.inj e, fun e => by rw [e]⟩

/-- Ratio(over, under) of two good integers -/
def spRatP (C : Addr) : Sp := fun vs H Q _ => ∃ (x dx : Addr) (i j : Int), vs = [.ref x, .int i, .int j] ∧ H x = some (.ins C dx []) ∧ j ≠ 0 ∧ Small i ∧ Small j ∧ ∀ H', H' = upd H x (.ins C dx (flds (lov i j) (lun i j))) → Q .non H'
/-- the class of the ratios, ready to be made of one or two integers -/
structure RatM (P : Program) (w : World) (K : PySem.W.Frag) (mg : Str → Option Value) (base : Heap) (C f : Addr) (fd : FuncData) (ds : List Value) : Prop where
  M : Mk K C f
  F : FnOk P w K mg base (L2.CX P w) 3 f fd ["self", "over", "under"] (spRatP C)
  hm : mg "Ratio" = some (.ref C)
  b1 : Binds K fd ["self", "over", "under"] ds
  d1 : Vals [.int 1] ds
  b2 : Binds K fd ["self", "over", "under"] []
def spOfP (C : Addr) : Sp := fun vs H Q _ => ∃ v : V, vs = [v] ∧ ((∃ a dx fs, v = .ref a ∧ H a = some (.ins C dx fs) ∧ Q v H) ∨ (∃ i, v = .int i ∧ Small i ∧ ∀ a H', Same H H' → H a = none → RatAt C H' a i 1 → Q (.ref a) H'))
structure OfM (P : Program) (w : World) (K : PySem.W.Frag) (mg : Str → Option Value) (base : Heap) (C p g : Addr) (fdg : FuncData) : Prop where
  S : SMet K C "of" p g
  F : FnOk P w K mg base (L2.CX P w) 5 g fdg ["value"] (spOfP C)
  b : Binds K fdg ["value"] []
/-- a new Ratio of t / b -/
def News (C : Addr) (H : Hp) (Q : VK) (t b : Int) : Prop := ∀ c H', Same H H' → H c = none → RatAt C H' c (lov t b) (lun t b) → Q (.ref c) H'
def spSubP (C : Addr) : Sp := fun vs H Q _ => ∃ (a b : Addr) (o u p q : Int), vs = [.ref a, .ref b] ∧ RatAt C H a o u ∧ RatAt C H b p q ∧ 0 < u ∧ 0 < q ∧ Md o ∧ Md u ∧ Md p ∧ Md q ∧ News C H Q (o * q - p * u) (u * q)
def spMulP (C : Addr) : Sp := fun vs H Q _ => ∃ (a : Addr) (o u i : Int), vs = [.ref a, .int i] ∧ RatAt C H a o u ∧ 0 < u ∧ Md o ∧ Md u ∧ Md i ∧ News C H Q (o * i) u
theorem makesP {C : Addr} {H' : Hp} {E : XK} {R : Hp → Prop} {t b : Int} {x dx : Addr} (b0 : b ≠ 0) (st : Small t) (sb : Small b) (hx : H' x = none) (hdx : H' dx = none) (ne : dx ≠ x)
    (new : ∀ H2, Same H' H2 → RatAt C H2 x (lov t b) (lun t b) → R H2) :
    spRatP C [V.ref x, V.int t, V.int b] (upd (upd H' dx (.own x)) x (.ins C dx [])) (fun v H2 => v = .non ∧ R H2) E := by
  have s2 : Same H' (upd H' dx (.own x)) := same_new hdx
  have hx1 : upd H' dx (.own x) x = none := by rw [upd_ne ne.symm]; exact hx
  refine ⟨x, dx, t, b, rfl, upd_same, b0, st, sb, ?_⟩
  rintro _ rfl
  rw [upd_upd]
  exact ⟨rfl, new _ (s2.trans (same_new hx1)) ⟨dx, upd_same⟩⟩
section
variable {P : Program} {w : World} {K : PySem.W.Frag} {mg : Str → Option Value} {base : Heap}
theorem scRat : FnScope ["self", "over", "under", "common"] ["self", "over", "under"] (C8.fnScope sRat) := C8.fnScope_by (by decide +kernel)
theorem fn_ratP {C f : Addr} {fd : FuncData} (F : C8.Fun K "__init__" "Ratio.__init__" sRat f fd) (cl : Cls K C) (n1 : NoAttr K C "over") (n2 : NoAttr K C "under") (hgcd : mg "gcd" = some (.builtin "math.gcd")) (DI : C8.Cal P w K mg base 1 "is_integer" (spIsInt K) []) :
    FnOk P w K mg base (L2.CX P w) 3 f fd ["self", "over", "under"] (spRatP C) := by
  obtain ⟨oc, od, dV, kV, doc, pm, an, cdv, ct, osl, rfl, lk, hcd⟩ := F.ex
  refine fn_of lk hcd scRat (fun vs H Q E h => ?_) fun A outer s H vs Q E hr h => ?_
  · obtain ⟨x, dx, i, j, rfl, _⟩ := h
    rfl
  · obtain ⟨x, dx, i, j, rfl, hx, hj, si, sj, k⟩ := h
    refine ⟨_, (pss_cons (ps_if (pt_not (pt_val (C8.pe_c DI hr (by decide) (by rfl) (pa_cons (pv 1) pa_nil)))) (pss_one ps_never) pss_nil)
  (pss_cons (ps_if (PW.pt (pw_or (pt_not (pt_val (C8.pe_c DI hr (by decide) (by rfl) (pa_cons (pv 2) pa_nil)))) (pw_or1 (pt_cmpR op_eq (pv 2) pe_int (nomark _))))) (pss_one ps_never) pss_nil)
  (pss_cons (ps_set (i := 3) scRat.nd rfl (Or.inl rfl) (pe_ifExp (pt_cmpR op_gt (pv 2) pe_int (nomark _)) (pe_callBfun cr_gcd (by rfl) hgcd (pa_cons (pv 1) (pa_cons (pv 2) pa_nil))) (pe_un un_neg (pe_callBfun cr_gcd (by rfl) hgcd (pa_cons (pv 1) (pa_cons (pv 2) pa_nil))))))
  (pss_cons (ps_fld (pv 0) (pe_op op_fdivS (pv 1) (pv 3)) rfl)
  (pss_one (ps_fld (pv 0) (pe_op op_fdivS (pv 2) (pv 3)) rfl)))))), ?_⟩
    refine ⟨_, rfl, .int i, rfl, .int i, _, rfl, iteF ?_⟩
    refine ⟨_, rfl, .int j, rfl, .int j, _, rfl, iteF ?_⟩
    refine ⟨_, rfl, rfl, _, rfl, ite2 (fun c => absurd (of_decide_eq_true c) fun e => hj (V.int.inj e)) fun _ => ?_⟩
    have g0 : 0 < Nat.gcd i.natAbs j.natAbs := Nat.gcd_pos_of_pos_right _ (by omega)
    have gs : Small ((Nat.gcd i.natAbs j.natAbs : Nat) : Int) := by
      unfold Small
      rw [Int.natAbs_natCast]
      exact Nat.lt_of_le_of_lt (Nat.gcd_le_right _ (by omega)) sj
    have c0 : com i j ≠ 0 ∧ (com i j).natAbs.log2 < 9000 := by
      have l := small_log gs
      unfold com
      split
      · exact ⟨by omega, by omega⟩
      · exact ⟨by omega, by rw [Int.natAbs_neg]; omega⟩
    dsimp only [tNext, tSeq]
    refine join_any (fun σ' H' => σ' = [some (V.ref x), some (V.int i), some (V.int j), some (V.int (com i j))] ∧ H' = H) ?r (fun go => ?_)
    case r =>
      rintro σ' H' ⟨rfl, rfl⟩
      refine ⟨_, rfl, _, rfl, _, _, rfl, rfl, c0, _, rfl, x, C, dx, [], rfl, hx, cl, n1, (by show 0 < 1000; decide), ?_⟩
      refine ⟨_, rfl, _, rfl, _, _, rfl, rfl, c0, _, rfl, x, C, dx, _, rfl, upd_same, cl, n2, (by show 1 < 1000; decide), ?_⟩
      rw [upd_upd]
      refine k _ ?_
      rw [← made_over hj, ← made_under hj]
      rfl
    refine ⟨_, rfl, _, _, rfl, rfl, _, rfl, ite2 (fun c => ?_) (fun c => ?_)⟩
    · exact ⟨_, rfl, _, rfl, _, _, rfl, go _ _ ⟨by rw [show com i j = _ from if_pos (of_decide_eq_true c)]; rfl, rfl⟩⟩
    · exact ⟨_, rfl, _, rfl, _, _, rfl, _, rfl, go _ _ ⟨by rw [show com i j = _ from if_neg (fun z => c (decide_eq_true z))]; rfl, rfl⟩⟩
theorem scOf : FnScope ["value"] ["value"] (C8.fnScope sOf) := C8.fnScope_by (by decide +kernel)
theorem fn_ofP {C f g : Addr} {fd fdg : FuncData} {ds : List Value} (F : C8.Fun K "of" "Ratio.of" sOf g fdg) (T : Txt mg) (I : C8.InsC K C) (hk : PySem.W.kitOne K (.type "int") (.ref C) = some false) (RM : RatM P w K mg base C f fd ds) : FnOk P w K mg base (L2.CX P w) 5 g fdg ["value"] (spOfP C) := by
  obtain ⟨oc, od, dV, kV, doc, pm, an, cdv, ct, osl, rfl, lk, hcd⟩ := F.ex
  refine fn_of lk hcd scOf (fun vs H Q E h => ?_) fun A outer s H vs Q E hr h => ?_
  · obtain ⟨v, rfl, _⟩ := h
    rfl
  · obtain ⟨v, rfl, h⟩ := h
    refine ⟨_, (pss_one (ps_ret (pe_ifExp (pt_val (pe_callB call_isz (by rfl) T.n_isinstance (by decide +kernel) (pa_cons (pv 0) (pa_cons (pe_glob (v := .ref C) (by rfl) RM.hm rfl) pa_nil)))) (pv 0) (pe_make RM.M RM.F (hr.mono (by decide)) (by rfl) RM.hm RM.b1 RM.d1 (passes_call (takes_of rfl rfl rfl rfl) (fun _ _ _ _ z => z)) (pa_cons (pv 0) pa_nil))))), ?_⟩
    rcases h with ⟨a, dx, fs, rfl, ha, k⟩ | ⟨i, rfl, si, k⟩
    · refine ⟨_, rfl, _, .ref C, .ref C, .ref C, true, rfl, .own C, .x (.base (.ins ha I.cl I.ha I.hn I.htk I.hm)), I.me, _, rfl, iteT ⟨_, rfl, k⟩⟩
    · refine ⟨_, rfl, _, .ref C, .type "int", .ref C, false, rfl, .own C, .x (.base (.int _)), hk, _, rfl, iteF ⟨_, rfl, fun x dx hx hdx ne => ?_⟩⟩
      refine makesP (t := i) (b := 1) (by decide) si (by show 1 < 2 ^ 4000; exact Nat.one_lt_two_pow (by decide)) hx hdx ne fun H2 s2 r => k x H2 s2 hx (by rw [(lov_1 _).1, (lov_1 _).2] at r; exact r)
theorem scEq : FnScope ["self", "other"] ["self", "other"] (C8.fnScope sEq) := C8.fnScope_by (by decide +kernel)
theorem fn_eqR {C f1 : Addr} {fd1 : FuncData} (F : C8.Fun K "__eq__" "Ratio.__eq__" sEq f1 fd1) (T : Txt mg) (hm : mg "Ratio" = some (.ref C)) (cl : Cls K C) (n1 : NoAttr K C "over") (n2 : NoAttr K C "under") (I : C8.InsC K C) (nb : NoB K C) (DI : C8.Cal P w K mg base 1 "is_integer" (spIsInt K) []) :
    FnOk P w K mg base (L2.CX P w) 3 f1 fd1 ["self", "other"] (spEqR C) := by
  obtain ⟨oc, od, dV, kV, doc, pm, an, cdv, ct, osl, rfl, lk, hcd⟩ := F.ex
  refine fn_of lk hcd scEq (fun vs H Q E h => ?_) fun A outer s H vs Q E hr h => ?_
  · obtain ⟨a, b, o, u, p, q, rfl, _⟩ := h
    rfl
  · obtain ⟨a, b, o, u, p, q, rfl, ⟨dxa, ha⟩, ⟨dxb, hb⟩, go⟩ := h
    refine ⟨_, (pss_cons (ps_if (pt_val (C8.pe_c DI hr (by decide) (by rfl) (pa_cons (pv 1) pa_nil))) (pss_one (ps_ret (pe_and (pe_cmpR op_eq (pe_fld (pv 0) rfl) pe_int (nomark _)) (pe_one (pe_cmpR op_eq (pe_fld (pv 0) rfl) (pv 1) (nomark _)))))) pss_nil)
  (pss_one (ps_ret (pe_and (pe_callB call_isz (by rfl) T.n_isinstance (by decide +kernel) (pa_cons (pv 1) (pa_cons (pe_glob (v := .ref C) (by rfl) hm rfl) pa_nil))) (pe_and (pe_cmpR op_eq (pe_fld (pv 0) rfl) (pe_fld (pv 1) rfl) (nomark _)) (pe_one (pe_cmpR op_eq (pe_fld (pv 0) rfl) (pe_fld (pv 1) rfl) (nomark _)))))))), ?_⟩
    have ty : TyZ K H (.ref b) (.ref C) := .x (.base (.ins hb I.cl I.ha I.hn I.htk I.hm))
    refine ⟨_, rfl, .ref b, rfl, .obj ty nb.i nb.b nb.s, ?_⟩
    refine ⟨_, rfl, iteF ?_⟩
    refine ⟨_, rfl, _, .ref C, .ref C, .ref C, true, rfl, .own C, ty, I.me, _, rfl, iteT ?_⟩
    refine ⟨_, rfl, a, C, dxa, _, _, rfl, ha, cl, n1, flds_over o u, _, rfl, b, C, dxb, _, _, rfl, hb, cl, n1, flds_over p q, rfl, ?_⟩
    rw [dec_intp]
    cases hz : decide (o = p) with
    | false =>
      rw [hz, Bool.false_and] at go
      exact ⟨_, rfl, iteF go⟩
    | true =>
      rw [hz, Bool.true_and] at go
      refine ⟨_, rfl, iteT ⟨_, rfl, a, C, dxa, _, _, rfl, ha, cl, n2, flds_under o u, _, rfl, b, C, dxb, _, _, rfl, hb, cl, n2, flds_under p q, rfl, ?_⟩⟩
      rw [dec_intp]
      exact go

theorem scSub : FnScope ["self", "other", "taken"] ["self", "other"] (C8.fnScope sSub) := C8.fnScope_by (by decide +kernel)
theorem fn_subP {C f g f1 pO : Addr} {fd fdg fd1 : FuncData} {ds : List Value} (F : C8.Fun K "__sub__" "Ratio.__sub__" sSub f1 fd1) (RM : RatM P w K mg base C f fd ds) (OM : OfM P w K mg base C pO g fdg) (cl : Cls K C) (n1 : NoAttr K C "over") (n2 : NoAttr K C "under") : FnOk P w K mg base (L2.CX P w) 8 f1 fd1 ["self", "other"] (spSubP C) := by
  obtain ⟨oc, od, dV, kV, doc, pm, an, cdv, ct, osl, rfl, lk, hcd⟩ := F.ex
  refine fn_of lk hcd scSub (fun vs H Q E h => ?_) fun A outer s H vs Q E hr h => ?_
  · obtain ⟨a, b, o, u, p, q, rfl, _⟩ := h
    rfl
  · obtain ⟨a, b, o, u, p, q, rfl, ⟨dxa, ha⟩, ⟨dxb, hb⟩, u0, q0, mo, mu, mp, mq, new⟩ := h
    refine ⟨_, (pss_cons (ps_set (i := 2) scSub.nd rfl (Or.inl rfl) (pe_static (pe_glob (v := .ref C) (by rfl) RM.hm rfl) OM.S OM.F (hr.mono (by decide)) OM.b .nil (passes_call (takes_of rfl rfl rfl rfl) (fun _ _ _ _ z => z)) (pa_cons (pv 1) pa_nil))) (pss_one (ps_ret (pe_make RM.M RM.F (hr.mono (by decide)) (by rfl) RM.hm RM.b2 .nil (passes_call (takes_of rfl rfl rfl rfl) (fun _ _ _ _ z => z)) (pa_cons (pe_op op_sub (pe_op op_mulW (pe_fld (pv 0) rfl) (pe_fld (pv 2) rfl)) (pe_op op_mulW (pe_fld (pv 2) rfl) (pe_fld (pv 0) rfl))) (pa_cons (pe_op op_mulW (pe_fld (pv 0) rfl) (pe_fld (pv 2) rfl)) pa_nil)))))), ?_⟩
    refine ⟨rfl, _, rfl, _, rfl, .inl ⟨b, dxb, _, rfl, hb, ?_⟩⟩
    dsimp only [gName, tSeq]
    have w1 := md_mul mo mq
    have w2 := md_mul mp mu
    have w3 := md_mul mu mq
    have b0 : 0 < u * q := Int.mul_pos u0 q0
    refine ⟨_, rfl, a, C, dxa, _, _, rfl, ha, cl, n1, flds_over o u, _, rfl, b, C, dxb, _, _, rfl, hb, cl, n2, flds_under p q, _, _, rfl, rfl, md_log mo.small mq.small, ?_⟩
    refine ⟨_, rfl, b, C, dxb, _, _, rfl, hb, cl, n1, flds_over p q, _, rfl, a, C, dxa, _, _, rfl, ha, cl, n2, flds_under o u, _, _, rfl, rfl, md_log mp.small mu.small, _, _, rfl, rfl, ?_⟩
    refine ⟨_, rfl, a, C, dxa, _, _, rfl, ha, cl, n2, flds_under o u, _, rfl, b, C, dxb, _, _, rfl, hb, cl, n2, flds_under p q, _, _, rfl, rfl, md_log mu.small mq.small, fun x dx hx hdx ne => ?_⟩
    refine makesP (t := o * q - p * u) (b := u * q) (by omega) ?_ (Nat.lt_trans w3 (Nat.pow_lt_pow_right (by decide) (by decide))) hx hdx ne fun H2 s2 r => new x H2 s2 hx r
    refine Nat.lt_of_le_of_lt (Int.natAbs_sub_le _ _) ?_
    have : 2 ^ 3800 + 2 ^ 3800 ≤ 2 ^ 4000 := by rw [← Nat.two_mul, ← Nat.pow_succ']; exact Nat.pow_le_pow_right (by decide) (by decide)
    omega
theorem scMul : FnScope ["self", "other", "factor"] ["self", "other"] (C8.fnScope sMul) := C8.fnScope_by (by decide +kernel)
theorem fn_mulP {C f g f1 pO : Addr} {fd fdg fd1 : FuncData} {ds : List Value} (F : C8.Fun K "__mul__" "Ratio.__mul__" sMul f1 fd1) (RM : RatM P w K mg base C f fd ds) (OM : OfM P w K mg base C pO g fdg) (cl : Cls K C) (n1 : NoAttr K C "over") (n2 : NoAttr K C "under") : FnOk P w K mg base (L2.CX P w) 7 f1 fd1 ["self", "other"] (spMulP C) := by
  obtain ⟨oc, od, dV, kV, doc, pm, an, cdv, ct, osl, rfl, lk, hcd⟩ := F.ex
  refine fn_of lk hcd scMul (fun vs H Q E h => ?_) fun A outer s H vs Q E hr h => ?_
  · obtain ⟨a, o, u, i, rfl, _⟩ := h
    rfl
  · obtain ⟨a, o, u, i, rfl, ⟨dxa, ha⟩, u0, mo, mu, mi, new⟩ := h
    refine ⟨_, (pss_cons (ps_set (i := 2) scMul.nd rfl (Or.inl rfl) (pe_static (pe_glob (v := .ref C) (by rfl) RM.hm rfl) OM.S OM.F (hr.mono (by decide)) OM.b .nil (passes_call (takes_of rfl rfl rfl rfl) (fun _ _ _ _ z => z)) (pa_cons (pv 1) pa_nil))) (pss_one (ps_ret (pe_make RM.M RM.F (hr.mono (by decide)) (by rfl) RM.hm RM.b2 .nil (passes_call (takes_of rfl rfl rfl rfl) (fun _ _ _ _ z => z)) (pa_cons (pe_op op_mulW (pe_fld (pv 0) rfl) (pe_fld (pv 2) rfl)) (pa_cons (pe_op op_mulW (pe_fld (pv 0) rfl) (pe_fld (pv 2) rfl)) pa_nil)))))), ?_⟩
    refine ⟨rfl, _, rfl, _, rfl, .inr ⟨i, rfl, mi.small, fun b H' s1 hb0 hrat => ?_⟩⟩
    dsimp only [gName, tSeq]
    obtain ⟨dxb, hb⟩ := hrat
    have ha' := s1 _ _ ha
    refine ⟨_, rfl, a, C, dxa, _, _, rfl, ha', cl, n1, flds_over o u, _, rfl, b, C, dxb, _, _, rfl, hb, cl, n1, flds_over i 1, _, _, rfl, rfl, md_log mo.small mi.small, ?_⟩
    refine ⟨_, rfl, a, C, dxa, _, _, rfl, ha', cl, n2, flds_under o u, _, rfl, b, C, dxb, _, _, rfl, hb, cl, n2, flds_under i 1, _, _, rfl, rfl, md_log mu.small (by show 1 < 2 ^ 4000; exact Nat.one_lt_two_pow (by decide)), fun x dx hx hdx ne => ?_⟩
    show spRatP C [V.ref x, V.int (o * i), V.int (u * 1)] _ _ _
    rw [Int.mul_one]
    exact makesP (t := o * i) (b := u) (by omega) (Nat.lt_trans (md_mul mo mi) (Nat.pow_lt_pow_right (by decide) (by decide))) mu.small hx hdx ne fun H2 s2 r => new x H2 (s1.trans s2) (s1.free hx) r
end
end Lw
namespace Lw
open PySem PySem.Spec PyProof.Rows L2
open SX PySem.NumText TL LamX ClX StX
abbrev sSpo : Stmt := top 73
abbrev sLof : Stmt := inClass (top 69) 2
abbrev sSti : Stmt := inClass (top 69) 0
/-! ### a setting's parts -/
structure Gst where
  a : Int
  b : Int
  f : Int
def Gst.Ok (g : Gst) : Prop := 1 ≤ g.a ∧ g.a ≤ g.b ∧ g.b ≤ 60 ∧ 0 ≤ g.f ∧ g.f ≤ 10 ^ 30
/-- a crew with good speeds, few workers -/
def CwS (CC : Addr) (H : Hp) (c : Addr) (ps : List (Str × Int)) : Prop := CwAt CC H c ps ∧ ps.length ≤ 8 ∧ (∀ q ∈ ps, nameT q.1 = true ∧ 1 ≤ q.2 ∧ q.2 ≤ 60) ∧ (ps.map (·.1)).Nodup
theorem CwS.on {CC : Addr} {H H' : Hp} {c : Addr} {ps : List (Str × Int)} (h : CwS CC H c ps) (s : Same H H') : CwS CC H' c ps := by
  obtain ⟨h1, h2⟩ := h
  exact ⟨h1.same s, h2⟩
def mnOf (ps : List (Str × Int)) : Int := (ps.map (·.2)).foldl min 60
def mxOf (ps : List (Str × Int)) : Int := (ps.map (·.2)).foldl max 1
def aheadOf (ps : List (Str × Int)) (g : Gst) (rest place size : Int) : Int := place * g.f * mxOf ps - g.b * size - g.a * (rest - size)
def byOf (ps : List (Str × Int)) (g : Gst) (rest place size : Int) : Int := if aheadOf ps g rest place size ≤ 0 then (ps.map (·.2)).sum else mxOf ps
/-- late of a chunk: over and under -/
def ltO (ps : List (Str × Int)) (g : Gst) (rest place size : Int) : Int := (g.f * mnOf ps + g.b * size) * byOf ps g rest place size + aheadOf ps g rest place size * mnOf ps
def ltU (ps : List (Str × Int)) (g : Gst) (rest place size : Int) : Int := mnOf ps * byOf ps g rest place size
/-- the class of the settings -/
structure StgC (K : PySem.W.Frag) (mg : Str → Option Value) (CS : Addr) : Prop where
  cl : Cls K CS
  hm : mg "Setting" = some (.ref CS)
  n1 : NoAttr K CS "crew"
  n2 : NoAttr K CS "least"
  n3 : NoAttr K CS "most"
  n4 : NoAttr K CS "fee"
  n5 : NoAttr K CS "lowest"
/-- what late_of reads of the setting -/
def StR (CS CC : Addr) (H : Hp) (s : Addr) (ps : List (Str × Int)) (g : Gst) : Prop := ∃ dx fs c, H s = some (.ins CS dx fs) ∧ fs.lookup ("crew" : Str) = some (.ref c) ∧ fs.lookup ("least" : Str) = some (.int g.a) ∧ fs.lookup ("most" : Str) = some (.int g.b) ∧ fs.lookup ("fee" : Str) = some (.int g.f) ∧ CwS CC H c ps
def spSpo (K : PySem.W.Frag) (DR DH : Addr) : Sp := fun vs H Q E => ∃ x y, vs = [x, y] ∧ Anyv K H x ∧ Anyv K H y ∧
  ((∀ i, x = .int i → i < 1) → Bf DR "value" x H E) ∧ ((∃ i, x = .int i ∧ 1 ≤ i) → (∀ i, y = .int i → i < 0) → Bf DH "part" (.str (Str.ofString "place")) H E) ∧
  ((∃ i, x = .int i ∧ 1 ≤ i) → (∃ i, y = .int i ∧ 0 ≤ i) → Q .non H)
theorem Bf.leaf {D : Addr} {f : Str} {x : V} {H : Hp} {E : XK} (h : Bf D f x H E) : ∀ d fs, H d = none → fs.lookup f = some x → E (.ref D) (some d) (upd H d (.xd fs)) := fun d fs hd e => h d fs H (Same.refl _) hd e
theorem asg_cut {te : TE} {i : Nat} {D : Ends} {σ : L2.St} {H : Hp} (Pj : V → Hp → Prop) (rest : ∀ x H', Pj x H' → D.nx (σ.set i (some x)) H') (val : ∀ QQ : VK, (∀ x H', Pj x H' → QQ x H') → te σ H QQ) : tAsg te (gName i) D σ H := val _ fun x H' h => rest x H' h
theorem fold_min {m : Int} : ∀ {l : List Int} {a : Int}, (∀ x ∈ l, m ≤ x) → m ≤ a → (m ∈ l ∨ m = a) → l.foldl min a = m
  | [], a, _, _, e => (e.resolve_left (by simp)).symm
  | x :: r, a, h, ha, e => by
    have hx := h x List.mem_cons_self
    refine fold_min (l := r) (a := min a x) (fun y hy => h y (List.mem_cons_of_mem _ hy)) (by omega) ?_
    rcases e with e | e
    · rcases List.mem_cons.mp e with e | e
      · exact .inr (by omega)
      · exact .inl e
    · exact .inr (by omega)
theorem fold_max {m : Int} : ∀ {l : List Int} {a : Int}, (∀ x ∈ l, x ≤ m) → a ≤ m → (m ∈ l ∨ m = a) → l.foldl max a = m
  | [], a, _, _, e => (e.resolve_left (by simp)).symm
  | x :: r, a, h, ha, e => by
    have hx := h x List.mem_cons_self
    refine fold_max (l := r) (a := max a x) (fun y hy => h y (List.mem_cons_of_mem _ hy)) (by omega) ?_
    rcases e with e | e
    · rcases List.mem_cons.mp e with e | e
      · exact .inr (by omega)
      · exact .inl e
    · exact .inr (by omega)
theorem sum_bd : ∀ {l : List Int}, (∀ x ∈ l, 1 ≤ x ∧ x ≤ 60) → (l.length : Int) ≤ l.sum ∧ l.sum ≤ 60 * l.length
  | [], _ => by simp
  | x :: r, h => by
    have h1 := h x List.mem_cons_self
    have h2 := sum_bd (l := r) fun y hy => h y (List.mem_cons_of_mem _ hy)
    rw [List.sum_cons, List.length_cons]
    omega
/-- what a crew keeps of its speeds -/
theorem CwS.keep {CC : Addr} {H : Hp} {c : Addr} {ps : List (Str × Int)} (h : CwS CC H c ps) : ∃ (dc w p d : Addr) (sl fa : Str), H c = some (.ins CC dc (crF w (ps.map (·.2)).sum (mnOf ps) (mxOf ps) sl fa p d)) ∧
    1 ≤ mnOf ps ∧ mnOf ps ≤ mxOf ps ∧ mxOf ps ≤ 60 ∧ mxOf ps ≤ (ps.map (·.2)).sum ∧ (ps.map (·.2)).sum ≤ 480 ∧ (∀ q ∈ ps, mnOf ps ≤ q.2 ∧ q.2 ≤ mxOf ps) := by
  obtain ⟨⟨dc, w, p, d, ts, mn, mx, sl, fa, hc, _, _, _, _, bd, ⟨i, hi, _⟩, ⟨j, hj, _⟩⟩, l8, gq, _⟩ := h
  have mi := List.mem_of_getElem? hi
  have mj := List.mem_of_getElem? hj
  have e1 : mnOf ps = mn := fold_min (fun x hx => by obtain ⟨q, hq, rfl⟩ := List.mem_map.mp hx; exact (bd q hq).1) (gq _ mi).2.2 (.inl (List.mem_map.mpr ⟨_, mi, rfl⟩))
  have e2 : mxOf ps = mx := fold_max (fun x hx => by obtain ⟨q, hq, rfl⟩ := List.mem_map.mp hx; exact (bd q hq).2) (gq _ mj).2.1 (.inl (List.mem_map.mpr ⟨_, mj, rfl⟩))
  have sb := sum_bd (l := ps.map (·.2)) fun x hx => by obtain ⟨q, hq, rfl⟩ := List.mem_map.mp hx; exact (gq q hq).2
  rw [List.length_map] at sb
  have g1 := (gq _ mi).2
  have g2 := (gq _ mj).2
  have b1 := bd _ mi
  refine ⟨dc, w, p, d, sl, fa, by rw [e1, e2]; exact hc, by rw [e1]; exact g1.1, by rw [e1, e2]; omega, by rw [e2]; exact g2.2, ?_, by omega, fun q hq => by rw [e1, e2]; exact bd q hq⟩
  rw [e2]
  have : ∀ {l : List Int}, (∀ x ∈ l, 1 ≤ x) → mx ∈ l → mx ≤ l.sum := by
    intro l
    induction l with
    | nil => intro _ z; cases z
    | cons x r ih =>
      intro h z
      have s0 : 0 ≤ r.sum := by
        clear ih z
        induction r with
        | nil => exact Int.le_refl _
        | cons y t ih2 =>
          rw [List.sum_cons]
          have := h y (by simp)
          have := ih2 fun w hw => h w (by rcases List.mem_cons.mp hw with e | e <;> simp [e])
          omega
      have hx := h x List.mem_cons_self
      rw [List.sum_cons]
      rcases List.mem_cons.mp z with e | e
      · omega
      · have := ih (fun w hw => h w (List.mem_cons_of_mem _ hw)) e
        omega
  exact this (fun x hx => by obtain ⟨q, hq, rfl⟩ := List.mem_map.mp hx; exact (gq q hq).2.1) (List.mem_map.mpr ⟨_, mj, rfl⟩)
/-- late's numbers are good -/
theorem mul_bd {i j : Int} {m n : Nat} (h1 : i.natAbs ≤ m) (h2 : j.natAbs ≤ n) : (i * j).natAbs ≤ m * n := by
  rw [Int.natAbs_mul]
  exact Nat.mul_le_mul h1 h2
section
variable {P : Program} {w : World} {K : PySem.W.Frag} {mg : Str → Option Value} {base : Heap}
theorem scSpo : FnScope ["rest", "place"] ["rest", "place"] (C8.fnScope sSpo) := C8.fnScope_by (by decide +kernel)
theorem fn_spo {DR DH f fR fH : Addr} {fd fdR fdH : FuncData} (F : C8.Def K mg "check_spot" sSpo f fd) (ER : Err1 "BadRest" "value" P w K mg base DR fR fdR) (EH : Err1 "BadChunks" "part" P w K mg base DH fH fdH) (DI : C8.Cal P w K mg base 1 "is_integer" (spIsInt K) []) : FnOk P w K mg base (L2.CX P w) 4 f fd ["rest", "place"] (spSpo K DR DH) := by
  obtain ⟨oc, od, dV, kV, doc, pm, an, cdv, ct, osl, rfl, lk, hcd⟩ := F.fn.ex
  refine fn_of lk hcd scSpo (fun vs H Q E h => ?_) fun A outer s H vs Q E hr h => ?_
  · obtain ⟨x, y, rfl, _⟩ := h
    rfl
  · obtain ⟨x, y, rfl, ax, ay, k1, k2, k3⟩ := h
    have tk : Takes (cxOf (L2.CX P w) P w K mg base ["rest", "place"] "check_spot" (C8.fnScope sSpo) f cdv A outer s H E) (fun cls d _ H' => E cls d H') := takes_of rfl rfl rfl rfl
    refine ⟨_, (pss_cons (ps_if (PW.pt (pw_or (pt_not (pt_val (C8.pe_c DI hr (by decide) (by rfl) (pa_cons (pv 0) pa_nil)))) (pw_or1 (pt_cmpR op_lt (pv 0) pe_int (nomark _))))) (pss_one (ps_bad1 (x := "BadRest") rfl tk ER.T ER.iC ER.tI ER.F hr ER.b (by rfl) ER.hm (pv 0))) pss_nil)
  (pss_one (ps_if (PW.pt (pw_or (pt_not (pt_val (C8.pe_c DI hr (by decide) (by rfl) (pa_cons (pv 1) pa_nil)))) (pw_or1 (pt_cmpR op_lt (pv 1) pe_int (nomark _))))) (pss_one (ps_bad1 (x := "BadChunks") rfl tk EH.T EH.iC EH.tI EH.F hr EH.b (by rfl) EH.hm pe_str)) pss_nil))), ?_⟩
    have int_of : ∀ {v : V}, isI v = true → ∃ i, v = .int i := fun {v} e => by cases v <;> first | exact ⟨_, rfl⟩ | (cases e)
    have no_int : ∀ {v : V} {i : Int}, isI v = false → v = .int i → False := fun e z => by rw [z] at e; cases e
    refine ⟨_, rfl, x, rfl, ax, _, rfl, ?_⟩
    cases hx : isI x with
    | false => exact iteT ⟨_, rfl, bad_leaf1 (Bf.leaf (k1 fun i e => (no_int hx e).elim))⟩
    | true =>
      obtain ⟨i, rfl⟩ := int_of hx
      refine iteF ⟨_, rfl, _, _, rfl, rfl, _, rfl, ?_⟩
      by_cases ci : i < 1
      · exact iteT' (decide_eq_true ci) ⟨_, rfl, bad_leaf1 (Bf.leaf (k1 fun j e => by cases e; exact ci))⟩
      refine iteF' (decide_eq_false ci) ?_
      dsimp only [tNext]
      have ok : ∃ j, V.int i = .int j ∧ 1 ≤ j := ⟨i, rfl, by omega⟩
      refine ⟨_, rfl, y, rfl, ay, _, rfl, ?_⟩
      cases hy : isI y with
      | false => exact iteT (bad_leaf1 (Bf.leaf (k2 ok fun i e => (no_int hy e).elim)))
      | true =>
        obtain ⟨j, rfl⟩ := int_of hy
        refine iteF ⟨_, rfl, _, _, rfl, rfl, _, rfl, ?_⟩
        by_cases cj : j < 0
        · exact iteT' (decide_eq_true cj) (bad_leaf1 (Bf.leaf (k2 ok fun i e => by cases e; exact cj)))
        exact iteF' (decide_eq_false cj) (k3 ok ⟨j, rfl, by omega⟩)
/-- the spot of a chunk: rest, place, size as any values -/
def inR (x : V) (lo : Int) : Bool := match x with
  | .int i => decide (lo ≤ i)
  | _ => false
theorem scLof : FnScope ["self", "rest", "place", "size", "slow", "fast", "ahead", "by"] ["self", "rest", "place", "size"] (C8.fnScope sLof) := C8.fnScope_by (by decide +kernel)
/-- what late_of answers -/
def LofR (RC DR DH DZ : Addr) (ps : List (Str × Int)) (g : Gst) (x y z : V) (H : Hp) (Q : VK) (E : XK) : Prop :=
  ((∀ i, x = .int i → i < 1) → Bf DR "value" x H E) ∧ ((∃ i, x = .int i ∧ 1 ≤ i) → (∀ i, y = .int i → i < 0) → Bf DH "part" (.str (Str.ofString "place")) H E) ∧
  (∀ i j, x = .int i → 1 ≤ i → y = .int j → 0 ≤ j → i ≤ 10 ^ 40 ∧ j ≤ 10 ^ 40 ∧ (inB z 1 i = false → Bf DZ "value" z H E) ∧
    ∀ k, z = .int k → 1 ≤ k → k ≤ i → News RC H Q (ltO ps g i j k) (ltU ps g i j k))
def spLof (K : PySem.W.Frag) (CS CC RC DR DH DZ : Addr) : Sp := fun vs H Q E => ∃ s x y z ps g, vs = [.ref s, x, y, z] ∧ StR CS CC H s ps g ∧ g.Ok ∧ Anyv K H x ∧ Anyv K H y ∧ Anyv K H z ∧ LofR RC DR DH DZ ps g x y z H Q E
theorem fn_lof {CS CC RC DR DH DZ f fK fZ fR : Addr} {fd fdK fdZ fdR : FuncData} {ds : List Value} (F : C8.Fun K "late_of" "Setting.late_of" sLof f fd) (S : StgC K mg CS) (Z : CrC K mg CC)
    (DK : C8.Def K mg "check_spot" sSpo fK fdK) (bK : Binds K fdK ["rest", "place"] []) (FK : FnOk P w K mg base (L2.CX P w) 4 fK fdK ["rest", "place"] (spSpo K DR DH)) (DW : C8.Cal P w K mg base 2 "is_within" (spWithin K) []) (EZ : Err1 "BadSize" "value" P w K mg base DZ fZ fdZ) (RM : RatM P w K mg base RC fR fdR ds) :
    FnOk P w K mg base (L2.CX P w) 5 f fd ["self", "rest", "place", "size"] (spLof K CS CC RC DR DH DZ) := by
  obtain ⟨oc, od, dV, kV, doc, pm, an, cdv, ct, osl, rfl, lk, hcd⟩ := F.ex
  refine fn_of lk hcd scLof (fun vs H Q E h => ?_) fun A outer s H vs Q E hr h => ?_
  · obtain ⟨s, x, y, z, ps, g, rfl, _⟩ := h
    rfl
  · obtain ⟨s0, x, y, z, ps, g, rfl, st, ok, ax, ay, az, k1, k2, k3⟩ := h
    have tk : Takes (cxOf (L2.CX P w) P w K mg base ["self", "rest", "place", "size", "slow", "fast", "ahead", "by"] "Setting.late_of" (C8.fnScope sLof) f cdv A outer s H E) (fun cls d _ H' => E cls d H') := takes_of rfl rfl rfl rfl
    refine ⟨_, (pss_cons (ps_expr (pe_call FK (hr.mono (by decide)) (by rfl) DK.mgf DK.kp bK .nil (passes_call (takes_of rfl rfl rfl rfl) (fun _ _ _ _ z => z)) (pa_cons (pv 1) (pa_cons (pv 2) pa_nil))))
  (pss_cons (ps_if (pt_not (pt_val (C8.pe_c DW hr (by decide) (by rfl) (pa_cons (pv 3) (pa_cons pe_int (pa_cons (pv 1) pa_nil)))))) (pss_one (ps_bad1 (x := "BadSize") rfl tk EZ.T EZ.iC EZ.tI EZ.F hr EZ.b (by rfl) EZ.hm (pv 3))) pss_nil)
  (pss_cons (ps_set (i := 4) scLof.nd rfl (Or.inl rfl) (pe_fldK K rfl (pe_fldK K rfl (pv 0) rfl) rfl))
  (pss_cons (ps_set (i := 5) scLof.nd rfl (Or.inl rfl) (pe_fldK K rfl (pe_fldK K rfl (pv 0) rfl) rfl))
  (pss_cons (ps_set (i := 6) scLof.nd rfl (Or.inl rfl) (pe_op op_sub (pe_op op_sub (pe_op op_mulW (pe_op op_mulW (pv 2) (pe_fldK K rfl (pv 0) rfl)) (pv 5)) (pe_op op_mulW (pe_fldK K rfl (pv 0) rfl) (pv 3))) (pe_op op_mulW (pe_fldK K rfl (pv 0) rfl) (pe_op op_sub (pv 1) (pv 3)))))
  (pss_cons (ps_set (i := 7) scLof.nd rfl (Or.inl rfl) (pe_ifExp (pt_cmpR op_le (pv 6) pe_int (nomark _)) (pe_fldK K rfl (pe_fldK K rfl (pv 0) rfl) rfl) (pv 5)))
  (pss_one (ps_ret (pe_make RM.M RM.F (hr.mono (by decide)) (by rfl) RM.hm RM.b2 .nil (passes_call (takes_of rfl rfl rfl rfl) (fun _ _ _ _ z => z)) (pa_cons (pe_op op_add (pe_op op_mulW (pe_op op_add (pe_op op_mulW (pe_fldK K rfl (pv 0) rfl) (pv 4)) (pe_op op_mulW (pe_fldK K rfl (pv 0) rfl) (pv 3))) (pv 7)) (pe_op op_mulW (pv 6) (pv 4))) (pa_cons (pe_op op_mulW (pv 4) (pv 7)) pa_nil))))))))))), ?_⟩
    obtain ⟨dx, fs, c, hs, lc, la, lb, lf, cw⟩ := st
    obtain ⟨dc, w, p, d, sl, fa, hc, n1, n2, n3, n4, n5, _⟩ := cw.keep
    obtain ⟨o1, o2, o3, o4, o5⟩ := ok
    refine ⟨_, rfl, _, rfl, x, y, rfl, ax, ay, k1, k2, ?_⟩
    rintro ⟨i, rfl, hi⟩ ⟨j, rfl, hj⟩
    obtain ⟨bi, bj, kz, kn⟩ := k3 i j rfl hi rfl hj
    dsimp only [tNext, tSeq]
    refine ⟨_, rfl, _, rfl, z, 1, i, rfl, az, _, rfl, ?_⟩
    cases hz : inB z 1 i with
    | false => exact iteT ⟨_, rfl, bad_leaf1 (Bf.leaf (kz hz))⟩
    | true =>
      obtain ⟨k, rfl, k0, ki⟩ : ∃ k, z = .int k ∧ 1 ≤ k ∧ k ≤ i := by
        unfold inB at hz
        split at hz
        · exact ⟨_, rfl, by simpa using hz⟩
        · cases hz
      have kn := kn k rfl k0 ki
      refine iteF ?_
      dsimp only [tNext, tSeq]
      have sm : ∀ {z : Int} {n : Nat}, z.natAbs ≤ n → n ≤ 10 ^ 100 → Small z := fun h1 h2 => Nat.lt_of_le_of_lt (Nat.le_trans h1 h2) (by decide +kernel)
      have hf : g.f.natAbs ≤ 10 ^ 30 := by omega
      have hmx : (mxOf ps).natAbs ≤ 60 := by omega
      have hmn : (mnOf ps).natAbs ≤ 60 := by omega
      have hb : g.b.natAbs ≤ 60 := by omega
      have ha : g.a.natAbs ≤ 60 := by omega
      have hi4 : i.natAbs ≤ 10 ^ 40 := by omega
      have hj4 : j.natAbs ≤ 10 ^ 40 := by omega
      have hk4 : k.natAbs ≤ 10 ^ 40 := by omega
      have hik : (i - k).natAbs ≤ 10 ^ 40 := by omega
      have hjf := mul_bd hj4 hf
      have hjm := mul_bd hjf hmx
      have hbk := mul_bd hb hk4
      have hai := mul_bd ha hik
      have hah : (aheadOf ps g i j k).natAbs ≤ 10 ^ 73 := by unfold aheadOf; omega
      have hfm := mul_bd hf hmn
      have hfb : (g.f * mnOf ps + g.b * k).natAbs ≤ 10 ^ 43 := by omega
      have hby : 1 ≤ byOf ps g i j k ∧ byOf ps g i j k ≤ 480 := by unfold byOf; split <;> omega
      have hby2 : (byOf ps g i j k).natAbs ≤ 480 := by omega
      have hx1 := mul_bd hfb hby2
      have hx2 := mul_bd hah hmn
      have ho : (ltO ps g i j k).natAbs ≤ 10 ^ 90 := by unfold ltO; omega
      have hu := mul_bd hmn hby2
      have u0 : ltU ps g i j k ≠ 0 := by
        have : 0 < ltU ps g i j k := Int.mul_pos (by omega) (by omega)
        omega
      have so : Small (ltO ps g i j k) := sm ho (by decide +kernel)
      have su : Small (ltU ps g i j k) := sm hu (by decide +kernel)
      have sf : Small g.f := sm hf (by decide +kernel)
      have sj : Small j := sm hj4 (by decide +kernel)
      have sk : Small k := sm hk4 (by decide +kernel)
      have sjf : Small (j * g.f) := sm hjf (by decide +kernel)
      have smx : Small (mxOf ps) := sm hmx (by decide +kernel)
      have smn : Small (mnOf ps) := sm hmn (by decide +kernel)
      have sb : Small g.b := sm hb (by decide +kernel)
      have sa : Small g.a := sm ha (by decide +kernel)
      have sik : Small (i - k) := sm hik (by decide +kernel)
      have sfb : Small (g.f * mnOf ps + g.b * k) := sm hfb (by decide +kernel)
      have sby : Small (byOf ps g i j k) := sm hby2 (by decide +kernel)
      have sah : Small (aheadOf ps g i j k) := sm hah (by decide +kernel)
      refine ⟨_, rfl, s0, CS, dx, fs, _, rfl, hs, S.cl, S.n1, lc, c, CC, dc, _, _, rfl, hc, Z.cl, Z.n3, crF_least, ?_⟩
      dsimp only [gName, tSeq]
      refine ⟨_, rfl, s0, CS, dx, fs, _, rfl, hs, S.cl, S.n1, lc, c, CC, dc, _, _, rfl, hc, Z.cl, Z.n4, crF_great, ?_⟩
      dsimp only [gName, tSeq]
      refine ⟨_, rfl, _, rfl, s0, CS, dx, fs, _, rfl, hs, S.cl, S.n4, lf, _, _, rfl, rfl, (md_log sj sf), _, rfl, _, _, rfl, rfl, (md_log sjf smx), _, rfl, s0, CS, dx, fs, _, rfl, hs, S.cl, S.n3, lb, _, rfl, _, _, rfl, rfl, (md_log sb sk), _, _, rfl, rfl, _, rfl, s0, CS, dx, fs, _, rfl, hs, S.cl, S.n2, la, _, rfl, _, rfl, _, _, rfl, rfl, _, _, rfl, rfl, (md_log sa sik), _, _, rfl, rfl, ?_⟩
      dsimp only [gName]
      refine asg_cut (fun x H' => x = .int (byOf ps g i j k) ∧ H' = H) (fun x H' hx => ?_) (fun QQ go => ?_)
      · obtain ⟨rfl, rfl⟩ := hx
        dsimp only [gName]
        refine ⟨_, rfl, s0, CS, dx, fs, _, rfl, hs, S.cl, S.n4, lf, _, rfl, _, _, rfl, rfl, (md_log sf smn), _, rfl, s0, CS, dx, fs, _, rfl, hs, S.cl, S.n3, lb, _, rfl, _, _, rfl, rfl, (md_log sb sk), _, _, rfl, rfl, _, rfl, _, _, rfl, rfl, (md_log sfb sby), _, rfl, _, rfl, _, _, rfl, rfl, (md_log sah smn), _, _, rfl, rfl, _, rfl, _, rfl, _, _, rfl, rfl, (md_log smn sby), fun x dx' hx hdx ne => ?_⟩
        exact makesP (t := ltO ps g i j k) (b := ltU ps g i j k) u0 so su hx hdx ne fun H2 s2 r => kn x H2 s2 hx r
      · refine ⟨_, rfl, _, _, rfl, rfl, _, rfl, ite2 (fun cc => ?_) (fun cc => ?_)⟩
        · exact ⟨_, rfl, s0, CS, dx, fs, _, rfl, hs, S.cl, S.n1, lc, c, CC, dc, _, _, rfl, hc, Z.cl, Z.n2, crF_speed, go _ _ ⟨by rw [show byOf ps g i j k = (ps.map (·.2)).sum from if_pos (of_decide_eq_true cc)], rfl⟩⟩
        · exact ⟨_, rfl, go _ _ ⟨by rw [show byOf ps g i j k = mxOf ps from if_neg (fun z => cc (decide_eq_true z))], rfl⟩⟩
end
end Lw
namespace Lw
open PySem PySem.Spec PyProof.Rows L2
open SX PySem.NumText TL LamX ClX StX
def stP (c : Addr) (a b f : Int) : List (Str × V) := putF "fee" (.int f) (putF "most" (.int b) (putF "least" (.int a) (putF "crew" (.ref c) [])))
def stF (c : Addr) (a b f : Int) (l : Addr) : List (Str × V) := putF "lowest" (.ref l) (stP c a b f)
section
variable {c l : Addr} {a b f : Int}
theorem stP_crew : (stP c a b f).lookup ("crew" : Str) = some (.ref c) := by
  unfold stP
  rw [lookup_putF, if_neg (by decide +kernel), lookup_putF, if_neg (by decide +kernel), lookup_putF, if_neg (by decide +kernel), lookup_putF, if_pos rfl]
theorem stP_least : (stP c a b f).lookup ("least" : Str) = some (.int a) := by
  unfold stP
  rw [lookup_putF, if_neg (by decide +kernel), lookup_putF, if_neg (by decide +kernel), lookup_putF, if_pos rfl]
theorem stP_most : (stP c a b f).lookup ("most" : Str) = some (.int b) := by
  unfold stP
  rw [lookup_putF, if_neg (by decide +kernel), lookup_putF, if_pos rfl]
theorem stP_fee : (stP c a b f).lookup ("fee" : Str) = some (.int f) := by
  unfold stP
  rw [lookup_putF, if_pos rfl]
theorem stP_no {m : Str} (h1 : m ≠ "crew") (h2 : m ≠ "least") (h3 : m ≠ "most") (h4 : m ≠ "fee") : (stP c a b f).lookup m = none := by
  unfold stP
  rw [lookup_putF, if_neg h4, lookup_putF, if_neg h3, lookup_putF, if_neg h2, lookup_putF, if_neg h1]
  rfl
theorem stF_low : (stF c a b f l).lookup ("lowest" : Str) = some (.ref l) := by
  unfold stF
  rw [lookup_putF, if_pos rfl]
theorem stF_old {m : Str} (h : m ≠ "lowest") : (stF c a b f l).lookup m = (stP c a b f).lookup m := by
  unfold stF
  rw [lookup_putF, if_neg h]
theorem stF_crew : (stF c a b f l).lookup ("crew" : Str) = some (.ref c) := by rw [stF_old (by decide +kernel), stP_crew]
theorem stF_least : (stF c a b f l).lookup ("least" : Str) = some (.int a) := by rw [stF_old (by decide +kernel), stP_least]
theorem stF_most : (stF c a b f l).lookup ("most" : Str) = some (.int b) := by rw [stF_old (by decide +kernel), stP_most]
theorem stF_fee : (stF c a b f l).lookup ("fee" : Str) = some (.int f) := by rw [stF_old (by decide +kernel), stP_fee]
theorem stF_no {m : Str} (h1 : m ≠ "crew") (h2 : m ≠ "least") (h3 : m ≠ "most") (h4 : m ≠ "fee") (h5 : m ≠ "lowest") : (stF c a b f l).lookup m = none := by rw [stF_old h5, stP_no h1 h2 h3 h4]
end
/-- a setting as it stands -/
def StAt (CS CC RC : Addr) (H : Hp) (s : Addr) (ps : List (Str × Int)) (g : Gst) : Prop := ∃ dx c l, H s = some (.ins CS dx (stF c g.a g.b g.f l)) ∧ CwS CC H c ps ∧ RatAt RC H l (lov (ltO ps g 1 0 1) (ltU ps g 1 0 1)) (lun (ltO ps g 1 0 1) (ltU ps g 1 0 1))
theorem StAt.on {CS CC RC : Addr} {H H' : Hp} {s : Addr} {ps : List (Str × Int)} {g : Gst} (h : StAt CS CC RC H s ps g) (k : Same H H') : StAt CS CC RC H' s ps g := by
  obtain ⟨dx, c, l, h1, h2, dl, h3⟩ := h
  exact ⟨dx, c, l, k _ _ h1, h2.on k, dl, k _ _ h3⟩
theorem StAt.r {CS CC RC : Addr} {H : Hp} {s : Addr} {ps : List (Str × Int)} {g : Gst} (h : StAt CS CC RC H s ps g) : StR CS CC H s ps g := by
  obtain ⟨dx, c, l, h1, h2, h3⟩ := h
  exact ⟨dx, _, c, h1, stF_crew, stF_least, stF_most, stF_fee, h2⟩
/-- what stands beside a new instance stays -/
theorem CwS.kpx {CC CS : Addr} {H H' : Hp} {c x dx : Addr} {ps : List (Str × Int)} (h : CwS CC H c ps) (hx : H x = some (.ins CS dx [])) (k : Kp x H H') : CwS CC H' c ps := by
  obtain ⟨h1, h2⟩ := h
  refine ⟨?_, h2⟩
  have nb : ∀ b o, H b = some o → (∀ C d, o ≠ .ins C d []) → H' b = some o := fun b o e n => k b o (fun z => by rw [z, hx] at e; exact n _ _ (Option.some.inj e).symm) e
  obtain ⟨dc, w, p, d, ts, mn, mx, sl, fa, h1, h2, h3, h4, h5, h6⟩ := h1
  refine ⟨dc, w, p, d, ts, mn, mx, sl, fa, nb _ _ h1 (fun C' d' z => ?_), nb _ _ h2 (fun _ _ z => by cases z), nb _ _ h3 (fun _ _ z => by cases z), h4.mono fun b xs e => nb _ _ e (fun _ _ z => by cases z), ?_, h6⟩
  · have e : crF w (ps.map (·.2)).sum mn mx sl fa p d = [] := (HO.ins.inj z).2.2
    have := crF_workers (w := w) (s := (ps.map (·.2)).sum) (mn := mn) (mx := mx) (sl := sl) (fa := fa) (p := p) (d := d)
    rw [e] at this
    cases this
  · rcases h5 with e | ⟨o, e⟩
    · exact .inl (nb _ _ e (fun _ _ z => by cases z))
    · exact .inr ⟨o, nb _ _ e (fun _ _ z => by cases z)⟩
/-- what Setting(..) comes to -/
def MkS (K : PySem.W.Frag) (CS CC RC DG DO DF : Addr) (cv va vb vf : V) (H : Hp) (E : XK) (R : Addr → List (Str × Int) → Gst → Prop) : Prop :=
  ∃ t b, TyZ K H cv t ∧ PySem.W.kitOne K t (.ref CC) = some b ∧ (b = false → Bf DG "part" (.str (Str.ofString "crew")) H E) ∧ (b = true → ∃ c ps, cv = .ref c ∧ CwS CC H c ps ∧
    (inB va 1 60 = false → Bf DO "value" va H E) ∧ ∀ a, va = .int a → 1 ≤ a → a ≤ 60 → (inB vb a 60 = false → Bf DO "value" vb H E) ∧ ∀ b, vb = .int b → a ≤ b → b ≤ 60 →
      (inB vf 0 (10 ^ 30) = false → Bf DF "value" vf H E) ∧ ∀ f, vf = .int f → 0 ≤ f → f ≤ 10 ^ 30 → R c ps ⟨a, b, f⟩)
def spSti (K : PySem.W.Frag) (CS CC RC DG DO DF : Addr) : Sp := fun vs H Q E => ∃ (x dx : Addr) (cv va vb vf : V), vs = [.ref x, cv, va, vb, vf] ∧ H x = some (.ins CS dx []) ∧ Anyv K H va ∧ Anyv K H vb ∧ Anyv K H vf ∧
  MkS K CS CC RC DG DO DF cv va vb vf H E fun c ps g => ∀ l H', Kp x H H' → H' x = some (.ins CS dx (stF c g.a g.b g.f l)) → CwS CC H' c ps → RatAt RC H' l (lov (ltO ps g 1 0 1) (ltU ps g 1 0 1)) (lun (ltO ps g 1 0 1) (ltU ps g 1 0 1)) → Q .non H'
section
variable {P : Program} {w : World} {K : PySem.W.Frag} {mg : Str → Option Value} {base : Heap}
theorem scSti : FnScope ["self", "crew", "least", "most", "fee"] ["self", "crew", "least", "most", "fee"] (C8.fnScope sSti) := C8.fnScope_by (by decide +kernel)
theorem fn_sti {CS CC RC DR DH DZ DG DO DF f fG fO fF : Addr} {fd fdG fdO fdF : FuncData} (F : C8.Fun K "__init__" "Setting.__init__" sSti f fd) (T : TxtC mg) (S : StgC K mg CS) (hCC : mg "Crew" = some (.ref CC)) (hGC : ∃ t, mg "GREATEST_COST" = some (.int 60 t)) (hGF : ∃ t, mg "GREATEST_FEE" = some (.int (10 ^ 30) t))
    (DW : C8.Cal P w K mg base 2 "is_within" (spWithin K) []) (EG : Err1 "BadSetting" "part" P w K mg base DG fG fdG) (EO : Err1 "BadCost" "value" P w K mg base DO fO fdO) (EF : Err1 "BadFee" "value" P w K mg base DF fF fdF) (ML : MetX P w K mg base 5 CS "late_of" (spLof K CS CC RC DR DH DZ)) :
    FnOk P w K mg base (L2.CX P w) 6 f fd ["self", "crew", "least", "most", "fee"] (spSti K CS CC RC DG DO DF) := by
  obtain ⟨oc, od, dV, kV, doc, pm, an, cdv, ct, osl, rfl, lk, hcd⟩ := F.ex
  obtain ⟨tgc, hGC⟩ := hGC
  obtain ⟨tgf, hGF⟩ := hGF
  have cl := S.cl
  refine fn_of lk hcd scSti (fun vs H Q E h => ?_) fun A outer s H vs Q E hr h => ?_
  · obtain ⟨x, dx, cv, va, vb, vf, rfl, _⟩ := h
    rfl
  · obtain ⟨x, dx, cv, va, vb, vf, rfl, hx, aa, ab, af, t, bb, ty, hk, k1, k2⟩ := h
    have tk : Takes (cxOf (L2.CX P w) P w K mg base ["self", "crew", "least", "most", "fee"] "Setting.__init__" (C8.fnScope sSti) f cdv A outer s H E) (fun cls d _ H' => E cls d H') := takes_of rfl rfl rfl rfl
    refine ⟨_, (pss_cons (ps_if (pt_not (pt_val (pe_callB call_isz (by rfl) T.n_isinstance (by decide +kernel) (pa_cons (pv 1) (pa_cons (pe_glob (v := .ref CC) (by rfl) hCC rfl) pa_nil))))) (pss_one (ps_bad1 (x := "BadSetting") rfl tk EG.T EG.iC EG.tI EG.F hr EG.b (by rfl) EG.hm pe_str)) pss_nil)
  (pss_cons (ps_if (pt_not (pt_val (C8.pe_c DW hr (by decide) (by rfl) (pa_cons (pv 2) (pa_cons pe_int (pa_cons (pe_glob (v := .int 60) rfl hGC ⟨_, rfl⟩) pa_nil)))))) (pss_one (ps_bad1 (x := "BadCost") rfl tk EO.T EO.iC EO.tI EO.F hr EO.b (by rfl) EO.hm (pv 2))) pss_nil)
  (pss_cons (ps_if (pt_not (pt_val (C8.pe_c DW hr (by decide) (by rfl) (pa_cons (pv 3) (pa_cons (pv 2) (pa_cons (pe_glob (v := .int 60) rfl hGC ⟨_, rfl⟩) pa_nil)))))) (pss_one (ps_bad1 (x := "BadCost") rfl tk EO.T EO.iC EO.tI EO.F hr EO.b (by rfl) EO.hm (pv 3))) pss_nil)
  (pss_cons (ps_if (pt_not (pt_val (C8.pe_c DW hr (by decide) (by rfl) (pa_cons (pv 4) (pa_cons pe_int (pa_cons (pe_glob (v := .int (10 ^ 30)) rfl hGF ⟨_, rfl⟩) pa_nil)))))) (pss_one (ps_bad1 (x := "BadFee") rfl tk EF.T EF.iC EF.tI EF.F hr EF.b (by rfl) EF.hm (pv 4))) pss_nil)
  (pss_cons (ps_fld (pv 0) (pv 1) rfl)
  (pss_cons (ps_fld (pv 0) (pv 2) rfl)
  (pss_cons (ps_fld (pv 0) (pv 3) rfl)
  (pss_cons (ps_fld (pv 0) (pv 4) rfl)
  (pss_one (ps_fld (pv 0) (pe_mx (pv 0) cl ML hr (by decide) (passes_call (takes_of rfl rfl rfl rfl) (fun _ _ _ _ z => z)) (pa_cons pe_int (pa_cons pe_int (pa_cons pe_int pa_nil)))) rfl)))))))))), ?_⟩
    have within : ∀ {v : V} {lo hi : Int}, inB v lo hi = true → ∃ i, v = .int i ∧ lo ≤ i ∧ i ≤ hi := fun {v lo hi} h => by
      unfold inB at h
      split at h
      · exact ⟨_, rfl, by simpa using h⟩
      · cases h
    refine ⟨_, rfl, _, .ref CC, t, .ref CC, bb, rfl, .own CC, ty, hk, _, rfl, ?_⟩
    cases bb with
    | false => exact iteT (bad_leaf1 (Bf.leaf (k1 rfl)))
    | true =>
      obtain ⟨c, ps, rfl, cw, ka, k3⟩ := k2 rfl
      refine iteF ?_
      dsimp only [tNext, tSeq]
      refine ⟨_, rfl, va, 1, 60, rfl, aa, _, rfl, ?_⟩
      cases ha : inB va 1 60 with
      | false => exact iteT ⟨_, rfl, bad_leaf1 (Bf.leaf (ka ha))⟩
      | true =>
        obtain ⟨a, rfl, a1, a2⟩ := within ha
        obtain ⟨kb, k4⟩ := k3 a rfl a1 a2
        refine iteF ?_
        dsimp only [tNext, tSeq]
        refine ⟨_, rfl, _, rfl, vb, a, 60, rfl, ab, _, rfl, ?_⟩
        cases hb : inB vb a 60 with
        | false => exact iteT ⟨_, rfl, bad_leaf1 (Bf.leaf (kb hb))⟩
        | true =>
          obtain ⟨b, rfl, b1, b2⟩ := within hb
          obtain ⟨kf, k5⟩ := k4 b rfl b1 b2
          refine iteF ?_
          dsimp only [tNext, tSeq]
          refine ⟨_, rfl, vf, 0, 10 ^ 30, rfl, af, _, rfl, ?_⟩
          cases hf : inB vf 0 (10 ^ 30) with
          | false => exact iteT ⟨_, rfl, bad_leaf1 (Bf.leaf (kf hf))⟩
          | true =>
            obtain ⟨f0, rfl, f1, f2⟩ := within hf
            have k6 := k5 f0 rfl f1 f2
            refine iteF ?_
            dsimp only [tNext, tSeq]
            refine ⟨_, rfl, _, rfl, x, CS, dx, _, rfl, hx, S.cl, S.n1, (by show 0 < 1000; decide), ?_⟩
            refine ⟨_, rfl, _, rfl, x, CS, dx, _, rfl, upd_same, S.cl, S.n2, (by show 1 < 1000; decide), ?_⟩
            refine ⟨_, rfl, _, rfl, x, CS, dx, _, rfl, upd_same, S.cl, S.n3, (by show 2 < 1000; decide), ?_⟩
            refine ⟨_, rfl, _, rfl, x, CS, dx, _, rfl, upd_same, S.cl, S.n4, (by show 3 < 1000; decide), ?_⟩
            rw [upd_upd, upd_upd, upd_upd, show putF "fee" (V.int f0) (putF "most" (V.int b) (putF "least" (V.int a) (putF "crew" (V.ref c) []))) = stP c a b f0 from rfl]
            have kp4 : Kp x H (upd H x (.ins CS dx (stP c a b f0))) := fun p o hb e => by rw [upd_ne hb]; exact e
            have hx4 : upd H x (.ins CS dx (stP c a b f0)) x = some (.ins CS dx (stP c a b f0)) := upd_same
            generalize upd H x (.ins CS dx (stP c a b f0)) = H4 at kp4 hx4 ⊢
            have cw4 := cw.kpx hx kp4
            refine ⟨_, rfl, x, dx, _, rfl, hx4, stP_no (by decide +kernel) (by decide +kernel) (by decide +kernel) (by decide +kernel), x, .int 1, .int 0, .int 1, ps, ⟨a, b, f0⟩, rfl, ⟨dx, _, c, hx4, stP_crew, stP_least, stP_most, stP_fee, cw4⟩, ⟨a1, b1, b2, f1, f2⟩, .int _, .int _, .int _, fun h => absurd (h 1 rfl) (by decide), fun _ h => absurd (h 0 rfl) (by decide), ?_⟩
            rintro i j e1 h1 e2 h2
            cases e1
            cases e2
            refine ⟨by decide, by decide, fun z => (by cases z), ?_⟩
            rintro k e3 h3 h4
            cases e3
            intro l H5 s5 fl rt
            have hx5 := s5 _ _ hx4
            refine ⟨_, rfl, x, CS, dx, _, rfl, hx5, S.cl, S.n5, ?_, ?_⟩
            · refine Nat.lt_of_le_of_lt (Nat.le_trans (pF_len _ _ _) (Nat.succ_le_succ (Nat.le_trans (pF_len _ _ _) (Nat.succ_le_succ (Nat.le_trans (pF_len _ _ _) (Nat.succ_le_succ (pF_len _ _ _))))))) (by show 4 < 1000; decide)
            have kp6 : Kp x H5 (upd H5 x (.ins CS dx (stF c a b f0 l))) := fun p o hb e => by rw [upd_ne hb]; exact e
            have nl : l ≠ x := fun z => by rw [z, hx4] at fl; cases fl
            obtain ⟨dl, hl⟩ := rt
            have kp := kp4.trans ((Kp.of s5).trans kp6)
            exact k6 l _ kp upd_same (cw.kpx hx kp) ⟨dl, kp6 _ _ nl hl⟩
end
end Lw
namespace Lw
open PySem PySem.Spec PyProof.Rows L2
open SX PySem.NumText TL LamX ClX StX
abbrev sSth : Stmt := inClass (top 69) 4
theorem MkS.of {K : PySem.W.Frag} {CS CC RC DG DO DF : Addr} {cv va vb vf : V} {H H' : Hp} {E : XK} {R R' : Addr → List (Str × Int) → Gst → Prop} (h : MkS K CS CC RC DG DO DF cv va vb vf H E R) (s : Same H H') (r : ∀ c ps g, R c ps g → R' c ps g) : MkS K CS CC RC DG DO DF cv va vb vf H' E R' := by
  obtain ⟨t, b, h1, h2, h3, h4⟩ := h
  refine ⟨t, b, Lw.TyZ.same s h1, h2, fun e => (h3 e).of s, fun e => ?_⟩
  obtain ⟨c, ps, e1, cw, k1, k2⟩ := h4 e
  refine ⟨c, ps, e1, cw.on s, fun z => (k1 z).of s, fun a e2 a1 a2 => ?_⟩
  obtain ⟨k3, k4⟩ := k2 a e2 a1 a2
  refine ⟨fun z => (k3 z).of s, fun b e3 b1 b2 => ?_⟩
  obtain ⟨k5, k6⟩ := k4 b e3 b1 b2
  exact ⟨fun z => (k5 z).of s, fun f e4 f1 f2 => r _ _ _ (k6 f e4 f1 f2)⟩
/-- Setting(..) of four values -/
def SetV (K : PySem.W.Frag) (CS CC RC DG DO DF : Addr) (cv va vb vf : V) (H : Hp) (Q : VK) (E : XK) : Prop := Anyv K H va ∧ Anyv K H vb ∧ Anyv K H vf ∧
  MkS K CS CC RC DG DO DF cv va vb vf H E fun _ ps g => ∀ s H', Same H H' → H s = none → StAt CS CC RC H' s ps g → Q (.ref s) H'
theorem SetV.make {K : PySem.W.Frag} {CS CC RC DG DO DF : Addr} {cv va vb vf : V} {H : Hp} {Q : VK} {E : XK} (h : SetV K CS CC RC DG DO DF cv va vb vf H Q E) (x dx : Addr) (hx : H x = none) (hdx : H dx = none) (ne : dx ≠ x) :
    spSti K CS CC RC DG DO DF [.ref x, cv, va, vb, vf] (upd (upd H dx (.own x)) x (.ins CS dx [])) (fun v H2 => v = .non ∧ Q (.ref x) H2) E := by
  obtain ⟨h1, h2, h3, h4⟩ := h
  have s1 : Same H (upd H dx (.own x)) := same_new hdx
  have hx1 : upd H dx (.own x) x = none := by rw [upd_ne ne.symm]; exact hx
  have s2 := s1.trans (same_new (o := HO.ins CS dx []) hx1)
  refine ⟨x, dx, cv, va, vb, vf, rfl, upd_same, Lw.Anyv.same s2 h1, Lw.Anyv.same s2 h2, Lw.Anyv.same s2 h3, h4.of s2 fun c ps g k l H' kp hx' cw rt => ⟨rfl, k x H' (fun b o e => kp _ _ (ne_of_none e hx) (s2 _ _ e)) hx ⟨dx, c, l, hx', cw, rt⟩⟩⟩
/-- Setting, ready to be made -/
structure SetM (P : Program) (w : World) (K : PySem.W.Frag) (mg : Str → Option Value) (base : Heap) (CS CC RC DG DO DF f : Addr) (fd : FuncData) : Prop where
  M : Mk K CS f
  F : FnOk P w K mg base (L2.CX P w) 6 f fd ["self", "crew", "least", "most", "fee"] (spSti K CS CC RC DG DO DF)
  hm : mg "Setting" = some (.ref CS)
  b4 : Binds K fd ["self", "crew", "least", "most", "fee"] []
/-- the first of the pair that straight tells -/
def sxO (ps : List (Str × Int)) (g : Gst) : Int := lov g.b (mnOf ps) * lun (g.b - g.a) (ps.map (·.2)).sum - lov (g.b - g.a) (ps.map (·.2)).sum * lun g.b (mnOf ps)
def sxU (ps : List (Str × Int)) (g : Gst) : Int := lun g.b (mnOf ps) * lun (g.b - g.a) (ps.map (·.2)).sum
def spSth (K : PySem.W.Frag) (CS CC RC DG : Addr) : Sp := fun vs H Q E => ∃ s ps g, vs = [.ref s] ∧ StAt CS CC RC H s ps g ∧ g.Ok ∧ (0 < g.f → Bf DG "part" (.str (Str.ofString "fee")) H E) ∧
  (g.f = 0 → ∀ q x y H', Same H H' → H q = none → H' q = some (.tup [.ref x, .ref y]) → RatAt RC H' x (lov (sxO ps g) (sxU ps g)) (lun (sxO ps g) (sxU ps g)) → RatAt RC H' y (lov g.a (ps.map (·.2)).sum) (lun g.a (ps.map (·.2)).sum) → Q (.ref q) H')
/-- the ratios' own - -/
structure RtS (P : Program) (w : World) (K : PySem.W.Frag) (mg : Str → Option Value) (base : Heap) (RC : Addr) : Prop where
  MS : MetX P w K mg base 8 RC (PySem.dunder "sub") (spSubP RC)
  first : PySem.W.selfFirst K RC = true
theorem sm_of {z : Int} {n : Nat} (h1 : z.natAbs ≤ n) (h2 : n ≤ 10 ^ 100) : Small z := Nat.lt_of_le_of_lt (Nat.le_trans h1 h2) (by decide +kernel)
theorem md_of {z : Int} {n : Nat} (h1 : z.natAbs ≤ n) (h2 : n ≤ 10 ^ 100) : Md z := Nat.lt_of_le_of_lt (Nat.le_trans h1 h2) (by decide +kernel)
section
variable {P : Program} {w : World} {K : PySem.W.Frag} {mg : Str → Option Value} {base : Heap} {CS CC RC DG DO DF fS : Addr} {fdS : FuncData}
theorem scSth : FnScope ["self"] ["self"] (C8.fnScope sSth) := C8.fnScope_by (by decide +kernel)
end
end Lw
namespace Lw
open PySem PySem.Spec PyProof.Rows L2
open SX PySem.NumText TL LamX ClX StX
set_option pp.maxSteps 900
abbrev sCks : Stmt := top 74
/-! ### the worths of chunks -/
abbrev smOf (ps : List (Str × Int)) : Int := (ps.map (·.2)).sum
def unO (ps : List (Str × Int)) : Int := mnOf ps * mxOf ps * smOf ps
def wAh (ps : List (Str × Int)) (g : Gst) (rest place size : Int) : Int := g.f * mxOf ps * place - g.b * size - g.a * (rest - size)
def wth (ps : List (Str × Int)) (g : Gst) (rest place size : Int) : Int := g.f * unO ps + g.b * mxOf ps * smOf ps * size + wAh ps g rest place size * (if wAh ps g rest place size ≤ 0 then mnOf ps * mxOf ps else mnOf ps * smOf ps)
def stB (ps : List (Str × Int)) (g : Gst) : Int := g.b * mxOf ps * smOf ps - (g.b - g.a) * mnOf ps * mxOf ps
def stR (ps : List (Str × Int)) (g : Gst) : Int := g.a * mnOf ps * mxOf ps
def wths (ps : List (Str × Int)) (g : Gst) (ns : List Int) : List Int := (List.range ns.length).map fun i => wth ps g (ns.drop i).sum i (ns.getD i 0)
/-- what is told of a crew for reckoning -/
structure CwN (ps : List (Str × Int)) : Prop where
  n1 : 1 ≤ mnOf ps
  n2 : mnOf ps ≤ mxOf ps
  n3 : mxOf ps ≤ 60
  n4 : mxOf ps ≤ smOf ps
  n5 : smOf ps ≤ 480
theorem CwS.num {CC : Addr} {H : Hp} {c : Addr} {ps : List (Str × Int)} (h : CwS CC H c ps) : CwN ps := by
  obtain ⟨_, _, _, _, _, _, _, n1, n2, n3, n4, n5, _⟩ := h.keep
  exact ⟨n1, n2, n3, n4, n5⟩
theorem StAt.num {CS CC RC : Addr} {H : Hp} {s : Addr} {ps : List (Str × Int)} {g : Gst} (h : StAt CS CC RC H s ps g) : CwN ps := by
  obtain ⟨_, _, _, _, h2, _⟩ := h
  exact h2.num
theorem CwN.un {ps : List (Str × Int)} (h : CwN ps) : 1 ≤ unO ps ∧ unO ps ≤ 1728000 := by
  obtain ⟨n1, n2, n3, n4, n5⟩ := h
  unfold unO
  have a : 1 ≤ mnOf ps * mxOf ps := Int.mul_pos (by omega) (by omega)
  have b : mnOf ps * mxOf ps ≤ 60 * 60 := Int.mul_le_mul (by omega) n3 (by omega) (by omega)
  exact ⟨Int.mul_pos (by omega) (by omega), Int.le_trans (Int.mul_le_mul b n5 (by omega) (by omega)) (by decide)⟩
/-- the ratios' own -, *, == -/
structure RtK (P : Program) (w : World) (K : PySem.W.Frag) (mg : Str → Option Value) (base : Heap) (RC : Addr) : Prop extends RtS P w K mg base RC where
  MM : MetX P w K mg base 7 RC (PySem.dunder "mul") (spMulP RC)
  rmul : ∃ g : Addr, PySem.W.findIn K (.ref RC) (dunderR "mul") = some (some (.ref g))
  ME : MetX P w K mg base 3 RC "__eq__" (spEqR RC)
  NE : NeC K RC
  I : C8.InsC K RC
def spCkc (HC : Addr) : Sp := fun vs H Q _ => ∃ c dx fs, vs = [.ref c] ∧ H c = some (.ins HC dx fs) ∧ Q .non H
def spCkl (HC CS : Addr) : Sp := fun vs H Q _ => ∃ c s dx fs dy gs, vs = [.ref c, .ref s] ∧ H c = some (.ins HC dx fs) ∧ H s = some (.ins CS dy gs) ∧ Q .non H
/-- a list of chunks that can be reckoned with -/
def ChB (HC : Addr) (H : Hp) (c : Addr) (ns : List Int) : Prop := ChA HC H c ns ∧ SzB ns ∧ ns.length ≤ 5000
theorem ChB.same {HC : Addr} {H H' : Hp} {c : Addr} {ns : List Int} (h : ChB HC H c ns) (s : Same H H') : ChB HC H' c ns := ⟨h.1.same s, h.2⟩
def spCkp (HC CS : Addr) : Sp := fun vs H Q _ => ∃ c s ns dy gs, ∃ k : Nat, vs = [.ref c, .ref s, .int k] ∧ ChB HC H c ns ∧ H s = some (.ins CS dy gs) ∧ k < ns.length ∧ Q .non H
def spUni (CS CC RC : Addr) : Sp := fun vs H Q _ => ∃ s ps g, vs = [.ref s] ∧ StAt CS CC RC H s ps g ∧ Q (.int (unO ps)) H
def spLfo (CS CC RC : Addr) : Sp := fun vs H Q _ => ∃ s ps g, ∃ v : Int, vs = [.int v, .ref s] ∧ StAt CS CC RC H s ps g ∧ v.natAbs ≤ 10 ^ 80 ∧ News RC H Q v (unO ps)
def spLat (HC CS CC RC : Addr) : Sp := fun vs H Q _ => ∃ c s ns ps g, ∃ k : Nat, vs = [.ref c, .ref s, .int k] ∧ ChB HC H c ns ∧ StAt CS CC RC H s ps g ∧ g.Ok ∧ k < ns.length ∧ News RC H Q (ltO ps g (ns.drop k).sum k (ns.getD k 0)) (ltU ps g (ns.drop k).sum k (ns.getD k 0))
theorem rests_get : ∀ (ns : List Int) (a : Int) (i : Nat), i < ns.length → (List.zipWith (fun e s => (a + ns.sum) - e + s) (endsL a ns) ns)[i]? = some (ns.drop i).sum
  | [], _, _, h => by cases h
  | n :: r, a, 0, _ => by
    simp only [endsL, List.zipWith_cons_cons, List.getElem?_cons_zero, List.drop_zero, List.sum_cons]
    congr 1
    omega
  | n :: r, a, i + 1, h => by
    have := rests_get r (a + n) i (by simpa using h)
    simp only [endsL, List.zipWith_cons_cons, List.getElem?_cons_succ, List.drop_succ_cons, List.sum_cons]
    rw [← this]
    congr 3
    funext e s
    omega
theorem rest_at {ns : List Int} {i : Nat} (h : i < ns.length) : (restsL ns)[i]? = some (ns.drop i).sum := by
  have := rests_get ns 0 i h
  rw [Int.zero_add] at this
  exact this
theorem rests_len (ns : List Int) : (restsL ns).length = ns.length := by unfold restsL; rw [List.length_zipWith, endsL_len, Nat.min_self]
theorem sum_nn : ∀ {ns : List Int}, SzB ns → 0 ≤ ns.sum ∧ ns.sum ≤ 10 ^ 30 * ns.length
  | [], _ => by simp
  | n :: r, h => by
    have h1 := h n List.mem_cons_self
    have h2 := sum_nn (ns := r) fun v hv => h v (List.mem_cons_of_mem _ hv)
    rw [List.sum_cons, List.length_cons]
    omega
/-- a chunk's size and the rest at its place -/
theorem at_place {ns : List Int} {k : Nat} (h : SzB ns) (hl : ns.length ≤ 5000) (hk : k < ns.length) : ns[k]? = some (ns.getD k 0) ∧ 1 ≤ ns.getD k 0 ∧ ns.getD k 0 ≤ (ns.drop k).sum ∧ (ns.drop k).sum ≤ 10 ^ 34 := by
  have e : ns[k]? = some (ns.getD k 0) := by
    rw [List.getD_eq_getElem?_getD, List.getElem?_eq_getElem hk]; rfl
  have b := h _ (List.mem_of_getElem? e)
  have d : ns.drop k = ns.getD k 0 :: ns.drop (k + 1) := by
    rw [List.drop_eq_getElem_cons hk]
    rw [List.getElem?_eq_getElem hk] at e
    rw [Option.some.inj e]
  have s2 := sum_nn (ns := ns.drop (k + 1)) fun v hv => h v (List.mem_of_mem_drop hv)
  have l2 : (ns.drop (k + 1)).length ≤ 5000 := by rw [List.length_drop]; omega
  rw [d, List.sum_cons]
  refine ⟨e, b.1, by omega, ?_⟩
  omega
/-- late_of of three good numbers -/
theorem lof_lit {K : PySem.W.Frag} {CS CC RC DR DH DZ : Addr} {s : Addr} {ps : List (Str × Int)} {g : Gst} {H : Hp} {Q : VK} {E : XK} {rest place size : Int} (st : StAt CS CC RC H s ps g) (gok : g.Ok) (h1 : 1 ≤ size) (h2 : size ≤ rest) (h3 : 0 ≤ place) (h4 : rest ≤ 10 ^ 40) (h5 : place ≤ 10 ^ 40)
    (k : News RC H Q (ltO ps g rest place size) (ltU ps g rest place size)) : spLof K CS CC RC DR DH DZ [.ref s, .int rest, .int place, .int size] H Q E := by
  refine ⟨s, .int rest, .int place, .int size, ps, g, rfl, st.r, gok, .int _, .int _, .int _, fun h => absurd (h rest rfl) (by omega), fun _ h => absurd (h place rfl) (by omega), ?_⟩
  rintro i j q1 _ q3 _
  cases q1
  cases q3
  refine ⟨by omega, by omega, fun z => ?_, ?_⟩
  · unfold inB at z
    simp only [Bool.and_eq_false_iff, decide_eq_false_iff_not] at z
    omega
  rintro k q5 _ _
  cases q5
  exact k
theorem atI_nat {α : Type} {xs : List α} {k : Nat} {v : α} (h : xs[k]? = some v) : atI xs (k : Int) = some v := by
  have l := (List.getElem?_eq_some_iff.mp h).1
  unfold atI ixN
  rw [if_pos (by omega), if_pos (by omega)]
  exact h
theorem map_at {ns : List Int} {k : Nat} {v : Int} (h : ns[k]? = some v) : (ns.map V.int)[k]? = some (.int v) := by rw [List.getElem?_map, h]; rfl
section
variable {P : Program} {w : World} {K : PySem.W.Frag} {mg : Str → Option Value} {base : Heap} {HC CS CC RC DM DR DH DZ DG DN : Addr} {mc : Value}
theorem scCks : FnScope ["setting"] ["setting"] (C8.fnScope sCks) := C8.fnScope_by (by decide +kernel)
theorem fn_cks {f fG : Addr} {fd fdG : FuncData} (F : C8.Def K mg "check_setting" sCks f fd) (T : TxtC mg) (I : C8.InsC K CS) (hCS : mg "Setting" = some (.ref CS)) (EG : Err1 "BadSetting" "part" P w K mg base DG fG fdG) : FnOk P w K mg base (L2.CX P w) 3 f fd ["setting"] (spCkc CS) := by
  obtain ⟨oc, od, dV, kV, doc, pm, an, cdv, ct, osl, rfl, lk, hcd⟩ := F.fn.ex
  refine fn_of lk hcd scCks (fun vs H Q E h => ?_) fun A outer s H vs Q E hr h => ?_
  · obtain ⟨c, dx, fs, rfl, _⟩ := h
    rfl
  · obtain ⟨c, dx, fs, rfl, hc, k⟩ := h
    have tk : Takes (cxOf (L2.CX P w) P w K mg base ["setting"] "check_setting" (C8.fnScope sCks) f cdv A outer s H E) (fun cls d _ H' => E cls d H') := takes_of rfl rfl rfl rfl
    refine ⟨_, (pss_one (ps_if (pt_not (pt_val (pe_callB call_isz (by rfl) T.n_isinstance (by decide +kernel) (pa_cons (pv 0) (pa_cons (pe_glob (v := .ref CS) (by rfl) hCS rfl) pa_nil))))) (pss_one (ps_bad1 (x := "BadSetting") rfl tk EG.T EG.iC EG.tI EG.F hr EG.b (by rfl) EG.hm pe_str)) pss_nil)), ?_⟩
    exact ⟨_, rfl, _, .ref CS, .ref CS, .ref CS, true, rfl, .own CS, .x (.base (.ins hc I.cl I.ha I.hn I.htk I.hm)), I.me, _, rfl, iteF k⟩
/-- the two whole numbers of a setting without a fee -/
def spStw (CS CC RC : Addr) : Sp := fun vs H Q _ => ∃ s ps g, vs = [.ref s] ∧ StAt CS CC RC H s ps g ∧ g.Ok ∧ g.f = 0 ∧ ∀ t H', Same H H' → H t = none → H' t = some (.tup [.int (stB ps g), .int (stR ps g)]) → Q (.ref t) H'
theorem lov_whole {u W : Int} (h : 0 < u) : lov (u * W) u = W := by
  unfold lov
  rw [show sg u = 1 from if_pos h, Int.one_mul, Int.natAbs_mul, Nat.gcd_comm, Nat.gcd_mul_right_right, Int.natAbs_of_nonneg (by omega)]
  exact Int.mul_ediv_cancel_left _ (by omega)
theorem st_alg {X Y p1 q1 p2 q2 mn mx sm b d : Int} (hq : q1 * q2 ≠ 0) (h0 : X * (q1 * q2) = (p1 * q2 - p2 * q1) * Y) (h1 : p1 * mn = b * q1) (h2 : p2 * sm = d * q2) : X * (mn * mx * sm) = Y * (b * mx * sm - d * mn * mx) := by
  apply Int.eq_of_mul_eq_mul_left hq
  grind
theorem st_b {ps : List (Str × Int)} {g : Gst} (n : CwN ps) : lov (sxO ps g) (sxU ps g) * unO ps = lun (sxO ps g) (sxU ps g) * stB ps g := by
  obtain ⟨n1, n2, n3, n4, n5⟩ := n
  have z1 : mnOf ps ≠ 0 := by omega
  have z2 : smOf ps ≠ 0 := by omega
  have q0 : lun g.b (mnOf ps) * lun (g.b - g.a) (smOf ps) ≠ 0 := Int.mul_ne_zero (Int.ne_of_gt (lun_pos z1)) (Int.ne_of_gt (lun_pos z2))
  exact st_alg q0 (lov_cross (t := sxO ps g) (b := sxU ps g) q0) (lov_cross (t := g.b) z1) (lov_cross (t := g.b - g.a) z2)
theorem st_r {ps : List (Str × Int)} {g : Gst} (n : CwN ps) : lov g.a (smOf ps) * unO ps = lun g.a (smOf ps) * stR ps g := by
  obtain ⟨n1, n2, n3, n4, n5⟩ := n
  have c := lov_cross (t := g.a) (b := smOf ps) (by omega)
  unfold unO stR
  grind
end
end Lw
namespace Lw
open PySem PySem.Spec PyProof.Rows L2
open SX PySem.NumText TL LamX ClX StX
set_option pp.maxSteps 900
/-- the list of the worths -/
def spPdw (HC CS CC RC : Addr) : Sp := fun vs H Q _ => ∃ c s ns ps g, vs = [.ref c, .ref s] ∧ ChB HC H c ns ∧ StAt CS CC RC H s ps g ∧ g.Ok ∧ ∀ l H', Same H H' → H l = none → H' l = some (.lst ((wths ps g ns).map V.int)) → Q (.ref l) H'
theorem wths_len (ps : List (Str × Int)) (g : Gst) (ns : List Int) : (wths ps g ns).length = ns.length := by unfold wths; rw [List.length_map, List.length_range]
theorem wths_at {ps : List (Str × Int)} {g : Gst} {ns : List Int} {i : Nat} (h : i < ns.length) : (wths ps g ns)[i]? = some (wth ps g (ns.drop i).sum i (ns.getD i 0)) := by
  unfold wths
  rw [List.getElem?_map, List.getElem?_range h]
  rfl
/-- how great the numbers get -/
structure Bnd (ps : List (Str × Int)) (g : Gst) (rest place size : Int) : Prop where
  b1 : (g.f * mxOf ps * place).natAbs ≤ 10 ^ 36
  b2 : (g.b * size).natAbs ≤ 10 ^ 36
  b3 : (g.a * (rest - size)).natAbs ≤ 10 ^ 36
  b4 : (wAh ps g rest place size).natAbs ≤ 10 ^ 37
  b5 : (g.b * mxOf ps * smOf ps).natAbs ≤ 10 ^ 7
  b6 : (g.b * mxOf ps * smOf ps * size).natAbs ≤ 10 ^ 42
  b7 : (g.f * unO ps).natAbs ≤ 10 ^ 37
  b8 : (mnOf ps * mxOf ps).natAbs ≤ 10 ^ 4
  b9 : (mnOf ps * smOf ps).natAbs ≤ 10 ^ 5
  b0 : (wth ps g rest place size).natAbs ≤ 10 ^ 80
theorem bnd {ps : List (Str × Int)} {g : Gst} {rest place size : Int} (n : CwN ps) (ok : g.Ok) (p0 : 0 ≤ place) (p1 : place ≤ 5000) (s1 : 1 ≤ size) (s2 : size ≤ rest) (s3 : rest ≤ 10 ^ 34) : Bnd ps g rest place size := by
  have un := n.un
  obtain ⟨n1, n2, n3, n4, n5⟩ := n
  obtain ⟨o1, o2, o3, o4, o5⟩ := ok
  have hf : g.f.natAbs ≤ 10 ^ 30 := by omega
  have hx : (mxOf ps).natAbs ≤ 60 := by omega
  have hm : (mnOf ps).natAbs ≤ 60 := by omega
  have hs : (smOf ps).natAbs ≤ 480 := by omega
  have hb : g.b.natAbs ≤ 60 := by omega
  have ha : g.a.natAbs ≤ 60 := by omega
  have hp : place.natAbs ≤ 5000 := by omega
  have hz : size.natAbs ≤ 10 ^ 34 := by omega
  have hr : (rest - size).natAbs ≤ 10 ^ 34 := by omega
  have hu : (unO ps).natAbs ≤ 1728000 := by omega
  have c1 := mul_bd (mul_bd hf hx) hp
  have c2 := mul_bd hb hz
  have c3 := mul_bd ha hr
  have c4 : (wAh ps g rest place size).natAbs ≤ 10 ^ 37 := by unfold wAh; omega
  have c5 := mul_bd (mul_bd hb hx) hs
  have c6 := mul_bd c5 hz
  have c7 := mul_bd hf hu
  have c8 := mul_bd hm hx
  have c9 := mul_bd hm hs
  have e8 := mul_bd c4 c8
  have e9 := mul_bd c4 c9
  refine ⟨by omega, by omega, by omega, c4, by omega, by omega, by omega, by omega, by omega, ?_⟩
  unfold wth
  split <;> omega
theorem kp_same {a : Addr} {H H' : Hp} {o : HO} (h : Kp a (upd H a o) H') (f : H a = none) : Same H H' := fun b u e => h b u (ne_of_none e f) (by rw [upd_ne (ne_of_none e f)]; exact e)
section
variable {P : Program} {w : World} {K : PySem.W.Frag} {mg : Str → Option Value} {base : Heap} {HC CS CC RC DM : Addr} {mc : Value}
theorem walkT {K : PySem.W.Frag} {a b : Addr} {xs ys : List V} (hl : xs.length = ys.length) : Walk (RZ.ItzT K a b) xs.length (fun H => SqT K H a xs ∧ SqT K H b ys) (fun i H v H' => ∃ T x y, (v = .ref T ∧ H T = none ∧ H' = upd H T (.tup [x, y])) ∧ xs[i]? = some x ∧ ys[i]? = some y) := by
  refine ⟨fun i H hi q => ?_, fun H q => ⟨xs, ys, q.1, q.2, .inl (Nat.le_refl _)⟩, fun i H v H' hi q y => ?_⟩
  · have h2 : i < ys.length := by omega
    exact ⟨xs, ys, xs[i], ys[i], q.1, q.2, by simp [hi], by simp [h2]⟩
  · obtain ⟨T, x, z, h1, h2, h3, h4, h5⟩ := y
    exact ⟨T, x, z, ⟨h1, h2, h3⟩, h4 _ q.1, h5 _ q.2⟩
/-- without a fee the two ways agree -/
theorem wth_plain {ps : List (Str × Int)} {g : Gst} {rest place size : Int} (n : CwN ps) (ok : g.Ok) (f0 : g.f = 0) (s1 : 1 ≤ size) (s2 : size ≤ rest) : wth ps g rest place size = stB ps g * size - stR ps g * rest := by
  obtain ⟨o1, o2, o3, o4, o5⟩ := ok
  have h1 : 0 ≤ g.b * size := Int.mul_nonneg (by omega) (by omega)
  have h2 : 0 ≤ g.a * (rest - size) := Int.mul_nonneg (by omega) (by omega)
  have e : wAh ps g rest place size = - (g.b * size) - g.a * (rest - size) := by unfold wAh; rw [f0]; simp
  have c : wAh ps g rest place size ≤ 0 := by rw [e]; omega
  unfold wth
  rw [if_pos c, e, f0]
  unfold stB stR
  grind
end
end Lw
namespace Lw
open PySem PySem.Spec PyProof.Rows L2
open SX PySem.NumText TL LamX ClX StX
set_option pp.maxSteps 900
/-- [v for x in l]: what the list's values come to, each at any later heap -/
theorem lc_vals {α : Type} {j : Nat} {K : PySem.W.Frag} {σ : L2.St} {H : Hp} {Q : VK} {te tv : TE} {ps : List α} (enc fn : α → V) (ht : ∀ R : VK, (∀ l H1, Same H H1 → H1 l = some (.lst (ps.map enc)) → R (.ref l) H1) → te σ H R) (lj : j < σ.length) (hz : ps.length ≤ 6000)
    (hs : ∀ (q : α) (H2 : Hp) (Y : VK), q ∈ ps → Same H H2 → (∀ H3, Same H2 H3 → Y (fn q) H3) → tv ((wipe σ [j]).set j (some (enc q))) H2 Y)
    (q : ∀ D H', Same H H' → H D = none → H' D = some (.lst (ps.map fn)) → Q (.ref D) H') : tLc (iList K te) (gName j) tYes tv [j] σ H Q := by
  refine ht _ fun l H0 s0 hl => ?_
  refine ⟨l, rfl, ⟨_, SqL.of hl⟩, fun D hD => lc_it walk_list (fun n H' => Same H0 H' ∧ H' D = some (.lst ((ps.take n).map fn))) ⟨same_new hD, upd_same⟩ (fun n H' _ h => SqL.of (h.1 _ _ hl)) ?_ ?_⟩
  · rintro n x H' H'' hn ⟨s', hD'⟩ ⟨rfl, hx⟩
    rw [List.getElem?_map] at hx
    obtain ⟨r, hr, rfl⟩ := Option.map_eq_some_iff.mp hx
    have snoc : ps.take (n + 1) = ps.take n ++ [r] := by rw [List.take_add_one, hr]; rfl
    refine ⟨by simp [wipe, List.set_set], ?_⟩
    dsimp only [tYes]
    rw [if_pos rfl]
    refine hs r _ _ (List.mem_of_getElem? hr) (s0.trans s') fun H3 s3 => ⟨_, s3 _ _ hD', ?_, fun b o e => ?_, ?_⟩
    · rw [List.length_map]
      exact Nat.lt_of_le_of_lt (Nat.le_trans (List.length_take_le' _ _) hz) (by decide)
    · rw [upd_ne (ne_of_none e hD)]; exact s3 _ _ (s' _ _ e)
    · rw [upd_same, snoc, List.map_append]; rfl
  · rintro H' ⟨s', hD'⟩
    refine q D _ (s0.trans s') (s0.free hD) ?_
    rw [hD', List.take_of_length_le (by rw [List.length_map]; exact Nat.le_refl _)]
/-- the same where each value is a new object: R tells of it -/
theorem lc_new {α : Type} {j : Nat} {K : PySem.W.Frag} {σ : L2.St} {H : Hp} {Q : VK} {te tv : TE} {ps : List α} (enc : α → V) (R : Hp → Addr → α → Prop) (mono : ∀ {H H' : Hp} {a : Addr} {q : α}, R H a q → (∀ b o, H b = some o → (∀ xs, o ≠ .lst xs) → H' b = some o) → R H' a q)
    (ht : ∀ Z : VK, (∀ l H1, Same H H1 → H1 l = some (.lst (ps.map enc)) → Z (.ref l) H1) → te σ H Z) (lj : j < σ.length) (hz : ps.length ≤ 6000)
    (hs : ∀ (q : α) (H2 : Hp) (Y : VK), q ∈ ps → Same H H2 → (∀ a H3, Same H2 H3 → R H3 a q → Y (.ref a) H3) → tv ((wipe σ [j]).set j (some (enc q))) H2 Y)
    (q : ∀ D H' (rs : List Addr), Same H H' → H D = none → H' D = some (.lst (rs.map V.ref)) → rs.length = ps.length → (∀ (i : Nat) a x, rs[i]? = some a → ps[i]? = some x → R H' a x) → Q (.ref D) H') : tLc (iList K te) (gName j) tYes tv [j] σ H Q := by
  refine ht _ fun l H0 s0 hl => ?_
  refine ⟨l, rfl, ⟨_, SqL.of hl⟩, fun D hD => lc_it walk_list (fun n H' => Same H0 H' ∧ ∃ rs : List Addr, H' D = some (.lst (rs.map V.ref)) ∧ rs.length = (ps.take n).length ∧ ∀ (i : Nat) a x, rs[i]? = some a → ps[i]? = some x → R H' a x) ⟨same_new hD, [], upd_same, rfl, fun i a x e => by cases e⟩ (fun n H' _ h => SqL.of (h.1 _ _ hl)) ?_ ?_⟩
  · rintro n x H' H'' hn ⟨s', rs, hD', len, all⟩ ⟨rfl, hx⟩
    rw [List.getElem?_map] at hx
    obtain ⟨r, hr, rfl⟩ := Option.map_eq_some_iff.mp hx
    have hn' : n < ps.length := (List.getElem?_eq_some_iff.mp hr).1
    have l1 : rs.length = n := by rw [len, List.length_take]; omega
    refine ⟨by simp [wipe, List.set_set], ?_⟩
    dsimp only [tYes]
    rw [if_pos rfl]
    refine hs r _ _ (List.mem_of_getElem? hr) (s0.trans s') fun a H3 s3 ra => ⟨_, s3 _ _ hD', ?_, fun b o e => ?_, rs ++ [a], ?_, ?_, fun i b x e1 e2 => ?_⟩
    · rw [List.length_map, l1]
      exact Nat.lt_of_lt_of_le hn' (Nat.le_trans hz (by decide))
    · rw [upd_ne (ne_of_none e hD)]; exact s3 _ _ (s' _ _ e)
    · rw [upd_same, List.map_append]; rfl
    · rw [List.length_append, l1, List.length_take, List.length_singleton]; omega
    · have hD3 := s3 _ _ hD'
      have old : R H3 b x := by
        by_cases c : i < rs.length
        · rw [List.getElem?_append_left c] at e1
          exact mono (all i b x e1 e2) fun c o e _ => s3 c o e
        · have c2 : i = rs.length := by
            have := (List.getElem?_eq_some_iff.mp e1).1
            rw [List.length_append, List.length_singleton] at this
            omega
          rw [c2, List.getElem?_append_right (Nat.le_refl _), Nat.sub_self] at e1
          cases e1
          rw [c2, l1, hr] at e2
          cases e2
          exact ra
      exact mono old fun c o e nl => by rw [upd_ne (fun z => by rw [z, hD3] at e; cases e; exact nl _ rfl)]; exact e
  · rintro H' ⟨s', rs, hD', len, all⟩
    refine q D _ rs (s0.trans s') (s0.free hD) hD' ?_ all
    rw [len, List.take_of_length_le (by rw [List.length_map]; exact Nat.le_refl _)]
theorem ret_cb1 {r : List V → Hp → VK → Prop} {te : TE} {D : Ends} {σ : L2.St} {H : Hp} (h : te σ H fun x H1 => r [x] H1 D.rt) : tRet (tCB r (tCons te tNil)) D σ H := h
def spGrw (HC CS CC RC : Addr) : Sp := fun vs H Q _ => ∃ c s ns ps g, vs = [.ref c, .ref s] ∧ ChB HC H c ns ∧ StAt CS CC RC H s ps g ∧ g.Ok ∧ ns ≠ [] ∧ ∀ m, m ∈ wths ps g ns → (∀ y ∈ wths ps g ns, y ≤ m) → ∀ H', Same H H' → Q (.int m) H'
section
variable {P : Program} {w : World} {K : PySem.W.Frag} {mg : Str → Option Value} {base : Heap} {HC CS CC RC DM : Addr} {mc : Value}
/-- the ratios of the worths -/
def Rats (RC : Addr) (H : Hp) (rs : List Addr) (ws : List Int) (u : Int) : Prop := rs.length = ws.length ∧ ∀ (i : Nat) a x, rs[i]? = some a → ws[i]? = some x → RatAt RC H a (lov x u) (lun x u)
def spAll (HC CS CC RC : Addr) : Sp := fun vs H Q _ => ∃ c s ns ps g, vs = [.ref c, .ref s] ∧ ChB HC H c ns ∧ StAt CS CC RC H s ps g ∧ g.Ok ∧ ∀ t H' rs, Same H H' → H t = none → H' t = some (.tup (rs.map V.ref)) → Rats RC H' rs (wths ps g ns) (unO ps) → Q (.ref t) H'
theorem wth_small {ps : List (Str × Int)} {g : Gst} {ns : List Int} (n : CwN ps) (ok : g.Ok) (sb : SzB ns) (l5 : ns.length ≤ 5000) : ∀ x ∈ wths ps g ns, x.natAbs ≤ 10 ^ 80 := fun x hx => by
  obtain ⟨i, hi⟩ := List.mem_iff_getElem?.mp hx
  have hin : i < ns.length := by
    have := (List.getElem?_eq_some_iff.mp hi).1
    rw [wths_len] at this
    exact this
  rw [wths_at hin] at hi
  obtain ⟨_, e1, e2, e3⟩ := at_place sb l5 hin
  rw [← Option.some.inj hi]
  exact (bnd n ok (by omega) (by omega) e1 e2 e3).b0
def spLns (HC CS CC RC : Addr) : Sp := fun vs H Q _ => ∃ c s ns ps g, vs = [.ref c, .ref s] ∧ ChB HC H c ns ∧ StAt CS CC RC H s ps g ∧ g.Ok ∧ (ns = [] → Q .non H) ∧ (ns ≠ [] → ∀ m, m ∈ wths ps g ns → (∀ y ∈ wths ps g ns, y ≤ m) → News RC H Q m (unO ps))
end
end Lw
namespace Lw
open PySem PySem.Spec PyProof.Rows L2
open SX PySem.NumText TL LamX ClX StX
set_option pp.maxSteps 900
abbrev sLse : Stmt := top 88
abbrev sLth : Stmt := top 89
abbrev sLla : Stmt := top 90
abbrev sLun : Stmt := top 91
abbrev sLdp : Stmt := top 87
abbrev sIlt : Stmt := top 92
abbrev sLli : Stmt := top 93
abbrev sLlo : Stmt := top 94
theorem _root_.Lw.Kp.free {H H' : Hp} {p q : Addr} (k : Kp p H H') (ne : q ≠ p) (hq : H' q = none) : H q = none := by
  cases e : H q with
  | none => rfl
  | some o => rw [k q o ne e] at hq; cases hq
theorem nd_inj {α : Type} {l : List α} (nd : l.Nodup) {i j : Nat} {hi : i < l.length} {hj : j < l.length} (e : l[i] = l[j]) : i = j := by
  rcases Nat.lt_trichotomy i j with h | h | h
  · exact absurd e (List.pairwise_iff_getElem.mp nd i j hi hj h)
  · exact h
  · exact absurd e.symm (List.pairwise_iff_getElem.mp nd j i hj hi h)
theorem dk_rdP {H : Hp} {d : Addr} {ks : List (Str × Int)} {q : Str × Int} (nd : (ks.map (·.1)).Nodup) (hq : q ∈ ks) (h : L2.Rd H d (.dK (dkI ks))) : DGet H d (.str q.1) (some (.int q.2)) := by
  have e := dkI_get nd hq
  rw [← e]
  exact .inl ⟨_, Sum.inr q.1, h, rfl, rfl⟩
theorem _root_.Lw.Srt.cws {CC : Addr} {H : Hp} {c : Addr} {ks ps : List (Str × Int)} (sr : Srt ks ps) (ok : KsOk ks) (cw : CwAt CC H c ps) : CwS CC H c ps :=
  ⟨cw, by rw [sr.1.length_eq]; exact ok.2.2.1, fun q hq => ok.2.2.2 q (sr.1.subset hq), (sr.1.map _).symm.nodup ok.1⟩
theorem perm_mn {ks ps : List (Str × Int)} (p : ps.Perm ks) : mnOf ps = mnOf ks := (p.map _).foldl_eq' (fun x _ y _ z => by omega) _
theorem perm_mx {ks ps : List (Str × Int)} (p : ps.Perm ks) : mxOf ps = mxOf ks := (p.map _).foldl_eq' (fun x _ y _ z => by omega) _
theorem perm_sm {ks ps : List (Str × Int)} (p : ps.Perm ks) : (ps.map (·.2)).sum = (ks.map (·.2)).sum := (p.map _).foldr_eq' (fun x _ y _ z => by omega) _
/-- the numbers that the keys of a dict come to, the dict locked meanwhile -/
theorem vals_lock {i j : Nat} {tv : TE} {σ : L2.St} {H : Hp} {Q : VK} {d : Addr} {ks : List (Str × Int)} (fn : Str × Int → Int) (hi : σ[i]? = some (some (V.ref d))) (lj : j < σ.length) (hd : H d = some (.dK (dkI ks))) (lz : ks.length ≤ 5000)
    (hv : ∀ (q : Str × Int) (H2 : Hp) (R : VK), q ∈ ks → (∀ b kvs, H b = some (.dK kvs) → L2.Rd H2 b (.dK kvs)) → R (.int (fn q)) H2 → tv ((wipe σ [j]).set j (some (V.str q.1))) H2 R)
    (q : ∀ D H', Same H H' → H D = none → H' D = some (.lst (ks.map fun q => V.int (fn q))) → Q (.ref D) H') : tLockE (tLc (iKeys (tVar i)) (gName j) tYes tv [j]) σ H Q := by
  refine ⟨d, _, hd, trivial, fun od => ⟨_, hi, d, od, rfl, .inl ⟨_, upd_same, fun D hD => ?_⟩⟩⟩
  have ne : D ≠ d := fun e => by rw [e, upd_same] at hD; cases hD
  have fD : H D = none := by rw [upd_ne ne] at hD; exact hD
  refine lc_it walk_keys (fun n H' => H' = upd (upd H d (.frz od (.dK (dkI ks)))) D (.lst ((ks.take n).map fun q => V.int (fn q)))) rfl (fun n H' _ e => by rw [e, upd_ne ne.symm, upd_same]) ?_ ?_
  · rintro n x H' H'' hn e ⟨rfl, k, v, hk, rfl⟩
    rw [List.getElem?_map, List.getElem?_map] at hk
    obtain ⟨p, hp, e2⟩ := Option.map_eq_some_iff.mp hk
    obtain ⟨r, hr, e4⟩ := Option.map_eq_some_iff.mp hp
    subst e4
    have e3 : k = Sum.inr r.1 := (congrArg Prod.fst e2).symm
    subst e3
    refine ⟨by simp [wipe, List.set_set], ?_⟩
    dsimp only [tYes]
    rw [if_pos rfl]
    refine hv r _ _ (List.mem_of_getElem? hr) (fun b kvs hb => ?_) ⟨_, by rw [e]; exact upd_same, ?_, ?_⟩
    · rw [e]
      by_cases bd : b = d
      · rw [bd] at hb ⊢
        rw [hd] at hb
        cases hb
        exact .inr ⟨od, by rw [upd_ne ne.symm, upd_same]⟩
      · exact .inl (by rw [upd_ne (ne_of_none hb fD), upd_ne bd]; exact hb)
    · rw [List.length_map]
      exact Nat.lt_of_le_of_lt (Nat.le_trans (List.length_take_le' _ _) lz) (by decide)
    · rw [e, upd_upd, List.take_add_one, hr, List.map_append]; rfl
  · rintro H' e
    rw [List.length_map, List.length_map, List.take_of_length_le (Nat.le_refl _)] at e
    refine ⟨by rw [e, upd_ne ne.symm, upd_same], q D _ (fun b o hb => ?_) fD ?_⟩
    · by_cases bd : b = d
      · rw [bd] at hb ⊢
        rw [upd_same, ← hd]
        exact hb
      · rw [upd_ne bd, e, upd_ne (ne_of_none hb fD), upd_ne bd]
        exact hb
    · rw [upd_ne ne, e, upd_same]

/-- the same, set to a local -/
theorem vals_lockS {i j : Nat} {te tv : TE} {σ : L2.St} {H : Hp} {D0 : Ends} {d : Addr} {ks : List (Str × Int)} (fn : Str × Int → Int) (lj : j < σ.length) (hd : H d = some (.dK (dkI ks))) (lz : ks.length ≤ 5000)
    (ht : ∀ (H2 : Hp) (R : VK), (∀ b kvs, H b = some (.dK kvs) → L2.Rd H2 b (.dK kvs)) → R (.ref d) H2 → te σ H2 R)
    (hv : ∀ (q : Str × Int) (H2 : Hp) (R : VK), q ∈ ks → (∀ b kvs, H b = some (.dK kvs) → L2.Rd H2 b (.dK kvs)) → R (.int (fn q)) H2 → tv ((wipe σ [j]).set j (some (V.str q.1))) H2 R)
    (q : ∀ D H', Same H H' → H D = none → H' D = some (.lst (ks.map fun q => V.int (fn q))) → D0.nx (σ.set i (some (.ref D))) H') : tLock (tAsg (tLc (iKeys te) (gName j) tYes tv [j]) (gName i)) D0 σ H := by
  refine ⟨d, _, hd, trivial, fun od => ht _ _ (fun b kvs hb => ?_) ⟨d, od, rfl, .inl ⟨_, upd_same, fun D hD => ?_⟩⟩⟩
  · by_cases bd : b = d
    · rw [bd] at hb ⊢
      rw [hd] at hb
      cases hb
      exact .inr ⟨od, upd_same⟩
    · exact .inl (by rw [upd_ne bd]; exact hb)
  have ne : D ≠ d := fun e => by rw [e, upd_same] at hD; cases hD
  have fD : H D = none := by rw [upd_ne ne] at hD; exact hD
  refine lc_it walk_keys (fun n H' => H' = upd (upd H d (.frz od (.dK (dkI ks)))) D (.lst ((ks.take n).map fun q => V.int (fn q)))) rfl (fun n H' _ e => by rw [e, upd_ne ne.symm, upd_same]) ?_ ?_
  · rintro n x H' H'' hn e ⟨rfl, k, v, hk, rfl⟩
    rw [List.getElem?_map, List.getElem?_map] at hk
    obtain ⟨p, hp, e2⟩ := Option.map_eq_some_iff.mp hk
    obtain ⟨r, hr, e4⟩ := Option.map_eq_some_iff.mp hp
    subst e4
    have e3 : k = Sum.inr r.1 := (congrArg Prod.fst e2).symm
    subst e3
    refine ⟨by simp [wipe, List.set_set], ?_⟩
    dsimp only [tYes]
    rw [if_pos rfl]
    refine hv r _ _ (List.mem_of_getElem? hr) (fun b kvs hb => ?_) ⟨_, by rw [e]; exact upd_same, ?_, ?_⟩
    · rw [e]
      by_cases bd : b = d
      · rw [bd] at hb ⊢
        rw [hd] at hb
        cases hb
        exact .inr ⟨od, by rw [upd_ne ne.symm, upd_same]⟩
      · exact .inl (by rw [upd_ne (ne_of_none hb fD), upd_ne bd]; exact hb)
    · rw [List.length_map]
      exact Nat.lt_of_le_of_lt (Nat.le_trans (List.length_take_le' _ _) lz) (by decide)
    · rw [e, upd_upd, List.take_add_one, hr, List.map_append]; rfl
  · rintro H' e
    rw [List.length_map, List.length_map, List.take_of_length_le (Nat.le_refl _)] at e
    refine ⟨by rw [e, upd_ne ne.symm, upd_same], q D _ (fun b o hb => ?_) fD ?_⟩
    · by_cases bd : b = d
      · rw [bd] at hb ⊢
        rw [upd_same, ← hd]
        exact hb
      · rw [upd_ne bd, e, upd_ne (ne_of_none hb fD), upd_ne bd]
        exact hb
    · rw [upd_ne ne, e, upd_same]

theorem ifs_no {tt : TT} {a : TS} {D : Ends} {σ : L2.St} {H : Hp} (Pj : Hp → Prop) (rest : ∀ H', Pj H' → D.nx σ H') (test : ∀ QQ : Bool → Hp → Prop, (∀ H', Pj H' → QQ false H') → tt σ H QQ) : tIfS tt a tNext D σ H :=
  test _ fun H' h => iteF (rest H' h)
theorem ifs_via {tt : TT} {a b : TS} {D : Ends} {σ : L2.St} {H : Hp} (Pj : Bool → Hp → Prop) (h1 : ∀ k H1, Pj k H1 → if k = true then a D σ H1 else b D σ H1) (h2 : ∀ QQ : Bool → Hp → Prop, (∀ k H1, Pj k H1 → QQ k H1) → tt σ H QQ) : tIfS tt a b D σ H := h2 _ h1
theorem setv_ok {CS CC RC DG DO DF c : Addr} {K : PySem.W.Frag} {H : Hp} {Q : VK} {E : XK} {ps : List (Str × Int)} {g : Gst} (I : C8.InsC K CC) (cw : CwS CC H c ps) (ok : g.Ok) (k : ∀ s H', Same H H' → H s = none → StAt CS CC RC H' s ps g → Q (.ref s) H') : SetV K CS CC RC DG DO DF (.ref c) (.int g.a) (.int g.b) (.int g.f) H Q E := by
  obtain ⟨o1, o2, o3, o4, o5⟩ := ok
  have no : ∀ {i lo hi : Int}, lo ≤ i → i ≤ hi → inB (.int i) lo hi = false → False := fun {i lo hi} h1 h2 e => by
    unfold inB at e
    simp only [Bool.and_eq_false_iff, decide_eq_false_iff_not] at e
    omega
  obtain ⟨dc, _, _, _, _, _, hc, _⟩ := cw.keep
  refine ⟨.int _, .int _, .int _, .ref CC, true, .x (.base (.ins hc I.cl I.ha I.hn I.htk I.hm)), I.me, fun z => (by cases z), fun _ => ⟨c, ps, rfl, cw, fun z => (no o1 (by omega) z).elim, ?_⟩⟩
  rintro a e1 a1 a2
  cases e1
  refine ⟨fun z => (no o2 o3 z).elim, ?_⟩
  rintro b e2 b1 b2
  cases e2
  refine ⟨fun z => (no o4 o5 z).elim, ?_⟩
  rintro f e3 f1 f2
  cases e3
  exact k
/-- a plan's dict -/
def plV (d : Addr) (g : Gst) : List (Sum Int Str × V) := [(.inr "speeds", .ref d), (.inr "least", .int g.a), (.inr "most", .int g.b), (.inr "fee", .int g.f)]
def PlA (H : Hp) (t d : Addr) (ks : List (Str × Int)) (g : Gst) : Prop := H t = some (.dK (plV d g)) ∧ H d = some (.dK (dkI ks))
theorem PlA.on {H H' : Hp} {t d : Addr} {ks : List (Str × Int)} {g : Gst} (h : PlA H t d ks g) (s : Same H H') : PlA H' t d ks g := ⟨s _ _ h.1, s _ _ h.2⟩
theorem pl_sp {H : Hp} {t d : Addr} {g : Gst} (h : L2.Rd H t (.dK (plV d g))) : DGet H t (.str "speeds") (some (.ref d)) := .inl ⟨_, Sum.inr "speeds", h, rfl, rfl⟩
theorem pl_a {H : Hp} {t d : Addr} {g : Gst} (h : L2.Rd H t (.dK (plV d g))) : DGet H t (.str "least") (some (.int g.a)) := .inl ⟨_, Sum.inr "least", h, rfl, rfl⟩
theorem pl_b {H : Hp} {t d : Addr} {g : Gst} (h : L2.Rd H t (.dK (plV d g))) : DGet H t (.str "most") (some (.int g.b)) := .inl ⟨_, Sum.inr "most", h, rfl, rfl⟩
theorem pl_f {H : Hp} {t d : Addr} {g : Gst} (h : L2.Rd H t (.dK (plV d g))) : DGet H t (.str "fee") (some (.int g.f)) := .inl ⟨_, Sum.inr "fee", h, rfl, rfl⟩
theorem fmin_mem : ∀ {l : List Int} {a : Int}, (l.foldl min a ∈ l ∨ l.foldl min a = a) ∧ l.foldl min a ≤ a ∧ ∀ x ∈ l, l.foldl min a ≤ x
  | [], a => ⟨.inr rfl, Int.le_refl _, fun x h => by cases h⟩
  | y :: r, a => by
    obtain ⟨h1, h2, h3⟩ := fmin_mem (l := r) (a := min a y)
    show ((r.foldl min (min a y)) ∈ y :: r ∨ r.foldl min (min a y) = a) ∧ r.foldl min (min a y) ≤ a ∧ ∀ x ∈ y :: r, r.foldl min (min a y) ≤ x
    refine ⟨?_, by omega, fun x hx => ?_⟩
    · rcases h1 with h1 | h1
      · exact .inl (List.mem_cons_of_mem _ h1)
      · rw [h1]
        by_cases c : a ≤ y
        · exact .inr (by omega)
        · exact .inl (by rw [show min a y = y by omega]; exact List.mem_cons_self)
    · rcases List.mem_cons.mp hx with rfl | hx
      · omega
      · exact h3 x hx
theorem fmax_mem : ∀ {l : List Int} {a : Int}, (l.foldl max a ∈ l ∨ l.foldl max a = a) ∧ a ≤ l.foldl max a ∧ ∀ x ∈ l, x ≤ l.foldl max a
  | [], a => ⟨.inr rfl, Int.le_refl _, fun x h => by cases h⟩
  | y :: r, a => by
    obtain ⟨h1, h2, h3⟩ := fmax_mem (l := r) (a := max a y)
    show ((r.foldl max (max a y)) ∈ y :: r ∨ r.foldl max (max a y) = a) ∧ a ≤ r.foldl max (max a y) ∧ ∀ x ∈ y :: r, x ≤ r.foldl max (max a y)
    refine ⟨?_, by omega, fun x hx => ?_⟩
    · rcases h1 with h1 | h1
      · exact .inl (List.mem_cons_of_mem _ h1)
      · rw [h1]
        by_cases c : y ≤ a
        · exact .inr (by omega)
        · exact .inl (by rw [show max a y = y by omega]; exact List.mem_cons_self)
    · rcases List.mem_cons.mp hx with rfl | hx
      · omega
      · exact h3 x hx
theorem ks_ms {ks : List (Str × Int)} (ok : KsOk ks) : mnOf ks ∈ ks.map (·.2) ∧ mxOf ks ∈ ks.map (·.2) ∧ (∀ x ∈ ks.map (·.2), mnOf ks ≤ x ∧ x ≤ mxOf ks) := by
  have kb : ∀ x ∈ ks.map (·.2), 1 ≤ x ∧ x ≤ 60 := fun x hx => by
    obtain ⟨q, hq, rfl⟩ := List.mem_map.mp hx
    exact (ok.2.2.2 q hq).2
  obtain ⟨q0, hq0⟩ := List.exists_mem_of_length_pos ok.2.1
  have hx0 : q0.2 ∈ ks.map (·.2) := List.mem_map.mpr ⟨q0, hq0, rfl⟩
  have a := fmin_mem (l := ks.map (·.2)) (a := 60)
  have b := fmax_mem (l := ks.map (·.2)) (a := 1)
  refine ⟨a.1.elim id fun e => ?_, b.1.elim id fun e => ?_, fun x hx => ⟨a.2.2 x hx, b.2.2 x hx⟩⟩
  · have h1 := a.2.2 _ hx0
    have h2 := kb _ hx0
    have e2 : mnOf ks = q0.2 := by unfold mnOf; omega
    rw [e2]; exact hx0
  · have h1 := b.2.2 _ hx0
    have h2 := kb _ hx0
    have e2 : mxOf ks = q0.2 := by unfold mxOf; omega
    rw [e2]; exact hx0
theorem ks_bd {ks : List (Str × Int)} (ok : KsOk ks) : (1 ≤ mnOf ks ∧ mnOf ks ≤ 60) ∧ (1 ≤ mxOf ks ∧ mxOf ks ≤ 60) ∧ (1 ≤ smOf ks ∧ smOf ks ≤ 480) := by
  have kb : ∀ x ∈ ks.map (·.2), 1 ≤ x ∧ x ≤ 60 := fun x hx => by
    obtain ⟨q, hq, rfl⟩ := List.mem_map.mp hx
    exact (ok.2.2.2 q hq).2
  obtain ⟨m1, m2, m3⟩ := ks_ms ok
  have bs := sum_bd kb
  rw [List.length_map] at bs
  have l1 := ok.2.1
  have l8 := ok.2.2.1
  refine ⟨kb _ m1, kb _ m2, ?_⟩
  unfold smOf
  omega
theorem ret_tup {ta : TA} {D : Ends} {σ : L2.St} {H : Hp} (h : ta σ H fun vs H1 => vs.length ≤ sizeLine ∧ ∀ l, H1 l = none → D.rt (.ref l) (upd H1 l (.tup vs))) : tRet (tTup ta) D σ H := h
def spLse (CS CC RC : Addr) : Sp := fun vs H Q _ => ∃ t d ks g, vs = [.ref t] ∧ PlA H t d ks g ∧ KsOk ks ∧ g.Ok ∧ ∀ s ps H', Same H H' → H s = none → StAt CS CC RC H' s ps g → Srt ks ps → Q (.ref s) H'
def spLth : Sp := fun vs H Q _ => ∃ t d ks g, vs = [.ref t] ∧ PlA H t d ks g ∧ KsOk ks ∧ ∀ r H', Same H H' → H r = none → H' r = some (.tup [.int (mnOf ks), .int (mxOf ks), .int (smOf ks)]) → Q (.ref r) H'
def spLla : Sp := fun vs H Q _ => ∃ t d ks g i j k, vs = [.ref t, .int i, .int j, .int k] ∧ PlA H t d ks g ∧ KsOk ks ∧ g.Ok ∧ 0 ≤ j ∧ j ≤ 5000 ∧ 1 ≤ k ∧ k ≤ i ∧ i ≤ 10 ^ 34 ∧ ∀ H', Same H H' → Q (.int (wth ks g i j k)) H'
def spLun : Sp := fun vs H Q _ => ∃ t d ks g, vs = [.ref t] ∧ PlA H t d ks g ∧ KsOk ks ∧ ∀ H', Same H H' → Q (.int (unO ks)) H'
def spIlt : Sp := fun vs H Q _ => ∃ t d ks g i j k l x y, vs = [.ref t, .int i, .int j, .int k, .ref l] ∧ PlA H t d ks g ∧ KsOk ks ∧ g.Ok ∧ 0 ≤ j ∧ j ≤ 5000 ∧ 1 ≤ k ∧ i ≤ 10 ^ 34 ∧ H l = some (.tup [.int x, .int y]) ∧ x.natAbs ≤ 10 ^ 100 ∧ y.natAbs ≤ 10 ^ 100 ∧ ∀ H', Same H H' → Q (.bl (decide (k ≤ i) && decide (wth ks g i j k * y ≤ x * unO ks))) H'
/-- a drawn limit -/
def LmOk (x y : Int) : Prop := x.natAbs ≤ 10 ^ 100 ∧ 1 ≤ y ∧ y ≤ 10 ^ 20
def spLli : Sp := fun vs H Q _ => ∃ (p pl : Addr) (n : Nat) (t d : Addr) (ks : List (Str × Int)) (g : Gst), vs = [.ref p, .ref t] ∧ Pen H p pl n ∧ n ≤ 900000 ∧ PlA H t d ks g ∧ KsOk ks ∧ g.Ok ∧ t ≠ p ∧ d ≠ p ∧
  ∀ l x y H', H l = none → H' l = some (.tup [.int x, .int y]) → LmOk x y → Pen H' p pl (n + 2) → Kp p H H' → Q (.ref l) H'
/-- a limit: a Ratio or an integer -/
def LimO (RC : Addr) (H : Hp) (v : V) (o u : Int) : Prop := (∃ l, v = .ref l ∧ RatAt RC H l o u) ∨ (v = .int o ∧ u = 1)
def spLlo (RC : Addr) : Sp := fun vs H Q _ => ∃ l x y, vs = [.ref l] ∧ H l = some (.tup [.int x, .int y]) ∧ LmOk x y ∧ ∀ v o u H', Same H H' → LimO RC H' v o u → o * y = x * u → 1 ≤ u → u ≤ 10 ^ 20 → o.natAbs ≤ 10 ^ 100 → Q v H'
section
variable {P : Program} {w : World} {K : PySem.W.Frag} {mg : Str → Option Value} {base : Heap} {HC CS CC RC DG DO DF fS DN DS DC DM pO gO fR : Addr} {fdS fdO fdR : FuncData} {ds : List Value}
theorem scLse : FnScope ["_law_plan"] ["_law_plan"] (C8.fnScope sLse) := C8.fnScope_by (by decide +kernel)
theorem cal_lse {f : Addr} {fd : FuncData} (F : C8.Def K mg "_law_setting" sLse f fd) (b : Binds K fd ["_law_plan"] []) (I : C8.InsC K CC) (hCC : mg "Crew" = some (.ref CC)) (OF : OfC P w K mg base CC DN DS DC DM pO gO fdO) (SM : SetM P w K mg base CS CC RC DG DO DF fS fdS) : C8.Cal P w K mg base 10 "_law_setting" (spLse CS CC RC) [] := by
  refine C8.cal0 F b .nil scLse (fun vs H Q E h => ?_) (fun cdv A outer st H vs Q E hr h => ?_)
  · obtain ⟨t, d, ks, g, rfl, _⟩ := h
    rfl
  · obtain ⟨t, d, ks, g, rfl, pa, ok, gok, k⟩ := h
    refine ⟨_, (pss_one (ps_ret (pe_make (E := C8.E0) SM.M SM.F (hr.mono (by decide)) (by rfl) SM.hm SM.b4 .nil (passes_call takes0 (fun _ _ _ _ z => z)) (pa_cons (pe_static (E := C8.E0) (pe_glob (v := .ref CC) (by rfl) hCC rfl) OF.S OF.F (hr.mono (by decide)) OF.b .nil (passes_call takes0 (fun _ _ _ _ z => z)) (pa_cons (pe_dget (hu_of hr) (pv 0) pe_str (fun _ _ => rfl)) pa_nil)) (pa_cons (pe_dget (hu_of hr) (pv 0) pe_str (fun _ _ => rfl)) (pa_cons (pe_dget (hu_of hr) (pv 0) pe_str (fun _ _ => rfl)) (pa_cons (pe_dget (hu_of hr) (pv 0) pe_str (fun _ _ => rfl)) pa_nil))))))), ?_⟩
    refine ⟨rfl, _, rfl, t, _, rfl, pl_sp (.inl pa.1), ?_⟩
    refine cof_ok ok pa.2 fun c H1 ps s1 f1 cw nw sr => ?_
    have ht1 := s1 _ _ pa.1
    refine ⟨_, rfl, t, _, rfl, pl_a (.inl ht1), _, rfl, t, _, rfl, pl_b (.inl ht1), _, rfl, t, _, rfl, pl_f (.inl ht1), fun x dx hx hdx ne => ?_⟩
    exact (setv_ok (g := g) I (sr.cws ok cw) gok fun s H2 s2 hs st => k s ps H2 (s1.trans s2) (s1.free hs) st sr).make x dx hx hdx ne
theorem scLth : FnScope ["_law_plan", "_law_some", "_law_name", "_law_one"] ["_law_plan"] (C8.fnScope sLth) := C8.fnScope_by (by decide +kernel)
theorem cal_lth {f : Addr} {fd : FuncData} (F : C8.Def K mg "_law_three" sLth f fd) (b : Binds K fd ["_law_plan"] []) (T : TxtC mg) : C8.Cal P w K mg base 1 "_law_three" spLth [] := by
  refine C8.cal0 F b .nil scLth (fun vs H Q E h => ?_) (fun cdv A outer st H vs Q E hr h => ?_)
  · obtain ⟨t, d, ks, g, rfl, _⟩ := h
    rfl
  · obtain ⟨t, d, ks, g, rfl, pa, ok, k⟩ := h
    refine ⟨_, (pss_cons (ps_lock (ps_setLc (i := 1) (own := [("_law_name", 2)]) (g := gName 2) (tt := tYes) rfl scLth.nd rfl rfl (sw_true rfl rfl rfl (by decide +kernel)) (pi_keys (pe_dget (hu_of hr) (pv 0) pe_str (fun _ _ => rfl))) (blkOk_by (own := [("_law_name", 2)]) (N := ["_law_plan", "_law_some", "_law_name", "_law_one"]) (sc := (C8.fnScope sLth)) (by decide +kernel)) (fun _ _ _ _ _ => (pg_name (i := 2) scLth.nd rfl (Or.inl rfl))) (fun _ _ _ _ _ => pts_nil) (fun _ _ _ _ _ => (pe_callTy call_int1 (by rfl) T.n_int (by decide +kernel) (pa_cons (pe_dget (hu_of hr) (pe_dget (hu_of hr) (pv 0) pe_str (fun _ _ => rfl)) (pv 2) (fun _ _ => rfl)) pa_nil)))))
  (pss_one (ps_ret (pe_tup (pa_cons (pe_callB (cr_min rfl) (by rfl) T.n_min (by decide +kernel) (pa_cons (pe_lc (own := [("_law_one", 3)]) (g := gName 3) (tt := tYes) rfl scLth.nd (pi_list (pv 1)) (blkOk_by (own := [("_law_one", 3)]) (N := ["_law_plan", "_law_some", "_law_name", "_law_one"]) (sc := (C8.fnScope sLth)) (by decide +kernel)) (fun _ _ _ _ _ => (pg_name (i := 3) scLth.nd rfl (Or.inl rfl))) (fun _ _ _ _ _ => pts_nil) (fun _ _ _ _ _ => (pe_callTy call_int1 (by rfl) T.n_int (by decide +kernel) (pa_cons (pv 3) pa_nil)))) pa_nil)) (pa_cons (pe_callB (cr_max rfl) (by rfl) T.n_max (by decide +kernel) (pa_cons (pe_lc (own := [("_law_one", 3)]) (g := gName 3) (tt := tYes) rfl scLth.nd (pi_list (pv 1)) (blkOk_by (own := [("_law_one", 3)]) (N := ["_law_plan", "_law_some", "_law_name", "_law_one"]) (sc := (C8.fnScope sLth)) (by decide +kernel)) (fun _ _ _ _ _ => (pg_name (i := 3) scLth.nd rfl (Or.inl rfl))) (fun _ _ _ _ _ => pts_nil) (fun _ _ _ _ _ => (pe_callTy call_int1 (by rfl) T.n_int (by decide +kernel) (pa_cons (pv 3) pa_nil)))) pa_nil)) (pa_cons (pe_callB (cr_sum rfl) (by rfl) T.n_sum (by decide +kernel) (pa_cons (pv 1) pa_nil)) pa_nil))))))), ?_⟩
    have kb : ∀ q ∈ ks, 1 ≤ q.2 ∧ q.2 ≤ 60 := fun q hq => (ok.2.2.2 q hq).2
    have l1 := ok.2.1
    have l8 := ok.2.2.1
    have mp : ks.map (fun q => V.int q.2) = (ks.map (·.2)).map V.int := by rw [List.map_map]; rfl
    refine vals_lockS (fun q => q.2) (by show 2 < 4; decide) pa.2 (by omega) (fun H2 R rd r => ⟨_, rfl, t, _, rfl, pl_sp (rd _ _ pa.1), r⟩) (fun q H2 R hq rd go => ⟨_, rfl, t, _, rfl, pl_sp (rd _ _ pa.1), _, rfl, d, _, rfl, dk_rdP ok.1 hq (rd _ _ pa.2), .inl ⟨_, rfl, go⟩⟩) fun L1 H1 s1 f1 h1 => ?_
    rw [mp] at h1
    dsimp only [tSeq]
    have ne : 0 < (ks.map (·.2)).length := by rw [List.length_map]; exact l1
    have lz : (ks.map (·.2)).length ≤ 6000 := by rw [List.length_map]; omega
    refine ret_tup (cons_i (cb_i (cons_i (lc_vals (ps := ks.map (·.2)) V.int V.int (fun R r => ⟨_, rfl, r _ _ (Same.refl _) h1⟩) (by show 3 < 4; decide) lz (fun q H2 Y _ _ y => ⟨_, rfl, .inl ⟨_, rfl, y H2 (Same.refl _)⟩⟩) fun LA H2 s2 f2 h2 => ?_))))
    refine ⟨LA, _, rfl, SqL.of h2, ne, fun mn m1 m2 => ?_⟩
    have e1 : mnOf ks = mn := fold_min m2 (by obtain ⟨q, hq, rfl⟩ := List.mem_map.mp m1; exact (kb q hq).2) (.inl m1)
    refine cons_i (cb_i (cons_i (lc_vals (ps := ks.map (·.2)) V.int V.int (fun R r => ⟨_, rfl, r _ _ (Same.refl _) (s2 _ _ h1)⟩) (by show 3 < 4; decide) lz (fun q H2 Y _ _ y => ⟨_, rfl, .inl ⟨_, rfl, y H2 (Same.refl _)⟩⟩) fun LB H3 s3 f3 h3 => ?_)))
    refine ⟨LB, _, rfl, SqL.of h3, ne, fun mx x1 x2 => ?_⟩
    have e2 : mxOf ks = mx := fold_max x2 (by obtain ⟨q, hq, rfl⟩ := List.mem_map.mp x1; exact (kb q hq).1) (.inl x1)
    refine cons_i (cb_i ⟨_, rfl, L1, _, rfl, SqL.of (s3 _ _ (s2 _ _ h1)), by show 3 ≤ sizeLine; decide, fun r hr => ?_⟩)
    subst e1
    subst e2
    have s13 := s1.trans (s2.trans s3)
    exact k r _ (s13.trans (same_new hr)) (s13.free hr) upd_same
theorem scLla : FnScope ["_law_plan", "_law_rest", "_law_place", "_law_size", "_law_over", "_law_slow", "_law_fast", "_law_whole", "_law_fee_so", "_law_cost"] ["_law_plan", "_law_rest", "_law_place", "_law_size"] (C8.fnScope sLla) := C8.fnScope_by (by decide +kernel)
theorem cal_lla {f : Addr} {fd : FuncData} (F : C8.Def K mg "_law_late" sLla f fd) (b : Binds K fd ["_law_plan", "_law_rest", "_law_place", "_law_size"] []) (T : TxtC mg) (D3 : C8.Cal P w K mg base 1 "_law_three" spLth []) : C8.Cal P w K mg base 2 "_law_late" spLla [] := by
  refine C8.cal0 F b .nil scLla (fun vs H Q E h => ?_) (fun cdv A outer st H vs Q E hr h => ?_)
  · obtain ⟨t, d, ks, g, i, j, k, rfl, _⟩ := h
    rfl
  · obtain ⟨t, d, ks, g, i, j, z, rfl, pa, ok, gok, j0, j1, z0, z1, i1, k⟩ := h
    refine ⟨_, (pss_cons (ps_asg (C8.pe_c D3 hr (by decide) (by rfl) (pa_cons (pv 0) pa_nil)) (pg_tup (by rfl) (pgs_cons (pg_name (i := 5) scLla.nd rfl (Or.inl rfl)) (pgs_cons (pg_name (i := 6) scLla.nd rfl (Or.inl rfl)) (pgs_cons (pg_name (i := 7) scLla.nd rfl (Or.inl rfl)) pgs_nil)))))
  (pss_cons (ps_par (i := 8) (j := 9) rfl scLla.nd rfl rfl (by decide) rfl rfl (pa_cons (pe_dget (hu_of hr) (pv 0) pe_str (fun _ _ => rfl)) (pa_cons (pe_op op_mulW (pe_dget (hu_of hr) (pv 0) pe_str (fun _ _ => rfl)) (pv 3)) pa_nil)) (by rfl))
  (pss_cons (ps_set (i := 4) scLla.nd rfl (Or.inl rfl) (pe_op op_sub (pe_op op_sub (pe_op op_mulW (pe_op op_mulW (pv 2) (pv 8)) (pv 6)) (pv 9)) (pe_op op_mulW (pe_dget (hu_of hr) (pv 0) pe_str (fun _ _ => rfl)) (pe_op op_sub (pv 1) (pv 3)))))
  (pss_one (ps_ret (pe_op op_add (pe_op op_mulW (pe_op op_mulW (pv 6) (pv 7)) (pe_op op_add (pe_op op_mulW (pv 8) (pv 5)) (pv 9))) (pe_op op_mulW (pe_op op_mulW (pv 5) (pv 4)) (pe_ifExp (pt_cmpR op_le (pv 4) pe_int (nomark _)) (pv 6) (pv 7))))))))), ?_⟩
    refine ⟨_, rfl, t, d, ks, g, rfl, pa, ok, fun r H1 s1 f1 h1 => ?_⟩
    have kb : ∀ q ∈ ks, 1 ≤ q.2 ∧ q.2 ≤ 60 := fun q hq => (ok.2.2.2 q hq).2
    obtain ⟨⟨bm0, bm1⟩, ⟨bx0, bx1⟩, ⟨bs0, bs1⟩⟩ := ks_bd ok
    obtain ⟨o1, o2, o3, o4, o5⟩ := gok
    have p1 := pa.on s1
    have hf : g.f.natAbs ≤ 10 ^ 30 := by omega
    have hmx : (mxOf ks).natAbs ≤ 60 := by omega
    have hmn : (mnOf ks).natAbs ≤ 60 := by omega
    have hsm : (smOf ks).natAbs ≤ 480 := by omega
    have hb : g.b.natAbs ≤ 60 := by omega
    have ha : g.a.natAbs ≤ 60 := by omega
    have hj : j.natAbs ≤ 5000 := by omega
    have hz : z.natAbs ≤ 10 ^ 34 := by omega
    have hiz : (i - z).natAbs ≤ 10 ^ 34 := by omega
    have hjf := mul_bd hj hf
    have hjm := mul_bd hjf hmx
    have hbz := mul_bd hb hz
    have hai := mul_bd ha hiz
    have hxs := mul_bd hmx hsm
    have hfm := mul_bd hf hmn
    have sm : ∀ {x : Int} {n : Nat}, x.natAbs ≤ n → n ≤ 10 ^ 100 → Small x := fun a b => sm_of a b
    refine ⟨r, _, rfl, SqT.of h1, rfl, ?_⟩
    refine ⟨_, _, rfl, ?_⟩
    dsimp only [gName]
    refine ⟨_, _, rfl, ?_⟩
    dsimp only [gName]
    refine ⟨_, _, rfl, ?_⟩
    dsimp only [gName, gNil]
    refine ⟨rfl, ?_⟩
    dsimp only [tSeq]
    refine ⟨_, rfl, t, _, rfl, pl_f (.inl p1.1), _, rfl, t, _, rfl, pl_b (.inl p1.1), _, rfl, _, _, rfl, rfl, md_log (sm hb (by decide +kernel)) (sm hz (by decide +kernel)), _, _, rfl, ?_⟩
    dsimp only [gName, tSeq, List.set]
    refine ⟨_, rfl, _, rfl, _, _, rfl, rfl, md_log (sm hj (by decide +kernel)) (sm hf (by decide +kernel)), _, rfl, _, _, rfl, rfl, md_log (sm hjf (by decide +kernel)) (sm hmx (by decide +kernel)), _, rfl, _, _, rfl, rfl, _, rfl, t, _, rfl, pl_a (.inl p1.1), _, rfl, _, rfl, _, _, rfl, rfl, _, _, rfl, rfl, md_log (sm ha (by decide +kernel)) (sm hiz (by decide +kernel)), _, _, rfl, rfl, ?_⟩
    dsimp only [gName, tSeq, List.set]
    have hov : (j * g.f * mxOf ks - g.b * z - g.a * (i - z)).natAbs ≤ 10 ^ 50 := by omega
    have hfc : (g.f * mnOf ks + g.b * z).natAbs ≤ 10 ^ 50 := by omega
    have hso := mul_bd hmn hov
    have eW : mxOf ks * smOf ks * (g.f * mnOf ks + g.b * z) + mnOf ks * (j * g.f * mxOf ks - g.b * z - g.a * (i - z)) * (if j * g.f * mxOf ks - g.b * z - g.a * (i - z) ≤ 0 then mxOf ks else smOf ks) = wth ks g i j z := by
      have eo : j * g.f * mxOf ks - g.b * z - g.a * (i - z) = wAh ks g i j z := by unfold wAh; grind
      rw [eo]
      unfold wth unO
      split
      · grind
      · grind
    refine ⟨_, rfl, _, rfl, _, _, rfl, rfl, md_log (sm hmx (by decide +kernel)) (sm hsm (by decide +kernel)), _, rfl, _, rfl, _, _, rfl, rfl, md_log (sm hf (by decide +kernel)) (sm hmn (by decide +kernel)), _, rfl, _, _, rfl, rfl, _, _, rfl, rfl, md_log (sm hxs (by decide +kernel)) (sm hfc (by decide +kernel)), ?_⟩
    refine ⟨_, rfl, _, rfl, _, _, rfl, rfl, md_log (sm hmn (by decide +kernel)) (sm hov (by decide +kernel)), _, rfl, _, _, rfl, rfl, _, rfl, ite2 (fun cc => ?_) (fun cc => ?_)⟩
    · rw [if_pos (of_decide_eq_true cc)] at eW
      refine ⟨_, rfl, _, _, rfl, rfl, md_log (sm hso (by decide +kernel)) (sm hmx (by decide +kernel)), _, _, rfl, rfl, ?_⟩
      dsimp only
      rw [eW]
      exact k H1 s1
    · rw [if_neg (fun q => cc (decide_eq_true q))] at eW
      refine ⟨_, rfl, _, _, rfl, rfl, md_log (sm hso (by decide +kernel)) (sm hsm (by decide +kernel)), _, _, rfl, rfl, ?_⟩
      dsimp only
      rw [eW]
      exact k H1 s1
theorem scLun : FnScope ["_law_plan", "_law_slow", "_law_fast", "_law_whole"] ["_law_plan"] (C8.fnScope sLun) := C8.fnScope_by (by decide +kernel)
theorem cal_lun {f : Addr} {fd : FuncData} (F : C8.Def K mg "_law_under" sLun f fd) (b : Binds K fd ["_law_plan"] []) (T : TxtC mg) (D3 : C8.Cal P w K mg base 1 "_law_three" spLth []) : C8.Cal P w K mg base 2 "_law_under" spLun [] := by
  refine C8.cal0 F b .nil scLun (fun vs H Q E h => ?_) (fun cdv A outer st H vs Q E hr h => ?_)
  · obtain ⟨t, d, ks, g, rfl, _⟩ := h
    rfl
  · obtain ⟨t, d, ks, g, rfl, pa, ok, k⟩ := h
    refine ⟨_, (pss_cons (ps_asg (C8.pe_c D3 hr (by decide) (by rfl) (pa_cons (pv 0) pa_nil)) (pg_tup (by rfl) (pgs_cons (pg_name (i := 1) scLun.nd rfl (Or.inl rfl)) (pgs_cons (pg_name (i := 2) scLun.nd rfl (Or.inl rfl)) (pgs_cons (pg_name (i := 3) scLun.nd rfl (Or.inl rfl)) pgs_nil)))))
  (pss_one (ps_ret (pe_op op_mulW (pe_op op_mulW (pv 1) (pv 2)) (pv 3))))), ?_⟩
    refine ⟨_, rfl, t, d, ks, g, rfl, pa, ok, fun r H1 s1 f1 h1 => ?_⟩
    obtain ⟨⟨bm0, bm1⟩, ⟨bx0, bx1⟩, ⟨bs0, bs1⟩⟩ := ks_bd ok
    have hmx : (mxOf ks).natAbs ≤ 60 := by omega
    have hmn : (mnOf ks).natAbs ≤ 60 := by omega
    have hsm : (smOf ks).natAbs ≤ 480 := by omega
    have hmm := mul_bd hmn hmx
    refine ⟨r, _, rfl, SqT.of h1, rfl, ?_⟩
    refine ⟨_, _, rfl, ?_⟩
    dsimp only [gName]
    refine ⟨_, _, rfl, ?_⟩
    dsimp only [gName]
    refine ⟨_, _, rfl, ?_⟩
    dsimp only [gName, gNil]
    refine ⟨rfl, ?_⟩
    exact ⟨_, rfl, _, rfl, _, _, rfl, rfl, md_log (sm_of hmn (by decide +kernel)) (sm_of hmx (by decide +kernel)), _, rfl, _, _, rfl, rfl, md_log (sm_of hmm (by decide +kernel)) (sm_of hsm (by decide +kernel)), k H1 s1⟩
end
theorem ix_listK {X : Cx} (K : PySem.W.Frag) (e : X.K = K) : IxR X (rIxL K) := by
  subst e; exact ix_list
theorem sl_listK {X : Cx} (K : PySem.W.Frag) (e : X.K = K) : SlR X (rSlL K) := by
  subst e; exact sl_list
theorem cr_sumK {X : Cx} (K : PySem.W.Frag) (e : X.K = K) (hc : X.calm = true) : CallR X (.builtin "sum") (rSum K) := by
  subst e; exact cr_sum hc
/-- a list of numbers to pick from, apart from the pen -/
def KdAt (p pl : Addr) (B : Int) (H : Hp) (kk : Addr) : Prop := ∃ ys : List Int, H kk = some (.lst (ys.map V.int)) ∧ kk ≠ p ∧ kk ≠ pl ∧ 0 < ys.length ∧ ys.length ≤ 8 ∧ ∀ y ∈ ys, 1 ≤ y ∧ y ≤ B
theorem KdAt.kp {p pl : Addr} {B : Int} {H H' : Hp} {kk : Addr} (h : KdAt p pl B H kk) (k : Kp p H H') : KdAt p pl B H' kk := by
  obtain ⟨ys, h1, h2, h3⟩ := h
  exact ⟨ys, k _ _ h2 h1, h2, h3⟩
theorem kd_mk {p pl : Addr} {B : Int} {n : Nat} {H H' : Hp} {q : Addr} {xs : List V} (hp : Pen H p pl n) (h : H' q = some (.lst xs) ∧ H q = none) (ys : List Int) (e : xs = ys.map V.int) (l0 : 0 < ys.length) (l8 : ys.length ≤ 8) (b : ∀ y ∈ ys, 1 ≤ y ∧ y ≤ B) : KdAt p pl B H' q :=
  ⟨ys, by rw [h.1, e], hp.ne_new h.2, hp.ne_new2 h.2, l0, l8, b⟩
def nmA : List Str := [Str.ofString "zz", Str.ofString "b", Str.ofString "abcdefgh", Str.ofString "m", Str.ofString "x", Str.ofString "k", Str.ofString "aa", Str.ofString "w"]
def nmB : List Str := [Str.ofString "a", Str.ofString "b", Str.ofString "c", Str.ofString "d", Str.ofString "e", Str.ofString "f", Str.ofString "g", Str.ofString "h"]
theorem cut_eight {N : List Str} (l8 : N.length = 8) {m : Nat} (hm : m < 8) : cutV (N.map V.str) none (some (1 + (m : Int))) = (N.take (m + 1)).map V.str := by
  unfold cutV
  rw [show (1 + (m : Int)) = ((m + 1 : Nat) : Int) by omega, HT.sIx_nat, List.length_map, l8, show HT.sIx 8 0 none = 0 from rfl, List.drop_zero, List.map_take]
  congr 1
  omega
theorem kinds6 {H : Hp} {q1 q2 q3 q4 q5 q6 q : Addr} {l1 l2 l3 l4 l5 l6 l : HO} (f1 : H q1 = none) (f2 : upd H q1 l1 q2 = none) (f3 : upd (upd H q1 l1) q2 l2 q3 = none) (f4 : upd (upd (upd H q1 l1) q2 l2) q3 l3 q4 = none) (f5 : upd (upd (upd (upd H q1 l1) q2 l2) q3 l3) q4 l4 q5 = none) (f6 : upd (upd (upd (upd (upd H q1 l1) q2 l2) q3 l3) q4 l4) q5 l5 q6 = none) (f : upd (upd (upd (upd (upd (upd H q1 l1) q2 l2) q3 l3) q4 l4) q5 l5) q6 l6 q = none) :
    ∃ H6, upd (upd (upd (upd (upd (upd (upd H q1 l1) q2 l2) q3 l3) q4 l4) q5 l5) q6 l6) q l = H6 ∧ Same H H6 ∧ (H6 q = some l ∧ H q = none) ∧ (H6 q1 = some l1 ∧ H q1 = none) ∧ (H6 q2 = some l2 ∧ H q2 = none) ∧ (H6 q3 = some l3 ∧ H q3 = none) ∧ (H6 q4 = some l4 ∧ H q4 = none) ∧ (H6 q5 = some l5 ∧ H q5 = none) ∧ (H6 q6 = some l6 ∧ H q6 = none) := by
  have s1 := same_new (o := l1) f1
  have s2 := same_new (o := l2) f2
  have s3 := same_new (o := l3) f3
  have s4 := same_new (o := l4) f4
  have s5 := same_new (o := l5) f5
  have s6 := same_new (o := l6) f6
  have s7 := same_new (o := l) f
  have h1 : upd H q1 l1 q1 = some l1 := upd_same
  have h2 : upd (upd H q1 l1) q2 l2 q2 = some l2 := upd_same
  have h3 : upd (upd (upd H q1 l1) q2 l2) q3 l3 q3 = some l3 := upd_same
  have h4 : upd (upd (upd (upd H q1 l1) q2 l2) q3 l3) q4 l4 q4 = some l4 := upd_same
  have h5 : upd (upd (upd (upd (upd H q1 l1) q2 l2) q3 l3) q4 l4) q5 l5 q5 = some l5 := upd_same
  have h6 : upd (upd (upd (upd (upd (upd H q1 l1) q2 l2) q3 l3) q4 l4) q5 l5) q6 l6 q6 = some l6 := upd_same
  exact ⟨_, rfl, s1.trans (s2.trans (s3.trans (s4.trans (s5.trans (s6.trans s7))))), ⟨upd_same, s1.free (s2.free (s3.free (s4.free (s5.free (s6.free f)))))⟩, ⟨s7 _ _ (s6 _ _ (s5 _ _ (s4 _ _ (s3 _ _ (s2 _ _ h1))))), f1⟩, ⟨s7 _ _ (s6 _ _ (s5 _ _ (s4 _ _ (s3 _ _ h2)))), s1.free f2⟩, ⟨s7 _ _ (s6 _ _ (s5 _ _ (s4 _ _ h3))), s1.free (s2.free f3)⟩, ⟨s7 _ _ (s6 _ _ (s5 _ _ h4)), s1.free (s2.free (s3.free f4))⟩, ⟨s7 _ _ (s6 _ _ h5), s1.free (s2.free (s3.free (s4.free f5)))⟩, ⟨s7 _ _ h6, s1.free (s2.free (s3.free (s4.free (s5.free f6))))⟩⟩
theorem kd_six {p pl : Addr} {B : Int} {H : Hp} {q1 q2 q3 q4 q5 q6 : Addr} {v : V} (hv : v ∈ [V.ref q1, .ref q2, .ref q3, .ref q4, .ref q5, .ref q6]) (h1 : KdAt p pl B H q1) (h2 : KdAt p pl B H q2) (h3 : KdAt p pl B H q3) (h4 : KdAt p pl B H q4) (h5 : KdAt p pl B H q5) (h6 : KdAt p pl B H q6) : ∃ kk, v = .ref kk ∧ KdAt p pl B H kk := by
  simp only [List.mem_cons, List.not_mem_nil, or_false] at hv
  rcases hv with rfl | rfl | rfl | rfl | rfl | rfl
  · exact ⟨_, rfl, h1⟩
  · exact ⟨_, rfl, h2⟩
  · exact ⟨_, rfl, h3⟩
  · exact ⟨_, rfl, h4⟩
  · exact ⟨_, rfl, h5⟩
  · exact ⟨_, rfl, h6⟩
def spLdp : Sp := fun vs H Q _ => ∃ (p pl : Addr) (n : Nat) (m0 : Int), vs = [.ref p, .int m0] ∧ 1 ≤ m0 ∧ m0 ≤ 8 ∧ Pen H p pl n ∧ n ≤ 900000 ∧
  ∀ t d (ks : List (Str × Int)) (g : Gst) H', Pen H' p pl (n + 30) → Kp p H H' → H t = none → H d = none → PlA H' t d ks g → KsOk ks → g.Ok → g.b ≤ 9 → g.f ≤ 7 → Q (.ref t) H'
theorem wth_bd {ks : List (Str × Int)} {g : Gst} {i j z : Int} (ok : KsOk ks) (gok : g.Ok) (j0 : 0 ≤ j) (j1 : j ≤ 5000) (z0 : 1 ≤ z) (z1 : z ≤ i) (i1 : i ≤ 10 ^ 34) : (wth ks g i j z).natAbs ≤ 10 ^ 60 := by
  obtain ⟨⟨bm0, bm1⟩, ⟨bx0, bx1⟩, ⟨bs0, bs1⟩⟩ := ks_bd ok
  obtain ⟨o1, o2, o3, o4, o5⟩ := gok
  have hf : g.f.natAbs ≤ 10 ^ 30 := by omega
  have hmx : (mxOf ks).natAbs ≤ 60 := by omega
  have hmn : (mnOf ks).natAbs ≤ 60 := by omega
  have hsm : (smOf ks).natAbs ≤ 480 := by omega
  have hb : g.b.natAbs ≤ 60 := by omega
  have ha : g.a.natAbs ≤ 60 := by omega
  have hj : j.natAbs ≤ 5000 := by omega
  have hz : z.natAbs ≤ 10 ^ 34 := by omega
  have hiz : (i - z).natAbs ≤ 10 ^ 34 := by omega
  have h1 := mul_bd (mul_bd hf hmx) hj
  have h2 := mul_bd hb hz
  have h3 := mul_bd ha hiz
  have hw : (wAh ks g i j z).natAbs ≤ 10 ^ 40 := by unfold wAh; omega
  have hmm := mul_bd hmn hmx
  have hms := mul_bd hmn hsm
  have hu := mul_bd hmm hsm
  have h4 := mul_bd hf hu
  have h5 := mul_bd (mul_bd (mul_bd hb hmx) hsm) hz
  have h6 := mul_bd hw hmm
  have h7 := mul_bd hw hms
  unfold wth unO
  split <;> omega
theorem un_bd {ks : List (Str × Int)} (ok : KsOk ks) : (unO ks).natAbs ≤ 10 ^ 7 := by
  obtain ⟨⟨bm0, bm1⟩, ⟨bx0, bx1⟩, ⟨bs0, bs1⟩⟩ := ks_bd ok
  have hmx : (mxOf ks).natAbs ≤ 60 := by omega
  have hmn : (mnOf ks).natAbs ≤ 60 := by omega
  have hsm : (smOf ks).natAbs ≤ 480 := by omega
  have := mul_bd (mul_bd hmn hmx) hsm
  unfold unO
  omega
/-- pairs to pick from -/
def PrAt (p : Addr) (H : Hp) (v : V) : Prop := ∃ a m q, v = .ref a ∧ H a = some (.tup [.int m, .int q]) ∧ a ≠ p ∧ m.natAbs ≤ 40 ∧ 1 ≤ q ∧ q ≤ 7
def PsAt (p : Addr) (H : Hp) (vs : List V) : Prop := ∀ v ∈ vs, PrAt p H v
theorem PsAt.kp {p : Addr} {H H' : Hp} {vs : List V} (h : PsAt p H vs) (k : Kp p H H') : PsAt p H' vs := fun v hv => by
  obtain ⟨a, m, q, e, ha, ap, b⟩ := h v hv
  exact ⟨a, m, q, e, k _ _ ap ha, ap, b⟩
theorem PsAt.snoc {p t : Addr} {H : Hp} {vs : List V} {m q : Int} (h : PsAt p H vs) (f : H t = none) (tp : t ≠ p) (bm : m.natAbs ≤ 40) (q1 : 1 ≤ q) (q7 : q ≤ 7) : PsAt p (upd H t (.tup [.int m, .int q])) (vs ++ [.ref t]) := fun v hv => by
  rcases List.mem_append.mp hv with hv | hv
  · exact (h.kp (.of (same_new f))) v hv
  · rw [List.mem_singleton.mp hv]
    exact ⟨t, m, q, rfl, upd_same, tp, bm, q1, q7⟩
theorem un_pos {ks : List (Str × Int)} (ok : KsOk ks) : 1 ≤ unO ks := by
  obtain ⟨⟨bm0, bm1⟩, ⟨bx0, bx1⟩, ⟨bs0, bs1⟩⟩ := ks_bd ok
  exact Int.mul_pos (Int.mul_pos (by omega) (by omega)) (by omega)
section
variable {P : Program} {w : World} {K : PySem.W.Frag} {mg : Str → Option Value} {base : Heap} {RC fR : Addr} {fdR : FuncData} {ds : List Value}
theorem scLdp : FnScope ["_law_pen_here", "_law_many", "_law_names", "_law_name", "_law_least_so", "_law_most_so", "_law_speeds", "_law_kind"] ["_law_pen_here", "_law_many"] (C8.fnScope sLdp) := C8.fnScope_by (by decide +kernel)
theorem cal_ldp {f : Addr} {fd : FuncData} (F : C8.Def K mg "_law_drawn_plan" sLdp f fd) (b : Binds K fd ["_law_pen_here", "_law_many"] []) (T : TxtC mg) (D0 : C8.Cal P w K mg base 1 "_law_draw" spDraw []) (DP : C8.Cal P w K mg base 2 "_law_pick" (spPick K) []) : C8.Cal P w K mg base 3 "_law_drawn_plan" spLdp [] := by
  refine C8.cal0 F b .nil scLdp (fun vs H Q E h => ?_) (fun cdv A outer st H vs Q E hr h => ?_)
  · obtain ⟨p, pl, n, m0, rfl, _⟩ := h
    rfl
  · obtain ⟨p, pl, n, m0, rfl, m01, m08, hp, hn, k⟩ := h
    refine ⟨_, (pss_cons (ps_set (i := 2) scLdp.nd rfl (Or.inl rfl) (pe_lst (pa_cons pe_str (pa_cons pe_str (pa_cons pe_str (pa_cons pe_str (pa_cons pe_str (pa_cons pe_str (pa_cons pe_str (pa_cons pe_str pa_nil))))))))))
  (pss_cons (ps_if (pt_cmpR op_eq (C8.pe_c D0 hr (by decide) (by rfl) (pa_cons (pv 0) (pa_cons pe_int pa_nil))) pe_int (nomark _)) (pss_one (ps_set (i := 2) scLdp.nd rfl (Or.inl rfl) (pe_lst (pa_cons pe_str (pa_cons pe_str (pa_cons pe_str (pa_cons pe_str (pa_cons pe_str (pa_cons pe_str (pa_cons pe_str (pa_cons pe_str pa_nil))))))))))) pss_nil)
  (pss_cons (ps_par (i := 6) (j := 7) rfl scLdp.nd rfl rfl (by decide) rfl rfl (pa_cons pe_dnewK (pa_cons (C8.pe_c DP hr (by decide) (by rfl) (pa_cons (pv 0) (pa_cons (pe_lst (pa_cons (pe_lst (pa_cons pe_int pa_nil)) (pa_cons (pe_lst (pa_cons pe_int (pa_cons pe_int (pa_cons pe_int pa_nil)))) (pa_cons (pe_lst (pa_cons pe_int (pa_cons pe_int (pa_cons pe_int pa_nil)))) (pa_cons (pe_lst (pa_cons pe_int (pa_cons pe_int (pa_cons pe_int pa_nil)))) (pa_cons (pe_lst (pa_cons pe_int pa_nil)) (pa_cons (pe_lst (pa_cons pe_int (pa_cons pe_int pa_nil))) pa_nil))))))) pa_nil))) pa_nil)) (by rfl))
  (pss_cons (ps_for PassesOwn.never rfl (pi_list (pe_slice sl_list (pv 2) po_none (po_some (pe_op op_add pe_int (C8.pe_c D0 hr (by decide) (by rfl) (pa_cons (pv 0) (pa_cons (pv 1) pa_nil))))))) (pg_name (i := 3) scLdp.nd rfl (Or.inl rfl)) (pss_one (ps_dput (hu_of hr) (pv 6) (pv 3) (C8.pe_c DP hr (by decide) (by rfl) (pa_cons (pv 0) (pa_cons (pv 7) pa_nil))) (by rfl))))
  (pss_cons (ps_set (i := 4) scLdp.nd rfl (Or.inl rfl) (C8.pe_c DP hr (by decide) (by rfl) (pa_cons (pv 0) (pa_cons (pe_lst (pa_cons pe_int (pa_cons pe_int (pa_cons pe_int (pa_cons pe_int pa_nil))))) pa_nil))))
  (pss_cons (ps_set (i := 5) scLdp.nd rfl (Or.inl rfl) (pe_op op_add (pv 4) (C8.pe_c DP hr (by decide) (by rfl) (pa_cons (pv 0) (pa_cons (pe_lst (pa_cons pe_int (pa_cons pe_int (pa_cons pe_int (pa_cons pe_int pa_nil))))) pa_nil)))))
  (pss_one (ps_ret (pe_disp (pps_cons pe_str (pv 6) (pps_cons pe_str (pv 4) (pps_cons pe_str (pv 5) (pps_cons pe_str (C8.pe_c DP hr (by decide) (by rfl) (pa_cons (pv 0) (pa_cons (pe_lst (pa_cons pe_int (pa_cons pe_int (pa_cons pe_int (pa_cons pe_int (pa_cons pe_int pa_nil)))))) pa_nil))) pps_nil)))) (by rfl) (by rfl) (fun z => by cases z) (by decide)))))))))), ?_⟩
    refine ⟨by show 8 ≤ sizeLine; decide, fun L0 hL => ?_⟩
    have sL := same_new (o := HO.lst (nmA.map V.str)) hL
    have hL1 : upd H L0 (.lst (nmA.map V.str)) L0 = some (.lst (nmA.map V.str)) := upd_same
    have hp1 := hp.keep sL
    have Lp0 := hp.ne_new hL
    have Ll0 := hp.ne_new2 hL
    dsimp only [gName, tSeq]
    refine join_any (fun σ' H' => ∃ L N, σ' = [some (.ref p), some (.int m0), some (.ref L), none, none, none, none, none] ∧ H' L = some (.lst (N.map V.str)) ∧ L ≠ p ∧ L ≠ pl ∧ (N = nmA ∨ N = nmB) ∧ Pen H' p pl (n + 1) ∧ Kp p H H') (fun σ' H1 hJ => ?_) (fun go => ?_)
    · obtain ⟨L, N, rfl, hN, Lp, Ll, eN, hp2, k2⟩ := hJ
      clear sL hL1 hp1 Lp0 Ll0 hL
      dsimp only [tSeq]
      refine fun D hD => ?_
      have sD := same_new (o := HO.dK []) hD
      have hD1 : upd H1 D (.dK []) D = some (.dK []) := upd_same
      have hpD := hp2.keep sD
      have Dp := hp2.ne_new hD
      have Dl := hp2.ne_new2 hD
      have fD := Kp.free k2 Dp hD
      have hN1 := sD _ _ hN
      have kD := k2.trans (.of sD)
      generalize upd H1 D (.dK []) = H2 at sD hD1 hpD hN1 kD ⊢
      refine ⟨_, rfl, (by show 1 ≤ sizeLine; decide), fun q1 f1 => ⟨(by show 3 ≤ sizeLine; decide), fun q2 f2 => ⟨(by show 3 ≤ sizeLine; decide), fun q3 f3 => ⟨(by show 3 ≤ sizeLine; decide), fun q4 f4 => ⟨(by show 1 ≤ sizeLine; decide), fun q5 f5 => ⟨(by show 2 ≤ sizeLine; decide), fun q6 f6 => ⟨(by show 6 ≤ sizeLine; decide), fun q f => ?_⟩⟩⟩⟩⟩⟩⟩
      obtain ⟨H6, eH, s6, g0, g1, g2, g3, g4, g5, g6⟩ := kinds6 (l := .lst [.ref q1, .ref q2, .ref q3, .ref q4, .ref q5, .ref q6]) f1 f2 f3 f4 f5 f6 f
      clear f1 f2 f3 f4 f5 f6 f
      rw [eH]
      clear eH
      refine ⟨p, pl, q, n + 1, _, rfl, hpD.keep s6, by omega, SqL.of g0.1, hpD.ne_new g0.2, (by show 0 < 6; decide), (by show 6 < 1000000; decide), fun j v H7 hj hp7 k7 => ?_⟩
      have d1 : KdAt p pl 60 H6 q1 := kd_mk hpD g1 [1] rfl (by decide) (by decide) (by decide +kernel)
      have d2 : KdAt p pl 60 H6 q2 := kd_mk hpD g2 [1, 1, 2] rfl (by decide) (by decide) (by decide +kernel)
      have d3 : KdAt p pl 60 H6 q3 := kd_mk hpD g3 [1, 3, 7] rfl (by decide) (by decide) (by decide +kernel)
      have d4 : KdAt p pl 60 H6 q4 := kd_mk hpD g4 [2, 3, 4] rfl (by decide) (by decide) (by decide +kernel)
      have d5 : KdAt p pl 60 H6 q5 := kd_mk hpD g5 [5] rfl (by decide) (by decide) (by decide +kernel)
      have d6 : KdAt p pl 60 H6 q6 := kd_mk hpD g6 [1, 60] rfl (by decide) (by decide) (by decide +kernel)
      obtain ⟨kk, rfl, kd⟩ := kd_six (List.mem_of_getElem? hj) d1 d2 d3 d4 d5 d6
      replace kd := kd.kp k7
      have hN7 := k7 _ _ Lp (s6 _ _ hN1)
      have hD7 := k7 _ _ Dp (s6 _ _ hD1)
      have k07 : Kp p H H7 := (kD.trans (.of s6)).trans k7
      clear d1 d2 d3 d4 d5 d6 g0 g1 g2 g3 g4 g5 g6 hj k7 s6 hN1 hD1 hpD kD sD hD hp2 k2
      obtain ⟨ys, y1, y2, y3, y4, y5, y6⟩ := kd
      have kkD : kk ≠ D := fun e => by rw [e, hD7] at y1; cases y1
      refine ⟨_, _, rfl, ?_⟩
      dsimp only [tSeq]
      refine ⟨_, rfl, _, rfl, _, rfl, p, pl, _, m0, rfl, by omega, by omega, hp7, by omega, fun r H3 r0 r1 hp3 k3 => ?_⟩
      obtain ⟨m, rfl⟩ : ∃ m : Nat, r = (m : Int) := ⟨r.toNat, by omega⟩
      have hm : m < 8 := by omega
      have hN3 := k3 _ _ Lp hN7
      have hD3 := k3 _ _ Dp hD7
      have y13 := k3 _ _ y2 y1
      have k03 := k07.trans k3
      clear hN7 hD7 y1 k07 k3 hp7
      have N8 : N.length = 8 := by rcases eN with rfl | rfl <;> rfl
      have ndN : (N.take (m + 1)).Nodup := by
        refine List.Nodup.sublist (List.take_sublist _ _) ?_
        rcases eN with rfl | rfl
        · decide +kernel
        · decide +kernel
      have okN : ∀ z ∈ N, nameT z = true := by
        rcases eN with rfl | rfl
        · decide +kernel
        · decide +kernel
      have ln : (N.take (m + 1)).length = m + 1 := by rw [List.length_take]; omega
      refine ⟨_, _, rfl, rfl, _, rfl, L, _, rfl, SqL.of hN3, fun q hq => ?_⟩
      rw [cut_eight N8 hm]
      have sq := same_new (o := HO.lst ((N.take (m + 1)).map V.str)) hq
      have hq1 : upd H3 q (.lst ((N.take (m + 1)).map V.str)) q = some (.lst ((N.take (m + 1)).map V.str)) := upd_same
      have hp4 := hp3.keep sq
      have qp := hp3.ne_new hq
      have qD : q ≠ D := fun e => by rw [e, hD3] at hq; cases hq
      have k4 := k03.trans (.of sq)
      have hD4 := sq _ _ hD3
      have y14 := sq _ _ y13
      generalize upd H3 q (.lst ((N.take (m + 1)).map V.str)) = H4 at sq hq1 hp4 hD4 k4 y14 ⊢
      refine ⟨q, rfl, ⟨_, SqL.of hq1⟩, for_list (xs := (N.take (m + 1)).map V.str) (fun i σ' H' => ∃ x3, σ' = [some (V.ref p), some (V.int m0), some (V.ref L), x3, none, none, some (V.ref D), some (V.ref kk)] ∧ Pen H' p pl (n + 3 + i) ∧ Kp p H H' ∧ H' q = some (.lst ((N.take (m + 1)).map V.str)) ∧ H' kk = some (.lst (ys.map V.int)) ∧
        ∃ ks : List (Str × Int), H' D = some (.dK (dkI ks)) ∧ ks.map (·.1) = (N.take (m + 1)).take i ∧ ∀ q ∈ ks, 1 ≤ q.2 ∧ q.2 ≤ 60)
        ⟨_, rfl, hp4.more (by omega), k4, hq1, y14, [], hD4, rfl, fun q hq => (by cases hq)⟩ (fun i σ' H' _ ⟨_, _, _, _, h, _⟩ => SqL.of h) ?_ ?_⟩
      · rintro i x σ' H' hx ⟨x3, rfl, hpi, ki, hqi, hyi, ks, hDi, ek, inv⟩
        rw [List.getElem?_map] at hx
        obtain ⟨z, hz, rfl⟩ := Option.map_eq_some_iff.mp hx
        obtain ⟨li, ez⟩ := List.getElem?_eq_some_iff.mp hz
        have li' : i < m + 1 := by omega
        dsimp only [gName]
        refine ⟨_, rfl, _, rfl, p, pl, kk, _, _, rfl, hpi, by omega, SqL.of hyi, y2, by rw [List.length_map]; exact y4, by rw [List.length_map]; omega, fun j v H5 hj hp5 k5 => ?_⟩
        rw [List.getElem?_map] at hj
        obtain ⟨x, hx2, rfl⟩ := Option.map_eq_some_iff.mp hj
        have hx' := y6 x (List.mem_of_getElem? hx2)
        have hD5 := k5 _ _ Dp hDi
        have hq5 := k5 _ _ qp hqi
        have hy5 := k5 _ _ y2 hyi
        have out : z ∉ (ks.map fun q => (q.1, V.int q.2)).map (·.1) := fun mz => by
          rw [List.map_map] at mz
          have mz : z ∈ ks.map (·.1) := mz
          rw [ek] at mz
          obtain ⟨j2, hj2, e2⟩ := List.mem_take_iff_getElem.mp mz
          have := nd_inj ndN (hi := by omega) (hj := li) (e2.trans ez.symm)
          omega
        have lk : ks.length = i := by
          have := congrArg List.length ek
          rw [List.length_map, List.length_take] at this
          omega
        refine ⟨_, rfl, _, rfl, D, _, rfl, DPut.k (k := Sum.inr z) hD5 ?_, _, rfl, ((hp5.more (by omega)).over Dp Dl), fun b o hb e => ?_, ?_, ?_, ks ++ [(z, x)], ?_, ?_, ?_⟩
        · rw [List.length_map, List.length_map, lk]
          exact Nat.lt_of_lt_of_le (show i < 8 by omega) (by decide)
        · rw [upd_ne (ne_of_none e fD)]
          exact k5 _ _ hb (ki _ _ hb e)
        · rw [upd_ne qD]; exact hq5
        · rw [upd_ne kkD]; exact hy5
        · rw [upd_same, putK_out out]
          simp only [dkI, dkOf, List.map_append, List.map_cons, List.map_nil]
        · rw [List.map_append, ek, List.take_add_one (l := N.take (m + 1)) (i := i), hz]; rfl
        · intro r hr
          rcases List.mem_append.mp hr with hr | hr
          · exact inv r hr
          · rw [List.mem_singleton.mp hr]; exact hx'
      · rintro σ1 H5 ⟨x3, rfl, hp5, k5, hq5, hy5, ks, hD5, ek, inv⟩
        rw [List.length_map] at hp5 ek
        rw [List.take_of_length_le (Nat.le_refl _)] at ek
        have lk : ks.length = m + 1 := by
          have := congrArg List.length ek
          rw [List.length_map, ln] at this
          exact this
        have kok : KsOk ks := by
          refine ⟨by rw [ek]; exact ndN, by omega, by omega, fun q hq => ?_⟩
          have hm := List.mem_map_of_mem (f := (·.1)) hq
          rw [ek] at hm
          exact ⟨okN _ (List.take_subset _ _ hm), inv q hq⟩
        rw [ln] at hp5
        clear hq5 hy5 k4 hp4 hq1 y14 hD4 sq hN3 hD3 y13 k03 hp3
        refine ⟨_, rfl, (by show 4 ≤ sizeLine; decide), fun u fu => ?_⟩
        have s6 := same_new (o := HO.lst [V.int 1, V.int 1, V.int 2, V.int 5]) fu
        refine ⟨p, pl, u, _, [V.int 1, V.int 1, V.int 2, V.int 5], rfl, hp5.keep s6, by omega, SqL.of upd_same, hp5.ne_new fu, by decide, by decide, fun j v H7 hj hp7 k7 => ?_⟩
        obtain ⟨a, rfl, a1, a2⟩ : ∃ x : Int, v = .int x ∧ 1 ≤ x ∧ x ≤ 5 := by
          have hv := List.mem_of_getElem? hj
          simp only [List.mem_cons, List.not_mem_nil, or_false] at hv
          rcases hv with rfl | rfl | rfl | rfl <;> exact ⟨_, rfl, by decide, by decide⟩
        have k07 : Kp p H H7 := (k5.trans (.of s6)).trans k7
        have hD7 := k7 _ _ Dp (s6 _ _ hD5)
        dsimp only [gName, tSeq]
        refine ⟨_, rfl, _, rfl, (by show 4 ≤ sizeLine; decide), fun u2 fu2 => ?_⟩
        have s8 := same_new (o := HO.lst [V.int 0, V.int 0, V.int 1, V.int 4]) fu2
        refine ⟨p, pl, u2, _, [V.int 0, V.int 0, V.int 1, V.int 4], rfl, hp7.keep s8, by omega, SqL.of upd_same, hp7.ne_new fu2, by decide, by decide, fun j2 v2 H9 hj2 hp9 k9 => ?_⟩
        obtain ⟨c, rfl, c1, c2⟩ : ∃ x : Int, v2 = .int x ∧ 0 ≤ x ∧ x ≤ 4 := by
          have hv := List.mem_of_getElem? hj2
          simp only [List.mem_cons, List.not_mem_nil, or_false] at hv
          rcases hv with rfl | rfl | rfl | rfl <;> exact ⟨_, rfl, by decide, by decide⟩
        have k09 : Kp p H H9 := (k07.trans (.of s8)).trans k9
        have hD9 := k9 _ _ Dp (s8 _ _ hD7)
        refine ⟨_, _, rfl, rfl, ?_⟩
        dsimp only [gName, tSeq]
        refine fun t ht => ⟨_, rfl, _, rfl, _, rfl, _, rfl, (by show 5 ≤ sizeLine; decide), fun u3 fu3 => ?_⟩
        have st := same_new (o := HO.dK []) ht
        have ht1 : upd H9 t (.dK []) t = some (.dK []) := upd_same
        have s10 := same_new (o := HO.lst [V.int 0, V.int 0, V.int 1, V.int 2, V.int 7]) fu3
        have tp := hp9.ne_new ht
        have tl := hp9.ne_new2 ht
        have hpt := hp9.keep st
        have tD : t ≠ D := fun e => by rw [e, hD9] at ht; cases ht
        refine ⟨p, pl, u3, _, [V.int 0, V.int 0, V.int 1, V.int 2, V.int 7], rfl, hpt.keep s10, by omega, SqL.of upd_same, hpt.ne_new fu3, by decide, by decide, fun j3 v3 H11 hj3 hp11 k11 => ?_⟩
        obtain ⟨f0, rfl, f1, f2⟩ : ∃ x : Int, v3 = .int x ∧ 0 ≤ x ∧ x ≤ 7 := by
          have hv := List.mem_of_getElem? hj3
          simp only [List.mem_cons, List.not_mem_nil, or_false] at hv
          rcases hv with rfl | rfl | rfl | rfl | rfl <;> exact ⟨_, rfl, by decide, by decide⟩
        have ht11 := k11 _ _ tp (s10 _ _ ht1)
        have hD11 := k11 _ _ Dp (s10 _ _ (st _ _ hD9))
        have ft : H t = none := Kp.free k09 tp ht
        have k011 : Kp p H H11 := ((k09.trans (.of st)).trans (.of s10)).trans k11
        refine ⟨ht11, plV D ⟨a, a + c, f0⟩, rfl, by show 4 ≤ 15; decide, ?_⟩
        refine k t D ks ⟨a, a + c, f0⟩ _ ((hp11.more (by omega)).over tp tl) (fun b o hb e => ?_) ft fD ⟨upd_same, ?_⟩ kok ⟨by show 1 ≤ a; omega, by show a ≤ a + c; omega, by show a + c ≤ 60; omega, f1, Int.le_trans f2 (by decide)⟩ (by show a + c ≤ 9; omega) f2
        · rw [upd_ne (ne_of_none e ft)]
          exact k011 _ _ hb e
        · rw [upd_ne tD.symm]
          exact hD11
    · refine ⟨_, rfl, p, pl, n, 2, rfl, by decide, by decide, hp1, by omega, fun r H2 r0 r1 hp2 k2 => ?_⟩
      have hL2 := k2 _ _ Lp0 hL1
      have k02 := (Kp.of sL).trans k2
      refine ⟨rfl, _, rfl, ite2 (fun cc => ?_) (fun cc => ?_)⟩
      · refine ⟨by show 8 ≤ sizeLine; decide, fun L3 hL3 => go _ _ ⟨L3, nmB, rfl, upd_same, hp2.ne_new hL3, hp2.ne_new2 hL3, .inr rfl, hp2.keep (same_new hL3), k02.trans (.of (same_new hL3))⟩⟩
      · exact go _ _ ⟨L0, nmA, rfl, hL2, Lp0, Ll0, .inl rfl, hp2, k02⟩

theorem scIlt : FnScope ["_law_plan", "_law_rest", "_law_place", "_law_size", "_law_limit_here"] ["_law_plan", "_law_rest", "_law_place", "_law_size", "_law_limit_here"] (C8.fnScope sIlt) := C8.fnScope_by (by decide +kernel)
theorem cal_ilt {f : Addr} {fd : FuncData} (F : C8.Def K mg "_law_is_let" sIlt f fd) (b : Binds K fd ["_law_plan", "_law_rest", "_law_place", "_law_size", "_law_limit_here"] []) (T : TxtC mg) (DLa : C8.Cal P w K mg base 2 "_law_late" spLla []) (DUn : C8.Cal P w K mg base 2 "_law_under" spLun []) : C8.Cal P w K mg base 3 "_law_is_let" spIlt [] := by
  refine C8.cal0 F b .nil scIlt (fun vs H Q E h => ?_) (fun cdv A outer st H vs Q E hr h => ?_)
  · obtain ⟨t, d, ks, g, i, j, k, l, x, y, rfl, _⟩ := h
    rfl
  · obtain ⟨t, d, ks, g, i, j, z, l, x, y, rfl, pa, ok, gok, j0, j1, z0, i1, hl, bx, by', k⟩ := h
    refine ⟨_, (pss_one (ps_ret (pe_and (pe_cmpR op_le (pv 3) (pv 1) (nomark _)) (pe_one (pe_cmpR op_le (pe_op op_mulW (C8.pe_c DLa hr (by decide) (by rfl) (pa_cons (pv 0) (pa_cons (pv 1) (pa_cons (pv 2) (pa_cons (pv 3) pa_nil))))) (pe_ix ix_tup (pv 4) pe_int (fun _ _ => rfl))) (pe_op op_mulW (pe_ix ix_tup (pv 4) pe_int (fun _ _ => rfl)) (C8.pe_c DUn hr (by decide) (by rfl) (pa_cons (pv 0) pa_nil))) (nomark _)))))), ?_⟩
    refine ⟨_, rfl, _, rfl, _, _, rfl, rfl, _, rfl, ?_⟩
    by_cases c : z ≤ i
    · rw [decide_eq_true c, Bool.true_and] at k
      refine iteT' (decide_eq_true c) ?_
      have sm : ∀ {x : Int} {n : Nat}, x.natAbs ≤ n → n ≤ 10 ^ 100 → Small x := fun a b => sm_of a b
      have bw := wth_bd ok gok j0 j1 z0 c i1
      have bu := un_bd ok
      refine ⟨_, rfl, _, rfl, _, rfl, _, rfl, t, d, ks, g, i, j, z, rfl, pa, ok, gok, j0, j1, z0, c, i1, fun H1 s1 => ?_⟩
      refine ⟨_, rfl, l, _, 1, _, rfl, rfl, SqT.of (s1 _ _ hl), atI_nat (k := 1) rfl, _, _, rfl, rfl, md_log (sm bw (by decide +kernel)) (sm by' (by decide +kernel)), ?_⟩
      refine ⟨_, rfl, l, _, 0, _, rfl, rfl, SqT.of (s1 _ _ hl), atI_nat (k := 0) rfl, _, rfl, t, d, ks, g, rfl, pa.on s1, ok, fun H2 s2 => ?_⟩
      exact ⟨_, _, rfl, rfl, md_log (sm bx (by decide +kernel)) (sm bu (by decide +kernel)), _, _, rfl, rfl, k H2 (s1.trans s2)⟩
    · rw [decide_eq_false c, Bool.false_and] at k
      exact iteF' (decide_eq_false c) (k H (Same.refl _))
theorem scLli : FnScope ["_law_pen_here", "_law_plan", "_law_some", "_law_over", "_law_under_here", "_law_more", "_law_parts"] ["_law_pen_here", "_law_plan"] (C8.fnScope sLli) := C8.fnScope_by (by decide +kernel)
theorem cal_lli {f : Addr} {fd : FuncData} (F : C8.Def K mg "_law_limit" sLli f fd) (b : Binds K fd ["_law_pen_here", "_law_plan"] []) (T : TxtC mg) (D0 : C8.Cal P w K mg base 1 "_law_draw" spDraw []) (DP : C8.Cal P w K mg base 2 "_law_pick" (spPick K) []) (DLa : C8.Cal P w K mg base 2 "_law_late" spLla []) (DUn : C8.Cal P w K mg base 2 "_law_under" spLun []) : C8.Cal P w K mg base 3 "_law_limit" spLli [] := by
  refine C8.cal0 F b .nil scLli (fun vs H Q E h => ?_) (fun cdv A outer st H vs Q E hr h => ?_)
  · obtain ⟨p, pl, n, t, d, ks, g, rfl, _⟩ := h
    rfl
  · obtain ⟨p, pl, n, t, d, ks, g, rfl, hp, hn, pa, ok, gok, tp, dp, k⟩ := h
    refine ⟨_, (pss_cons (ps_par (i := 3) (j := 4) rfl scLli.nd rfl rfl (by decide) rfl rfl (pa_cons (C8.pe_c DLa hr (by decide) (by rfl) (pa_cons (pv 1) (pa_cons pe_int (pa_cons pe_int (pa_cons pe_int pa_nil))))) (pa_cons (C8.pe_c DUn hr (by decide) (by rfl) (pa_cons (pv 1) pa_nil)) pa_nil)) (by rfl))
  (pss_cons (ps_set (i := 2) scLli.nd rfl (Or.inl rfl) (pe_lst (pa_cons (pe_tup (pa_cons pe_int (pa_cons pe_int pa_nil))) (pa_cons (pe_tup (pa_cons pe_int (pa_cons pe_int pa_nil))) (pa_cons (pe_tup (pa_cons pe_int (pa_cons pe_int pa_nil))) (pa_cons (pe_tup (pa_cons pe_int (pa_cons pe_int pa_nil))) (pa_cons (pe_tup (pa_cons pe_int (pa_cons pe_int pa_nil))) (pa_cons (pe_tup (pa_cons pe_int (pa_cons pe_int pa_nil))) (pa_cons (pe_tup (pa_cons (pe_un un_neg pe_int) (pa_cons pe_int pa_nil))) (pa_cons (pe_tup (pa_cons pe_int (pa_cons pe_int pa_nil))) (pa_cons (pe_tup (pa_cons (C8.pe_c D0 hr (by decide) (by rfl) (pa_cons (pv 0) (pa_cons pe_int pa_nil))) (pa_cons pe_int pa_nil))) pa_nil)))))))))))
  (pss_cons (ps_asg (C8.pe_c DP hr (by decide) (by rfl) (pa_cons (pv 0) (pa_cons (pv 2) pa_nil))) (pg_tup (by rfl) (pgs_cons (pg_name (i := 5) scLli.nd rfl (Or.inl rfl)) (pgs_cons (pg_name (i := 6) scLli.nd rfl (Or.inl rfl)) pgs_nil))))
  (pss_one (ps_ret (pe_tup (pa_cons (pe_op op_add (pe_op op_mulW (pv 3) (pv 6)) (pe_op op_mulW (pv 5) (pv 4))) (pa_cons (pe_op op_mulW (pv 4) (pv 6)) pa_nil)))))))), ?_⟩
    refine ⟨_, rfl, t, d, ks, g, 1, 0, 1, rfl, pa, ok, gok, by decide, by decide, by decide, by decide, by decide, fun H1 s1 => ?_⟩
    refine ⟨_, rfl, t, d, ks, g, rfl, pa.on s1, ok, fun H2 s2 => ⟨_, _, rfl, ?_⟩⟩
    dsimp only [gName, tSeq, List.set]
    have hp0 := hp.keep (s1.trans s2)
    have k0 : Kp p H H2 := .of (s1.trans s2)
    have A0 : PsAt p H2 [] := fun v hv => by cases hv
    refine ⟨(by show 2 ≤ sizeLine; decide), fun t0 f0 => ?_⟩
    have A1 := A0.snoc (m := 0) (q := 1) f0 (hp0.ne_new f0) (by decide) (by decide) (by decide)
    have x0 := same_new (o := HO.tup [V.int 0, V.int 1]) f0
    have hp1 := hp0.keep x0
    have k1 := k0.trans (.of x0)
    clear A0 hp0 k0 f0
    revert x0 A1 hp1 k1
    generalize upd _ t0 _ = G0
    intro A1 x0 hp1 k1
    clear x0
    refine ⟨(by show 2 ≤ sizeLine; decide), fun t1 f1 => ?_⟩
    have A2 := A1.snoc (m := 1) (q := 2) f1 (hp1.ne_new f1) (by decide) (by decide) (by decide)
    have x1 := same_new (o := HO.tup [V.int 1, V.int 2]) f1
    have hp2 := hp1.keep x1
    have k2 := k1.trans (.of x1)
    clear A1 hp1 k1 f1
    revert x1 A2 hp2 k2
    generalize upd _ t1 _ = G1
    intro A2 x1 hp2 k2
    clear x1
    refine ⟨(by show 2 ≤ sizeLine; decide), fun t2 f2 => ?_⟩
    have A3 := A2.snoc (m := 1) (q := 3) f2 (hp2.ne_new f2) (by decide) (by decide) (by decide)
    have x2 := same_new (o := HO.tup [V.int 1, V.int 3]) f2
    have hp3 := hp2.keep x2
    have k3 := k2.trans (.of x2)
    clear A2 hp2 k2 f2
    revert x2 A3 hp3 k3
    generalize upd _ t2 _ = G2
    intro A3 x2 hp3 k3
    clear x2
    refine ⟨(by show 2 ≤ sizeLine; decide), fun t3 f3 => ?_⟩
    have A4 := A3.snoc (m := 1) (q := 1) f3 (hp3.ne_new f3) (by decide) (by decide) (by decide)
    have x3 := same_new (o := HO.tup [V.int 1, V.int 1]) f3
    have hp4 := hp3.keep x3
    have k4 := k3.trans (.of x3)
    clear A3 hp3 k3 f3
    revert x3 A4 hp4 k4
    generalize upd _ t3 _ = G3
    intro A4 x3 hp4 k4
    clear x3
    refine ⟨(by show 2 ≤ sizeLine; decide), fun t4 f4 => ?_⟩
    have A5 := A4.snoc (m := 2) (q := 1) f4 (hp4.ne_new f4) (by decide) (by decide) (by decide)
    have x4 := same_new (o := HO.tup [V.int 2, V.int 1]) f4
    have hp5 := hp4.keep x4
    have k5 := k4.trans (.of x4)
    clear A4 hp4 k4 f4
    revert x4 A5 hp5 k5
    generalize upd _ t4 _ = G4
    intro A5 x4 hp5 k5
    clear x4
    refine ⟨(by show 2 ≤ sizeLine; decide), fun t5 f5 => ?_⟩
    have A6 := A5.snoc (m := 5) (q := 1) f5 (hp5.ne_new f5) (by decide) (by decide) (by decide)
    have x5 := same_new (o := HO.tup [V.int 5, V.int 1]) f5
    have hp6 := hp5.keep x5
    have k6 := k5.trans (.of x5)
    clear A5 hp5 k5 f5
    revert x5 A6 hp6 k6
    generalize upd _ t5 _ = G5
    intro A6 x5 hp6 k6
    clear x5
    refine ⟨_, rfl, (by show 2 ≤ sizeLine; decide), fun t6 f6 => ?_⟩
    have A7 := A6.snoc (m := (-1)) (q := 7) f6 (hp6.ne_new f6) (by decide) (by decide) (by decide)
    have x6 := same_new (o := HO.tup [V.int (-1), V.int 7]) f6
    have hp7 := hp6.keep x6
    have k7 := k6.trans (.of x6)
    clear A6 hp6 k6 f6
    revert x6 A7 hp7 k7
    generalize upd _ t6 _ = G6
    intro A7 x6 hp7 k7
    clear x6
    refine ⟨(by show 2 ≤ sizeLine; decide), fun t7 f7 => ?_⟩
    have A8 := A7.snoc (m := 40) (q := 1) f7 (hp7.ne_new f7) (by decide) (by decide) (by decide)
    have x7 := same_new (o := HO.tup [V.int 40, V.int 1]) f7
    have hp8 := hp7.keep x7
    have k8 := k7.trans (.of x7)
    clear A7 hp7 k7 f7
    revert x7 A8 hp8 k8
    generalize upd _ t7 _ = G7
    intro A8 x7 hp8 k8
    clear x7
    refine ⟨_, rfl, p, pl, n, 12, rfl, by decide, by decide, hp8, by omega, fun r H3 r0 r1 hp9 k9 => ?_⟩
    have A8' := A8.kp k9
    have k9 := k8.trans k9
    refine ⟨(by show 2 ≤ sizeLine; decide), fun t8 f8 => ?_⟩
    have A9 := A8'.snoc (m := r) (q := 5) f8 (hp9.ne_new f8) (by omega) (by decide) (by decide)
    have x8 := same_new (o := HO.tup [V.int r, V.int 5]) f8
    have hp10 := hp9.keep x8
    have k10 := k9.trans (.of x8)
    revert x8 A9 hp10 k10
    generalize upd _ t8 _ = G8
    intro A9 x8 hp10 k10
    clear x8 A8 A8' hp8 k8 hp9 k9 f8
    refine ⟨(by show 9 ≤ sizeLine; decide), fun L fL => ?_⟩
    have sL := same_new (o := HO.lst [V.ref t0, V.ref t1, V.ref t2, V.ref t3, V.ref t4, V.ref t5, V.ref t6, V.ref t7, V.ref t8]) fL
    dsimp only [gName, tSeq, List.set]
    refine ⟨_, rfl, _, rfl, p, pl, L, _, _, rfl, hp10.keep sL, by omega, SqL.of upd_same, hp10.ne_new fL, (by show 0 < 9; decide), (by show 9 < 1000000; decide), fun j v H4 hj hp11 k11 => ?_⟩
    obtain ⟨a, m, q, rfl, ha, ap, bm, q1, q7⟩ := (A9.kp ((Kp.of sL).trans k11)) v (List.mem_of_getElem? hj)
    have k12 := k10.trans ((Kp.of sL).trans k11)
    refine ⟨a, _, rfl, SqT.of ha, rfl, ?_⟩
    refine ⟨_, _, rfl, ?_⟩
    dsimp only [gName]
    refine ⟨_, _, rfl, ?_⟩
    dsimp only [gName, gNil]
    refine ⟨rfl, ?_⟩
    have sm : ∀ {x : Int} {n : Nat}, x.natAbs ≤ n → n ≤ 10 ^ 100 → Small x := fun a b => sm_of a b
    have bw := wth_bd ok gok (i := 1) (j := 0) (z := 1) (by decide) (by decide) (by decide) (by decide) (by decide)
    have bu := un_bd ok
    have u1 := un_pos ok
    have hm : m.natAbs ≤ 40 := bm
    have hq : q.natAbs ≤ 7 := by omega
    have h1 := mul_bd bw hq
    have h2 := mul_bd hm bu
    have h3 := mul_bd bu hq
    have h4 : 1 ≤ unO ks * q := Int.mul_pos (by omega) (by omega)
    refine ⟨_, rfl, _, rfl, _, _, rfl, rfl, md_log (sm bw (by decide +kernel)) (sm hq (by decide +kernel)), _, rfl, _, rfl, _, _, rfl, rfl, md_log (sm hm (by decide +kernel)) (sm bu (by decide +kernel)), _, _, rfl, rfl, _, rfl, _, rfl, _, _, rfl, rfl, md_log (sm bu (by decide +kernel)) (sm hq (by decide +kernel)), (by show 2 ≤ sizeLine; decide), fun l fl => ?_⟩
    have sl := same_new (o := HO.tup [V.int (wth ks g 1 0 1 * q + m * unO ks), V.int (unO ks * q)]) fl
    exact k l _ _ _ (Kp.free k12 (hp11.ne_new fl) fl) upd_same ⟨Nat.le_trans (show _ ≤ 10 ^ 90 by omega) (by decide +kernel), h4, by omega⟩ ((hp11.keep sl).more (by omega)) (k12.trans (.of sl))
theorem scLlo : FnScope ["_law_limit_here"] ["_law_limit_here"] (C8.fnScope sLlo) := C8.fnScope_by (by decide +kernel)
theorem cal_llo {f : Addr} {fd : FuncData} (F : C8.Def K mg "_law_limit_of" sLlo f fd) (b : Binds K fd ["_law_limit_here"] []) (T : TxtC mg) (RM : RatM P w K mg base RC fR fdR ds) : C8.Cal P w K mg base 5 "_law_limit_of" (spLlo RC) [] := by
  refine C8.cal0 F b .nil scLlo (fun vs H Q E h => ?_) (fun cdv A outer st H vs Q E hr h => ?_)
  · obtain ⟨l, x, y, rfl, _⟩ := h
    rfl
  · obtain ⟨l, x, y, rfl, hl, ⟨bx, y1, y2⟩, k⟩ := h
    refine ⟨_, (pss_one (ps_ret (pe_ifExp (pt_cmpR op_eq (pe_op op_modN (pe_callTy call_int1 (by rfl) T.n_int (by decide +kernel) (pa_cons (pe_ix ix_tup (pv 0) pe_int (fun _ _ => rfl)) pa_nil)) (pe_ix ix_tup (pv 0) pe_int (fun _ _ => rfl))) pe_int (nomark _)) (pe_op op_fdivS (pe_ix ix_tup (pv 0) pe_int (fun _ _ => rfl)) (pe_ix ix_tup (pv 0) pe_int (fun _ _ => rfl))) (pe_make (E := C8.E0) RM.M RM.F (hr.mono (by decide)) (by rfl) RM.hm RM.b2 .nil (passes_call takes0 (fun _ _ _ _ z => z)) (pa_cons (pe_ix ix_tup (pv 0) pe_int (fun _ _ => rfl)) (pa_cons (pe_ix ix_tup (pv 0) pe_int (fun _ _ => rfl)) pa_nil)))))), ?_⟩
    have sx : Small x := sm_of bx (Nat.le_refl _)
    have sy : Small y := sm_of (n := 10 ^ 20) (by omega) (by decide +kernel)
    refine ⟨_, rfl, l, _, 0, _, rfl, rfl, SqT.of hl, atI_nat (k := 0) rfl, .inl ⟨_, rfl, _, rfl, l, _, 1, _, rfl, rfl, SqT.of hl, atI_nat (k := 1) rfl, _, _, rfl, rfl, (by omega), rfl, ?_⟩⟩
    rw [dec_intp]
    refine ⟨_, rfl, ?_⟩
    by_cases c : x.fmod y = 0
    · refine iteT' (decide_eq_true c) ⟨_, rfl, l, _, 0, _, rfl, rfl, SqT.of hl, atI_nat (k := 0) rfl, _, rfl, l, _, 1, _, rfl, rfl, SqT.of hl, atI_nat (k := 1) rfl, _, _, rfl, rfl, ⟨by omega, ?_⟩, ?_⟩
      · exact Nat.lt_trans ((Nat.log2_lt (by omega)).mpr (Nat.lt_of_le_of_lt (show y.natAbs ≤ 10 ^ 20 by omega) (show 10 ^ 20 < 2 ^ 100 by decide +kernel))) (by decide)
      · have dv : y ∣ x := Int.dvd_of_fmod_eq_zero c
        have e : x.fdiv y = x / y := Int.fdiv_eq_ediv_of_nonneg _ (by omega)
        have e2 : x / y * y = x := Int.ediv_mul_cancel dv
        have := Int.natAbs_ediv_le_natAbs x y
        exact k _ (x.fdiv y) 1 H (Same.refl _) (.inr ⟨rfl, rfl⟩) (by rw [e, e2, Int.mul_one]) (by omega) (by decide) (by rw [e]; omega)
    · refine iteF' (decide_eq_false c) ⟨_, rfl, l, _, 0, _, rfl, rfl, SqT.of hl, atI_nat (k := 0) rfl, _, rfl, l, _, 1, _, rfl, rfl, SqT.of hl, atI_nat (k := 1) rfl, fun xx dx hx hdx ne => makesP (t := x) (b := y) (by omega) sx sy hx hdx ne fun H4 s4 r4 => ?_⟩
      have h1 := lov_le x y
      have h2 := lun_le x y
      have h3 := lun_pos (t := x) (b := y) (by omega)
      exact k _ _ _ H4 s4 (.inl ⟨xx, rfl, r4⟩) (lov_cross (by omega)) (by omega) (by omega) (Nat.le_trans h1 bx)
end
end Lw
namespace Lw
open PySem PySem.Spec PyProof.Rows L2
open SX PySem.NumText TL LamX ClX StX
set_option pp.maxSteps 900
abbrev sBby : Stmt := top 47
abbrev sBof : Stmt := top 46
abbrev sGlt : Stmt := top 48
/-! ### what bounds the sizes -/
def bdS (ps : List (Str × Int)) (g : Gst) (o u y : Int) : Int := mnOf ps * y * (o - u * g.f)
def bdI (ps : List (Str × Int)) (g : Gst) (u : Int) : Int := u * mnOf ps * g.a
def bdP (ps : List (Str × Int)) (g : Gst) (u : Int) : Int := u * mnOf ps * g.f * mxOf ps
def bdZ (ps : List (Str × Int)) (g : Gst) (u y : Int) : Int := u * g.b * (y - mnOf ps)
def bdV (ps : List (Str × Int)) (g : Gst) (o u y : Int) : List V := [.int (bdS ps g o u y), .int (bdI ps g u), .int (bdP ps g u), .int (bdZ ps g u y)]
def BdAt (H : Hp) (L : Addr) (ps : List (Str × Int)) (g : Gst) (o u : Int) : Prop := ∃ t1 t2, H L = some (.lst [.ref t1, .ref t2]) ∧ H t1 = some (.tup (bdV ps g o u (mxOf ps))) ∧ H t2 = some (.tup (bdV ps g o u (smOf ps)))
theorem BdAt.on {H H' : Hp} {L : Addr} {ps : List (Str × Int)} {g : Gst} {o u : Int} (h : BdAt H L ps g o u) (s : Same H H') : BdAt H' L ps g o u := by
  obtain ⟨t1, t2, h1, h2, h3⟩ := h
  exact ⟨t1, t2, s _ _ h1, s _ _ h2, s _ _ h3⟩
theorem sm3 {z : Int} {n : Nat} (h1 : z.natAbs ≤ n) (h2 : n ≤ 10 ^ 600) : Small z := Nat.lt_of_le_of_lt (Nat.le_trans h1 h2) (by decide +kernel)
def mB (ps : List (Str × Int)) (g : Gst) (o u rest place y : Int) : Int := (bdS ps g o u y + bdI ps g u * rest - bdP ps g u * place) / (bdZ ps g u y + bdI ps g u)
def cutM (m s : Int) : Int := if m < s then m else s
def szN (ps : List (Str × Int)) (g : Gst) (o u rest place : Int) : Nat → Int
  | 0 => rest
  | 1 => cutM (mB ps g o u rest place (mxOf ps)) rest
  | _ => cutM (mB ps g o u rest place (smOf ps)) (cutM (mB ps g o u rest place (mxOf ps)) rest)
def letN (ps : List (Str × Int)) (g : Gst) (o u rest place : Int) : Int := if szN ps g o u rest place 2 > 0 then szN ps g o u rest place 2 else 0
theorem bd_pos {ps : List (Str × Int)} {g : Gst} {u y : Int} (n : CwN ps) (ok : g.Ok) (u1 : 1 ≤ u) (hy : mnOf ps ≤ y) : 1 ≤ bdZ ps g u y + bdI ps g u := by
  have h1 : 1 ≤ bdI ps g u := Int.mul_pos (Int.mul_pos (by omega) (by have := n.n1; omega)) (by have := ok.1; omega)
  have h2 : 0 ≤ bdZ ps g u y := Int.mul_nonneg (Int.mul_nonneg (by omega) (by obtain ⟨o1, o2, _⟩ := ok; omega)) (by omega)
  omega
theorem bd_bounds {ps : List (Str × Int)} {g : Gst} {o u y : Int} (n : CwN ps) (ok : g.Ok) (bo : o.natAbs ≤ 10 ^ 200) (bu : u.natAbs ≤ 10 ^ 200) (y1 : 1 ≤ y) (y2 : y ≤ 480) : (bdS ps g o u y).natAbs ≤ 10 ^ 250 ∧ (bdI ps g u).natAbs ≤ 10 ^ 250 ∧ (bdP ps g u).natAbs ≤ 10 ^ 250 ∧ (bdZ ps g u y).natAbs ≤ 10 ^ 250 := by
  obtain ⟨n1, n2, n3, n4, n5⟩ := n
  obtain ⟨o1, o2, o3, o4, o5⟩ := ok
  have hf : g.f.natAbs ≤ 10 ^ 30 := by omega
  have hmx : (mxOf ps).natAbs ≤ 60 := by omega
  have hmn : (mnOf ps).natAbs ≤ 60 := by omega
  have hb : g.b.natAbs ≤ 60 := by omega
  have ha : g.a.natAbs ≤ 60 := by omega
  have hy : y.natAbs ≤ 480 := by omega
  have hz : (y - mnOf ps).natAbs ≤ 540 := by omega
  have m1 := mul_bd hmn hy
  have m2 := mul_bd bu hf
  have m3 : (o - u * g.f).natAbs ≤ 10 ^ 240 := by
    have : (10 : Nat) ^ 200 + 10 ^ 200 * 10 ^ 30 ≤ 10 ^ 240 := by decide +kernel
    omega
  have m4 := mul_bd bu hmn
  exact ⟨Nat.le_trans (mul_bd m1 m3) (by decide +kernel), Nat.le_trans (mul_bd m4 ha) (by decide +kernel), Nat.le_trans (mul_bd (mul_bd m4 hf) hmx) (by decide +kernel), Nat.le_trans (mul_bd (mul_bd bu hb) hz) (by decide +kernel)⟩
def spGlt : Sp := fun vs H Q _ => ∃ (L : Addr) (rest place : Int) (ps : List (Str × Int)) (g : Gst) (o u : Int), vs = [.ref L, .int rest, .int place] ∧ BdAt H L ps g o u ∧ CwN ps ∧ g.Ok ∧ o.natAbs ≤ 10 ^ 200 ∧ 1 ≤ u ∧ u ≤ 10 ^ 200 ∧ 1 ≤ rest ∧ rest ≤ 10 ^ 40 ∧ 0 ≤ place ∧ place ≤ 10 ^ 40 ∧ ∀ H', Same H H' → Q (.int (letN ps g o u rest place)) H'
def spBby (CS CC RC : Addr) : Sp := fun vs H Q _ => ∃ (s l : Addr) (ps : List (Str × Int)) (g : Gst) (o u y : Int), vs = [.ref s, .ref l, .int y] ∧ StAt CS CC RC H s ps g ∧ g.Ok ∧ RatAt RC H l o u ∧ o.natAbs ≤ 10 ^ 200 ∧ u.natAbs ≤ 10 ^ 200 ∧ 1 ≤ y ∧ y ≤ 480 ∧
  ∀ r H', Same H H' → H r = none → H' r = some (.tup (bdV ps g o u y)) → Q (.ref r) H'
/-- a limit: a Ratio or an integer -/
def LimAt (RC : Addr) (H : Hp) (v : V) (o u : Int) : Prop := (∃ l, v = .ref l ∧ RatAt RC H l o u) ∨ (v = .int o ∧ u = 1)
theorem LimAt.on {RC : Addr} {H H' : Hp} {v : V} {o u : Int} (h : LimAt RC H v o u) (s : Same H H') : LimAt RC H' v o u := by
  rcases h with ⟨l, rfl, d, h⟩ | h
  · exact .inl ⟨l, rfl, d, s _ _ h⟩
  · exact .inr h
theorem LimAt.of {RC : Addr} {H : Hp} {v : V} {o u : Int} {Q : VK} {E : XK} (h : LimAt RC H v o u) (so : Small o) (k : ∀ l H', Same H H' → RatAt RC H' l o u → Q (.ref l) H') : spOfP RC [v] H Q E := by
  rcases h with ⟨l, rfl, d, h⟩ | ⟨rfl, rfl⟩
  · exact ⟨_, rfl, .inl ⟨l, d, _, rfl, h, k l H (Same.refl _) ⟨d, h⟩⟩⟩
  · exact ⟨_, rfl, .inr ⟨o, rfl, so, fun a H' s _ r => k a H' s r⟩⟩
def spBof (CS CC RC : Addr) : Sp := fun vs H Q _ => ∃ (s : Addr) (v : V) (ps : List (Str × Int)) (g : Gst) (o u : Int), vs = [.ref s, v] ∧ StAt CS CC RC H s ps g ∧ g.Ok ∧ LimAt RC H v o u ∧ o.natAbs ≤ 10 ^ 200 ∧ u.natAbs ≤ 10 ^ 200 ∧
  ∀ L H', Same H H' → H L = none → BdAt H' L ps g o u → Q (.ref L) H'
section
variable {P : Program} {w : World} {K : PySem.W.Frag} {mg : Str → Option Value} {base : Heap} {CS CC RC : Addr}
theorem scBby : FnScope ["setting", "limit", "by", "slow", "start", "by_item", "by_place", "by_size"] ["setting", "limit", "by"] (C8.fnScope sBby) := C8.fnScope_by (by decide +kernel)
theorem fn_bby {f : Addr} {fd : FuncData} (F : C8.Def K mg "bound_by" sBby f fd) (S : StgC K mg CS) (Z : CrC K mg CC) (cR : Cls K RC) (nO : NoAttr K RC "over") (nU : NoAttr K RC "under") : FnOk P w K mg base (L2.CX P w) 1 f fd ["setting", "limit", "by"] (spBby CS CC RC) := by
  obtain ⟨oc, od, dV, kV, doc, pm, an, cdv, ct, osl, rfl, lk, hcd⟩ := F.fn.ex
  refine fn_of lk hcd scBby (fun vs H Q E h => ?_) fun A outer s H vs Q E hr h => ?_
  · obtain ⟨s, l, ps, g, o, u, y, rfl, _⟩ := h
    rfl
  · obtain ⟨s0, l, ps, g, o, u, y, rfl, ⟨dx, c, l0, hs, cw, rt⟩, gok, ⟨dl, hl⟩, bo, bu, y1, y2, k⟩ := h
    obtain ⟨dc, w0, p, d, sl, fa, hc, n1, n2, n3, n4, n5, _⟩ := cw.keep
    obtain ⟨o1, o2, o3, o4, o5⟩ := gok
    refine ⟨_, (pss_cons (ps_set (i := 3) scBby.nd rfl (Or.inl rfl) (pe_fldK K rfl (pe_fldK K rfl (pv 0) rfl) rfl))
  (pss_cons (ps_set (i := 4) scBby.nd rfl (Or.inl rfl) (pe_op op_mulW (pe_op op_mulW (pv 3) (pv 2)) (pe_op op_sub (pe_fldK K rfl (pv 1) rfl) (pe_op op_mulW (pe_fldK K rfl (pv 1) rfl) (pe_fldK K rfl (pv 0) rfl)))))
  (pss_cons (ps_set (i := 5) scBby.nd rfl (Or.inl rfl) (pe_op op_mulW (pe_op op_mulW (pe_fldK K rfl (pv 1) rfl) (pv 3)) (pe_fldK K rfl (pv 0) rfl)))
  (pss_cons (ps_set (i := 6) scBby.nd rfl (Or.inl rfl) (pe_op op_mulW (pe_op op_mulW (pe_op op_mulW (pe_fldK K rfl (pv 1) rfl) (pv 3)) (pe_fldK K rfl (pv 0) rfl)) (pe_fldK K rfl (pe_fldK K rfl (pv 0) rfl) rfl)))
  (pss_cons (ps_set (i := 7) scBby.nd rfl (Or.inl rfl) (pe_op op_mulW (pe_op op_mulW (pe_fldK K rfl (pv 1) rfl) (pe_fldK K rfl (pv 0) rfl)) (pe_op op_sub (pv 2) (pv 3))))
  (pss_one (ps_ret (pe_tup (pa_cons (pv 4) (pa_cons (pv 5) (pa_cons (pv 6) (pa_cons (pv 7) pa_nil)))))))))))), ?_⟩
    have hf : g.f.natAbs ≤ 10 ^ 30 := by omega
    have hmx : (mxOf ps).natAbs ≤ 60 := by omega
    have hmn : (mnOf ps).natAbs ≤ 60 := by omega
    have hb : g.b.natAbs ≤ 60 := by omega
    have ha : g.a.natAbs ≤ 60 := by omega
    have hy : y.natAbs ≤ 480 := by omega
    have hz : (y - mnOf ps).natAbs ≤ 540 := by omega
    have m1 := mul_bd hmn hy
    have m2 := mul_bd bu hf
    have m3 : (o - u * g.f).natAbs ≤ 10 ^ 240 := by
      have : (10 : Nat) ^ 200 + 10 ^ 200 * 10 ^ 30 ≤ 10 ^ 240 := by decide +kernel
      omega
    have m4 := mul_bd bu hmn
    have m5 := mul_bd m4 hf
    have m6 := mul_bd bu hb
    have D : ∀ {i j : Int} {m n : Nat}, i.natAbs ≤ m → j.natAbs ≤ n → m ≤ 10 ^ 600 → n ≤ 10 ^ 600 → CMulW i j := fun h1 h2 h3 h4 => md_log (sm3 h1 h3) (sm3 h2 h4)
    refine ⟨_, rfl, s0, CS, dx, _, _, rfl, hs, S.cl, S.n1, stF_crew, c, CC, dc, _, _, rfl, hc, Z.cl, Z.n3, crF_least, ?_⟩
    dsimp only [gName, tSeq]
    refine ⟨_, rfl, _, rfl, _, _, rfl, rfl, D hmn hy (by decide +kernel) (by decide +kernel), _, rfl, l, RC, dl, _, _, rfl, hl, cR, nO, rfl, _, rfl, l, RC, dl, _, _, rfl, hl, cR, nU, rfl, _, rfl, s0, CS, dx, _, _, rfl, hs, S.cl, S.n4, stF_fee, _, _, rfl, rfl, D bu hf (by decide +kernel) (by decide +kernel), _, _, rfl, rfl, _, _, rfl, rfl, D m1 m3 (by decide +kernel) (by decide +kernel), ?_⟩
    dsimp only [gName, tSeq]
    refine ⟨_, rfl, l, RC, dl, _, _, rfl, hl, cR, nU, rfl, _, rfl, _, _, rfl, rfl, D bu hmn (by decide +kernel) (by decide +kernel), _, rfl, s0, CS, dx, _, _, rfl, hs, S.cl, S.n2, stF_least, _, _, rfl, rfl, D m4 ha (by decide +kernel) (by decide +kernel), ?_⟩
    dsimp only [gName, tSeq]
    refine ⟨_, rfl, l, RC, dl, _, _, rfl, hl, cR, nU, rfl, _, rfl, _, _, rfl, rfl, D bu hmn (by decide +kernel) (by decide +kernel), _, rfl, s0, CS, dx, _, _, rfl, hs, S.cl, S.n4, stF_fee, _, _, rfl, rfl, D m4 hf (by decide +kernel) (by decide +kernel), _, rfl, s0, CS, dx, _, _, rfl, hs, S.cl, S.n1, stF_crew, c, CC, dc, _, _, rfl, hc, Z.cl, Z.n4, crF_great, _, _, rfl, rfl, D m5 hmx (by decide +kernel) (by decide +kernel), ?_⟩
    dsimp only [gName, tSeq]
    refine ⟨_, rfl, l, RC, dl, _, _, rfl, hl, cR, nU, rfl, _, rfl, s0, CS, dx, _, _, rfl, hs, S.cl, S.n3, stF_most, _, _, rfl, rfl, D bu hb (by decide +kernel) (by decide +kernel), _, rfl, _, rfl, _, _, rfl, rfl, _, _, rfl, rfl, D m6 hz (by decide +kernel) (by decide +kernel), ?_⟩
    dsimp only [gName, tSeq]
    refine ⟨_, rfl, _, rfl, _, rfl, _, rfl, by show 4 ≤ sizeLine; decide, fun r hr => ?_⟩
    exact k r _ (same_new hr) hr upd_same
theorem scBof : FnScope ["setting", "limit", "most", "crew", "speed"] ["setting", "limit"] (C8.fnScope sBof) := C8.fnScope_by (by decide +kernel)
theorem fn_bof {f fB pO gO fR : Addr} {fd fdB fdO fdR : FuncData} {ds : List Value} (F : C8.Def K mg "bounds_of" sBof f fd) (S : StgC K mg CS) (Z : CrC K mg CC) (RM : RatM P w K mg base RC fR fdR ds) (OM : OfM P w K mg base RC pO gO fdO) (DBb : C8.Def K mg "bound_by" sBby fB fdB) (bBb : Binds K fdB ["setting", "limit", "by"] []) (FBb : FnOk P w K mg base (L2.CX P w) 1 fB fdB ["setting", "limit", "by"] (spBby CS CC RC)) : FnOk P w K mg base (L2.CX P w) 6 f fd ["setting", "limit"] (spBof CS CC RC) := by
  obtain ⟨oc, od, dV, kV, doc, pm, an, cdv, ct, osl, rfl, lk, hcd⟩ := F.fn.ex
  refine fn_of lk hcd scBof (fun vs H Q E h => ?_) fun A outer s H vs Q E hr h => ?_
  · obtain ⟨s, v, ps, g, o, u, rfl, _⟩ := h
    rfl
  · obtain ⟨s0, v, ps, g, o, u, rfl, st, gok, lm, bo, bu, k⟩ := h
    refine ⟨_, (pss_cons (ps_set (i := 2) scBof.nd rfl (Or.inr rfl) (pe_static (pe_glob (v := .ref RC) (by rfl) RM.hm rfl) OM.S OM.F (hr.mono (by decide)) OM.b .nil (passes_call (takes_of rfl rfl rfl rfl) (fun _ _ _ _ z => z)) (pa_cons (pv 1) pa_nil)))
  (pss_cons (ps_set (i := 3) scBof.nd rfl (Or.inl rfl) (pe_fldK K rfl (pv 0) rfl))
  (pss_one (ps_ret (pe_lc (own := [("speed", 4)]) (g := gName 4) (tt := tYes) rfl scBof.nd (pi_tup (pe_tup (pa_cons (pe_fldK K rfl (pv 3) rfl) (pa_cons (pe_fldK K rfl (pv 3) rfl) pa_nil)))) (blkOk_by (own := [("speed", 4)]) (N := ["setting", "limit", "most", "crew", "speed"]) (sc := (C8.fnScope sBof)) (by decide +kernel)) (fun _ _ _ _ _ => (pg_name (i := 4) scBof.nd rfl (Or.inl rfl))) (fun _ _ _ _ _ => pts_nil) (fun _ _ _ _ _ => (pe_call (E := C8.E0) FBb (hr.mono (by decide)) (by rfl) DBb.mgf DBb.kp bBb .nil (passes_call takes0 (fun _ _ _ _ z => z)) (pa_cons (pv 0) (pa_cons (pv 2) (pa_cons (pv 4) pa_nil)))))))))), ?_⟩
    refine ⟨rfl, _, rfl, lm.of (E := E) (sm3 bo (by decide +kernel)) fun l H1 s1 rl => ?_⟩
    obtain ⟨dx, c, l0, hs, cw, rt⟩ := st.on s1
    obtain ⟨dc, w0, p, d, sl, fa, hc, n1, n2, n3, n4, n5, _⟩ := cw.keep
    dsimp only [gName, tSeq]
    refine ⟨_, rfl, s0, CS, dx, _, _, rfl, hs, S.cl, S.n1, stF_crew, ?_⟩
    dsimp only [gName, tSeq]
    have st1 : StAt CS CC RC H1 s0 ps g := st.on s1
    refine ⟨_, rfl, c, CC, dc, _, _, rfl, hc, Z.cl, Z.n4, crF_great, _, rfl, c, CC, dc, _, _, rfl, hc, Z.cl, Z.n2, crF_speed, by show 2 ≤ sizeLine; decide, fun T hT => ?_⟩
    have s2 := same_new (o := HO.tup [V.int (mxOf ps), V.int (smOf ps)]) hT
    have hT2 : upd H1 T (.tup [V.int (mxOf ps), V.int (smOf ps)]) T = some (.tup [V.int (mxOf ps), V.int (smOf ps)]) := upd_same
    have s12 := s1.trans s2
    have st2 := st1.on s2
    obtain ⟨dl, rl2⟩ := rl
    have rl2 := s2 _ _ rl2
    generalize hG : upd H1 T _ = H2 at s2 hT2 s12 st2 rl2 ⊢
    refine ⟨T, rfl, ⟨_, SqT.of hT2⟩, fun D hD => lc_it walk_tup (fun n H' => Same H2 H' ∧ ∃ rs : List Addr, H' D = some (.lst (rs.map V.ref)) ∧ rs.length = n ∧ ∀ (i : Nat) a y, rs[i]? = some a → [mxOf ps, smOf ps][i]? = some y → H' a = some (.tup (bdV ps g o u y))) ⟨same_new hD, [], upd_same, rfl, fun i a y e => by cases e⟩ (fun n H' _ h => SqT.of (h.1 _ _ hT2)) ?_ ?_⟩
    · rintro n x H' H'' hn ⟨s', rs, hD', len, all⟩ ⟨rfl, hx⟩
      have hn : n < 2 := hn
      obtain ⟨y, rfl, hy, y1, y2⟩ : ∃ y, x = V.int y ∧ [mxOf ps, smOf ps][n]? = some y ∧ 1 ≤ y ∧ y ≤ 480 := by
        match n, hn, hx with
        | 0, _, hx => cases hx; exact ⟨_, rfl, rfl, by omega, by omega⟩
        | 1, _, hx => cases hx; exact ⟨_, rfl, rfl, by show 1 ≤ (ps.map (·.2)).sum; omega, n5⟩
      refine ⟨rfl, ?_⟩
      dsimp only [tYes]
      rw [if_pos rfl]
      refine ⟨_, rfl, _, rfl, _, rfl, s0, l, ps, g, o, u, y, rfl, st2.on s', gok, ⟨dl, s' _ _ rl2⟩, bo, bu, y1, y2, fun a H3 s3 fa ha => ⟨_, s3 _ _ hD', ?_, fun b o e => ?_, rs ++ [a], ?_, ?_, fun i b z e1 e2 => ?_⟩⟩
      · rw [List.length_map, len]
        exact Nat.lt_of_lt_of_le hn (by decide)
      · rw [upd_ne (ne_of_none e hD)]; exact s3 _ _ (s' _ _ e)
      · rw [upd_same, List.map_append]; rfl
      · rw [List.length_append, len]; rfl
      · have hD3 := s3 _ _ hD'
        have old : H3 b = some (.tup (bdV ps g o u z)) := by
          by_cases c : i < rs.length
          · rw [List.getElem?_append_left c] at e1
            exact s3 _ _ (all i b z e1 e2)
          · have c2 : i = rs.length := by
              have := (List.getElem?_eq_some_iff.mp e1).1
              rw [List.length_append, List.length_singleton] at this
              omega
            rw [c2, List.getElem?_append_right (Nat.le_refl _), Nat.sub_self] at e1
            cases e1
            rw [c2, len, hy] at e2
            cases e2
            exact ha
        rw [upd_ne (fun z => by rw [z, hD3] at old; cases old)]; exact old
    · rintro H' ⟨s', rs, hD', len, all⟩
      have len : rs.length = 2 := len
      match rs, len, hD', all with
      | [a, b], _, hD', all => exact k D _ (s12.trans s') (s12.free hD) ⟨a, b, hD', all 0 a _ rfl rfl, all 1 b _ rfl rfl⟩
theorem scGlt : FnScope ["bounds", "rest", "place", "size", "start", "by_item", "by_place", "by_size", "most"] ["bounds", "rest", "place"] (C8.fnScope sGlt) := C8.fnScope_by (by decide +kernel)
theorem fn_glt {f : Addr} {fd : FuncData} (F : C8.Def K mg "greatest_let" sGlt f fd) (T : TxtC mg) : FnOk P w K mg base (L2.CX P w) 1 f fd ["bounds", "rest", "place"] spGlt := by
  obtain ⟨oc, od, dV, kV, doc, pm, an, cdv, ct, osl, rfl, lk, hcd⟩ := F.fn.ex
  refine fn_of lk hcd scGlt (fun vs H Q E h => ?_) fun A outer s H vs Q E hr h => ?_
  · obtain ⟨L, rest, place, ps, g, o, u, rfl, _⟩ := h
    rfl
  · obtain ⟨L, rest, place, ps, g, o, u, rfl, ⟨t1, t2, hL, ht1, ht2⟩, nm, gok, bo, u1, u2, r1, r2, p1, p2, k⟩ := h
    refine ⟨_, (pss_cons (ps_set (i := 3) scGlt.nd rfl (Or.inl rfl) (pv 1))
  (pss_cons (ps_for (passes_of rfl) rfl (pi_list (pv 0)) (pg_tup (by rfl) (pgs_cons (pg_name (i := 4) scGlt.nd rfl (Or.inl rfl)) (pgs_cons (pg_name (i := 5) scGlt.nd rfl (Or.inl rfl)) (pgs_cons (pg_name (i := 6) scGlt.nd rfl (Or.inl rfl)) (pgs_cons (pg_name (i := 7) scGlt.nd rfl (Or.inl rfl)) pgs_nil))))) (pss_cons (ps_set (i := 8) scGlt.nd rfl (Or.inl rfl) (pe_op op_fdivW (pe_op op_sub (pe_op op_add (pv 4) (pe_op op_mulW (pv 5) (pv 1))) (pe_op op_mulW (pv 6) (pv 2))) (pe_op op_add (pv 7) (pv 5))))
  (pss_one (ps_if (pt_cmpR op_lt (pv 8) (pv 3) (nomark _)) (pss_one (ps_set (i := 3) scGlt.nd rfl (Or.inl rfl) (pv 8))) pss_nil))))
  (pss_one (ps_ret (pe_callB (call_max2 rfl) (by rfl) T.n_max (by decide +kernel) (pa_cons pe_int (pa_cons (pv 3) pa_nil))))))), ?_⟩
    refine ⟨_, rfl, ?_⟩
    dsimp only [gName, tSeq]
    have bu : u.natAbs ≤ 10 ^ 200 := by omega
    have hr1 : rest.natAbs ≤ 10 ^ 40 := by omega
    have hp1 : place.natAbs ≤ 10 ^ 40 := by omega
    refine ⟨_, rfl, L, rfl, ⟨_, SqL.of hL⟩, for_it walk_list (fun i σ' H' => Same H H' ∧ ∃ x4 x5 x6 x7 x8, σ' = [some (.ref L), some (.int rest), some (.int place), some (.int (szN ps g o u rest place i)), x4, x5, x6, x7, x8]) ⟨Same.refl _, _, _, _, _, _, rfl⟩ (fun i σ' H' _ h => SqL.of (h.1 _ _ hL)) ?_ ?_⟩
    · rintro n x σ1 H2 H3 hn ⟨s2, x4, x5, x6, x7, x8, rfl⟩ ⟨rfl, hx⟩
      have hn : n < 2 := hn
      obtain ⟨t, y, rfl, ht, hy1, hy2, hy3, es⟩ : ∃ t y, x = V.ref t ∧ H t = some (.tup (bdV ps g o u y)) ∧ 1 ≤ y ∧ mnOf ps ≤ y ∧ y ≤ 480 ∧ szN ps g o u rest place (n + 1) = cutM (mB ps g o u rest place y) (szN ps g o u rest place n) := by
        obtain ⟨n1, n2, n3, n4, n5⟩ := nm
        match n, hn, hx with
        | 0, _, hx => cases hx; exact ⟨t1, _, rfl, ht1, by omega, by omega, by omega, rfl⟩
        | 1, _, hx => cases hx; exact ⟨t2, _, rfl, ht2, by omega, by omega, by omega, rfl⟩
      rw [es]
      generalize szN ps g o u rest place n = sz
      have ht' := s2 _ _ ht
      obtain ⟨b1, b2, b3, b4⟩ := bd_bounds nm gok bo bu hy1 hy3
      have dp := bd_pos nm gok u1 hy2
      have z : ∀ {i : Int} {n : Nat}, i.natAbs ≤ n → n ≤ 10 ^ 600 → Small i := fun h1 h2 => sm3 h1 h2
      refine ⟨t, _, rfl, SqT.of ht', rfl, _, _, rfl, _, _, rfl, _, _, rfl, _, _, rfl, rfl, ?_⟩
      dsimp only [gName, tSeq]
      refine ⟨_, rfl, _, rfl, _, rfl, _, _, rfl, rfl, md_log (z b2 (by decide +kernel)) (z hr1 (by decide +kernel)), _, _, rfl, rfl, _, rfl, _, rfl, _, _, rfl, rfl, md_log (z b3 (by decide +kernel)) (z hp1 (by decide +kernel)), _, _, rfl, rfl, _, rfl, _, rfl, _, _, rfl, rfl, _, _, rfl, rfl, ⟨by omega, ?_⟩, ?_⟩
      · have hs : Small (bdZ ps g u y + bdI ps g u) := z (n := 10 ^ 250 + 10 ^ 250) (by omega) (by decide +kernel)
        exact (Nat.log2_lt (by omega)).mpr (Nat.lt_trans hs (Nat.pow_lt_pow_right (by decide) (by decide)))
      dsimp only [gName, tSeq, List.set]
      change tIfS _ _ _ _ _ _
      rw [show (bdS ps g o u y + bdI ps g u * rest - bdP ps g u * place) / (bdZ ps g u y + bdI ps g u) = mB ps g o u rest place y from rfl]
      unfold cutM
      by_cases c : mB ps g o u rest place y < sz
      · rw [if_pos c]
        refine ⟨_, rfl, _, rfl, _, _, rfl, rfl, _, rfl, iteT' (decide_eq_true c) ⟨_, rfl, ?_⟩⟩
        exact ⟨s2, _, _, _, _, _, rfl⟩
      · rw [if_neg c]
        refine ⟨_, rfl, _, rfl, _, _, rfl, rfl, _, rfl, iteF' (decide_eq_false c) ?_⟩
        exact ⟨s2, _, _, _, _, _, rfl⟩
    · rintro σ1 H2 ⟨s2, x4, x5, x6, x7, x8, rfl⟩
      exact ⟨_, rfl, _, _, rfl, k H2 s2⟩
end
end Lw
namespace Lw
open PySem PySem.Spec PyProof.Rows L2
/-! ### the greatest size that is let -/
theorem min2 {k m s : Int} : k ≤ cutM m s ↔ k ≤ m ∧ k ≤ s := by unfold cutM; split <;> omega
theorem le_mB {ps : List (Str × Int)} {g : Gst} {o u rest place y k : Int} (n : CwN ps) (ok : g.Ok) (u1 : 1 ≤ u) (hy : mnOf ps ≤ y) :
    k ≤ mB ps g o u rest place y ↔ aheadOf ps g rest place k * mnOf ps * u ≤ y * (o * mnOf ps - (g.f * mnOf ps + g.b * k) * u) := by
  have dp := bd_pos n ok u1 hy
  unfold mB
  rw [Int.le_ediv_iff_mul_le (by omega)]
  have e : bdS ps g o u y + bdI ps g u * rest - bdP ps g u * place - k * (bdZ ps g u y + bdI ps g u) = y * (o * mnOf ps - (g.f * mnOf ps + g.b * k) * u) - aheadOf ps g rest place k * mnOf ps * u := by
    unfold bdS bdI bdP bdZ aheadOf
    grind
  omega
theorem worst_of {X Y y1 y2 : Int} (h0 : 1 ≤ y1) (h : y1 ≤ y2) : (Y ≤ y1 * X ∧ Y ≤ y2 * X) ↔ Y ≤ (if Y ≤ 0 then y2 else y1) * X := by
  split
  · rename_i c
    refine ⟨fun z => z.2, fun z => ⟨?_, z⟩⟩
    rcases Int.le_total 0 X with x | x
    · have : 0 ≤ y1 * X := Int.mul_nonneg (by omega) x
      omega
    · have : y2 * X ≤ y1 * X := Int.mul_le_mul_of_nonpos_right h x
      omega
  · rename_i c
    refine ⟨fun z => z.1, fun z => ⟨z, ?_⟩⟩
    rcases Int.le_total 0 X with x | x
    · have : y1 * X ≤ y2 * X := Int.mul_le_mul_of_nonneg_right h x
      omega
    · have : y1 * X ≤ 0 := Int.mul_nonpos_of_nonneg_of_nonpos (by omega) x
      omega
theorem let_iff {ps : List (Str × Int)} {g : Gst} {o u rest place k : Int} (n : CwN ps) (ok : g.Ok) (u1 : 1 ≤ u) (k1 : 1 ≤ k) (k2 : k ≤ rest) :
    k ≤ letN ps g o u rest place ↔ ltO ps g rest place k * u ≤ o * ltU ps g rest place k := by
  obtain ⟨n1, n2, n3, n4, n5⟩ := id n
  have e1 : k ≤ letN ps g o u rest place ↔ k ≤ mB ps g o u rest place (smOf ps) ∧ k ≤ mB ps g o u rest place (mxOf ps) := by
    have h : k ≤ letN ps g o u rest place ↔ k ≤ szN ps g o u rest place 2 := by unfold letN; split <;> omega
    rw [h]
    show k ≤ cutM _ (cutM _ rest) ↔ _
    rw [min2, min2]
    exact ⟨fun ⟨a, b, _⟩ => ⟨a, b⟩, fun ⟨a, b⟩ => ⟨a, b, k2⟩⟩
  rw [e1, le_mB n ok u1 (by omega), le_mB n ok u1 n2, and_comm, worst_of (by omega) n4]
  have pos : 0 < mnOf ps * u := Int.mul_pos (by omega) (by omega)
  have sg : aheadOf ps g rest place k * mnOf ps * u ≤ 0 ↔ aheadOf ps g rest place k ≤ 0 := by
    rw [Int.mul_assoc]
    constructor
    · intro z
      rcases Int.lt_or_le 0 (aheadOf ps g rest place k) with c | c
      · have := Int.mul_pos c pos
        omega
      · exact c
    · exact fun z => Int.mul_nonpos_of_nonpos_of_nonneg z (by omega)
  have eb : (if aheadOf ps g rest place k * mnOf ps * u ≤ 0 then smOf ps else mxOf ps) = byOf ps g rest place k := by
    unfold byOf
    by_cases c : aheadOf ps g rest place k ≤ 0
    · rw [if_pos c, if_pos (sg.mpr c)]
    · rw [if_neg c, if_neg (fun z => c (sg.mp z))]
  rw [eb]
  unfold ltO ltU
  generalize byOf ps g rest place k = y
  generalize aheadOf ps g rest place k = h
  have e : y * (o * mnOf ps - (g.f * mnOf ps + g.b * k) * u) - h * mnOf ps * u = o * (mnOf ps * y) - ((g.f * mnOf ps + g.b * k) * y + h * mnOf ps) * u := by grind
  omega
theorem let_range {ps : List (Str × Int)} {g : Gst} {o u rest place : Int} (r : 0 ≤ rest) : 0 ≤ letN ps g o u rest place ∧ letN ps g o u rest place ≤ rest := by
  have h : szN ps g o u rest place 2 ≤ rest := (min2.mp (min2.mp (Int.le_refl (szN ps g o u rest place 2))).2).2
  unfold letN
  split <;> omega
end Lw
namespace Lw
open PySem PySem.Spec PyProof.Rows L2
/-! ### how late goes with the size, the rest, the place -/
theorem late_eq (ps : List (Str × Int)) (g : Gst) (o u rest place k : Int) : o * ltU ps g rest place k - ltO ps g rest place k * u = byOf ps g rest place k * (o * mnOf ps - (g.f * mnOf ps + g.b * k) * u) - aheadOf ps g rest place k * mnOf ps * u := by
  unfold ltO ltU
  generalize byOf ps g rest place k = y
  generalize aheadOf ps g rest place k = h
  grind
theorem by_mem (ps : List (Str × Int)) (g : Gst) (rest place k : Int) : byOf ps g rest place k = mxOf ps ∨ byOf ps g rest place k = smOf ps := by
  unfold byOf
  split
  · exact .inr rfl
  · exact .inl rfl
theorem late_iff {ps : List (Str × Int)} {g : Gst} {o u rest place k : Int} (n : CwN ps) (u1 : 1 ≤ u) :
    ltO ps g rest place k * u ≤ o * ltU ps g rest place k ↔ ∀ y, (y = mxOf ps ∨ y = smOf ps) → aheadOf ps g rest place k * mnOf ps * u ≤ y * (o * mnOf ps - (g.f * mnOf ps + g.b * k) * u) := by
  obtain ⟨n1, n2, n3, n4, n5⟩ := id n
  have e := late_eq ps g o u rest place k
  have pos : 0 < mnOf ps * u := Int.mul_pos (by omega) (by omega)
  have sg : aheadOf ps g rest place k * mnOf ps * u ≤ 0 ↔ aheadOf ps g rest place k ≤ 0 := by
    rw [Int.mul_assoc]
    constructor
    · intro z
      rcases Int.lt_or_le 0 (aheadOf ps g rest place k) with c | c
      · have := Int.mul_pos c pos
        omega
      · exact c
    · exact fun z => Int.mul_nonpos_of_nonpos_of_nonneg z (by omega)
  have eb : (if aheadOf ps g rest place k * mnOf ps * u ≤ 0 then smOf ps else mxOf ps) = byOf ps g rest place k := by
    unfold byOf
    by_cases c : aheadOf ps g rest place k ≤ 0
    · rw [if_pos c, if_pos (sg.mpr c)]
    · rw [if_neg c, if_neg (fun z => c (sg.mp z))]
  have w := worst_of (X := o * mnOf ps - (g.f * mnOf ps + g.b * k) * u) (Y := aheadOf ps g rest place k * mnOf ps * u) (y1 := mxOf ps) (y2 := smOf ps) (by omega) n4
  rw [eb] at w
  constructor
  · intro h y hy
    obtain ⟨w1, w2⟩ := w.mpr (by omega)
    rcases hy with rfl | rfl
    · exact w1
    · exact w2
  · intro h
    have := w.mp ⟨h _ (.inl rfl), h _ (.inr rfl)⟩
    omega
theorem ltU_pos {ps : List (Str × Int)} {g : Gst} {rest place k : Int} (n : CwN ps) : 1 ≤ ltU ps g rest place k := by
  obtain ⟨n1, n2, n3, n4, n5⟩ := n
  have : 0 < ltU ps g rest place k := Int.mul_pos (by omega) (by rcases by_mem ps g rest place k with e | e <;> omega)
  omega
theorem late_self {ps : List (Str × Int)} {g : Gst} {rest place k : Int} (n : CwN ps) (y : Int) (hy : y = mxOf ps ∨ y = smOf ps) :
    aheadOf ps g rest place k * mnOf ps * ltU ps g rest place k ≤ y * (ltO ps g rest place k * mnOf ps - (g.f * mnOf ps + g.b * k) * ltU ps g rest place k) :=
  (late_iff n (ltU_pos n)).mp (Int.le_refl _) y hy
/-- not later with one item more behind -/
theorem late_rest {ps : List (Str × Int)} {g : Gst} {rest place k : Int} (n : CwN ps) (ok : g.Ok) : ltO ps g (rest + 1) place k * ltU ps g rest place k ≤ ltO ps g rest place k * ltU ps g (rest + 1) place k := by
  refine (late_iff n (ltU_pos n)).mpr fun y hy => ?_
  have h := late_self (g := g) (rest := rest) (place := place) (k := k) n y hy
  have u1 := ltU_pos (g := g) (rest := rest) (place := place) (k := k) n
  have e : aheadOf ps g (rest + 1) place k = aheadOf ps g rest place k - g.a := by unfold aheadOf; grind
  rw [e]
  have z : 0 ≤ g.a * mnOf ps * ltU ps g rest place k := Int.mul_nonneg (Int.mul_nonneg (by have := ok.1; omega) (by have := n.n1; omega)) (by omega)
  have e2 : (aheadOf ps g rest place k - g.a) * mnOf ps * ltU ps g rest place k = aheadOf ps g rest place k * mnOf ps * ltU ps g rest place k - g.a * mnOf ps * ltU ps g rest place k := by grind
  omega
/-- not less late with one chunk more ahead -/
theorem late_place {ps : List (Str × Int)} {g : Gst} {rest place k : Int} (n : CwN ps) (ok : g.Ok) : ltO ps g rest place k * ltU ps g rest (place + 1) k ≤ ltO ps g rest (place + 1) k * ltU ps g rest place k := by
  refine (late_iff n (ltU_pos n)).mpr fun y hy => ?_
  have h := late_self (g := g) (rest := rest) (place := place + 1) (k := k) n y hy
  have u1 := ltU_pos (g := g) (rest := rest) (place := place + 1) (k := k) n
  have e : aheadOf ps g rest place k = aheadOf ps g rest (place + 1) k - g.f * mxOf ps := by unfold aheadOf; grind
  rw [e]
  obtain ⟨o1, o2, o3, o4, o5⟩ := ok
  obtain ⟨n1, n2, n3, n4, n5⟩ := n
  have z : 0 ≤ g.f * mxOf ps * mnOf ps * ltU ps g rest (place + 1) k := Int.mul_nonneg (Int.mul_nonneg (Int.mul_nonneg (by omega) (by omega)) (by omega)) (by omega)
  have e2 : (aheadOf ps g rest (place + 1) k - g.f * mxOf ps) * mnOf ps * ltU ps g rest (place + 1) k = aheadOf ps g rest (place + 1) k * mnOf ps * ltU ps g rest (place + 1) k - g.f * mxOf ps * mnOf ps * ltU ps g rest (place + 1) k := by grind
  omega
/-- a greater chunk is later -/
theorem late_size {ps : List (Str × Int)} {g : Gst} {rest place k : Int} (n : CwN ps) (ok : g.Ok) : ltO ps g rest place k * ltU ps g rest place (k + 1) < ltO ps g rest place (k + 1) * ltU ps g rest place k := by
  have u1 := ltU_pos (g := g) (rest := rest) (place := place) (k := k + 1) n
  have e0 := late_eq ps g (ltO ps g rest place (k + 1)) (ltU ps g rest place (k + 1)) rest place k
  have hy := by_mem ps g rest place k
  have h := late_self (g := g) (rest := rest) (place := place) (k := k + 1) n _ hy
  have e : aheadOf ps g rest place (k + 1) = aheadOf ps g rest place k - g.b + g.a := by unfold aheadOf; grind
  rw [e] at h
  obtain ⟨o1, o2, o3, o4, o5⟩ := ok
  obtain ⟨n1, n2, n3, n4, n5⟩ := n
  have ym : mnOf ps ≤ byOf ps g rest place k := by rcases hy with e | e <;> omega
  generalize byOf ps g rest place k = y at *
  generalize aheadOf ps g rest place k = t at *
  generalize ltU ps g rest place (k + 1) = u at *
  generalize ltO ps g rest place (k + 1) = o at *
  have z1 : 0 < g.a * mnOf ps * u := Int.mul_pos (Int.mul_pos (by omega) (by omega)) (by omega)
  have z2 : 0 ≤ (y - mnOf ps) * g.b * u := Int.mul_nonneg (Int.mul_nonneg (by omega) (by omega)) (by omega)
  have e3 : y * (o * mnOf ps - (g.f * mnOf ps + g.b * k) * u) - t * mnOf ps * u = (y * (o * mnOf ps - (g.f * mnOf ps + g.b * (k + 1)) * u) - (t - g.b + g.a) * mnOf ps * u) + (y - mnOf ps) * g.b * u + g.a * mnOf ps * u := by grind
  omega
/-- lowest: no chunk is less late -/
theorem late_low {ps : List (Str × Int)} {g : Gst} {place s : Int} (n : CwN ps) (ok : g.Ok) (p0 : 0 ≤ place) (s1 : 1 ≤ s) : ltO ps g 1 0 1 * ltU ps g s place s ≤ ltO ps g s place s * ltU ps g 1 0 1 := by
  refine (late_iff n (ltU_pos n)).mpr fun y hy => ?_
  have h := late_self (g := g) (rest := s) (place := place) (k := s) n y hy
  have u1 := ltU_pos (g := g) (rest := s) (place := place) (k := s) n
  have e1 : aheadOf ps g s place s = place * g.f * mxOf ps - g.b * s := by unfold aheadOf; grind
  have e2 : aheadOf ps g 1 0 1 = - g.b := by unfold aheadOf; grind
  rw [e1] at h
  rw [e2]
  obtain ⟨o1, o2, o3, o4, o5⟩ := ok
  obtain ⟨n1, n2, n3, n4, n5⟩ := n
  have ym : mnOf ps ≤ y := by rcases hy with e | e <;> omega
  generalize ltU ps g s place s = u at *
  generalize ltO ps g s place s = o at *
  have z1 : 0 ≤ place * g.f * mxOf ps * mnOf ps * u := Int.mul_nonneg (Int.mul_nonneg (Int.mul_nonneg (Int.mul_nonneg p0 (by omega)) (by omega)) (by omega)) (by omega)
  have z2 : 0 ≤ (y - mnOf ps) * g.b * (s - 1) * u := Int.mul_nonneg (Int.mul_nonneg (Int.mul_nonneg (by omega) (by omega)) (by omega)) (by omega)
  have e3 : y * (o * mnOf ps - (g.f * mnOf ps + g.b * 1) * u) - -g.b * mnOf ps * u = (y * (o * mnOf ps - (g.f * mnOf ps + g.b * s) * u) - (place * g.f * mxOf ps - g.b * s) * mnOf ps * u) + (y - mnOf ps) * g.b * (s - 1) * u + place * g.f * mxOf ps * mnOf ps * u := by grind
  omega
/-- one item more, all of it in the chunk: not less late -/
theorem late_both {ps : List (Str × Int)} {g : Gst} {rest place k : Int} (n : CwN ps) (ok : g.Ok) : ltO ps g rest place k * ltU ps g (rest + 1) place (k + 1) ≤ ltO ps g (rest + 1) place (k + 1) * ltU ps g rest place k := by
  refine (late_iff n (ltU_pos n)).mpr fun y hy => ?_
  have h := late_self (g := g) (rest := rest + 1) (place := place) (k := k + 1) n y hy
  have u1 := ltU_pos (g := g) (rest := rest + 1) (place := place) (k := k + 1) n
  have e : aheadOf ps g (rest + 1) place (k + 1) = aheadOf ps g rest place k - g.b := by unfold aheadOf; grind
  rw [e] at h
  obtain ⟨o1, o2, o3, o4, o5⟩ := ok
  obtain ⟨n1, n2, n3, n4, n5⟩ := n
  have ym : mnOf ps ≤ y := by rcases hy with e | e <;> omega
  generalize aheadOf ps g rest place k = t at *
  generalize ltU ps g (rest + 1) place (k + 1) = u at *
  generalize ltO ps g (rest + 1) place (k + 1) = o at *
  have z2 : 0 ≤ (y - mnOf ps) * g.b * u := Int.mul_nonneg (Int.mul_nonneg (by omega) (by omega)) (by omega)
  have e3 : y * (o * mnOf ps - (g.f * mnOf ps + g.b * k) * u) - t * mnOf ps * u = (y * (o * mnOf ps - (g.f * mnOf ps + g.b * (k + 1)) * u) - (t - g.b) * mnOf ps * u) + (y - mnOf ps) * g.b * u := by grind
  omega
/-- fractions in a row -/
theorem fr_trans {a b c d e f : Int} (hb : 1 ≤ b) (hd : 1 ≤ d) (hf : 1 ≤ f) (h1 : a * d ≤ c * b) (h2 : c * f ≤ e * d) : a * f ≤ e * b := by
  have h3 : a * d * f ≤ c * b * f := Int.mul_le_mul_of_nonneg_right h1 (by omega)
  have h4 : c * f * b ≤ e * d * b := Int.mul_le_mul_of_nonneg_right h2 (by omega)
  have e1 : a * d * f = d * (a * f) := by grind
  have e2 : c * b * f = c * f * b := by grind
  have e3 : e * d * b = d * (e * b) := by grind
  exact Int.le_of_mul_le_mul_left (a := d) (by omega) (by omega)
/-- what is let if more items are behind -/
theorem let_rest {ps : List (Str × Int)} {g : Gst} {o u rest place : Int} (n : CwN ps) (ok : g.Ok) (u1 : 1 ≤ u) (r : 1 ≤ rest) :
    letN ps g o u rest place ≤ letN ps g o u (rest + 1) place ∧ letN ps g o u (rest + 1) place ≤ letN ps g o u rest place + 1 := by
  obtain ⟨a0, a1⟩ := let_range (ps := ps) (g := g) (o := o) (u := u) (rest := rest) (place := place) (by omega)
  obtain ⟨b0, b1⟩ := let_range (ps := ps) (g := g) (o := o) (u := u) (rest := rest + 1) (place := place) (by omega)
  constructor
  · rcases Int.lt_or_le 0 (letN ps g o u rest place) with c | c
    · have h := (let_iff n ok u1 (show 1 ≤ letN ps g o u rest place by omega) a1).mp (Int.le_refl _)
      exact (let_iff n ok u1 (by omega) (by omega)).mpr (fr_trans (ltU_pos n) (ltU_pos n) u1 (late_rest n ok) h)
    · omega
  · rcases Int.lt_or_le (letN ps g o u rest place + 1) (letN ps g o u (rest + 1) place) with c | c
    · have h := (let_iff n ok u1 (show 1 ≤ letN ps g o u (rest + 1) place by omega) b1).mp (Int.le_refl _)
      have e : letN ps g o u (rest + 1) place - 1 + 1 = letN ps g o u (rest + 1) place := by omega
      have h2 := late_both (g := g) (rest := rest) (place := place) (k := letN ps g o u (rest + 1) place - 1) n ok
      rw [e] at h2
      have := (let_iff (k := letN ps g o u (rest + 1) place - 1) n ok u1 (by omega) (by omega)).mpr (fr_trans (ltU_pos n) (ltU_pos n) u1 h2 h)
      omega
    · exact c
theorem let_place {ps : List (Str × Int)} {g : Gst} {o u rest place : Int} (n : CwN ps) (ok : g.Ok) (u1 : 1 ≤ u) (r : 1 ≤ rest) : letN ps g o u rest (place + 1) ≤ letN ps g o u rest place := by
  obtain ⟨a0, a1⟩ := let_range (ps := ps) (g := g) (o := o) (u := u) (rest := rest) (place := place) (by omega)
  obtain ⟨b0, b1⟩ := let_range (ps := ps) (g := g) (o := o) (u := u) (rest := rest) (place := place + 1) (by omega)
  rcases Int.lt_or_le 0 (letN ps g o u rest (place + 1)) with c | c
  · have h := (let_iff n ok u1 (show 1 ≤ letN ps g o u rest (place + 1) by omega) b1).mp (Int.le_refl _)
    exact (let_iff n ok u1 (by omega) b1).mpr (fr_trans (ltU_pos n) (ltU_pos n) u1 (late_place n ok) h)
  · omega
/-- with a limit that is not less -/
theorem let_limit {ps : List (Str × Int)} {g : Gst} {o u p q rest place : Int} (n : CwN ps) (ok : g.Ok) (u1 : 1 ≤ u) (q1 : 1 ≤ q) (r : 1 ≤ rest) (h : o * q ≤ p * u) : letN ps g o u rest place ≤ letN ps g p q rest place := by
  obtain ⟨a0, a1⟩ := let_range (ps := ps) (g := g) (o := o) (u := u) (rest := rest) (place := place) (by omega)
  obtain ⟨b0, b1⟩ := let_range (ps := ps) (g := g) (o := p) (u := q) (rest := rest) (place := place) (by omega)
  rcases Int.lt_or_le 0 (letN ps g o u rest place) with c | c
  · have h2 := (let_iff n ok u1 (show 1 ≤ letN ps g o u rest place by omega) a1).mp (Int.le_refl _)
    exact (let_iff n ok q1 (by omega) a1).mpr (fr_trans (ltU_pos n) u1 q1 h2 h)
  · omega
/-- within lowest one item is let; within less, none -/
theorem let_low1 {ps : List (Str × Int)} {g : Gst} {o u : Int} (n : CwN ps) (ok : g.Ok) (u1 : 1 ≤ u) (h : ltO ps g 1 0 1 * u ≤ o * ltU ps g 1 0 1) : letN ps g o u 1 0 = 1 := by
  obtain ⟨a0, a1⟩ := let_range (ps := ps) (g := g) (o := o) (u := u) (rest := 1) (place := 0) (by omega)
  have := (let_iff (k := 1) (rest := 1) (place := 0) n ok u1 (by omega) (by omega)).mpr h
  omega
theorem let_low0 {ps : List (Str × Int)} {g : Gst} {o u : Int} (n : CwN ps) (ok : g.Ok) (u1 : 1 ≤ u) (h : o * ltU ps g 1 0 1 < ltO ps g 1 0 1 * u) : letN ps g o u 1 0 = 0 := by
  obtain ⟨a0, a1⟩ := let_range (ps := ps) (g := g) (o := o) (u := u) (rest := 1) (place := 0) (by omega)
  rcases Int.lt_or_le (letN ps g o u 1 0) 1 with c | c
  · omega
  · have := (let_iff (k := 1) (rest := 1) (place := 0) n ok u1 (by omega) (by omega)).mp c
    omega
end Lw
namespace Lw
open PySem PySem.Spec PyProof.Rows L2
open SX PySem.NumText TL LamX ClX StX
/-- lateness_at's and all_latenesses' are the same -/
theorem lt_wth {ps : List (Str × Int)} {g : Gst} {rest place size : Int} : ltO ps g rest place size * unO ps = wth ps g rest place size * ltU ps g rest place size := by
  have ea : aheadOf ps g rest place size = wAh ps g rest place size := by unfold aheadOf wAh; grind
  unfold ltO ltU wth byOf unO
  rw [ea]
  show _ * (mnOf ps * mxOf ps * smOf ps) = _
  split
  · rename_i c
    rw [show (ps.map (·.2)).sum = smOf ps from rfl]
    grind
  · grind

/-! ### the rests of the greedy list -/
/-- what is left behind so many more chunks, place by place -/
def gRs (f : Int → Int → Int) : Nat → Int → Int → List Int
  | 0, _, _ => []
  | k + 1, i, r => if 0 < r ∧ 0 < f r i then (r - f r i) :: gRs f k (i + 1) (r - f r i) else []
theorem gRs_pos {f : Int → Int → Int} {k : Nat} {i r : Int} (h : 0 < r ∧ 0 < f r i) : gRs f (k + 1) i r = (r - f r i) :: gRs f k (i + 1) (r - f r i) := by
  rw [gRs, if_pos h]
theorem gRs_neg {f : Int → Int → Int} {k : Nat} {i r : Int} (h : ¬ (0 < r ∧ 0 < f r i)) : gRs f k i r = [] := by
  cases k with
  | zero => rfl
  | succ k => rw [gRs, if_neg h]
/-- sizes that are let: from 0 to the rest -/
def FOk (f : Int → Int → Int) : Prop := ∀ r i, 0 ≤ r → 0 ≤ f r i ∧ f r i ≤ r
theorem gRs_nn {f : Int → Int → Int} (h : FOk f) : ∀ (k : Nat) (i r : Int), 0 ≤ r → ∀ x ∈ gRs f k i r, 0 ≤ x ∧ x < r
  | 0, _, _, _, x, hx => by cases hx
  | k + 1, i, r, h0, x, hx => by
    unfold gRs at hx
    split at hx
    · rename_i c
      have b := h r i h0
      rcases List.mem_cons.mp hx with rfl | hx
      · omega
      · have := gRs_nn h k (i + 1) (r - f r i) (by omega) x hx
        omega
    · cases hx
theorem gRs_len (f : Int → Int → Int) : ∀ (k : Nat) (i r : Int), (gRs f k i r).length ≤ k
  | 0, _, _ => Nat.le_refl _
  | k + 1, i, r => by
    unfold gRs
    split
    · have := gRs_len f k (i + 1) (r - f r i)
      rw [List.length_cons]; omega
    · exact Nat.zero_le _
theorem gRs_few {f : Int → Int → Int} (h : FOk f) : ∀ (k : Nat) (i r : Int), 0 ≤ r → ((gRs f k i r).length : Int) ≤ r
  | 0, _, _, h0 => h0
  | k + 1, i, r, h0 => by
    unfold gRs
    split
    · rename_i c
      have b := h r i h0
      have := gRs_few h k (i + 1) (r - f r i) (by omega)
      rw [List.length_cons]; omega
    · exact h0
/-- a step of the greedy list -/
theorem gRs_step {f : Int → Int → Int} : ∀ (k : Nat) (i r : Int) (j : Nat) (x y : Int), (r :: gRs f k i r)[j]? = some x → (r :: gRs f k i r)[j + 1]? = some y → 0 < x ∧ 0 < f x (i + j) ∧ y = x - f x (i + j)
  | 0, i, r, j, x, y, _, h2 => by
    have : gRs f 0 i r = [] := rfl
    rw [this] at h2
    simp at h2
  | k + 1, i, r, j, x, y, h1, h2 => by
    rw [List.getElem?_cons_succ] at h2
    unfold gRs at h1 h2
    split at h1
    · rename_i c
      rw [if_pos c] at h2
      cases j with
      | zero =>
        rw [List.getElem?_cons_zero] at h1 h2
        cases h1
        cases h2
        exact ⟨c.1, by simpa using c.2, by simp⟩
      | succ j =>
        rw [List.getElem?_cons_succ] at h1
        have ih := gRs_step k (i + 1) (r - f r i) j x y h1 h2
        have e : i + 1 + (j : Int) = i + ((j + 1 : Nat) : Int) := by omega
        rw [e] at ih
        exact ih
    · rename_i c
      rw [if_neg c] at h2
      cases h2
/-- where the greedy list ends, not cut short -/
theorem gRs_last {f : Int → Int → Int} (h : FOk f) : ∀ (k : Nat) (i r : Int) (j : Nat) (x : Int), 0 ≤ r → r ≤ k → (r :: gRs f k i r)[j]? = some x → (r :: gRs f k i r)[j + 1]? = none → x = 0 ∨ f x (i + j) = 0
  | 0, i, r, j, x, h0, hk, h1, _ => by
    have : gRs f 0 i r = [] := rfl
    rw [this] at h1
    cases j with
    | zero => cases h1; exact .inl (by omega)
    | succ j => simp at h1
  | k + 1, i, r, j, x, h0, hk, h1, h2 => by
    rw [List.getElem?_cons_succ] at h2
    unfold gRs at h1 h2
    have b := h r i h0
    split at h1
    · rename_i c
      rw [if_pos c] at h2
      cases j with
      | zero => simp at h2
      | succ j =>
        rw [List.getElem?_cons_succ] at h1
        have ih := gRs_last h k (i + 1) (r - f r i) j x (by omega) (by omega) h1 (by simpa using h2)
        have e : i + 1 + (j : Int) = i + ((j + 1 : Nat) : Int) := by omega
        rw [e] at ih
        exact ih
    · rename_i c
      rw [if_neg c] at h2
      cases j with
      | zero =>
        cases h1
        simp only [Int.natCast_zero, Int.add_zero]
        omega
      | succ j => simp at h1
/-! ### the greedy rests are the least -/
/-- one item more lets at most one item more; a later place lets no more -/
structure FMon (f : Int → Int → Int) : Prop where
  rest : ∀ r i, 1 ≤ r → 0 ≤ i → f (r + 1) i ≤ f r i + 1
  place : ∀ r i, 1 ≤ r → 0 ≤ i → f r (i + 1) ≤ f r i
theorem FMon.left {f : Int → Int → Int} (m : FMon f) {r x i : Int} (r1 : 1 ≤ r) (h : r ≤ x) (i0 : 0 ≤ i) : r - f r i ≤ x - f x i := by
  obtain ⟨n, rfl⟩ : ∃ n : Nat, x = r + n := ⟨(x - r).toNat, by omega⟩
  clear h
  induction n with
  | zero => simp
  | succ n ih =>
    have := m.rest (r + n) i (by omega) i0
    have e : r + ((n + 1 : Nat) : Int) = r + n + 1 := by omega
    rw [e]
    omega
theorem FMon.late {f : Int → Int → Int} (m : FMon f) {r i : Int} {n : Nat} (r1 : 1 ≤ r) (i0 : 0 ≤ i) : f r (i + n) ≤ f r i := by
  induction n with
  | zero => simp
  | succ n ih =>
    have := m.place r (i + n) r1 (by omega)
    have e : i + ((n + 1 : Nat) : Int) = i + n + 1 := by omega
    rw [e]
    omega
/-- what can be left behind one chunk more -/
def bhd (f : Int → Int → Int) (S : Int → Prop) (i : Int) (x : Int) : Prop := ∃ r s, S r ∧ 1 ≤ s ∧ s ≤ f r i ∧ x = r - s
/-- the sets of what can be left, and the greedy rests R: at place i -/
structure LeastAt (R : List Int) (i : Nat) (S : Int → Prop) : Prop where
  here : ∀ x, R[i]? = some x → S x ∧ ∀ y, S y → x ≤ y
  past : R[i]? = none → ∀ x, R.getLast? = some x → ∀ y, S y → x ≤ y
theorem least_stepR {f : Int → Int → Int} (m : FMon f) {Rs : List Int} (ne : Rs ≠ []) (stp : ∀ (j : Nat) (x y : Int), Rs[j]? = some x → Rs[j + 1]? = some y → 0 < x ∧ 0 < f x (0 + j) ∧ y = x - f x (0 + j))
    (lst : ∀ (j : Nat) (x : Int), Rs[j]? = some x → Rs[j + 1]? = none → x = 0 ∨ f x (0 + j) = 0) (nn : ∀ x ∈ Rs, 0 ≤ x) {i : Nat} {S S' : Int → Prop} (L : LeastAt Rs i S) (e : ∀ x, S' x ↔ bhd f S i x)
    (nz : ∀ x, Rs[i]? = some x → x ≠ 0) (nl : Rs[i]? = none → ∀ x, Rs.getLast? = some x → x ≠ 0) : LeastAt Rs (i + 1) S' := by
  constructor
  · intro y hy
    have hi : i < Rs.length := by
      have := (List.getElem?_eq_some_iff.mp hy).1
      omega
    have hx : Rs[i]? = some Rs[i] := List.getElem?_eq_getElem hi
    obtain ⟨s1, s2, s3⟩ := stp i _ y hx hy
    obtain ⟨l1, l2⟩ := L.here _ hx
    rw [Int.zero_add] at s2 s3
    refine ⟨(e y).mpr ⟨_, _, l1, by omega, Int.le_refl _, s3⟩, fun z hz => ?_⟩
    obtain ⟨r, s, q1, q2, q3, rfl⟩ := (e z).mp hz
    have := m.left (i := (i : Int)) (by omega) (l2 r q1) (by omega)
    omega
  · intro hn x hx z hz
    obtain ⟨r, s, q1, q2, q3, rfl⟩ := (e z).mp hz
    have hl : Rs[Rs.length - 1]? = some x := by rw [← List.getLast?_eq_getElem?]; exact hx
    have hx0 : 0 ≤ x := nn x (List.mem_of_getElem? hl)
    have le : Rs.length ≤ i + 1 := by simpa using hn
    have lp : 0 < Rs.length := List.length_pos_iff.mpr ne
    have hz0 : x ≠ 0 ∧ x ≤ r := by
      rcases Nat.lt_or_ge i Rs.length with c | c
      · have ei : i = Rs.length - 1 := by omega
        rw [← ei] at hl
        exact ⟨nz x hl, (L.here x hl).2 r q1⟩
      · have hn' : Rs[i]? = none := by simpa using c
        exact ⟨nl hn' x hx, L.past hn' x hx r q1⟩
    have hf := (lst (Rs.length - 1) x hl (by simp; omega)).resolve_left hz0.1
    rw [Int.zero_add] at hf
    obtain ⟨n, hn2⟩ : ∃ n : Nat, (i : Int) = ((Rs.length - 1 : Nat) : Int) + n := ⟨i - (Rs.length - 1), by omega⟩
    have h1 := m.late (r := x) (i := ((Rs.length - 1 : Nat) : Int)) (n := n) (by omega) (by omega)
    rw [← hn2, hf] at h1
    have h2 := m.left (i := (i : Int)) (show 1 ≤ x by omega) hz0.2 (by omega)
    omega
theorem least_step {f : Int → Int → Int} (h : FOk f) (m : FMon f) {k : Nat} {t : Int} (t0 : 0 ≤ t) (tk : t ≤ k) {i : Nat} {S S' : Int → Prop} (L : LeastAt (t :: gRs f k 0 t) i S) (e : ∀ x, S' x ↔ bhd f S i x)
    (nz : ∀ x, (t :: gRs f k 0 t)[i]? = some x → x ≠ 0) (nl : (t :: gRs f k 0 t)[i]? = none → ∀ x, (t :: gRs f k 0 t).getLast? = some x → x ≠ 0) : LeastAt (t :: gRs f k 0 t) (i + 1) S' :=
  least_stepR m (by simp) (fun j x y => gRs_step (f := f) k 0 t j x y) (fun j x => gRs_last h k 0 t j x t0 tk) (fun x hx => by
    rcases List.mem_cons.mp hx with rfl | hx
    · exact t0
    · exact (gRs_nn h k 0 t t0 x hx).1) L e nz nl
theorem let_fok {ps : List (Str × Int)} {g : Gst} {o u : Int} : FOk (fun r i => letN ps g o u r i) := fun r i h => let_range h
theorem let_fmon {ps : List (Str × Int)} {g : Gst} {o u : Int} (n : CwN ps) (ok : g.Ok) (u1 : 1 ≤ u) : FMon (fun r i => letN ps g o u r i) :=
  ⟨fun r i r1 _ => (let_rest n ok u1 r1).2, fun r i r1 _ => let_place n ok u1 r1⟩
end Lw
namespace Lw
open PySem PySem.Spec PyProof.Rows L2
open SX PySem.NumText TL LamX ClX StX
abbrev sCtt : Stmt := top 52
abbrev sHev : Stmt := inClass (top 50) 4
structure TxtM (mg : Str → Option Value) : Prop extends Txt mg where
  n_min : mg "min" = none
  n_divmod : mg "divmod" = none
  n_tuple : mg "tuple" = none
theorem pyl {i j : Int} (h : j.natAbs.log2 < 9000) : Builtin.divisionGoesByPylong i j = false := by
  unfold Builtin.divisionGoesByPylong
  have h2 : ¬ ((if (j == 0) = true then 0 else j.natAbs.log2 / 30 + 1) > 300) := by split <;> omega
  show (decide _ && _) = false
  rw [decide_eq_false h2]; rfl
theorem ten30 : ((10 : Int) ^ 30) = ((10 ^ 30 : Nat) : Int) := by decide +kernel
theorem log30 {i : Int} (h : i.natAbs ≤ 10 ^ 31) : i.natAbs.log2 < 200 := by
  by_cases z : i.natAbs = 0
  · rw [z]; decide
  · exact (Nat.log2_lt z).mpr (Nat.lt_of_le_of_lt h (by decide +kernel))
theorem rep_flat {α : Type} (v : α) : ∀ n : Nat, (List.replicate n [v]).flatten = List.replicate n v
  | 0 => rfl
  | n + 1 => by rw [List.replicate_succ, List.flatten_cons, rep_flat v n, List.replicate_succ]; rfl
/-! ### even lists -/
def evL (t s : Int) : List Int := List.replicate (t / s).toNat s ++ (if t % s = 0 then [] else [t % s])
theorem ev_len {t s : Int} (ht : 0 ≤ t) (hs : 1 ≤ s) : ((evL t s).length : Int) = -((-t) / s) := by
  have h1 := Int.emod_nonneg t (show s ≠ 0 by omega)
  have h2 := Int.emod_lt_of_pos t (show 0 < s by omega)
  have h3 := Int.mul_ediv_add_emod t s
  have hq : 0 ≤ t / s := Int.ediv_nonneg ht (by omega)
  unfold evL
  rw [List.length_append, List.length_replicate]
  split
  · rename_i e
    rw [e, Int.add_zero] at h3
    have e2 : (-t) / s = -(t / s) := by
      rw [← h3, ← Int.mul_neg, Int.mul_ediv_cancel_left _ (show s ≠ 0 by omega), Int.mul_ediv_cancel_left _ (show s ≠ 0 by omega)]
    rw [e2]
    show (((t / s).toNat + 0 : Nat) : Int) = _
    omega
  · rename_i e
    have e2 : (-t) / s = -(t / s) - 1 := by
      refine (Int.ediv_emod_unique (r := s - t % s) (show 0 < s by omega)).mpr ⟨?_, by omega, by omega⟩ |>.1
      rw [Int.mul_sub, Int.mul_neg, Int.mul_one]; omega
    rw [e2]
    show (((t / s).toNat + 1 : Nat) : Int) = _
    omega
theorem ev_ok {t s : Int} (ht : 0 ≤ t) (h30 : t ≤ 10 ^ 30) (hs : 1 ≤ s) (hs30 : s ≤ 10 ^ 30) : SzB (evL t s) := fun v hv => by
  unfold evL at hv
  have h1 := Int.emod_nonneg t (show s ≠ 0 by omega)
  have h2 := Int.emod_lt_of_pos t (show 0 < s by omega)
  rcases List.mem_append.mp hv with hv | hv
  · rw [List.eq_of_mem_replicate hv]; exact ⟨hs, hs30⟩
  · split at hv
    · cases hv
    · rw [List.mem_singleton.mp hv]
      exact ⟨by omega, by omega⟩
/-- what a list of good sizes comes to -/
def OutC (CC DM : Addr) (ns : List Int) (H : Hp) (Q : VK) (E : XK) : Prop := (ns.length ≤ 5000 → ∀ c H', Same H H' → H c = none → ChA CC H' c ns → Q (.ref c) H') ∧ (5000 < ns.length → Mf DM H E)
theorem OutC.of {CC DM : Addr} {ns : List Int} {H H' : Hp} {Q : VK} {E : XK} (h : OutC CC DM ns H Q E) (s : Same H H') : OutC CC DM ns H' Q E := ⟨fun l c H2 s2 fc hc => h.1 l c H2 (s.trans s2) (s.free fc) hc, fun l => (h.2 l).of s⟩
def spCtt (K : PySem.W.Frag) (DT : Addr) : Sp := fun vs H Q E => ∃ x, vs = [x] ∧ Anyv K H x ∧ (inB x 0 (10 ^ 30) = true → Q .non H) ∧ (inB x 0 (10 ^ 30) = false → Bf DT "value" x H E)
def TotE (K : PySem.W.Frag) (DT : Addr) (x : V) (H : Hp) (E : XK) (R : Int → Prop) : Prop := Anyv K H x ∧ (inB x 0 (10 ^ 30) = false → Bf DT "value" x H E) ∧ ∀ t, x = .int t → 0 ≤ t → t ≤ 10 ^ 30 → R t
theorem inB_int {x : V} {lo hi : Int} (h : inB x lo hi = true) : ∃ v, x = .int v ∧ lo ≤ v ∧ v ≤ hi := by
  unfold inB at h
  split at h
  · rename_i v
    rw [Bool.and_eq_true, decide_eq_true_eq, decide_eq_true_eq] at h
    exact ⟨v, rfl, h.1, h.2⟩
  · cases h
def spHev (K : PySem.W.Frag) (CC DM DS DT : Addr) : Sp := fun vs H Q E => ∃ x y, vs = [x, y] ∧ Anyv K H y ∧ TotE K DT x H E fun t => (isZ y = false → Bf DS "value" y H E) ∧ ∀ s, y = .int s → 1 ≤ s → s ≤ 10 ^ 30 → OutC CC DM (evL t s) H Q E
/-- Chunks.of, ready to be called in the module -/
structure OfK (P : Program) (w : World) (K : PySem.W.Frag) (mg : Str → Option Value) (base : Heap) (CC DM DS DC p g : Addr) (fd : FuncData) : Prop where
  hm : mg "Chunks" = some (.ref CC)
  S : SMet K CC "of" p g
  F : FnOk P w K mg base (L2.CX P w) 7 g fd ["sizes"] (spCof2 K CC DM DS DC)
  b : Binds K fd ["sizes"] []
section
variable {P : Program} {w : World} {K : PySem.W.Frag} {mg : Str → Option Value} {base : Heap}
theorem scCtt : FnScope ["total"] ["total"] (C8.fnScope sCtt) := C8.fnScope_by (by decide +kernel)
theorem fn_ctt {DT fE f : Addr} {fd fdE : FuncData} (F : C8.Def K mg "check_total" sCtt f fd) (T : Txt mg) (ET : Err1 "BadTotal" "value" P w K mg base DT fE fdE) (DW : C8.Cal P w K mg base 2 "is_within" (spWithin K) []) : FnOk P w K mg base (L2.CX P w) 3 f fd ["total"] (spCtt K DT) := by
  obtain ⟨oc, od, dV, kV, doc, pm, an, cdv, ct, osl, rfl, lk, hcd⟩ := F.fn.ex
  obtain ⟨tg, hGS⟩ := T.c_GS
  refine fn_of lk hcd scCtt (fun vs H Q E h => ?_) fun A outer s H vs Q E hr h => ?_
  · obtain ⟨x, rfl, _⟩ := h
    rfl
  · obtain ⟨x, rfl, av, k1, k2⟩ := h
    have tk : Takes (cxOf (L2.CX P w) P w K mg base ["total"] "check_total" (C8.fnScope sCtt) f cdv A outer s H E) (fun cls d _ H' => E cls d H') := takes_of rfl rfl rfl rfl
    refine ⟨_, (pss_one (ps_if (pt_not (pt_val (C8.pe_c DW hr (by decide) (by rfl) (pa_cons (pv 0) (pa_cons pe_int (pa_cons (pe_glob (v := .int (10 ^ 30)) rfl hGS ⟨_, rfl⟩) pa_nil)))))) (pss_one (ps_bad1 (x := "BadTotal") rfl tk ET.T ET.iC ET.tI ET.F hr ET.b (by rfl) ET.hm (pv 0))) pss_nil)), ?_⟩
    refine ⟨_, rfl, x, 0, 10 ^ 30, rfl, av, _, rfl, ?_⟩
    cases hz : inB x 0 (10 ^ 30) with
    | false => exact iteT ⟨_, rfl, bad_leaf1 fun d fs hd e1 => k2 hz d fs H (Same.refl _) hd e1⟩
    | true => exact iteF (k1 hz)
theorem scHev : FnScope ["total", "size"] ["total", "size"] (C8.fnScope sHev) := C8.fnScope_by (by decide +kernel)
end
end Lw
namespace Lw
open PySem PySem.Spec PyProof.Rows L2
open SX PySem.NumText TL LamX ClX StX
set_option pp.maxSteps 900
abbrev sNum : Stmt := top 41
abbrev sCli : Stmt := top 75
abbrev sCka : Stmt := top 82
abbrev sGrd : Stmt := top 80
abbrev sCbt : Stmt := top 81
abbrev sFew : Stmt := top 79
abbrev sFwI : Stmt := inClass (top 77) 0
abbrev sNlI : Stmt := inClass (top 78) 0
/-- no number -/
def NotR (K : PySem.W.Frag) (RC : Addr) (H : Hp) (v : V) : Prop := Anyv K H v ∧ isI v = false ∧ ∃ t, TyZ K H v t ∧ PySem.W.kitOne K t (.ref RC) = some false
def spNum (K : PySem.W.Frag) (RC : Addr) : Sp := fun vs H Q _ => ∃ v, vs = [v] ∧ ((∃ o u, LimAt RC H v o u ∧ Q (.bl true) H) ∨ (NotR K RC H v ∧ Q (.bl false) H))
def spCli (K : PySem.W.Frag) (RC DL : Addr) : Sp := fun vs H Q E => ∃ v, vs = [v] ∧ ((∃ o u, LimAt RC H v o u ∧ Q .non H) ∨ (NotR K RC H v ∧ Bf DL "value" v H E))
section
variable {P : Program} {w : World} {K : PySem.W.Frag} {mg : Str → Option Value} {base : Heap} {CS CC RC DR DH DL : Addr}
theorem scNum : FnScope ["value"] ["value"] (C8.fnScope sNum) := C8.fnScope_by (by decide +kernel)
theorem cal_num {f : Addr} {fd : FuncData} (F : C8.Def K mg "is_number" sNum f fd) (b : Binds K fd ["value"] []) (T : Txt mg) (hRC : mg "Ratio" = some (.ref RC)) (I : C8.InsC K RC) (nb : NoB K RC) (DI : C8.Cal P w K mg base 1 "is_integer" (spIsInt K) []) : C8.Cal P w K mg base 2 "is_number" (spNum K RC) [] := by
  refine C8.cal0 F b .nil scNum (fun vs H Q E h => ?_) (fun cdv A outer st H vs Q E hr h => ?_)
  · obtain ⟨v, rfl, _⟩ := h
    rfl
  · obtain ⟨v, rfl, h⟩ := h
    refine ⟨_, (pss_one (ps_ret (pe_or (C8.pe_c DI hr (by decide) (by rfl) (pa_cons (pv 0) pa_nil)) (pe_one (pe_callB call_isz (by rfl) T.n_isinstance (by decide +kernel) (pa_cons (pv 0) (pa_cons (pe_glob (v := .ref RC) (by rfl) hRC rfl) pa_nil))))))), ?_⟩
    rcases h with ⟨o, u, lm, k⟩ | ⟨⟨av, hi, t, ty, kt⟩, k⟩
    · rcases lm with ⟨l, rfl, d, hl⟩ | ⟨rfl, rfl⟩
      · have ty : TyZ K H (.ref l) (.ref RC) := .x (.base (.ins hl I.cl I.ha I.hn I.htk I.hm))
        refine ⟨_, rfl, .ref l, rfl, .obj ty nb.i nb.b nb.s, ?_⟩
        exact ⟨_, rfl, iteF ⟨_, rfl, _, .ref RC, .ref RC, .ref RC, true, rfl, .own RC, ty, I.me, k⟩⟩
      · exact ⟨_, rfl, .int o, rfl, .int o, _, rfl, iteT k⟩
    · refine ⟨_, rfl, v, rfl, av, _, rfl, ?_⟩
      rw [hi]
      exact iteF ⟨_, rfl, _, .ref RC, t, .ref RC, false, rfl, .own RC, ty, kt, k⟩
theorem scCli : FnScope ["limit"] ["limit"] (C8.fnScope sCli) := C8.fnScope_by (by decide +kernel)
theorem fn_cli {f fL : Addr} {fd fdL : FuncData} (F : C8.Def K mg "check_limit" sCli f fd) (EL : Err1 "BadLimit" "value" P w K mg base DL fL fdL) (DNu : C8.Cal P w K mg base 2 "is_number" (spNum K RC) []) : FnOk P w K mg base (L2.CX P w) 4 f fd ["limit"] (spCli K RC DL) := by
  obtain ⟨oc, od, dV, kV, doc, pm, an, cdv, ct, osl, rfl, lk, hcd⟩ := F.fn.ex
  refine fn_of lk hcd scCli (fun vs H Q E h => ?_) fun A outer s H vs Q E hr h => ?_
  · obtain ⟨v, rfl, _⟩ := h
    rfl
  · obtain ⟨v, rfl, h⟩ := h
    have tk : Takes (cxOf (L2.CX P w) P w K mg base ["limit"] "check_limit" (C8.fnScope sCli) f cdv A outer s H E) (fun cls d _ H' => E cls d H') := takes_of rfl rfl rfl rfl
    refine ⟨_, (pss_one (ps_if (pt_not (pt_val (C8.pe_c DNu hr (by decide) (by rfl) (pa_cons (pv 0) pa_nil)))) (pss_one (ps_bad1 (x := "BadLimit") rfl tk EL.T EL.iC EL.tI EL.F hr EL.b (by rfl) EL.hm (pv 0))) pss_nil)), ?_⟩
    rcases h with ⟨o, u, lm, k⟩ | ⟨nr, k⟩
    · exact ⟨_, rfl, v, rfl, .inl ⟨o, u, lm, _, rfl, iteF k⟩⟩
    · exact ⟨_, rfl, v, rfl, .inr ⟨nr, _, rfl, iteT ⟨_, rfl, bad_leaf1 (Bf.leaf k)⟩⟩⟩
end

/-- what is asked is good -/
def spCka (CS CC RC : Addr) : Sp := fun vs H Q _ => ∃ (s : Addr) (v : V) (ps : List (Str × Int)) (g : Gst) (t o u : Int), vs = [.int t, .ref s, v] ∧ 0 ≤ t ∧ t ≤ 10 ^ 30 ∧ StAt CS CC RC H s ps g ∧ LimAt RC H v o u ∧ Q .non H
/-- the greedy rests -/
def gRest (ps : List (Str × Int)) (g : Gst) (o u t : Int) (m : Nat) : List Int := t :: gRs (fun r i => letN ps g o u r i) m 0 t
def spGrd (CS CC RC : Addr) : Sp := fun vs H Q _ => ∃ (s : Addr) (v : V) (ps : List (Str × Int)) (g : Gst) (t o u : Int) (m : Nat), vs = [.int t, .ref s, v, .int m] ∧ 0 ≤ t ∧ t ≤ 10 ^ 30 ∧ m ≤ 5000 ∧ StAt CS CC RC H s ps g ∧ g.Ok ∧ LimAt RC H v o u ∧ o.natAbs ≤ 10 ^ 200 ∧ 1 ≤ u ∧ u ≤ 10 ^ 200 ∧
  ∀ L H', Same H H' → H L = none → H' L = some (.lst ((gRest ps g o u t m).map V.int)) → Q (.ref L) H'
def gaps : List Int → List Int
  | [] => []
  | [_] => []
  | a :: b :: r => (a - b) :: gaps (b :: r)
theorem gaps_get : ∀ (es : List Int) (i : Nat) (x y : Int), es[i]? = some x → es[i + 1]? = some y → (gaps es)[i]? = some (x - y)
  | [], i, x, y, h, _ => by cases h
  | [_], i, x, y, _, h => by simp at h
  | a :: b :: r, 0, x, y, h1, h2 => by
    cases h1
    cases h2
    rfl
  | a :: b :: r, i + 1, x, y, h1, h2 => gaps_get (b :: r) i x y h1 h2
theorem gaps_mem : ∀ (es : List Int) (v : Int), v ∈ gaps es → ∃ i x y, es[i]? = some x ∧ es[i + 1]? = some y ∧ v = x - y
  | [], v, h => by cases h
  | [_], v, h => by cases h
  | a :: b :: r, v, h => by
    rcases List.mem_cons.mp h with rfl | h
    · exact ⟨0, a, b, rfl, rfl, rfl⟩
    · obtain ⟨i, x, y, h1, h2, h3⟩ := gaps_mem (b :: r) v h
      exact ⟨i + 1, x, y, h1, h2, h3⟩
theorem gaps_len : ∀ (es : List Int), (gaps es).length = es.length - 1
  | [] => rfl
  | [_] => rfl
  | a :: b :: r => by
    show (gaps (b :: r)).length + 1 = _
    rw [gaps_len (b :: r)]
    simp
theorem tail_cut : ∀ (es : List Int), cutV (es.map V.int) (some 1) none = es.tail.map V.int
  | [] => rfl
  | [_] => rfl
  | a :: b :: r => by
    have h := cut_ints (a :: b :: r) (some 1) none
    rw [h]
    have e1 : HT.sIx (a :: b :: r).length 0 (some 1) = 1 := by
      have h := HT.sIx_nat (a :: b :: r).length 0 1
      have e : min 1 (a :: b :: r).length = 1 := by rw [List.length_cons, List.length_cons]; omega
      rw [e] at h
      exact h
    have e2 : HT.sIx (a :: b :: r).length (a :: b :: r).length none = (a :: b :: r).length := rfl
    rw [e1, e2, List.take_of_length_le (by simp)]
    rfl
theorem walkU {K : PySem.W.Frag} {a b : Addr} {xs ys : List V} (hl : ys.length ≤ xs.length) : Walk (Itz K a b) ys.length (fun H => SqL K H a xs ∧ SqL K H b ys) (fun i H v H' => ∃ T x y, (v = .ref T ∧ H T = none ∧ H' = upd H T (.tup [x, y])) ∧ xs[i]? = some x ∧ ys[i]? = some y) := by
  refine ⟨fun i H hi q => ?_, fun H q => ⟨xs, ys, q.1, q.2, .inr (Nat.le_refl _)⟩, fun i H v H' hi q y => ?_⟩
  · have h2 : i < xs.length := by omega
    exact ⟨xs, ys, xs[i], ys[i], q.1, q.2, by simp [h2], by simp [hi]⟩
  · obtain ⟨T, x, z, h1, h2, h3, h4, h5⟩ := y
    exact ⟨T, x, z, ⟨h1, h2, h3⟩, h4 _ q.1, h5 _ q.2⟩

def spCbt (HC : Addr) : Sp := fun vs H Q _ => ∃ (l : Addr) (es : List Int), vs = [.ref l] ∧ H l = some (.lst (es.map V.int)) ∧ SzB (gaps es) ∧ es.length ≤ 5001 ∧ ∀ c H', Same H H' → H c = none → ChA HC H' c (gaps es) → Q (.ref c) H'
/-- a paper of one field -/
def spPap (C : Addr) (n : Str) : Sp := fun vs H Q _ => ∃ (x dx : Addr) (v : V), vs = [.ref x, v] ∧ H x = some (.ins C dx []) ∧ ∀ H', H' = upd H x (.ins C dx [(n, v)]) → Q .non H'
structure PapM (nm fn : Str) (P : Program) (w : World) (K : PySem.W.Frag) (mg : Str → Option Value) (base : Heap) (C f : Addr) (fd : FuncData) : Prop where
  M : Mk K C f
  F : FnOk P w K mg base (L2.CX P w) 1 f fd ["self", fn] (spPap C fn)
  hm : mg nm = some (.ref C)
  b : Binds K fd ["self", fn] []
  cl : Cls K C
  n : NoAttr K C fn
theorem pap_made {C x dx : Addr} {H2 H' : Hp} {fn : Str} {v : V} (hx : H2 x = none) (hdx : H2 dx = none) (e : H' = upd (upd (upd H2 dx (.own x)) x (.ins C dx [])) x (.ins C dx [(fn, v)])) : Same H2 H' ∧ H' x = some (.ins C dx [(fn, v)]) := by
  subst e
  refine ⟨fun b o h => ?_, upd_same⟩
  rw [upd_ne (ne_of_none h hx), upd_ne (ne_of_none h hx), upd_ne (ne_of_none h hdx)]
  exact h
/-- what is told of the fewest chunks -/
def FewAt (HC FC NC : Addr) (H : Hp) (x : Addr) (R : List Int) : Prop :=
  (R.getLast? = some 0 ∧ ∃ dx c, H x = some (.ins FC dx [("chunks", .ref c)]) ∧ ChA HC H c (gaps R)) ∨ (R.getLast? ≠ some 0 ∧ ∃ dx r, H x = some (.ins NC dx [("rests", .ref r)]) ∧ H r = some (.tup (R.map V.int)))
def spFew (CS CC RC HC FC NC DM : Addr) : Sp := fun vs H Q E => ∃ (s : Addr) (v : V) (ps : List (Str × Int)) (g : Gst) (t o u : Int), vs = [.int t, .ref s, v] ∧ 0 ≤ t ∧ t ≤ 10 ^ 30 ∧ StAt CS CC RC H s ps g ∧ g.Ok ∧ LimAt RC H v o u ∧ o.natAbs ≤ 10 ^ 200 ∧ 1 ≤ u ∧ u ≤ 10 ^ 200 ∧
  ((gRest ps g o u t 5000).getLast? ≠ some 0 → 5000 < (gRest ps g o u t 5000).length → Mf DM H E) ∧ ∀ x H', Same H H' → H x = none → FewAt HC FC NC H' x (gRest ps g o u t 5000) → Q (.ref x) H'
section
variable {P : Program} {w : World} {K : PySem.W.Frag} {mg : Str → Option Value} {base : Heap} {CS CC RC HC DL DM DT DG DS DC FC NC fI : Addr} {mc : Value}
theorem scCka : FnScope ["total", "setting", "limit"] ["total", "setting", "limit"] (C8.fnScope sCka) := C8.fnScope_by (by decide +kernel)
theorem fn_cka {f fKt fKs fKl : Addr} {fd fdKt fdKs fdKl : FuncData} (F : C8.Def K mg "check_asked" sCka f fd)
    (DKt : C8.Def K mg "check_total" sCtt fKt fdKt) (bKt : Binds K fdKt ["total"] []) (FKt : FnOk P w K mg base (L2.CX P w) 3 fKt fdKt ["total"] (spCtt K DT))
    (DKs : C8.Def K mg "check_setting" sCks fKs fdKs) (bKs : Binds K fdKs ["setting"] []) (FKs : FnOk P w K mg base (L2.CX P w) 3 fKs fdKs ["setting"] (spCkc CS))
    (DKl : C8.Def K mg "check_limit" sCli fKl fdKl) (bKl : Binds K fdKl ["limit"] []) (FKl : FnOk P w K mg base (L2.CX P w) 4 fKl fdKl ["limit"] (spCli K RC DL)) : FnOk P w K mg base (L2.CX P w) 5 f fd ["total", "setting", "limit"] (spCka CS CC RC) := by
  obtain ⟨oc, od, dV, kV, doc, pm, an, cdv, ct, osl, rfl, lk, hcd⟩ := F.fn.ex
  refine fn_of lk hcd scCka (fun vs H Q E h => ?_) fun A outer s H vs Q E hr h => ?_
  · obtain ⟨s, v, ps, g, t, o, u, rfl, _⟩ := h
    rfl
  · obtain ⟨s0, v, ps, g, t, o, u, rfl, t0, t1, st, lm, k⟩ := h
    refine ⟨_, (pss_cons (ps_expr (pe_call FKt (hr.mono (by decide)) (by rfl) DKt.mgf DKt.kp bKt .nil (passes_call (takes_of rfl rfl rfl rfl) (fun _ _ _ _ z => z)) (pa_cons (pv 0) pa_nil)))
  (pss_cons (ps_expr (pe_call FKs (hr.mono (by decide)) (by rfl) DKs.mgf DKs.kp bKs .nil (passes_call (takes_of rfl rfl rfl rfl) (fun _ _ _ _ z => z)) (pa_cons (pv 1) pa_nil)))
  (pss_one (ps_expr (pe_call FKl (hr.mono (by decide)) (by rfl) DKl.mgf DKl.kp bKl .nil (passes_call (takes_of rfl rfl rfl rfl) (fun _ _ _ _ z => z)) (pa_cons (pv 2) pa_nil)))))), ?_⟩
    refine ⟨_, rfl, .int t, rfl, .int t, fun _ => ?_, fun z => ?_⟩
    · obtain ⟨dx, c, l, hs, _⟩ := id st
      exact ⟨_, rfl, s0, dx, _, rfl, hs, _, rfl, v, rfl, .inl ⟨o, u, lm, k⟩⟩
    · unfold inB at z
      simp only [Bool.and_eq_false_iff, decide_eq_false_iff_not] at z
      omega
theorem scGrd : FnScope ["total", "setting", "limit", "most", "bounds", "rests", "size"] ["total", "setting", "limit", "most"] (C8.fnScope sGrd) := C8.fnScope_by (by decide +kernel)
theorem fn_grd {f fBo fGl : Addr} {fd fdBo fdGl : FuncData} (F : C8.Def K mg "greedy_rests" sGrd f fd) (T : TxtC mg)
    (DBo : C8.Def K mg "bounds_of" sBof fBo fdBo) (bBo : Binds K fdBo ["setting", "limit"] []) (FBo : FnOk P w K mg base (L2.CX P w) 6 fBo fdBo ["setting", "limit"] (spBof CS CC RC))
    (DGl : C8.Def K mg "greatest_let" sGlt fGl fdGl) (bGl : Binds K fdGl ["bounds", "rest", "place"] []) (FGl : FnOk P w K mg base (L2.CX P w) 1 fGl fdGl ["bounds", "rest", "place"] spGlt) : FnOk P w K mg base (L2.CX P w) 7 f fd ["total", "setting", "limit", "most"] (spGrd CS CC RC) := by
  obtain ⟨oc, od, dV, kV, doc, pm, an, cdv, ct, osl, rfl, lk, hcd⟩ := F.fn.ex
  refine fn_of lk hcd scGrd (fun vs H Q E h => ?_) fun A outer s H vs Q E hr h => ?_
  · obtain ⟨s, v, ps, g, t, o, u, m, rfl, _⟩ := h
    rfl
  · obtain ⟨s0, v, ps, g, t, o, u, m, rfl, t0, t1, m5, st, gok, lm, bo, u1, u2, k⟩ := h
    refine ⟨_, (pss_cons (ps_set (i := 4) scGrd.nd rfl (Or.inl rfl) (pe_call FBo (hr.mono (by decide)) (by rfl) DBo.mgf DBo.kp bBo .nil (passes_call (takes_of rfl rfl rfl rfl) (fun _ _ _ _ z => z)) (pa_cons (pv 1) (pa_cons (pv 2) pa_nil))))
  (pss_cons (ps_set (i := 5) scGrd.nd rfl (Or.inl rfl) (pe_lst (pa_cons (pv 0) pa_nil)))
  (pss_cons (ps_set (i := 6) scGrd.nd rfl (Or.inl rfl) pe_non)
  (pss_cons (ps_while (passes_of rfl) (PW.pt (pw_and (pt_cmpR op_gt (pe_ix ix_list (pv 5) (pe_un un_neg pe_int) (fun _ _ => rfl)) pe_int (nomark _)) (pw_and (pt_cmpR op_ne (pv 6) pe_int (nomark _)) (pw_and1 (pt_cmpR op_le (pe_callB call_len_seq (by rfl) T.n_len (by decide +kernel) (pa_cons (pv 5) pa_nil)) (pv 3) (nomark _)))))) (pss_cons (ps_set (i := 6) scGrd.nd rfl (Or.inl rfl) (pe_call FGl (hr.mono (by decide)) (by rfl) DGl.mgf DGl.kp bGl .nil (passes_call (takes_of rfl rfl rfl rfl) (fun _ _ _ _ z => z)) (pa_cons (pv 4) (pa_cons (pe_ix ix_list (pv 5) (pe_un un_neg pe_int) (fun _ _ => rfl)) (pa_cons (pe_op op_sub (pe_callB call_len_seq (by rfl) T.n_len (by decide +kernel) (pa_cons (pv 5) pa_nil)) pe_int) pa_nil)))))
  (pss_one (ps_if (pt_cmpR op_gt (pv 6) pe_int (nomark _)) (pss_one (ps_expr (pe_bm PySem.F.plainAttrs_list PySem.F.slot_list_append PySem.F.type_list_append mt_append (pv 5) (pa_cons (pe_op op_sub (pe_ix ix_list (pv 5) (pe_un un_neg pe_int) (fun _ _ => rfl)) (pv 6)) pa_nil)))) pss_nil))))
  (pss_one (ps_ret (pv 5))))))), ?_⟩
    refine ⟨_, rfl, _, rfl, s0, v, ps, g, o, u, rfl, st, gok, lm, bo, by omega, fun B H1 s1 fB bd => ?_⟩
    dsimp only [gName, tSeq, List.set]
    refine ⟨_, rfl, (by show 1 ≤ sizeLine; decide), fun L fL => ?_⟩
    dsimp only [gName, tSeq, List.set]
    have sL := same_new (o := HO.lst [V.int t]) fL
    have hL : upd H1 L (.lst [V.int t]) L = some (.lst (([t] : List Int).map V.int)) := upd_same
    have nB : B ≠ L := fun e => by obtain ⟨t1, t2, h, _⟩ := bd; rw [e, fL] at h; cases h
    have kp0 : ∀ b o, H1 b = some o → upd H1 L (.lst [V.int t]) b = some o := fun b o e => sL _ _ e
    have bd2 := bd.on sL
    have nmm := st.num
    generalize upd H1 L (.lst [V.int t]) = H2 at hL kp0 bd2
    show tWhile _ _ _ _ _
    refine ⟨fun z σ' H' => ∃ (pre : List Int) (r : Int) (y : V), σ' = [some (.int t), some (.ref s0), some v, some (.int m), some (.ref B), some (.ref L), some y] ∧ (∀ b o, H1 b = some o → H' b = some o) ∧ BdAt H' B ps g o u ∧ H' L = some (.lst ((pre ++ [r]).map V.int)) ∧ pre.length ≤ m ∧ 0 ≤ r ∧ r ≤ 10 ^ 30 ∧
      gRest ps g o u t m = pre ++ (r :: gRs (fun r i => letN ps g o u r i) (m - pre.length) pre.length r) ∧ ((y = .int 0 ∧ gRs (fun r i => letN ps g o u r i) (m - pre.length) pre.length r = [] ∧ z = 2 * (m - pre.length)) ∨ ((y = .non ∨ ∃ q : Int, y = .int q ∧ q ≠ 0) ∧ z = 2 * (m - pre.length) + 1)),
      ⟨_, [], t, .non, rfl, kp0, bd2, hL, Nat.zero_le _, t0, t1, rfl, .inr ⟨.inl rfl, rfl⟩⟩, ?_⟩
    rintro z σ' H' ⟨pre, r, y, rfl, kp, bd', hL', lp, r0, r1, eq, cs⟩
    have ends : gRs (fun r i => letN ps g o u r i) (m - pre.length) pre.length r = [] → gRest ps g o u t m = pre ++ [r] := fun e => by rw [eq, e]
    have fin : gRs (fun r i => letN ps g o u r i) (m - pre.length) pre.length r = [] → Q (.ref L) H' := fun e => k L H' (fun b o h => kp b o (s1 _ _ h)) (s1.free fL) (by rw [ends e]; exact hL')
    refine ⟨_, rfl, _, rfl, L, _, _, _, rfl, rfl, SqL.of hL', (by rw [List.map_append]; exact atI_last _ _), _, _, rfl, rfl, _, rfl, ?_⟩
    by_cases c1 : 0 < r
    case neg =>
      refine iteF' (decide_eq_false c1) (iteF ⟨_, rfl, fin ?_⟩)
      cases m - pre.length with
      | zero => rfl
      | succ n => unfold gRs; rw [if_neg (fun q => c1 q.1)]
    refine iteT' (decide_eq_true c1) ?_
    rcases cs with ⟨rfl, ge, rfl⟩ | ⟨hy, rfl⟩
    · exact ⟨_, rfl, rfl, _, rfl, iteF' (by simp) (iteF ⟨_, rfl, fin ge⟩)⟩
    have sc : scal y (.int 0) = true ∧ (!decide (y = .int 0)) = true := by
      rcases hy with rfl | ⟨q, rfl, hq⟩
      · exact ⟨rfl, rfl⟩
      · exact ⟨rfl, by rw [dec_intp, decide_eq_false hq]; rfl⟩
    have ln : ((pre ++ [r]).map V.int).length = pre.length + 1 := by simp
    refine ⟨_, rfl, sc.1, _, rfl, iteT' sc.2 ⟨_, rfl, L, _, rfl, .inl (SqL.of hL'), _, rfl, _, _, rfl, rfl, _, rfl, ?_⟩⟩
    rw [ln]
    by_cases c3 : pre.length < m
    case neg =>
      refine iteF' (decide_eq_false (by omega)) ⟨_, rfl, fin ?_⟩
      rw [show m - pre.length = 0 by omega]
      rfl
    refine iteT' (decide_eq_true (by omega)) ⟨_, fun σ' H2 h => h, ?_⟩
    obtain ⟨b0, b1⟩ := let_range (ps := ps) (g := g) (o := o) (u := u) (rest := r) (place := pre.length) r0
    refine ⟨_, rfl, _, rfl, _, rfl, L, _, _, _, rfl, rfl, SqL.of hL', (by rw [List.map_append]; exact atI_last _ _), _, rfl, L, _, rfl, .inl (SqL.of hL'), _, _, rfl, rfl, B, r, (pre.length : Int), ps, g, o, u, (by rw [ln]; simp), bd', nmm, gok, bo, u1, u2, c1, by omega, by omega, by omega, fun H3 s3 => ?_⟩
    dsimp only [gName, tSeq, List.set]
    have kp3 : ∀ b o, H1 b = some o → H3 b = some o := fun b o h => s3 _ _ (kp b o h)
    have hL3 := s3 _ _ hL'
    have bd3 := bd'.on s3
    obtain ⟨q, eq2⟩ : ∃ q, q = letN ps g o u r pre.length := ⟨_, rfl⟩
    have mn : m - pre.length = (m - (pre.length + 1)) + 1 := by omega
    rw [← eq2] at b0 b1 ⊢
    refine ⟨_, rfl, _, _, rfl, rfl, _, rfl, ?_⟩
    by_cases c4 : 0 < q
    · refine iteT' (decide_eq_true c4) ?_
      refine ⟨_, rfl, .inl ⟨rfl, _, SqL.of hL3⟩, _, rfl, _, rfl, L, _, _, _, rfl, rfl, SqL.of hL3, (by rw [List.map_append]; exact atI_last _ _), _, rfl, _, _, rfl, rfl, L, _, _, rfl, rfl, hL3, by rw [ln]; exact Nat.lt_of_lt_of_le (show pre.length + 1 < 5001 by omega) (by decide), ?_⟩
      have kp4 : ∀ b o, H1 b = some o → upd H3 L (.lst ((pre ++ [r]).map V.int ++ [.int (r - q)])) b = some o := fun b o h => by
        rw [upd_ne (fun e => by rw [e, fL] at h; cases h)]
        exact kp3 b o h
      refine ⟨2 * (m - (pre.length + 1)) + 1, by omega, pre ++ [r], r - q, .int q, rfl, kp4, bd.on kp4, by rw [upd_same, List.map_append (l₁ := pre ++ [r])]; rfl, by simp; omega, by omega, by omega, ?_, .inr ⟨.inr ⟨q, rfl, by omega⟩, by simp⟩⟩
      rw [eq, mn, gRs_pos ⟨c1, by rw [← eq2]; exact c4⟩, ← eq2]
      simp
    · have w0 : q = 0 := by omega
      refine iteF' (decide_eq_false c4) ⟨2 * (m - pre.length), by omega, pre, r, .int q, rfl, kp3, bd3, hL3, lp, r0, r1, eq, .inl ⟨by rw [w0], ?_, rfl⟩⟩
      rw [mn]
      unfold gRs
      rw [if_neg (fun z => c4 (by rw [eq2]; exact z.2))]
theorem scCbt : FnScope ["rests", "rest", "left"] ["rests"] (C8.fnScope sCbt) := C8.fnScope_by (by decide +kernel)
theorem fn_cbt {f pO gO : Addr} {fd fdO : FuncData} (F : C8.Def K mg "chunks_between" sCbt f fd) (T : TxtC mg) (hz : mg "zip" = none) (Z : ChC P w K mg base HC DM mc) (OK : OfK P w K mg base HC DM DS DC pO gO fdO) : FnOk P w K mg base (L2.CX P w) 8 f fd ["rests"] (spCbt HC) := by
  obtain ⟨oc, od, dV, kV, doc, pm, an, cdv, ct, osl, rfl, lk, hcd⟩ := F.fn.ex
  refine fn_of lk hcd scCbt (fun vs H Q E h => ?_) fun A outer s H vs Q E hr h => ?_
  · obtain ⟨l, es, rfl, _⟩ := h
    rfl
  · obtain ⟨l, es, rfl, hl, sb, le, k⟩ := h
    refine ⟨_, (pss_one (ps_ret (pe_static (E := C8.E0) (pe_glob (v := .ref HC) (by rfl) Z.hm rfl) OK.S OK.F (hr.mono (by decide)) OK.b .nil (passes_call takes0 (fun _ _ _ _ z => z)) (pa_cons (pe_lc (own := [("rest", 1), ("left", 2)]) (g := gTup K 2 (gCons (gName 1) (gCons (gName 2) gNil))) (tt := tYes) rfl scCbt.nd (pi_zip (by rfl) hz (pa_cons (pv 0) (pa_cons (pe_slice sl_list (pv 0) (po_some pe_int) po_none) pa_nil))) (blkOk_by (own := [("rest", 1), ("left", 2)]) (N := ["rests", "rest", "left"]) (sc := (C8.fnScope sCbt)) (by decide +kernel)) (fun _ _ _ _ _ => pg_tup rfl (pgs_cons (pg_name (i := 1) scCbt.nd rfl (Or.inl rfl)) (pgs_cons (pg_name (i := 2) scCbt.nd rfl (Or.inl rfl)) pgs_nil))) (fun _ _ _ _ _ => pts_nil) (fun _ _ _ _ _ => (pe_op op_sub (pv 1) (pv 2)))) pa_nil)))), ?_⟩
    have lm : (es.map V.int).length = es.length := List.length_map _
    refine ⟨rfl, _, rfl, _, rfl, _, rfl, l, _, rfl, SqL.of hl, fun q hq => ?_⟩
    rw [tail_cut]
    have s1 := same_new (o := HO.lst (es.tail.map V.int)) hq
    have h1 : upd H q (.lst (es.tail.map V.int)) q = some (.lst (es.tail.map V.int)) := upd_same
    have hl1 := s1 _ _ hl
    generalize upd H q (.lst (es.tail.map V.int)) = H1 at s1 h1 hl1
    refine ⟨l, q, _, _, rfl, SqL.of hl1, SqL.of h1, fun D hD => lc_it (walkU (xs := es.map V.int) (ys := es.tail.map V.int) (by simp)) (fun i H' => Same H1 H' ∧ ∃ rs : List Int, H' D = some (.lst (rs.map V.int)) ∧ rs = (gaps es).take i) ⟨same_new hD, [], upd_same, rfl⟩ (fun i H' _ h => ⟨SqL.of (h.1 _ _ hl1), SqL.of (h.1 _ _ h1)⟩) ?_ ?_⟩
    · rintro i y H' H'' hi ⟨s', rs, hd, rl⟩ ⟨T', y1, y2, ⟨rfl, fT, rfl⟩, g1, g2⟩
      obtain ⟨a1, ha1, rfl⟩ : ∃ a1, es[i]? = some a1 ∧ y1 = V.int a1 := by
        rw [List.getElem?_map] at g1
        obtain ⟨a, h1, h2⟩ := Option.map_eq_some_iff.mp g1
        exact ⟨a, h1, h2.symm⟩
      obtain ⟨a2, ha2, rfl⟩ : ∃ a2, es[i + 1]? = some a2 ∧ y2 = V.int a2 := by
        rw [List.getElem?_map] at g2
        obtain ⟨a, h1, h2⟩ := Option.map_eq_some_iff.mp g2
        exact ⟨a, by rw [← h1, List.getElem?_tail], h2.symm⟩
      have gd := gaps_get es i a1 a2 ha1 ha2
      have sT := same_new (o := HO.tup [V.int a1, V.int a2]) fT
      refine ⟨T', _, rfl, SqT.of upd_same, rfl, _, _, rfl, _, _, rfl, rfl, rfl, ?_⟩
      dsimp only [tYes]
      rw [if_pos rfl]
      refine ⟨_, rfl, _, rfl, _, _, rfl, rfl, _, sT _ _ hd, ?_, fun b o e => ?_, rs ++ [a1 - a2], ?_, ?_⟩
      · rw [List.length_map, rl, List.length_take]
        have := (List.getElem?_eq_some_iff.mp ha1).1
        exact Nat.lt_of_le_of_lt (show min i _ ≤ 5001 by omega) (by decide)
      · rw [upd_ne (ne_of_none e hD)]
        exact sT _ _ (s' _ _ e)
      · rw [upd_same, List.map_append]; rfl
      · rw [rl, List.take_add_one, gd]; rfl
    · rintro H7 ⟨s7, rs, hd, rl⟩
      have e : rs = gaps es := by rw [rl]; exact List.take_of_length_le (by rw [gaps_len]; simp)
      subst e
      have gl : (gaps es).length ≤ 5000 := by rw [gaps_len]; omega
      refine ⟨.ref D, rfl, .inr ⟨D, _, rfl, .inl hd, any_ints K _ _, by rw [List.length_map]; omega, MkO.good sb (fun _ c H' s8 fc hc => k c H' (s1.trans (s7.trans s8)) ((s1.trans s7).free fc) hc) (fun h => absurd h (by omega))⟩⟩
theorem scFwI : FnScope ["self", "chunks"] ["self", "chunks"] (C8.fnScope sFwI) := C8.fnScope_by (by decide +kernel)
theorem fn_fwI {f : Addr} {fd : FuncData} (F : C8.Fun K "__init__" "Fewest.__init__" sFwI f fd) (cl : Cls K FC) (na : NoAttr K FC "chunks") : FnOk P w K mg base (L2.CX P w) 1 f fd ["self", "chunks"] (spPap FC "chunks") := by
  obtain ⟨oc, od, dV, kV, doc, pm, an, cdv, ct, osl, rfl, lk, hcd⟩ := F.ex
  refine fn_of lk hcd scFwI (fun vs H Q E h => ?_) fun A outer s H vs Q E hr h => ?_
  · obtain ⟨x, dx, v, rfl, _⟩ := h
    rfl
  · obtain ⟨x, dx, v, rfl, hx, k⟩ := h
    refine ⟨_, (pss_one (ps_fld (pv 0) (pv 1) rfl)), ?_⟩
    exact ⟨_, rfl, _, rfl, x, FC, dx, [], rfl, hx, cl, na, (by show 0 < 1000; decide), k _ rfl⟩
theorem scNlI : FnScope ["self", "rests"] ["self", "rests"] (C8.fnScope sNlI) := C8.fnScope_by (by decide +kernel)
theorem fn_nlI {f : Addr} {fd : FuncData} (F : C8.Fun K "__init__" "NoList.__init__" sNlI f fd) (cl : Cls K NC) (na : NoAttr K NC "rests") : FnOk P w K mg base (L2.CX P w) 1 f fd ["self", "rests"] (spPap NC "rests") := by
  obtain ⟨oc, od, dV, kV, doc, pm, an, cdv, ct, osl, rfl, lk, hcd⟩ := F.ex
  refine fn_of lk hcd scNlI (fun vs H Q E h => ?_) fun A outer s H vs Q E hr h => ?_
  · obtain ⟨x, dx, v, rfl, _⟩ := h
    rfl
  · obtain ⟨x, dx, v, rfl, hx, k⟩ := h
    refine ⟨_, (pss_one (ps_fld (pv 0) (pv 1) rfl)), ?_⟩
    exact ⟨_, rfl, _, rfl, x, NC, dx, [], rfl, hx, cl, na, (by show 0 < 1000; decide), k _ rfl⟩
theorem scFew : FnScope ["total", "setting", "limit", "rests"] ["total", "setting", "limit"] (C8.fnScope sFew) := C8.fnScope_by (by decide +kernel)
theorem fn_few {f fKa fGr fCb fM fF fN : Addr} {fd fdKa fdGr fdCb fdM fdF fdN : FuncData} (F : C8.Def K mg "fewest" sFew f fd) (T : TxtC mg) (Z : ChC P w K mg base HC DM mc)
    (DKa : C8.Def K mg "check_asked" sCka fKa fdKa) (bKa : Binds K fdKa ["total", "setting", "limit"] []) (FKa : FnOk P w K mg base (L2.CX P w) 5 fKa fdKa ["total", "setting", "limit"] (spCka CS CC RC))
    (DGr : C8.Def K mg "greedy_rests" sGrd fGr fdGr) (bGr : Binds K fdGr ["total", "setting", "limit", "most"] []) (FGr : FnOk P w K mg base (L2.CX P w) 7 fGr fdGr ["total", "setting", "limit", "most"] (spGrd CS CC RC))
    (DCb : C8.Def K mg "chunks_between" sCbt fCb fdCb) (bCb : Binds K fdCb ["rests"] []) (FCb : FnOk P w K mg base (L2.CX P w) 8 fCb fdCb ["rests"] (spCbt HC))
    (DM2 : C8.Def K mg "check_many" sCM fM fdM) (bM : Binds K fdM ["many"] []) (FM : FnOk P w K mg base (L2.CX P w) 3 fM fdM ["many"] (spCM DM))
    (FwM : PapM "Fewest" "chunks" P w K mg base FC fF fdF) (NlM : PapM "NoList" "rests" P w K mg base NC fN fdN) : FnOk P w K mg base (L2.CX P w) 9 f fd ["total", "setting", "limit"] (spFew CS CC RC HC FC NC DM) := by
  obtain ⟨oc, od, dV, kV, doc, pm, an, cdv, ct, osl, rfl, lk, hcd⟩ := F.fn.ex
  obtain ⟨um, hu⟩ := Z.m
  refine fn_of lk hcd scFew (fun vs H Q E h => ?_) fun A outer s H vs Q E hr h => ?_
  · obtain ⟨s, v, ps, g, t, o, u, rfl, _⟩ := h
    rfl
  · obtain ⟨s0, v, ps, g, t, o, u, rfl, t0, t1, st, gok, lm, bo, u1, u2, k1, k2⟩ := h
    refine ⟨_, (pss_cons (ps_expr (pe_call FKa (hr.mono (by decide)) (by rfl) DKa.mgf DKa.kp bKa .nil (passes_call (takes_of rfl rfl rfl rfl) (fun _ _ _ _ z => z)) (pa_cons (pv 0) (pa_cons (pv 1) (pa_cons (pv 2) pa_nil)))))
  (pss_cons (ps_set (i := 3) scFew.nd rfl (Or.inl rfl) (pe_call FGr (hr.mono (by decide)) (by rfl) DGr.mgf DGr.kp bGr .nil (passes_call (takes_of rfl rfl rfl rfl) (fun _ _ _ _ z => z)) (pa_cons (pv 0) (pa_cons (pv 1) (pa_cons (pv 2) (pa_cons (pe_cval (pe_glob (v := .ref HC) (by rfl) Z.hm rfl)) pa_nil))))))
  (pss_cons (ps_if (pt_cmpR op_eq (pe_ix ix_list (pv 3) (pe_un un_neg pe_int) (fun _ _ => rfl)) pe_int (nomark _)) (pss_one (ps_ret (pe_make (E := C8.E0) FwM.M FwM.F (hr.mono (by decide)) (by rfl) FwM.hm FwM.b .nil (passes_call takes0 (fun _ _ _ _ z => z)) (pa_cons (pe_call FCb (hr.mono (by decide)) (by rfl) DCb.mgf DCb.kp bCb .nil (passes_call (takes_of rfl rfl rfl rfl) (fun _ _ _ _ z => z)) (pa_cons (pv 3) pa_nil)) pa_nil)))) pss_nil)
  (pss_cons (ps_expr (pe_call FM (hr.mono (by decide)) (by rfl) DM2.mgf DM2.kp bM .nil (passes_call (takes_of rfl rfl rfl rfl) (fun _ _ _ _ z => z)) (pa_cons (pe_callB call_len_seq (by rfl) T.n_len (by decide +kernel) (pa_cons (pv 3) pa_nil)) pa_nil)))
  (pss_one (ps_ret (pe_make (E := C8.E0) NlM.M NlM.F (hr.mono (by decide)) (by rfl) NlM.hm NlM.b .nil (passes_call takes0 (fun _ _ _ _ z => z)) (pa_cons (pe_callTy call_tuple_of (by rfl) T.n_tuple (by decide +kernel) (pa_cons (pv 3) pa_nil)) pa_nil)))))))), ?_⟩
    refine ⟨_, rfl, _, rfl, _, rfl, s0, v, ps, g, t, o, u, rfl, t0, t1, st, lm, ?_⟩
    dsimp only [tNext, tSeq]
    refine ⟨_, rfl, _, rfl, _, rfl, HC, mc, _, um, rfl, Z.r, hu, s0, v, ps, g, t, o, u, 5000, rfl, t0, t1, Nat.le_refl _, st, gok, lm, bo, u1, u2, fun L H1 s1 fL hL => ?_⟩
    dsimp only [gName, tSeq, List.set]
    obtain ⟨R, eR⟩ : ∃ R, R = gRest ps g o u t 5000 := ⟨_, rfl⟩
    have fok : FOk (fun r i => letN ps g o u r i) := let_fok
    have nn : ∀ x ∈ R, 0 ≤ x ∧ x ≤ 10 ^ 30 := fun x hx => by
      rw [eR] at hx
      rcases List.mem_cons.mp hx with rfl | hx
      · exact ⟨t0, t1⟩
      · have := gRs_nn fok 5000 0 t t0 x hx
        omega
    have lR : R.length ≤ 5001 := by
      rw [eR]
      have := gRs_len (fun r i => letN ps g o u r i) 5000 0 t
      show (gRs (fun r i => letN ps g o u r i) 5000 0 t).length + 1 ≤ 5001
      omega
    obtain ⟨pre, r, ep⟩ : ∃ pre r, R = pre ++ [r] := ⟨R.dropLast, R.getLast (by rw [eR]; simp [gRest]), (List.dropLast_concat_getLast _).symm⟩
    have gl : R.getLast? = some r := by rw [ep]; simp
    rw [← eR] at hL k1 k2
    refine ⟨_, rfl, _, rfl, L, _, _, _, rfl, rfl, SqL.of hL, (by rw [ep, List.map_append]; exact atI_last _ _), rfl, _, rfl, ?_⟩
    rw [dec_intp]
    by_cases c : r = 0
    · subst c
      refine iteT' (decide_eq_true rfl) ?_
      refine ⟨_, rfl, L, R, rfl, hL, ?_, lR, fun c H2 s2 fc hc => fun x dx hx hdx ne => ?_⟩
      · intro z hz
        obtain ⟨i, a, b, h1, h2, rfl⟩ := gaps_mem _ _ hz
        obtain ⟨q1, q2, q3⟩ := gRs_step (f := fun r i => letN ps g o u r i) 5000 0 t i a b (by rw [eR] at h1; exact h1) (by rw [eR] at h2; exact h2)
        have := nn a (List.mem_of_getElem? h1)
        have := nn b (List.mem_of_getElem? h2)
        omega
      · refine ⟨x, dx, .ref c, rfl, upd_same, fun H' e => ?_⟩
        obtain ⟨s3, h3⟩ := pap_made hx hdx e
        exact ⟨rfl, k2 x H' (s1.trans (s2.trans s3)) ((s1.trans s2).free hx) (.inl ⟨gl, dx, c, h3, hc.same s3⟩)⟩
    · refine iteF' (decide_eq_false c) ?_
      dsimp only [tNext, tSeq]
      have ln : (R.map V.int).length = R.length := List.length_map _
      refine ⟨_, rfl, L, _, rfl, .inl (SqL.of hL), _, rfl, fun _ => ?_, fun h => (k1 (by rw [gl]; simpa using c) (by rw [ln] at h; omega)).of s1⟩
      dsimp only [tNext, tSeq]
      refine ⟨_, rfl, L, _, rfl, .inl ⟨SqL.of hL, fun r2 fr => fun x dx hx hdx ne => ⟨x, dx, .ref r2, rfl, upd_same, fun H' e => ?_⟩⟩⟩
      have s2 := same_new (o := HO.tup (R.map V.int)) fr
      have h2 : upd H1 r2 (.tup (R.map V.int)) r2 = some (.tup (R.map V.int)) := upd_same
      obtain ⟨s3, h3⟩ := pap_made hx hdx e
      exact ⟨rfl, k2 x H' (s1.trans (s2.trans s3)) ((s1.trans s2).free hx) (.inr ⟨by rw [gl]; simpa using c, dx, r2, h3, s3 _ _ h2⟩)⟩
end
end Lw
namespace Lw
open PySem PySem.Spec PyProof.Rows L2
open SX PySem.NumText TL LamX ClX StX
set_option pp.maxSteps 900
abbrev sBhd : Stmt := top 95
theorem nodup_le {α : Type} [DecidableEq α] : ∀ {l m : List α}, l.Nodup → (∀ x ∈ l, x ∈ m) → l.length ≤ m.length
  | [], _, _, _ => Nat.zero_le _
  | y :: l, m, nd, h => by
    have hy := h y List.mem_cons_self
    have ih := nodup_le (l := l) (m := m.erase y) (List.nodup_cons.mp nd).2 fun x hx => (List.mem_erase_of_ne fun e => (List.nodup_cons.mp nd).1 (by rw [← e]; exact hx)).mpr (h x (List.mem_cons_of_mem _ hx))
    rw [List.length_erase_of_mem hy] at ih
    have pos := List.length_pos_of_mem hy
    rw [List.length_cons]
    omega
theorem few_ints {l : List Int} {n : Nat} (nd : l.Nodup) (h : ∀ x ∈ l, 0 ≤ x ∧ x < n) : l.length ≤ n := by
  have := nodup_le (l := l) (m := (List.range n).map fun (i : Nat) => (i : Int)) nd fun x hx => by
    have := h x hx
    exact List.mem_map.mpr ⟨x.toNat, List.mem_range.mpr (by omega), by omega⟩
  rw [List.length_map, List.length_range] at this
  exact this
/-- a dict of numbers, each told once -/
def dkN (ks : List Int) : List (L2.Key × V) := ks.map fun k => ((Sum.inl k : L2.Key), V.bl true)
theorem putN (ks : List Int) (k : Int) : putK (dkN ks) (Sum.inl k : L2.Key) (.bl true) = dkN (if k ∈ ks then ks else ks ++ [k]) := by
  by_cases h : k ∈ ks
  · rw [if_pos h]
    have hany : ((dkN ks).any fun kv => decide (kv.1 = (Sum.inl k : L2.Key))) = true := by
      rw [List.any_eq_true]
      exact ⟨(Sum.inl k, V.bl true), List.mem_map.mpr ⟨k, h, rfl⟩, by simp⟩
    unfold putK
    rw [if_pos hany]
    unfold dkN
    rw [List.map_map]
    refine List.map_congr_left fun q _ => ?_
    show (if (Sum.inl q : L2.Key) = Sum.inl k then ((Sum.inl q : L2.Key), V.bl true) else (Sum.inl q, V.bl true)) = (Sum.inl q, V.bl true)
    split <;> rfl
  · rw [if_neg h]
    have hany : ¬ ((dkN ks).any fun kv => decide (kv.1 = (Sum.inl k : L2.Key))) = true := by
      rw [List.any_eq_true]
      rintro ⟨kv, hkv, e⟩
      obtain ⟨q, hq, rfl⟩ := List.mem_map.mp hkv
      have e := of_decide_eq_true e
      exact h (Sum.inl.inj e ▸ hq)
    unfold putK
    rw [if_neg hany]
    unfold dkN
    rw [List.map_append]; rfl
/-- the numbers that a dict of numbers tells, the dict locked meanwhile -/
theorem nums_lock {i j : Nat} {tv : TE} {σ : L2.St} {H : Hp} {Q : VK} {d : Addr} {ks : List Int} (hi : σ[i]? = some (some (V.ref d))) (lj : j < σ.length) (hd : H d = some (.dK (dkN ks))) (lz : ks.length ≤ 5000)
    (hv : ∀ (q : Int) (H2 : Hp) (R : VK), q ∈ ks → R (.int q) H2 → tv ((wipe σ [j]).set j (some (V.int q))) H2 R)
    (q : ∀ D H', Same H H' → H D = none → H' D = some (.lst (ks.map V.int)) → Q (.ref D) H') : tLockE (tLc (iKeys (tVar i)) (gName j) tYes tv [j]) σ H Q := by
  refine ⟨d, _, hd, trivial, fun od => ⟨_, hi, d, od, rfl, .inl ⟨_, upd_same, fun D hD => ?_⟩⟩⟩
  have ne : D ≠ d := fun e => by rw [e, upd_same] at hD; cases hD
  have fD : H D = none := by rw [upd_ne ne] at hD; exact hD
  have ll : (dkN ks).length = ks.length := List.length_map _
  refine lc_it walk_keys (fun n H' => H' = upd (upd H d (.frz od (.dK (dkN ks)))) D (.lst ((ks.take n).map V.int))) rfl (fun n H' _ e => by rw [e, upd_ne ne.symm, upd_same]) ?_ ?_
  · rintro n x H' H'' hn e ⟨rfl, k, v, hk, rfl⟩
    obtain ⟨r, hr, e2⟩ : ∃ r, ks[n]? = some r ∧ k = Sum.inl r := by
      unfold dkN at hk
      rw [List.getElem?_map] at hk
      obtain ⟨r, hr, e2⟩ := Option.map_eq_some_iff.mp hk
      exact ⟨r, hr, (congrArg Prod.fst e2).symm⟩
    subst e2
    refine ⟨by simp [wipe, List.set_set], ?_⟩
    dsimp only [tYes]
    rw [if_pos rfl]
    refine hv r _ _ (List.mem_of_getElem? hr) ⟨_, by rw [e]; exact upd_same, ?_, ?_⟩
    · rw [List.length_map]
      exact Nat.lt_of_le_of_lt (Nat.le_trans (List.length_take_le' _ _) lz) (by decide)
    · rw [e, upd_upd, List.take_add_one, hr, List.map_append]; rfl
  · rintro H' e
    rw [ll, List.take_of_length_le (Nat.le_refl _)] at e
    refine ⟨by rw [e, upd_ne ne.symm, upd_same], q D _ (fun b o hb => ?_) fD ?_⟩
    · by_cases bd : b = d
      · rw [bd] at hb ⊢
        rw [upd_same, ← hd]
        exact hb
      · rw [upd_ne bd, e, upd_ne (ne_of_none hb fD), upd_ne bd]
        exact hb
    · rw [upd_ne ne, e, upd_same]
/-- what can be left, told by the law's own rows -/
def bhW (ks : List (Str × Int)) (g : Gst) (x y j : Int) (S : Int → Prop) (z : Int) : Prop := ∃ r s, S r ∧ 1 ≤ s ∧ s ≤ r ∧ wth ks g r j s * y ≤ x * unO ks ∧ z = r - s
def spBhd : Sp := fun vs H Q _ => ∃ (t d : Addr) (ks : List (Str × Int)) (g : Gst) (S : Addr) (j : Int) (l : Addr) (x y : Int) (ss : List Int), vs = [.ref t, .ref S, .int j, .ref l] ∧ PlA H t d ks g ∧ KsOk ks ∧ g.Ok ∧ 0 ≤ j ∧ j ≤ 5000 ∧ H S = some (.lst (ss.map V.int)) ∧ (∀ r ∈ ss, 0 ≤ r ∧ r ≤ 100) ∧ H l = some (.tup [.int x, .int y]) ∧ LmOk x y ∧
  ∀ L (rs : List Int) H', Same H H' → H L = none → H' L = some (.lst (rs.map V.int)) → rs.Pairwise (fun a b => a ≤ b) → (∀ z, z ∈ rs ↔ bhW ks g x y j (fun r => r ∈ ss) z) → Q (.ref L) H'
section
variable {P : Program} {w : World} {K : PySem.W.Frag} {mg : Str → Option Value} {base : Heap}
theorem scBhd : FnScope ["_law_plan", "_law_some", "_law_place", "_law_limit_here", "_law_found", "_law_rest", "_law_size"] ["_law_plan", "_law_some", "_law_place", "_law_limit_here"] (C8.fnScope sBhd) := C8.fnScope_by (by decide +kernel)
theorem cal_bhd {f : Addr} {fd : FuncData} (F : C8.Def K mg "_law_behind" sBhd f fd) (b : Binds K fd ["_law_plan", "_law_some", "_law_place", "_law_limit_here"] []) (T : TxtC mg) (DIl : C8.Cal P w K mg base 3 "_law_is_let" spIlt []) : C8.Cal P w K mg base 4 "_law_behind" spBhd [] := by
  refine C8.cal0 F b .nil scBhd (fun vs H Q E h => ?_) (fun cdv A outer st H vs Q E hr h => ?_)
  · obtain ⟨t, d, ks, g, S, j, l, x, y, ss, rfl, _⟩ := h
    rfl
  · obtain ⟨t, d, ks, g, S, j, l, x, y, ss, rfl, pa, ok, gok, j0, j1, hS, hss, hl, ⟨bx, y1, y2⟩, k⟩ := h
    refine ⟨_, (pss_cons (ps_set (i := 4) scBhd.nd rfl (Or.inl rfl) pe_dnewK)
  (pss_cons (ps_for PassesOwn.never rfl (pi_list (pv 1)) (pg_name (i := 5) scBhd.nd rfl (Or.inl rfl)) (pss_one (ps_for PassesOwn.never rfl (pi_range2 (by rfl) T.n_range (pa_cons pe_int (pa_cons (pe_op op_add (pv 5) pe_int) pa_nil))) (pg_name (i := 6) scBhd.nd rfl (Or.inl rfl)) (pss_one (ps_if (pt_val (C8.pe_c DIl hr (by decide) (by rfl) (pa_cons (pv 0) (pa_cons (pv 5) (pa_cons (pv 2) (pa_cons (pv 6) (pa_cons (pv 3) pa_nil))))))) (pss_one (ps_dput (hu_of hr) (pv 4) (pe_op op_sub (pv 5) (pv 6)) pe_bl (by rfl))) pss_nil)))))
  (pss_one (ps_ret (pe_callB cr_sortedI (by rfl) T.n_sorted (by decide +kernel) (pa_cons (pe_lock (pe_lc (own := [("_law_rest", 5)]) (g := gName 5) (tt := tYes) rfl scBhd.nd (pi_keys (pv 4)) (blkOk_by (own := [("_law_rest", 5)]) (N := ["_law_plan", "_law_some", "_law_place", "_law_limit_here", "_law_found", "_law_rest", "_law_size"]) (sc := (C8.fnScope sBhd)) (by decide +kernel)) (fun _ _ _ _ _ => (pg_name (i := 5) scBhd.nd rfl (Or.inl rfl))) (fun _ _ _ _ _ => pts_nil) (fun _ _ _ _ _ => (pe_callTy call_int1 (by rfl) T.n_int (by decide +kernel) (pa_cons (pv 5) pa_nil))))) pa_nil)))))), ?_⟩
    refine fun F0 hF => ?_
    have sF := same_new (o := HO.dK []) hF
    have hF1 : upd H F0 (.dK []) F0 = some (.dK (dkN [])) := upd_same
    have kp0 : ∀ b o, H b = some o → upd H F0 (.dK []) b = some o := fun b o e => sF _ _ e
    generalize upd H F0 (.dK []) = H1 at hF1 kp0
    clear sF
    dsimp only [gName, tSeq, List.set]
    show tFor _ _ _ _ _ _
    refine ⟨_, rfl, S, rfl, ⟨_, SqL.of (kp0 _ _ hS)⟩, for_list (xs := ss.map V.int) (fun i σ' H' => ∃ x5 x6, ∃ ns : List Int, σ' = [some (.ref t), some (.ref S), some (.int j), some (.ref l), some (.ref F0), x5, x6] ∧ (∀ b o, H b = some o → H' b = some o) ∧ H' F0 = some (.dK (dkN ns)) ∧ ns.Nodup ∧ (∀ z ∈ ns, 0 ≤ z ∧ z < (101 : Nat)) ∧ ∀ z, z ∈ ns ↔ bhW ks g x y j (fun r => r ∈ ss.take i) z)
      ⟨_, _, [], rfl, kp0, hF1, List.nodup_nil, (fun z hz => by cases hz), fun z => ⟨fun hz => (by cases hz), fun ⟨r, s, h, _⟩ => (by cases h)⟩⟩ (fun i σ' H' _ ⟨_, _, _, _, kp, _⟩ => SqL.of (kp _ _ hS)) ?_ ?_⟩
    · rintro i v σ' H' hx ⟨x5, x6, ns, rfl, kp, hF', nd, bn, inv⟩
      rw [List.getElem?_map] at hx
      obtain ⟨r, hr, rfl⟩ := Option.map_eq_some_iff.mp hx
      obtain ⟨r0, r1⟩ := hss r (List.mem_of_getElem? hr)
      dsimp only [gName, List.set]
      refine ⟨_, rfl, _, _, rfl, rfl, 1, r + 1, rfl, ⟨by decide, by decide, by omega, by omega⟩, for_range (fun m σ' H2 => ∃ x6, ∃ ms : List Int, σ' = [some (.ref t), some (.ref S), some (.int j), some (.ref l), some (.ref F0), some (.int r), x6] ∧ (∀ b o, H b = some o → H2 b = some o) ∧ H2 F0 = some (.dK (dkN ms)) ∧ ms.Nodup ∧ (∀ z ∈ ms, 0 ≤ z ∧ z < (101 : Nat)) ∧ ∀ z, z ∈ ms ↔ bhW ks g x y j (fun r => r ∈ ss.take i) z ∨ ∃ s : Int, 1 ≤ s ∧ s ≤ m ∧ wth ks g r j s * y ≤ x * unO ks ∧ z = r - s)
        ⟨_, ns, rfl, kp, hF', nd, bn, fun z => ⟨fun hz => .inl ((inv z).mp hz), fun h => h.elim (inv z).mpr fun ⟨s, s1, s2, _⟩ => by omega⟩⟩ ?_ ?_⟩
      · rintro m σ' H2 hm ⟨x6, ms, rfl, kp2, hF2, nd2, bn2, inv2⟩
        have hm : (m : Int) < r := by omega
        dsimp only [gName, List.set]
        have kpa : ∀ {H3 : Hp}, Same H2 H3 → PlA H3 t d ks g := fun s3 => ⟨s3 _ _ (kp2 _ _ pa.1), s3 _ _ (kp2 _ _ pa.2)⟩
        refine ⟨_, rfl, _, rfl, _, rfl, _, rfl, _, rfl, t, d, ks, g, r, j, 1 + m, l, x, y, rfl, kpa (Same.refl _), ok, gok, j0, j1, by omega, by omega, kp2 _ _ hl, bx, by omega, fun H3 s3 => ⟨_, rfl, ?_⟩⟩
        rw [decide_eq_true (show 1 + (m : Int) ≤ r by omega), Bool.true_and]
        have kp3 : ∀ b o, H b = some o → H3 b = some o := fun b o e => s3 _ _ (kp2 b o e)
        have hF3 := s3 _ _ hF2
        have lm := few_ints nd2 bn2
        by_cases c : wth ks g r j (1 + m) * y ≤ x * unO ks
        · refine iteT' (decide_eq_true c) ?_
          obtain ⟨q, eq⟩ : ∃ q, q = r - (1 + (m : Int)) := ⟨_, rfl⟩
          obtain ⟨ms', e', mem⟩ : ∃ ms', (if q ∈ ms then ms else ms ++ [q]) = ms' ∧ (ms'.Nodup ∧ ∀ z, z ∈ ms' ↔ z ∈ ms ∨ z = q) := by
            by_cases h : q ∈ ms
            · exact ⟨ms, if_pos h, nd2, fun z => ⟨.inl, fun e => e.elim id fun e => e ▸ h⟩⟩
            · exact ⟨ms ++ [q], if_neg h, List.nodup_append.mpr ⟨nd2, List.nodup_cons.mpr ⟨by simp, List.nodup_nil⟩, fun a ha b hb e => h (by rw [← List.mem_singleton.mp hb, ← e]; exact ha)⟩, fun z => by simp⟩
          refine ⟨_, rfl, _, rfl, _, rfl, _, _, rfl, rfl, F0, _, rfl, DPut.k (k := (Sum.inl (r - (1 + (m : Int))) : L2.Key)) hF3 ?_, _, ms', rfl, fun b o e => ?_, ?_, mem.1, fun z hz => ?_, fun z => ?_⟩
          · show (dkN ms).length < sizeLine
            unfold dkN
            rw [List.length_map]
            exact Nat.lt_of_le_of_lt lm (by decide)
          · rw [upd_ne (ne_of_none e hF)]
            exact kp3 b o e
          · rw [upd_same, putN, ← eq, e']
          · rcases (mem.2 z).mp hz with h | h
            · exact bn2 z h
            · omega
          · rw [mem.2 z, inv2 z]
            constructor
            · rintro ((h | ⟨s, h1, h2, h3⟩) | h)
              · exact .inl h
              · exact .inr ⟨s, h1, by omega, h3⟩
              · exact .inr ⟨1 + m, by omega, by omega, c, by omega⟩
            · rintro (h | ⟨s, h1, h2, h3, h4⟩)
              · exact .inl (.inl h)
              · by_cases e : s = 1 + (m : Int)
                · exact .inr (by omega)
                · exact .inl (.inr ⟨s, h1, by omega, h3, h4⟩)
        · refine iteF' (decide_eq_false c) ⟨_, ms, rfl, kp3, hF3, nd2, bn2, fun z => (inv2 z).trans ?_⟩
          constructor
          · rintro (h | ⟨s, h1, h2, h3⟩)
            · exact .inl h
            · exact .inr ⟨s, h1, by omega, h3⟩
          · rintro (h | ⟨s, h1, h2, h3, h4⟩)
            · exact .inl h
            · have : s ≠ 1 + (m : Int) := fun e => c (e ▸ h3)
              exact .inr ⟨s, h1, by omega, h3, h4⟩
      · rintro σ' H2 ⟨x6, ms, rfl, kp2, hF2, nd2, bn2, inv2⟩
        refine ⟨_, _, ms, rfl, kp2, hF2, nd2, bn2, fun z => (inv2 z).trans ?_⟩
        rw [List.take_add_one, hr]
        constructor
        · rintro (⟨q, s, h1, h2⟩ | ⟨s, h1, h2, h3⟩)
          · exact ⟨q, s, List.mem_append_left _ h1, h2⟩
          · exact ⟨r, s, List.mem_append_right _ List.mem_cons_self, h1, by omega, h3⟩
        · rintro ⟨q, s, h1, h2, h3, h4⟩
          rcases List.mem_append.mp h1 with h1 | h1
          · exact .inl ⟨q, s, h1, h2, h3, h4⟩
          · have e : q = r := List.mem_singleton.mp h1
            subst e
            exact .inr ⟨s, h2, by omega, h4⟩
    · rintro σ' H' ⟨x5, x6, ns, rfl, kp, hF', nd, bn, inv⟩
      rw [List.length_map, List.take_of_length_le (Nat.le_refl _)] at inv
      have ln := few_ints nd bn
      refine cb_i (cons_i (nums_lock rfl (by show 5 < 7; decide) hF' (by omega) (fun q H2 R hq go => ⟨_, rfl, .inl ⟨_, rfl, go⟩⟩) fun D H2 s2 fD hD => ?_))
      refine ⟨D, ns, rfl, SqL.of hD, fun rs p pm pw fp => ?_⟩
      have s3 := same_new (o := HO.lst (rs.map V.int)) fp
      have fpH : H p = none := by
        cases e : H p with
        | none => rfl
        | some o => rw [s2 _ _ (kp _ _ e)] at fp; cases fp
      exact k p rs _ (fun b o e => s3 _ _ (s2 _ _ (kp b o e))) fpH upd_same pw fun z => (pm.mem_iff).trans (inv z)
end
end Lw
namespace Lw
open PySem PySem.Spec PyProof.Rows L2
open SX PySem.NumText TL LamX ClX StX
set_option pp.maxSteps 900
abbrev sRig : Stmt := top 96
/-! ### the greedy rests and what Chunks of them tell -/
theorem gaps_sum : ∀ (es : List Int) (i : Nat) (x z : Int), es[i]? = some x → es.getLast? = some z → ((gaps es).drop i).sum = x - z
  | [], i, x, z, h, _ => by cases h
  | [a], i, x, z, h, hz => by
    have e : a = z := by simpa using hz
    cases i with
    | zero => cases h; show (0 : Int) = _; omega
    | succ i => simp at h
  | a :: b :: r, 0, x, z, h, hz => by
    cases h
    have ih := gaps_sum (b :: r) 0 b z rfl (by simpa using hz)
    show (a - b) + (gaps (b :: r)).sum = a - z
    have : (gaps (b :: r)).sum = b - z := ih
    omega
  | a :: b :: r, i + 1, x, z, h, hz => by
    have ih := gaps_sum (b :: r) i x z h (by simpa using hz)
    exact ih
theorem rests_gaps {es : List Int} (h : es.getLast? = some 0) : restsL (gaps es) ++ [0] = es := by
  have l0 : 0 < es.length := by
    cases es with
    | nil => cases h
    | cons => simp
  have gl := gaps_len es
  have rl := rests_len (gaps es)
  refine List.ext_getElem? fun i => ?_
  rcases Nat.lt_trichotomy i (es.length - 1) with c | c | c
  · rw [List.getElem?_append_left (by omega), rest_at (by omega)]
    have hi : es[i]? = some es[i] := List.getElem?_eq_getElem (by omega)
    rw [hi, gaps_sum es i _ 0 hi h, Int.sub_zero]
  · rw [List.getElem?_append_right (by omega), c, show es.length - 1 - (restsL (gaps es)).length = 0 by omega]
    rw [List.getLast?_eq_getElem?] at h
    rw [h]; rfl
  · rw [List.getElem?_eq_none (by simp; omega), List.getElem?_eq_none (by omega)]
theorem lay_nums : ∀ ns : List Int, PyData.canLayAll0 (ns.map PyData.int) = true
  | [] => rfl
  | n :: r => by
    show (PyData.canLay0 (.int n) && PyData.canLayAll0 (r.map PyData.int)) = true
    rw [lay_nums r]; rfl
theorem depth_nums : ∀ ns : List Int, PyData.depthAll (ns.map PyData.int) = 0
  | [] => rfl
  | n :: r => by
    show max 0 (PyData.depthAll (r.map PyData.int)) = 0
    rw [depth_nums r]; rfl
theorem shaped_nums (ns : List Int) : SeqAt.shaped (.list (ns.map PyData.int)) = true := by
  unfold SeqAt.shaped
  have h1 : PyData.canLay0 (.list (ns.map PyData.int)) = true := lay_nums ns
  have h2 : PyData.depth (.list (ns.map PyData.int)) ≤ 64 := by
    show PyData.depthAll (ns.map PyData.int) + 1 ≤ 64
    rw [depth_nums]; decide
  rw [h1, decide_eq_true h2]; rfl
theorem flat_nums : ∀ ns : List Int, (ns.map V.int).all flatV = true
  | [] => rfl
  | n :: r => by
    show (flatV (.int n) && (r.map V.int).all flatV) = true
    rw [flat_nums r]; rfl
theorem inV_nums (z : Int) (ns : List Int) : inV (.int z) (ns.map V.int) = decide (z ∈ ns) := by
  unfold inV
  rw [Bool.eq_iff_iff, List.any_eq_true, decide_eq_true_iff]
  constructor
  · rintro ⟨v, hv, e⟩
    obtain ⟨n, hn, rfl⟩ := List.mem_map.mp hv
    have : n = z := by simpa [eqV] using e
    exact this ▸ hn
  · intro h
    exact ⟨.int z, List.mem_map.mpr ⟨z, h, rfl⟩, by simp [eqV]⟩
/-! ### the law's rows and the package's greatest let size -/
theorem row_iff {ks ps : List (Str × Int)} {g : Gst} {o u x y r j s : Int} (pm : ps.Perm ks) (n : CwN ps) (ok : g.Ok) (y1 : 1 ≤ y) (u1 : 1 ≤ u) (e : o * y = x * u) (s1 : 1 ≤ s) (s2 : s ≤ r) : wth ks g r j s * y ≤ x * unO ks ↔ s ≤ letN ps g o u r j := by
  have ew : wth ks g r j s = wth ps g r j s ∧ unO ks = unO ps := by
    have e1 := perm_mn pm
    have e2 := perm_mx pm
    have e3 : smOf ps = smOf ks := perm_sm pm
    unfold wth wAh unO
    rw [e1, e2, e3]
    exact ⟨rfl, rfl⟩
  rw [ew.1, ew.2, let_iff n ok u1 s1 s2]
  have h1 := lt_wth (ps := ps) (g := g) (rest := r) (place := j) (size := s)
  have h2 := ltU_pos (g := g) (rest := r) (place := j) (k := s) n
  have h3 := n.un.1
  generalize ltO ps g r j s = O at *
  generalize ltU ps g r j s = U at *
  generalize wth ps g r j s = W at *
  generalize unO ps = D at *
  have p1 : 0 < D * y := Int.mul_pos (by omega) (by omega)
  have p2 : 0 < U * u := Int.mul_pos (by omega) (by omega)
  have f1 : O * u * (D * y) = W * y * (U * u) := by
    have : O * u * (D * y) = O * D * (u * y) := by grind
    rw [this, h1]; grind
  have f2 : o * U * (D * y) = x * D * (U * u) := by
    have : o * U * (D * y) = o * y * (U * D) := by grind
    rw [this, e]; grind
  constructor
  · intro h
    have := Int.mul_le_mul_of_nonneg_right h (Int.le_of_lt p2)
    rw [← f1, ← f2] at this
    exact Int.le_of_mul_le_mul_right this p1
  · intro h
    have := Int.mul_le_mul_of_nonneg_right h (Int.le_of_lt p1)
    rw [f1, f2] at this
    exact Int.le_of_mul_le_mul_right this p2
theorem bhW_iff {ks ps : List (Str × Int)} {g : Gst} {o u x y j : Int} {S : Int → Prop} (pm : ps.Perm ks) (n : CwN ps) (ok : g.Ok) (y1 : 1 ≤ y) (u1 : 1 ≤ u) (e : o * y = x * u) (nn : ∀ r, S r → 0 ≤ r) (z : Int) : bhW ks g x y j S z ↔ bhd (fun r i => letN ps g o u r i) S j z := by
  constructor
  · rintro ⟨r, s, h1, h2, h3, h4, h5⟩
    exact ⟨r, s, h1, h2, (row_iff pm n ok y1 u1 e h2 h3).mp h4, h5⟩
  · rintro ⟨r, s, h1, h2, h3, h5⟩
    have h4 : s ≤ letN ps g o u r j := h3
    have h6 := (let_range (ps := ps) (g := g) (o := o) (u := u) (rest := r) (place := j) (nn r h1)).2
    exact ⟨r, s, h1, h2, by omega, (row_iff pm n ok y1 u1 e h2 (by omega)).mpr h4, h5⟩
theorem tt_cut {t : TT} {σ : L2.St} {H : Hp} {Q : Bool → Hp → Prop} (Pj : Bool → Hp → Prop) (rest : ∀ b H', Pj b H' → Q b H') (val : ∀ QQ : Bool → Hp → Prop, (∀ b H', Pj b H' → QQ b H') → t σ H QQ) : t σ H Q := val _ rest
/-- the greedy rests fall -/
theorem gr_desc {f : Int → Int → Int} {R : List Int} (stp : ∀ (j : Nat) (x y : Int), R[j]? = some x → R[j + 1]? = some y → 0 < x ∧ 0 < f x (0 + j) ∧ y = x - f x (0 + j)) : ∀ (n i : Nat) (x y : Int), R[i]? = some x → R[i + n]? = some y → y ≤ x
  | 0, i, x, y, h1, h2 => by rw [Nat.add_zero, h1] at h2; cases h2; exact Int.le_refl _
  | n + 1, i, x, y, h1, h2 => by
    have hl := (List.getElem?_eq_some_iff.mp h2).1
    have hm : R[i + n]? = some R[i + n] := List.getElem?_eq_getElem (by omega)
    have ih := gr_desc stp n i x _ h1 hm
    obtain ⟨_, q, e⟩ := stp (i + n) _ y hm h2
    omega
def spRig : Sp := fun vs H Q _ => ∃ (t d : Addr) (ks : List (Str × Int)) (g : Gst) (tot : Int) (l : Addr) (x y : Int), vs = [.ref t, .int tot, .ref l] ∧ PlA H t d ks g ∧ KsOk ks ∧ g.Ok ∧ 1 ≤ tot ∧ tot ≤ 40 ∧ H l = some (.tup [.int x, .int y]) ∧ LmOk x y ∧ ∀ H', Same H H' → Q (.bl true) H'
section
variable {P : Program} {w : World} {K : PySem.W.Frag} {mg : Str → Option Value} {base : Heap} {CS CC RC HC DM FC NC fF fN fFw fI : Addr} {fdF fdN fdFw : FuncData} {mc : Value}
theorem scRig : FnScope ["_law_plan", "_law_total", "_law_limit_here", "_law_told", "_law_is_list", "_law_rests", "_law_some", "_law_place"] ["_law_plan", "_law_total", "_law_limit_here"] (C8.fnScope sRig) := C8.fnScope_by (by decide +kernel)
theorem cal_rig {f : Addr} {fd : FuncData} (F : C8.Def K mg "_law_right" sRig f fd) (b : Binds K fd ["_law_plan", "_law_total", "_law_limit_here"] []) (T : TxtC mg) (Z : ChC P w K mg base HC DM mc)
    (DSe : C8.Cal P w K mg base 10 "_law_setting" (spLse CS CC RC) []) (DLo : C8.Cal P w K mg base 5 "_law_limit_of" (spLlo RC) []) (DBh : C8.Cal P w K mg base 4 "_law_behind" spBhd [])
    (DFw : C8.Def K mg "fewest" sFew fFw fdFw) (bFw : Binds K fdFw ["total", "setting", "limit"] []) (FFw : FnOk P w K mg base (L2.CX P w) 9 fFw fdFw ["total", "setting", "limit"] (spFew CS CC RC HC FC NC DM))
    (FwM : PapM "Fewest" "chunks" P w K mg base FC fF fdF) (NlM : PapM "NoList" "rests" P w K mg base NC fN fdN) (FI : C8.InsC K FC) (NI : C8.InsC K NC) (nfc : PySem.W.kitOne K (.ref NC) (.ref FC) = some false) : C8.Cal P w K mg base 11 "_law_right" spRig [] := by
  refine C8.cal0 F b .nil scRig (fun vs H Q E h => ?_) (fun cdv A outer st H vs Q E hr h => ?_)
  · obtain ⟨t, d, ks, g, tot, l, x, y, rfl, _⟩ := h
    rfl
  · obtain ⟨t, d, ks, g, tot, l, x, y, rfl, pa, ok, gok, t1, t4, hl, lmo, k⟩ := h
    refine ⟨_, (pss_cons (ps_set (i := 3) scRig.nd rfl (Or.inl rfl) (pe_call (E := C8.E0) FFw (hr.mono (by decide)) (by rfl) DFw.mgf DFw.kp bFw .nil (passes_call takes0 (fun _ _ _ _ z => z)) (pa_cons (pv 1) (pa_cons (C8.pe_c DSe hr (by decide) (by rfl) (pa_cons (pv 0) pa_nil)) (pa_cons (C8.pe_c DLo hr (by decide) (by rfl) (pa_cons (pv 2) pa_nil)) pa_nil)))))
  (pss_cons (ps_set (i := 4) scRig.nd rfl (Or.inl rfl) (pe_callB call_isz (by rfl) T.n_isinstance (by decide +kernel) (pa_cons (pv 3) (pa_cons (pe_glob (v := .ref FC) (by rfl) FwM.hm rfl) pa_nil))))
  (pss_cons (ps_set (i := 5) scRig.nd rfl (Or.inl rfl) (pe_ifExp (pt_val (pv 4)) (pe_op op_cat (pe_callTy call_list_of (by rfl) T.n_list (by decide +kernel) (pa_cons (pe_fldK K rfl (pe_fldK K rfl (pv 3) rfl) rfl) pa_nil)) (pe_lst (pa_cons pe_int pa_nil))) (pe_callTy call_list_of (by rfl) T.n_list (by decide +kernel) (pa_cons (pe_fldK K rfl (pv 3) rfl) pa_nil))))
  (pss_cons (ps_par (i := 6) (j := 7) rfl scRig.nd rfl rfl (by decide) rfl rfl (pa_cons (pe_lst (pa_cons (pv 1) pa_nil)) (pa_cons pe_int pa_nil)) (by rfl))
  (pss_cons (ps_while PassesOwn.never (PW.pt (pw_and (pt_cmpR (op_neD hr.units) (pv 6) (pe_lst pa_nil) (nomark _)) (pw_and1 (pt_cmpR op_le (pv 7) (pv 1) (nomark _))))) (pss_cons (ps_if (PW.pt (pw_and (pt_cmpR op_lt (pv 7) (pe_callB call_len_seq (by rfl) T.n_len (by decide +kernel) (pa_cons (pv 5) pa_nil)) (nomark _)) (pw_and1 (pt_cmpR op_ne (pe_ix ix_list (pv 6) pe_int (fun _ _ => rfl)) (pe_ix ix_list (pv 5) (pv 7) (fun _ _ => rfl)) (nomark _))))) (pss_one (ps_ret pe_bl)) pss_nil)
  (pss_cons (ps_if (PW.pt (pw_or (PW.pt (pw_and (pt_not (pt_val (pv 4))) (pw_and1 (PW.pt (pw_or (pt_cmpR op_lt (pe_ix ix_list (pv 6) pe_int (fun _ _ => rfl)) (pe_ix ix_list (pv 5) (pe_un un_neg pe_int) (fun _ _ => rfl)) (nomark _)) (pw_or1 (pt_cmpR op_in_seq pe_int (pv 6) (by rfl)))))))) (pw_or1 (PW.pt (pw_and (pt_val (pv 4)) (pw_and (pt_cmpR op_in_seq pe_int (pv 6) (by rfl)) (pw_and1 (pt_cmpR op_lt (pv 7) (pe_op op_sub (pe_callB call_len_seq (by rfl) T.n_len (by decide +kernel) (pa_cons (pv 5) pa_nil)) pe_int) (nomark _))))))))) (pss_one (ps_ret pe_bl)) pss_nil)
  (pss_cons (ps_if (PW.pt (pw_and (pt_val (pv 4)) (pw_and1 (pt_cmpR op_eq (pv 7) (pe_op op_sub (pe_callB call_len_seq (by rfl) T.n_len (by decide +kernel) (pa_cons (pv 5) pa_nil)) pe_int) (nomark _))))) (pss_one (ps_ret (pe_cmpR op_eq (pe_ix ix_list (pv 6) pe_int (fun _ _ => rfl)) pe_int (nomark _)))) pss_nil)
  (pss_one (ps_par (i := 6) (j := 7) rfl scRig.nd rfl rfl (by decide) rfl rfl (pa_cons (C8.pe_c DBh hr (by decide) (by rfl) (pa_cons (pv 0) (pa_cons (pv 6) (pa_cons (pv 7) (pa_cons (pv 2) pa_nil))))) (pa_cons (pe_op op_add (pv 7) pe_int) pa_nil)) (by rfl)))))))
  (pss_one (ps_ret (pe_and (pe_not (pv 4)) (pe_one (pe_cmpR op_ge (pv 7) (pe_callB call_len_seq (by rfl) T.n_len (by decide +kernel) (pa_cons (pv 5) pa_nil)) (nomark _))))))))))), ?_⟩
    refine ⟨_, rfl, _, rfl, t, d, ks, g, rfl, pa, ok, gok, fun s ps H1 s1 fs sa sr => ?_⟩
    refine ⟨_, rfl, l, x, y, rfl, s1 _ _ hl, lmo, fun v o u H2 s2 lm eo u1 u2 bo => ?_⟩
    have sa2 := sa.on s2
    have nm := sa.num
    obtain ⟨R, eR⟩ : ∃ R, R = gRest ps g o u tot 5000 := ⟨_, rfl⟩
    have fok : FOk (fun r i => letN ps g o u r i) := let_fok
    have lR : (R.length : Int) ≤ tot + 1 := by
      rw [eR]
      have := gRs_few fok 5000 0 tot (by omega)
      show (((gRs (fun r i => letN ps g o u r i) 5000 0 tot).length + 1 : Nat) : Int) ≤ _
      omega
    refine ⟨s, v, ps, g, tot, o, u, rfl, by omega, by omega, sa2, gok, lm, Nat.le_trans bo (Nat.pow_le_pow_right (by decide) (by decide)), u1, Int.le_trans u2 (by decide +kernel), fun _ h => ?_, fun z0 H3 s3 fz few => ?_⟩
    · rw [← eR] at h
      omega
    rw [← eR] at few
    have s03 := s1.trans (s2.trans s3)
    have pa3 := pa.on s03
    have hl3 := s03 _ _ hl
    dsimp only [gName, tSeq, List.set]
    obtain ⟨isl, hisl⟩ : ∃ isl, isl = decide (R.getLast? = some 0) := ⟨_, rfl⟩
    refine asg_cut (fun x H' => x = .bl isl ∧ H3 = H') (fun x H' hx => ?_) (fun QQ go => ?_)
    rotate_left
    · rcases few with ⟨e, dx, c, hz, _⟩ | ⟨e, dx, r, hz, _⟩
      · refine ⟨_, rfl, _, .ref FC, .ref FC, .ref FC, true, rfl, .own FC, .x (.base (.ins hz FI.cl FI.ha FI.hn FI.htk FI.hm)), FI.me, go _ _ ⟨?_, rfl⟩⟩
        rw [hisl, decide_eq_true e]
      · refine ⟨_, rfl, _, .ref FC, .ref NC, .ref FC, false, rfl, .own FC, .x (.base (.ins hz NI.cl NI.ha NI.hn NI.htk NI.hm)), nfc, go _ _ ⟨?_, rfl⟩⟩
        rw [hisl, decide_eq_false e]
    obtain ⟨rfl, rfl⟩ := hx
    dsimp only [gName, tSeq, List.set]
    refine asg_cut (fun x H' => ∃ L, x = .ref L ∧ Same H3 H' ∧ H' L = some (.lst (R.map V.int))) (fun x H' hx => ?_) (fun QQ go => ?_)
    rotate_left
    · refine ⟨_, rfl, _, rfl, ?_⟩
      rcases few with ⟨e, dx, c, hz, ch⟩ | ⟨e, dx, r, hz, hr2⟩
      · rw [hisl, decide_eq_true e]
        refine iteT ?_
        obtain ⟨dx2, p2, e2, r2, hc, _, _, hr2⟩ := ch
        refine ⟨_, rfl, z0, FC, dx, _, _, rfl, hz, FwM.cl, FwM.n, rfl, c, HC, dx2, _, _, rfl, hc, Z.cl, Z.n4, chF_rests _ _ _ _, r2, _, rfl, .inr (SqT.of hr2), fun L1 f1 => ⟨(by show 1 ≤ sizeLine; decide), fun L2 f2 => ?_⟩⟩
        have x1 := same_new (o := HO.lst ((restsL (gaps R)).map V.int)) f1
        have x2 := same_new (o := HO.lst [V.int 0]) f2
        have h1 : upd H3 L1 (.lst ((restsL (gaps R)).map V.int)) L1 = some (.lst ((restsL (gaps R)).map V.int)) := upd_same
        refine ⟨L1, L2, _, _, rfl, rfl, x2 _ _ h1, upd_same, ?_, fun p fp => go _ _ ⟨p, rfl, x1.trans (x2.trans (same_new fp)), ?_⟩⟩
        · have := gaps_len R
          have := rests_len (gaps R)
          rw [List.length_map]
          exact Nat.le_trans (show (restsL (gaps R)).length + 1 ≤ 100 by omega) (by decide)
        · rw [upd_same]
          have := rests_gaps e
          rw [← this, List.map_append, this]; rfl
      · rw [hisl, decide_eq_false e]
        refine iteF ?_
        refine ⟨_, rfl, z0, NC, dx, _, _, rfl, hz, NlM.cl, NlM.n, rfl, r, _, rfl, .inr (SqT.of hr2), fun L1 f1 => go _ _ ⟨L1, rfl, same_new f1, upd_same⟩⟩
    obtain ⟨L, rfl, s4, hL⟩ := hx
    dsimp only [gName, tSeq, List.set]
    refine ⟨_, rfl, (by show 1 ≤ sizeLine; decide), fun S0 fS => ⟨_, _, rfl, ?_⟩⟩
    have s5 := same_new (o := HO.lst [V.int tot]) fS
    have hS0 : upd H' S0 (.lst [V.int tot]) S0 = some (.lst (([tot] : List Int).map V.int)) := upd_same
    have s05 := s03.trans (s4.trans s5)
    have hL5 := s5 _ _ hL
    generalize upd H' S0 (.lst [V.int tot]) = H5 at s5 hS0 s05 hL5
    clear s5 hL fS s4 few hl3 pa3
    dsimp only [gName, tSeq, List.set]
    show tWhile _ _ _ _ _
    have ne : R ≠ [] := by rw [eR]; simp [gRest]
    obtain ⟨pre, lst, ep⟩ : ∃ pre lst, R = pre ++ [lst] := ⟨R.dropLast, R.getLast ne, (List.dropLast_concat_getLast _).symm⟩
    have gl : R.getLast? = some lst := by rw [ep]; simp
    have fm := let_fmon (o := o) (u := u) nm gok u1
    refine ⟨fun z σ' H' => ∃ (i : Nat) (S : Addr) (ss : List Int), σ' = [some (.ref t), some (.int tot), some (.ref l), some (.ref z0), some (.bl isl), some (.ref L), some (.ref S), some (.int i)] ∧ Same H5 H' ∧ H' S = some (.lst (ss.map V.int)) ∧ ss.Pairwise (fun a b => a ≤ b) ∧ (∀ r ∈ ss, 0 ≤ r ∧ r ≤ 100) ∧ LeastAt R i (fun r => r ∈ ss) ∧ (isl = true → i < R.length) ∧ (i : Int) ≤ tot + 1 ∧ z = (tot + 1 - i).toNat,
      ⟨_, 0, S0, [tot], rfl, Same.refl _, hS0, List.pairwise_singleton _ _, (fun r hr => by rw [List.mem_singleton.mp hr]; omega), ⟨fun x hx => ?_, fun h => ?_⟩, fun _ => List.length_pos_iff.mpr ne, by omega, rfl⟩, ?_⟩
    · have e : x = tot := by rw [eR] at hx; cases hx; rfl
      rw [e]
      exact ⟨List.mem_singleton.mpr rfl, fun y hy => by rw [List.mem_singleton.mp hy]; exact Int.le_refl _⟩
    · rw [eR] at h; cases h
    rintro z σ' H' ⟨i, S, ss, rfl, s6, hS, srt, bss, la, hi, hi2, rfl⟩
    have stp : ∀ (j : Nat) (x y : Int), R[j]? = some x → R[j + 1]? = some y → 0 < x ∧ 0 < letN ps g o u x (0 + j) ∧ y = x - letN ps g o u x (0 + j) := fun j x y h1 h2 => gRs_step (f := fun r i => letN ps g o u r i) 5000 0 tot j x y (by rw [eR] at h1; exact h1) (by rw [eR] at h2; exact h2)
    have nnR : ∀ x ∈ R, 0 ≤ x := fun x hx => by
      rw [eR] at hx
      rcases List.mem_cons.mp hx with rfl | hx
      · omega
      · exact (gRs_nn fok 5000 0 tot (by omega) x hx).1
    have Rl : R[R.length - 1]? = some lst := by rw [← List.getLast?_eq_getElem?]; exact gl
    have Rp : 0 < R.length := List.length_pos_iff.mpr ne
    have zl : ∀ (j : Nat), R[j]? = some 0 → j = R.length - 1 := fun j hj => by
      have hj2 := (List.getElem?_eq_some_iff.mp hj).1
      rcases Nat.lt_or_ge (j + 1) R.length with c | c
      · have := (stp j 0 _ hj (List.getElem?_eq_getElem c)).1
        omega
      · omega
    have low : ∀ r ∈ ss, lst ≤ r := fun r hr => by
      cases hx : R[i]? with
      | none => exact la.past hx lst gl r hr
      | some x =>
        have h1 := (la.here x hx).2 r hr
        have h2 := (List.getElem?_eq_some_iff.mp hx).1
        have h3 := gr_desc (f := fun r i => letN ps g o u r i) stp (R.length - 1 - i) i x lst hx (by rw [show i + (R.length - 1 - i) = R.length - 1 by omega]; exact Rl)
        omega
    have l0 : 0 ≤ lst := nnR lst (List.mem_of_getElem? Rl)
    have isl1 : isl = true ↔ lst = 0 := by
      rw [hisl, decide_eq_true_iff, gl]
      exact ⟨fun e => Option.some.inj e, fun e => by rw [e]⟩
    refine tt_cut (fun b H7 => Same H' H7 ∧ (b = true → ss ≠ [] ∧ (i : Int) ≤ tot) ∧ (b = false → isl = false ∧ R.length ≤ i)) (fun b H7 hb => ?_) (fun QQ go => ?_)
    rotate_left
    · have past : R.length ≤ i → isl = false ∧ R.length ≤ i := fun h => ⟨by cases e : isl with
        | false => rfl
        | true => exact absurd (hi e) (by omega), h⟩
      refine ⟨_, rfl, (by show 0 ≤ sizeLine; decide), fun N0 fN0 => ?_⟩
      have sN := same_new (o := HO.lst []) fN0
      refine ⟨.list (ss.map PyData.int), .list [], .lst (SqL.of (sN _ _ hS)) (dp_ints ss), .lst (SqL.of upd_same) .nil, shaped_ints ss, rfl, _, rfl, ?_⟩
      cases ss with
      | nil =>
        refine iteF' rfl (go _ _ ⟨sN, fun e => (by cases e), fun _ => past ?_⟩)
        rcases Nat.lt_or_ge i R.length with c | c
        · exact absurd (la.here _ (List.getElem?_eq_getElem c)).1 (by simp)
        · exact c
      | cons a r =>
        refine iteT' rfl ⟨_, rfl, _, rfl, _, _, rfl, rfl, _, rfl, ?_⟩
        by_cases c : (i : Int) ≤ tot
        · rw [decide_eq_true c]
          exact go _ _ ⟨sN, fun _ => ⟨by simp, c⟩, fun e => (by cases e)⟩
        · rw [decide_eq_false c]
          exact go _ _ ⟨sN, fun e => (by cases e), fun _ => past (by omega)⟩
    obtain ⟨s7, hb1, hb2⟩ := hb
    cases b with
    | false =>
      obtain ⟨e, le⟩ := hb2 rfl
      subst e
      rw [if_neg Bool.false_ne_true]
      have hL7 := s7 _ _ (s6 _ _ hL5)
      refine ⟨_, rfl, _, rfl, _, rfl, iteT' rfl ⟨_, rfl, _, rfl, L, _, rfl, .inl (SqL.of hL7), _, _, rfl, rfl, ?_⟩⟩
      rw [List.length_map]
      show Q (.bl (decide ((R.length : Int) ≤ (i : Int)))) H7
      rw [decide_eq_true (by omega)]
      exact k H7 (s05.trans (s6.trans s7))
    | true =>
      obtain ⟨sne, it⟩ := hb1 rfl
      rw [if_pos rfl]
      clear hb1 hb2
      have hS7 := s7 _ _ hS
      have hL7 := s7 _ _ (s6 _ _ hL5)
      have s67 := s6.trans s7
      obtain ⟨a, rs, rfl⟩ := List.exists_cons_of_ne_nil sne
      refine ⟨_, fun σ' H2 h => h, ?_⟩
      refine ifs_no (fun H8 => H7 = H8) (fun H8 e => ?_) (fun QQ go => ?_)
      rotate_left
      · refine ⟨_, rfl, _, rfl, L, _, rfl, .inl (SqL.of hL7), _, _, rfl, rfl, _, rfl, ?_⟩
        rw [List.length_map]
        by_cases c : i < R.length
        · refine iteT' (decide_eq_true (by omega)) ?_
          have hx : R[i]? = some R[i] := List.getElem?_eq_getElem c
          obtain ⟨m1, m2⟩ := la.here _ hx
          have e : R[i] = a := by
            have h1 := m2 a List.mem_cons_self
            rcases List.mem_cons.mp m1 with h2 | h2
            · exact h2
            · have := (List.pairwise_cons.mp srt).1 _ h2
              omega
          refine ⟨_, rfl, S, _, 0, _, rfl, rfl, SqL.of hS7, atI_nat (k := 0) rfl, _, rfl, _, rfl, L, _, _, _, rfl, rfl, SqL.of hL7, atI_nat (k := i) (by rw [List.getElem?_map, hx, e]; rfl), rfl, _, rfl, ?_⟩
          rw [decide_eq_true rfl]
          exact go _ rfl
        · exact iteF' (decide_eq_false (by omega)) (go _ rfl)
      subst e
      dsimp only [tNext, tSeq]
      have atl : atI (R.map V.int) (-1) = some (.int lst) := by rw [ep, List.map_append]; exact atI_last _ _
      have ah : i < R.length → R[i]? = some a := fun c => by
        have hx : R[i]? = some R[i] := List.getElem?_eq_getElem c
        obtain ⟨m1, m2⟩ := la.here _ hx
        have e : R[i] = a := by
          have h1 := m2 a List.mem_cons_self
          rcases List.mem_cons.mp m1 with h2 | h2
          · exact h2
          · have := (List.pairwise_cons.mp srt).1 _ h2
            omega
        rw [hx, e]
      refine ifs_no (fun H8 => H7 = H8) (fun H8 e => ?_) (fun QQ go => ?_)
      rotate_left
      · cases hq : isl with
        | false =>
          have lp : 0 < lst := by
            have : lst ≠ 0 := fun e => by rw [isl1.mpr e] at hq; cases hq
            omega
          refine ⟨_, rfl, _, rfl, iteT' rfl ⟨_, rfl, S, _, 0, _, rfl, rfl, SqL.of hS7, atI_nat (k := 0) rfl, _, rfl, _, rfl, L, _, _, _, rfl, rfl, SqL.of hL7, atl, _, _, rfl, rfl, _, rfl, ?_⟩⟩
          have la0 := low a List.mem_cons_self
          refine iteF' (decide_eq_false (by omega)) ⟨_, rfl, S, _, rfl, .inl (SqL.of hS7), rfl, flat_nums _, _, rfl, ?_⟩
          rw [if_neg Bool.false_ne_true, inV_nums, decide_eq_false (fun h => by have := low 0 h; omega)]
          exact iteF ⟨_, rfl, _, rfl, iteF (go _ rfl)⟩
        | true =>
          have lz := isl1.mp hq
          refine ⟨_, rfl, _, rfl, iteF' rfl (iteF ⟨_, rfl, _, rfl, iteT ⟨_, rfl, S, _, rfl, .inl (SqL.of hS7), rfl, flat_nums _, _, rfl, ?_⟩⟩)⟩
          rw [if_neg Bool.false_ne_true, inV_nums]
          by_cases c : (0 : Int) ∈ a :: rs
          · refine iteT' (decide_eq_true c) ⟨_, rfl, _, rfl, L, _, rfl, .inl (SqL.of hL7), _, _, rfl, rfl, _, _, rfl, rfl, _, rfl, ?_⟩
            have hil := hi hq
            have h0 := (la.here a (ah hil)).2 0 c
            have h1 := nnR a (List.mem_of_getElem? (ah hil))
            have h2 : a = 0 := by omega
            have h3 := zl i (by rw [ah hil, h2])
            rw [List.length_map, decide_eq_false (by omega)]
            exact go _ rfl
          · exact iteF' (decide_eq_false c) (go _ rfl)
      subst e
      dsimp only [tNext, tSeq]
      refine ifs_via (fun b H8 => H7 = H8 ∧ (b = true → isl = true ∧ i = R.length - 1) ∧ (b = false → isl = true → i ≠ R.length - 1)) (fun b H8 hb => ?_) (fun QQ go => ?_)
      rotate_left
      · cases hq : isl with
        | false => exact ⟨_, rfl, _, rfl, iteF (go _ _ ⟨rfl, fun e => (by cases e), fun _ e => by rw [hq] at e; cases e⟩)⟩
        | true =>
          refine ⟨_, rfl, _, rfl, iteT ⟨_, rfl, _, rfl, L, _, rfl, .inl (SqL.of hL7), _, _, rfl, rfl, rfl, _, rfl, ?_⟩⟩
          rw [dec_intp, List.length_map]
          by_cases c : (i : Int) = (R.length : Int) - 1
          · rw [decide_eq_true c]
            exact go _ _ ⟨rfl, fun _ => ⟨hq, by omega⟩, fun e => (by cases e)⟩
          · rw [decide_eq_false c]
            exact go _ _ ⟨rfl, fun e => (by cases e), fun _ _ => by omega⟩
      obtain ⟨rfl, hb1, hb2⟩ := hb
      cases b with
      | true =>
        obtain ⟨hq, e⟩ := hb1 rfl
        rw [if_pos rfl]
        have h1 := ah (hi hq)
        rw [e, Rl] at h1
        have h2 : lst = a := Option.some.inj h1
        have h3 := isl1.mp hq
        refine ⟨_, rfl, S, _, 0, _, rfl, rfl, SqL.of hS7, atI_nat (k := 0) rfl, rfl, ?_⟩
        rw [dec_intp, decide_eq_true (by omega)]
        exact k _ (s05.trans s67)
      | false =>
        rw [if_neg Bool.false_ne_true]
        have hne := hb2 rfl
        dsimp only [tNext, tSeq]
        have s07 := s05.trans s67
        refine ⟨_, rfl, _, rfl, _, rfl, _, rfl, t, d, ks, g, S, i, l, x, y, a :: rs, rfl, pa.on s07, ok, gok, by omega, by omega, hS7, bss, s07 _ _ hl, lmo, fun L2 rs2 H8 s8 f8 h8 srt2 mem => ⟨_, rfl, _, _, rfl, rfl, _, _, rfl, ?_⟩⟩
        have bok : ∀ r ∈ a :: rs, 0 ≤ r := fun r hr => (bss r hr).1
        have eW := fun z => (mem z).trans (bhW_iff (o := o) (u := u) sr.1 nm gok lmo.2.1 u1 eo bok z)
        have la2 : LeastAt R (i + 1) (fun r => r ∈ rs2) := by
          rw [eR] at la ⊢
          refine least_step fok fm (by omega) (by omega) la eW (fun x hx e => ?_) (fun hx x hz e => ?_)
          · have hx : R[i]? = some x := by rw [eR]; exact hx
            subst e
            have h1 := zl i hx
            have h2 : lst = 0 := by rw [h1, Rl] at hx; exact Option.some.inj hx
            exact hne (isl1.mpr h2) h1
          · have hx : R[i]? = none := by rw [eR]; exact hx
            have hz : R.getLast? = some x := by rw [eR]; exact hz
            subst e
            have h2 : lst = 0 := by rw [gl] at hz; exact Option.some.inj hz
            have h3 := hi (isl1.mpr h2)
            rw [List.getElem?_eq_getElem h3] at hx
            cases hx
        refine ⟨_, ?_, i + 1, L2, rs2, rfl, s67.trans s8, h8, srt2, fun r hr => ?_, la2, fun e => ?_, by omega, rfl⟩
        · omega
        · obtain ⟨q, s, q1, q2, q3, _, rfl⟩ := (mem r).mp hr
          have := bss q q1
          omega
        · have := hi e
          have := hne e
          omega
end
end Lw
namespace Lw
open PySem PySem.Spec PyProof.Rows L2
open SX PySem.NumText TL LamX ClX StX
set_option pp.maxSteps 900
abbrev sLaw : Stmt := top 97
theorem fnG {P : Program} {w : World} {K : PySem.W.Frag} {mg : Str → Option Value} {base : Heap} {x : Str} {st : Stmt} {f : Addr} {fd : FuncData} {N ps : List Str} {k : Nat} {sp : Sp} (F : C8.Fun K x x st f fd) (S : FnScope N ps (C8.fnScope st))
    (len : ∀ vs H Q E, sp vs H Q E → vs.length = ps.length)
    (body : ∀ (cdv : Value) (A : Around) (outer : List Env) (s : Shared) (H : Hp) (vs : List V) (Q : VK) (E : XK), (A.deeper (envOfC x (C8.fnScope st) s.heap.objs.size f cdv)).guards = some [] → Room k (A.deeper (envOfC x (C8.fnScope st) s.heap.objs.size f cdv)) → sp vs H Q E →
      ∃ t, PSs (cxOf C8.CX0 P w K mg base N x (C8.fnScope st) f cdv A outer s H E).nox (C8.fnBody st) t ∧ t { nx := fun _ H' => Q .non H', rt := Q } (start N vs) H) : FnG P w K mg base (k + 1) f fd ps sp := by
  refine ⟨len, ?_⟩
  intro A outer s H args us vs Q E hg hr e0 hb r hs
  obtain ⟨oc, od, dV, kV, doc, pm, an, cdv, ct, osl, rfl, lk, hcd⟩ := F.ex
  refine LamX.run_ofS lk hcd S hr e0 hb r (len _ _ _ _ hs) fun hr' => ?_
  obtain ⟨t, h1, h2⟩ := body cdv A outer s H vs Q E hg hr' hs
  exact ⟨t, h1.nox, h2⟩
abbrev kP : List (Str × Int) := [(Str.ofString "a", 1), (Str.ofString "b", 1)]
abbrev gP : Gst := ⟨1, 1, 1⟩
theorem ks_dec {ks : List (Str × Int)} (h : (decide (ks.map (·.1)).Nodup && decide (1 ≤ ks.length) && decide (ks.length ≤ 8) && ks.all fun q => nameT q.1 && decide (1 ≤ q.2) && decide (q.2 ≤ 60)) = true) : KsOk ks := by
  simp only [Bool.and_eq_true, decide_eq_true_eq, List.all_eq_true] at h
  exact ⟨h.1.1.1, h.1.1.2, h.1.2, fun q hq => ⟨(h.2 q hq).1.1, (h.2 q hq).1.2, (h.2 q hq).2⟩⟩
theorem okP : KsOk kP := ks_dec (by decide +kernel)
theorem gPok : gP.Ok := by unfold Gst.Ok; decide
def spLaw (K : PySem.W.Frag) (TS : List (Addr × Str)) : Sp := fun vs H Q _ => ∃ (a : Addr) (ns : List Int), vs = [.ref a] ∧ SqL K H a (ns.map V.int) ∧ ns.length ≤ 63 ∧ Tabs TS H ∧ ∀ H', Q (.bl true) H'
section
variable {P : Program} {w : World} {K : PySem.W.Frag} {mg : Str → Option Value} {base : Heap}
theorem scLaw : FnScope ["_law_script", "_law_pen_here", "_law_turn", "_law_paid", "_law_plan"] ["_law_script"] (C8.fnScope sLaw) := C8.fnScope_by (by decide +kernel)
theorem fn_law {f : Addr} {TS : List (Addr × Str)} {fd : FuncData} (F : C8.Fun K "law" "law" sLaw f fd) (T : TxtC mg) (D0 : C8.Cal P w K mg base 1 "_law_draw" spDraw [])
    (DPn : C8.Cal P w K mg base 1 "_law_pen" (spPen K) []) (DPl : C8.Cal P w K mg base 3 "_law_drawn_plan" spLdp []) (DLi : C8.Cal P w K mg base 3 "_law_limit" spLli []) (DRi : C8.Cal P w K mg base 11 "_law_right" spRig []) : FnG P w K mg base 16 f fd ["_law_script"] (spLaw K TS) := by
  refine fnG F scLaw (fun vs H Q E h => ?_) (fun cdv A outer st H vs Q E hG hr h => ?_)
  · obtain ⟨a, ns, rfl, _⟩ := h
    rfl
  · obtain ⟨a, ns, rfl, hs, hl, ht, k⟩ := h
    refine ⟨_, (pss_cons (ps_set (i := 1) scLaw.nd rfl (Or.inl rfl) (C8.pe_c DPn hr (by decide) (by rfl) (pa_cons (pv 0) pa_nil)))
  (pss_cons (ps_for PassesOwn.never rfl (pi_range1 (by rfl) T.n_range (pa_cons pe_int pa_nil)) (pg_name (i := 2) scLaw.nd rfl (Or.inl rfl)) (pss_cons (ps_set (i := 4) scLaw.nd rfl (Or.inl rfl) (C8.pe_c DPl hr (by decide) (by rfl) (pa_cons (pv 1) (pa_cons pe_int pa_nil))))
  (pss_one (ps_if (pt_not (pt_val (C8.pe_c DRi hr (by decide) (by rfl) (pa_cons (pv 4) (pa_cons (pe_op op_add pe_int (C8.pe_c D0 hr (by decide) (by rfl) (pa_cons (pv 1) (pa_cons pe_int pa_nil)))) (pa_cons (C8.pe_c DLi hr (by decide) (by rfl) (pa_cons (pv 1) (pa_cons (pv 4) pa_nil))) pa_nil)))))) (pss_one (ps_ret pe_bl)) pss_nil))))
  (pss_cons (ps_set (i := 3) scLaw.nd rfl (Or.inl rfl) (pe_disp (pps_cons pe_str (pe_disp (pps_cons pe_str pe_int (pps_cons pe_str pe_int pps_nil)) (by rfl) (by rfl) (fun z => by cases z) (by decide)) (pps_cons pe_str pe_int (pps_cons pe_str pe_int (pps_cons pe_str pe_int pps_nil)))) (by rfl) (by rfl) (fun z => by cases z) (by decide)))
  (pss_one (ps_ret (pe_and (C8.pe_c DRi hr (by decide) (by rfl) (pa_cons (pv 3) (pa_cons pe_int (pa_cons (pe_tup (pa_cons pe_int (pa_cons pe_int pa_nil))) pa_nil)))) (pe_and (C8.pe_c DRi hr (by decide) (by rfl) (pa_cons (pv 3) (pa_cons pe_int (pa_cons (pe_tup (pa_cons pe_int (pa_cons pe_int pa_nil))) pa_nil)))) (pe_one (C8.pe_c DRi hr (by decide) (by rfl) (pa_cons (pv 3) (pa_cons pe_int (pa_cons (pe_tup (pa_cons pe_int (pa_cons pe_int pa_nil))) pa_nil)))))))))))), ?_⟩
    refine ⟨_, rfl, a, ns, rfl, hs, hl, fun p pl H1 hp1 s1 _ => ?_⟩
    dsimp only [gName, tSeq]
    refine ⟨_, rfl, by decide, by decide, for_range (fun i σ' H' => ∃ x2 x3 x4, σ' = [some (V.ref a), some (V.ref p), x2, x3, x4] ∧ Pen H' p pl (60 * i)) ⟨_, _, _, rfl, hp1⟩ ?_ ?_⟩
    · rintro i σ1 H2 hi ⟨x2, x3, x4, rfl, hp2⟩
      have hi2 : i < 5 := hi
      dsimp only [gName]
      refine ⟨_, rfl, p, pl, _, 4, rfl, by decide, by decide, hp2, by omega, fun t d ks g H3 hp3 k3 ft fd pa ok gok b9 f7 => ?_⟩
      dsimp only [gName, tSeq, List.set]
      have tp := hp2.ne_new ft
      have dp := hp2.ne_new fd
      refine ifs_no (fun H' => Pen H' p pl (60 * i + 60)) (fun H4 hp4 => ⟨_, _, _, rfl, hp4.more (by omega)⟩) (fun QQ go => ?_)
      refine ⟨_, rfl, _, rfl, p, pl, _, 14, rfl, by decide, by decide, hp3, by omega, fun r H4 r0 r1 hp4 k4 => ⟨_, _, rfl, rfl, ?_⟩⟩
      have pa4 : PlA H4 t d ks g := ⟨k4 _ _ tp pa.1, k4 _ _ dp pa.2⟩
      refine ⟨_, rfl, _, rfl, p, pl, _, t, d, ks, g, rfl, hp4, by omega, pa4, ok, gok, tp, dp, fun l x y H5 fl hl2 lmo hp5 k5 => ?_⟩
      exact ⟨t, d, ks, g, 1 + r, l, x, y, rfl, ⟨k5 _ _ tp pa4.1, k5 _ _ dp pa4.2⟩, ok, gok, by omega, by omega, hl2, lmo, fun H6 s6 => ⟨_, rfl, go _ ((hp5.keep s6).more (by omega))⟩⟩
    · rintro σ1 H2 ⟨x2, x3, x4, rfl, hp2⟩
      clear hp1 s1 hp2 ht hs
      dsimp only [gName, tSeq]
      refine fun t ht d hd => ⟨upd_same, [(.inr "a", .int 1), (.inr "b", .int 1)], rfl, (by decide), ?_⟩
      have td : t ≠ d := fun e => by rw [← e, upd_same] at hd; cases hd
      refine ⟨by rw [upd_ne td, upd_ne td]; exact upd_same, plV d gP, rfl, by show 4 ≤ 15; decide, ?_⟩
      generalize hG : upd (upd (upd (upd H2 t (.dK [])) d (.dK [])) d _) t _ = H3
      have pa3 : PlA H3 t d kP gP := by
        rw [← hG]
        exact ⟨upd_same, by rw [upd_ne td.symm]; exact upd_same⟩
      clear hG ht hd td
      dsimp only [gName, tSeq, List.set]
      have lm1 : LmOk 3 2 := ⟨by decide +kernel, by decide, by decide⟩
      have lm2 : LmOk 4 1 := ⟨by decide +kernel, by decide, by decide⟩
      refine ⟨_, rfl, (by show 2 ≤ sizeLine; decide), fun l1 f1 => ⟨t, d, kP, gP, 4, l1, 3, 2, rfl, pa3.on (same_new f1), okP, gPok, by decide, by decide, upd_same, lm1, fun H4 s4 => ⟨true, rfl, iteT ?_⟩⟩⟩
      have pa4 := (pa3.on (same_new f1)).on s4
      refine ⟨_, rfl, (by show 2 ≤ sizeLine; decide), fun l2 f2 => ⟨t, d, kP, gP, 12, l2, 4, 1, rfl, pa4.on (same_new f2), okP, gPok, by decide, by decide, upd_same, lm2, fun H5 s5 => ⟨true, rfl, iteT ?_⟩⟩⟩
      have pa5 := (pa4.on (same_new f2)).on s5
      exact ⟨_, rfl, (by show 2 ≤ sizeLine; decide), fun l3 f3 => ⟨t, d, kP, gP, 13, l3, 4, 1, rfl, pa5.on (same_new f3), okP, gPok, by decide, by decide, upd_same, lm2, fun H6 s6 => k H6⟩⟩
end
end Lw
namespace Lw
open PySem PySem.Spec PyProof.Rows L2
open LamX
/-! ### the call of the law where nothing is being shown, with tables of code objects -/
/-- what is tracked when the law is entered: the tables, and the script unless it is written -/
def Entry (K : PySem.W.Frag) (h : Heap) (a : Addr) (Bs : List Addr) (ns : List Int) (H : Hp) : Prop :=
  (∀ B ∈ Bs, H B = some (.tbl #[])) ∧ SqL K H a (ns.map V.int) ∧ (∀ b u, H b = some u → (b ∈ Bs ∧ u = .tbl #[]) ∨ (b = a ∧ K.lookup a = none ∧ ∃ o xs, u = .frz o (.lst xs) ∧ h.get? a = some o))
theorem entry {P : Program} {w : World} {K : PySem.W.Frag} {h : Heap} {a : Addr} {Bs : List Addr} {vs : List Value} {ns : List Int} (KX : K.In h) (hT : ∀ B ∈ Bs, h.get? B = some { cls := .none, data := .fields #[] }) (ha : h.get? a = some { cls := .type "list", data := .seq vs.toArray }) (hi : IntsAre vs ns) (hl : ns.length ≤ sizeLine) :
    a ∉ Bs ∧ ∃ H, Entry K h a Bs ns H ∧ HOk P w H h := by
  have rv := vals_ints hi
  have lv := hi.length
  have ne : a ∉ Bs := fun e => by
    have hT := hT a e
    rw [ha] at hT
    have z : Data.seq vs.toArray _ = Data.fields #[] := congrArg Obj.data (Option.some.inj hT)
    cases z
  refine ⟨ne, ?_⟩
  cases hk : K.lookup a with
  | some o =>
    have e := KX a o hk
    rw [ha] at e
    cases e
    refine ⟨fun b => if b ∈ Bs then some (.tbl #[]) else none, ⟨fun B hB => if_pos hB, .inr ⟨_, vs.toArray, _, hk, rfl, rfl, rfl, by rw [List.size_toArray, lv]; exact hl, by simpa using rv⟩, fun b u z => ?_⟩, fun b u z => ?_⟩
    · by_cases q : b ∈ Bs
      · exact .inl ⟨q, (Option.some.inj ((if_pos q).symm.trans z)).symm⟩
      · cases (if_neg q).symm.trans z
    · by_cases q : b ∈ Bs
      · cases (if_pos q).symm.trans z
        exact hT b q
      · cases (if_neg q).symm.trans z
  | none =>
    refine ⟨fun b => if b ∈ Bs then some (.tbl #[]) else if b = a then some (.frz { cls := .type "list", data := .seq vs.toArray } (.lst (ns.map V.int))) else none,
      ⟨fun B hB => if_pos hB, .inl (.inr ⟨_, (if_neg ne).trans (if_pos rfl)⟩), fun b u z => ?_⟩, fun b u z => ?_⟩
    · by_cases q : b ∈ Bs
      · exact .inl ⟨q, (Option.some.inj ((if_pos q).symm.trans z)).symm⟩
      · have z2 := (if_neg q).symm.trans z
        by_cases q2 : b = a
        · exact .inr ⟨q2, hk, _, _, (Option.some.inj ((if_pos q2).symm.trans z2)).symm, ha⟩
        · cases (if_neg q2).symm.trans z2
    · by_cases q : b ∈ Bs
      · cases (if_pos q).symm.trans z
        exact hT b q
      · have z2 := (if_neg q).symm.trans z
        by_cases q2 : b = a
        · cases (if_pos q2).symm.trans z2
          rw [q2]
          exact ⟨ha, by rw [List.length_map]; exact hl, vs, _, rv, ha⟩
        · cases (if_neg q2).symm.trans z2
theorem law_end {P : Program} {w : World} {K : PySem.W.Frag} {mg mb : Str → Option Value} {k : Nat} {fa a : Addr} {Bs : List Addr} {fd : FuncData} {x : Str} {sp : Sp} {s₁ : Shared} {vs : List Value} {ns : List Int}
    (KX : K.In s₁.heap) (hns : s₁.heap.Ns mainGlobals mg) (hb : s₁.heap.Ns builtinsNs mb) (hbb : ∀ x : Str, x ≠ "__name__" → mb x = bootBuiltins x) (hlim : s₁.heap.NoLimit) (hg : s₁.gens = #[])
    (hT : ∀ B ∈ Bs, s₁.heap.get? B = some { cls := .none, data := .fields #[] }) (nT : ∀ B ∈ Bs, K.lookup B = none) (C : ∀ B ∈ Bs, ∃ c, PySem.W.CodeHd s₁.heap c B)
    (hbm : ∃ (bm : Addr) (ob : Obj), mg "__builtins__" = some (.ref bm) ∧ bm ≠ builtinsNs ∧ s₁.heap.get? bm = some ob ∧ ob.cls = .type "module" ∧ ob.dict = some builtinsNs ∧ ob.data = .plain)
    (ha : s₁.heap.get? a = some { cls := .type "list", data := .seq vs.toArray }) (hi : IntsAre vs ns) (hl : ns.length ≤ sizeLine) (hr : Room k callerA)
    (F : ∀ base : Heap, K.In base → base.Ns mainGlobals mg → (∀ B ∈ Bs, ∀ c, PySem.W.CodeHd s₁.heap c B → TabB base mg c B) → FnG P w K mg base k fa fd [x] sp) (hbind : ∀ (s : Shared) (u : Value), BindsTo s fd ⟨[u], []⟩ [(x, u)])
    (hsp : ∀ H : Hp, (∀ B ∈ Bs, H B = some (.tbl #[])) → SqL K H a (ns.map V.int) → sp [.ref a] H (fun v _ => v = .bl true) C8.E0) :
    codeAny (model P w) callerA (.call (.ref fa) ⟨[.ref a], []⟩) (fun r s' => r = .ok (.ret (.bool true)) ∧ OldK s₁.heap s'.heap ∧ s'.os = s₁.os ∧ AllBare s'.gens) s₁ := by
  obtain ⟨ne, H, ⟨hB, hS, hA⟩, hok⟩ := entry (P := P) (w := w) KX hT ha hi hl
  -- what is neither a table nor the script is untracked
  have free : ∀ {b : Addr} {o : Obj}, s₁.heap.get? b = some o → (∀ vs n, o.data ≠ .seq vs n) → o.data ≠ .fields #[] → H b = none := fun {b o} e h1 h2 => by
    cases q : H b with
    | none => rfl
    | some u =>
      rcases hA b u q with ⟨e', _⟩ | ⟨e', _⟩
      · rw [hT b e'] at e
        cases e
        exact absurd rfl h2
      · rw [e', ha] at e
        cases e
        exact absurd rfl (h1 _ _)
  have through : ∀ {b : Addr} {o : Obj}, s₁.heap.get? b = some o → H b = none → (hidT s₁.heap H).get? b = some o := fun e n => hidT_get e n
  have nsT : ∀ {b : Addr} {m : Str → Option Value}, s₁.heap.Ns b m → (hidT s₁.heap H).Ns b m := fun {b m} ⟨o, es, ep, e, d, r⟩ => by
    refine ⟨o, es, ep, through e (free e (fun vs n z => ?_) fun z => ?_), d, r⟩ <;> · rw [d] at z; cases z
  have inT : K.In (hidT s₁.heap H) := fun b o e => by
    refine through (KX b o e) ?_
    cases q : H b with
    | none => rfl
    | some u =>
      rcases hA b u q with ⟨e', _⟩ | ⟨e', n, _⟩
      · rw [nT b e'] at e; cases e
      · rw [e', n] at e; cases e
  have modT : L2.Mod K mg (hidT s₁.heap H) := by
    obtain ⟨mc, h1, h2⟩ := hlim
    exact ⟨inT, nsT hns, ⟨mb, nsT hb, hbb⟩, ⟨mc, nsT h1, h2⟩⟩
  have tabT : ∀ B ∈ Bs, ∀ c, PySem.W.CodeHd s₁.heap c B → TabB (hidT s₁.heap H) mg c B := fun B hBs c C => by
    refine ⟨?_, ?_, fun z => ?_⟩
    · obtain ⟨o, us, file, tf, flags, tg, inF, text, tt, e1, r1, r2, r3, r4⟩ := C
      refine ⟨o, us, file, tf, flags, tg, inF, text, tt, through e1 (free e1 (fun vs n z => ?_) fun z => ?_), r1, r2, r3, r4⟩
      · rw [r2] at z; cases z
      · rw [r2] at z; cases z
        simp at r3
    · obtain ⟨bm, ob, b1, b2, b3, b4, b5, b6⟩ := hbm
      refine ⟨bm, ob, b1, b2, fun q => ?_, fun q => ?_, through b3 (free b3 (fun vs n z => ?_) fun z => ?_), b4, b5, b6⟩
      · obtain ⟨o, es, ep, e, d, _⟩ := hns
        rw [q, e] at b3
        cases b3
        rw [d] at b6
        cases b6
      · rw [q, hT B hBs] at b3
        cases b3
        cases b6
      · rw [b6] at z; cases z
      · rw [b6] at z; cases z
    · obtain ⟨o, es, ep, e, d, _⟩ := hns
      rw [z, hT B hBs] at e
      cases e
      cases d
  have e0 : Env0 P w K mg (hidT s₁.heap H) callerA [] s₁ H := ⟨rfl, modT, fun b o e => of_hidT e, Nat.le_of_eq (hidT_size _ _), trivial, fun b hb => absurd (show b ∈ ([] : List Addr) from hb) (by simp), hok, .of_eq hg⟩
  refine codeAny_mono ((F _ inT (nsT hns) tabT).run callerA [] s₁ H ⟨[.ref a], []⟩ [.ref a] [.ref a] _ _ rfl hr e0 (hbind s₁ (.ref a)) (.cons rfl .nil) (hsp H hB hS)) fun r s' q => ?_
  match r, q with
  | .error e, q => exact (show False from q).elim
  | .ok .next, q => exact (show False from q).elim
  | .ok .brk, q => exact (show False from q).elim
  | .ok .cont, q => exact (show False from q).elim
  | .ok (.ret u), q =>
    obtain ⟨v, H', os, bare, un, hok', r', qv⟩ := q
    have qv' : v = .bl true := qv
    subst qv'
    obtain rfl : u = Value.bool true := r'
    have same : ∀ b o, b ∉ Bs → s₁.heap.get? b = some o → s'.heap.get? b = some o := fun b o nb e => by
      cases q : H b with
      | none => exact un.keep b o e q (by intro z; exact absurd (show b ∈ ([] : List Addr) from z) (by simp)) (by simp)
      | some u =>
        rcases hA b u q with ⟨z, _⟩ | ⟨e', _, ob, xs, rfl, hob⟩
        · exact absurd z nb
        · obtain ⟨e2, _⟩ := hok' b _ (un.frzs b ob _ q)
          rw [e', hob] at e
          cases e
          exact e2
    refine ⟨rfl, ⟨fun b o e => ?_, fun b o e => ?_⟩, os, bare⟩
    · by_cases hb : b ∈ Bs
      · obtain ⟨more, hmore⟩ := un.tbls b #[] (hB b hb)
        have atB := hok' b _ hmore
        obtain ⟨c, C⟩ := C b hb
        have hT := hT b hb
        rw [hT] at e
        cases e
        exact .inr (.inl ⟨(C.tab hT).isCodeTable, rfl, #[], _, rfl, atB⟩)
      · exact .inl (same b o hb e)
    · by_cases hb : b ∈ Bs
      · obtain ⟨more, hmore⟩ := un.tbls b #[] (hB b hb)
        exact ⟨_, hok' b _ hmore⟩
      · exact ⟨o, same b o hb e⟩
theorem tabIn_of {K : PySem.W.Frag} {x : Str} {f c B : Addr} {oc occ : Value} {od odc : Option Addr} {fd : FuncData} {sl slc : Array (Option Value)} {us : Array Value} (h1 : PySem.W.nsIn K mainGlobals x = some (some (.ref f))) (h2 : K.lookup f = some ⟨oc, od, .func fd, sl⟩) (hc : fd.code = .ref c)
    (h3 : K.lookup c = some ⟨occ, odc, .fields us, slc⟩) (h4 : us[11]? = some (.ref B)) : PySem.W.tabIn K x = some (c, B) := by
  unfold PySem.W.tabIn
  rw [h1]
  dsimp only
  rw [h2]
  dsimp only
  rw [hc]
  dsimp only
  rw [h3]
  dsimp only
  rw [h4]
/-- the walk's end, with any number of tables of code objects (tb: the def's name, its code object, its table) -/
theorem walk_endL {l : PySem.W.OpenLaw} {n k : Nat} {q : Program} {loose : List Str} {XP : (Str → Option Value) → Heap → Prop} {YP : World → Heap → Prop} {d : DefRec} {K : Params → PySem.W.Frag} {x : Str} {xts : List Str}
    (hn : l.most = some n) (hn2 : n ≤ 63) (hdf : d.params.defaults = []) (hr : Room k callerA) (hY : ∀ (w : World) (h : Heap), YP w h → (K w.params).In h) (hrec : (xts.all fun xt => ((recsOf q).find? fun e => e.name == xt).isSome) = true)
    (F : ∀ (w : World) (mg : Str → Option Value) (fa : Addr) (h : Heap), (K w.params).In h → h.Ns mainGlobals mg → mg d.name = some (.ref fa) → ∃ (fd : FuncData) (tb : List (Str × Addr × Addr)) (sp : Sp), (∀ e ∈ tb, e.1 ∈ xts ∧ PySem.W.tabIn (K w.params) e.1 = some (e.2.1, e.2.2) ∧ (K w.params).lookup e.2.2 = none) ∧ (∀ (s : Shared) (u : Value), BindsTo s fd ⟨[u], []⟩ [(x, u)]) ∧
      (∀ base : Heap, (K w.params).In base → base.Ns mainGlobals mg → (∀ e ∈ tb, TabB base mg e.2.1 e.2.2) → FnG l.prog w (K w.params) mg base k fa fd [x] sp) ∧
      ∀ (H : Hp) (a : Addr) (ns : List Int), (∀ e ∈ tb, H e.2.2 = some (.tbl #[])) → SqL (K w.params) H a (ns.map V.int) → ns.length ≤ 63 → sp [.ref a] H (fun v _ => v = .bl true) C8.E0) :
    PySem.W.WalkO q loose XP YP l.row.toRowW d [] (fun f vs => PySem.call f vs) := by
  refine Att.attach_callB hn hdf fun w s₀ s₁ mg mb fa o pm cd doc a vs ns G Y ho hd hcd hmg hobj hints hlen hbits hg => ?_
  have KX := hY w _ Y
  obtain ⟨fd, tb, sp, ht, hb, hF, hsp⟩ := F w mg fa _ KX G.T.g hmg
  have tab : ∀ e ∈ tb, PySem.W.CodeHd s₁.heap e.2.1 e.2.2 ∧ s₁.heap.get? e.2.2 = some { cls := .none, data := .fields #[] } := fun e he => by
    obtain ⟨h1, h2, h3⟩ := ht e he
    obtain ⟨dr, hdr⟩ := Option.isSome_iff_exists.mp (List.all_eq_true.mp hrec _ h1)
    exact PySem.W.tab_of G.T KX hdr h2
  have mem : ∀ {p : Addr → Prop}, (∀ e ∈ tb, p e.2.2) → ∀ b ∈ tb.map (·.2.2), p b := fun {p} h b hb => by
    obtain ⟨e, he, rfl⟩ := List.mem_map.mp hb
    exact h e he
  exact law_end (Bs := tb.map (·.2.2)) KX G.T.g G.T.b G.T.builtins G.T.nolimit hg (mem fun e he => (tab e he).2) (mem fun e he => (ht e he).2.2) (mem fun e he => ⟨_, (tab e he).1⟩) G.T.bmain hobj hints (Nat.le_trans (Nat.le_trans hlen hn2) (by decide)) hr
    (fun base kin ns' tbb => hF base kin ns' fun e he => tbb e.2.2 (List.mem_map.mpr ⟨e, he, rfl⟩) e.2.1 (tab e he).1) hb fun H hB hS => hsp H a ns (fun e he => hB e.2.2 (List.mem_map.mpr ⟨e, he, rfl⟩)) hS (Nat.le_trans hlen hn2)
end Lw
namespace Lw
open PySem PySem.Spec PyProof.Rows L2

open LamX ClX StX
set_option pp.maxSteps 900
abbrev sBsgE : Stmt := inClass (top 24) 0
theorem scBsgE : FnScope ["self", "part"] ["self", "part"] (C8.fnScope sBsgE) := C8.fnScope_by (by decide +kernel)
theorem fn_BsgE {P : Program} {w : World} {K : PySem.W.Frag} {mg : Str → Option Value} {base : Heap} {C f : Addr} {fd : FuncData} (F : C8.Fun K "__init__" "BadSetting.__init__" sBsgE f fd) (T : OexC K C) (no1 : PySem.W.findIn K (.ref C) "part" = some none) : FnOk P w K mg base C8.CX0 1 f fd ["self", "part"] (spE1 C "part") := by
  refine C8.fn0 F scBsgE (fun vs H Q E h => ?_) (fun cdv A outer st H vs Q E hr h => ?_)
  · obtain ⟨a, v1, rfl, _⟩ := h
    rfl
  · obtain ⟨a, v1, rfl, ha, k⟩ := h
    refine ⟨_, (pss_one (ps_ost (pv 0) (pv 1))), ?_⟩
    exact ⟨_, rfl, _, rfl, a, C, rfl, T, no1, .inl ⟨ha, fun dx h1 h2 => k dx h1 h2 _ (by rw [lookup_put, if_pos rfl])⟩⟩
abbrev sBcoE : Stmt := inClass (top 16) 0
theorem scBcoE : FnScope ["self", "value"] ["self", "value"] (C8.fnScope sBcoE) := C8.fnScope_by (by decide +kernel)
theorem fn_BcoE {P : Program} {w : World} {K : PySem.W.Frag} {mg : Str → Option Value} {base : Heap} {C f : Addr} {fd : FuncData} (F : C8.Fun K "__init__" "BadCost.__init__" sBcoE f fd) (T : OexC K C) (no1 : PySem.W.findIn K (.ref C) "value" = some none) : FnOk P w K mg base C8.CX0 1 f fd ["self", "value"] (spE1 C "value") := by
  refine C8.fn0 F scBcoE (fun vs H Q E h => ?_) (fun cdv A outer st H vs Q E hr h => ?_)
  · obtain ⟨a, v1, rfl, _⟩ := h
    rfl
  · obtain ⟨a, v1, rfl, ha, k⟩ := h
    refine ⟨_, (pss_one (ps_ost (pv 0) (pv 1))), ?_⟩
    exact ⟨_, rfl, _, rfl, a, C, rfl, T, no1, .inl ⟨ha, fun dx h1 h2 => k dx h1 h2 _ (by rw [lookup_put, if_pos rfl])⟩⟩
abbrev sBfeE : Stmt := inClass (top 17) 0
theorem scBfeE : FnScope ["self", "value"] ["self", "value"] (C8.fnScope sBfeE) := C8.fnScope_by (by decide +kernel)
theorem fn_BfeE {P : Program} {w : World} {K : PySem.W.Frag} {mg : Str → Option Value} {base : Heap} {C f : Addr} {fd : FuncData} (F : C8.Fun K "__init__" "BadFee.__init__" sBfeE f fd) (T : OexC K C) (no1 : PySem.W.findIn K (.ref C) "value" = some none) : FnOk P w K mg base C8.CX0 1 f fd ["self", "value"] (spE1 C "value") := by
  refine C8.fn0 F scBfeE (fun vs H Q E h => ?_) (fun cdv A outer st H vs Q E hr h => ?_)
  · obtain ⟨a, v1, rfl, _⟩ := h
    rfl
  · obtain ⟨a, v1, rfl, ha, k⟩ := h
    refine ⟨_, (pss_one (ps_ost (pv 0) (pv 1))), ?_⟩
    exact ⟨_, rfl, _, rfl, a, C, rfl, T, no1, .inl ⟨ha, fun dx h1 h2 => k dx h1 h2 _ (by rw [lookup_put, if_pos rfl])⟩⟩
abbrev sBreE : Stmt := inClass (top 21) 0
theorem scBreE : FnScope ["self", "value"] ["self", "value"] (C8.fnScope sBreE) := C8.fnScope_by (by decide +kernel)
theorem fn_BreE {P : Program} {w : World} {K : PySem.W.Frag} {mg : Str → Option Value} {base : Heap} {C f : Addr} {fd : FuncData} (F : C8.Fun K "__init__" "BadRest.__init__" sBreE f fd) (T : OexC K C) (no1 : PySem.W.findIn K (.ref C) "value" = some none) : FnOk P w K mg base C8.CX0 1 f fd ["self", "value"] (spE1 C "value") := by
  refine C8.fn0 F scBreE (fun vs H Q E h => ?_) (fun cdv A outer st H vs Q E hr h => ?_)
  · obtain ⟨a, v1, rfl, _⟩ := h
    rfl
  · obtain ⟨a, v1, rfl, ha, k⟩ := h
    refine ⟨_, (pss_one (ps_ost (pv 0) (pv 1))), ?_⟩
    exact ⟨_, rfl, _, rfl, a, C, rfl, T, no1, .inl ⟨ha, fun dx h1 h2 => k dx h1 h2 _ (by rw [lookup_put, if_pos rfl])⟩⟩
abbrev sBliE : Stmt := inClass (top 19) 0
theorem scBliE : FnScope ["self", "value"] ["self", "value"] (C8.fnScope sBliE) := C8.fnScope_by (by decide +kernel)
theorem fn_BliE {P : Program} {w : World} {K : PySem.W.Frag} {mg : Str → Option Value} {base : Heap} {C f : Addr} {fd : FuncData} (F : C8.Fun K "__init__" "BadLimit.__init__" sBliE f fd) (T : OexC K C) (no1 : PySem.W.findIn K (.ref C) "value" = some none) : FnOk P w K mg base C8.CX0 1 f fd ["self", "value"] (spE1 C "value") := by
  refine C8.fn0 F scBliE (fun vs H Q E h => ?_) (fun cdv A outer st H vs Q E hr h => ?_)
  · obtain ⟨a, v1, rfl, _⟩ := h
    rfl
  · obtain ⟨a, v1, rfl, ha, k⟩ := h
    refine ⟨_, (pss_one (ps_ost (pv 0) (pv 1))), ?_⟩
    exact ⟨_, rfl, _, rfl, a, C, rfl, T, no1, .inl ⟨ha, fun dx h1 h2 => k dx h1 h2 _ (by rw [lookup_put, if_pos rfl])⟩⟩

theorem all_known {l : PySem.W.OpenLaw} {w : World} {K : PySem.W.Frag} {h : Heap} {mg : Str → Option Value} {fa : Addr} (X : K.In h) (G : h.Ns mainGlobals mg) (hfa : mg "law" = some (.ref fa))
    {fii : Addr} {ocii kVii dcii pmii ctii cdii : Value} {odii anii : Option Addr} {slii : Array (Option Value)}
    {fiw : Addr} {ociw kViw dciw pmiw ctiw cdiw : Value} {odiw aniw : Option Addr} {sliw : Array (Option Value)}
    {fiz : Addr} {ociz kViz dciz pmiz ctiz cdiz : Value} {odiz aniz : Option Addr} {sliz : Array (Option Value)}
    {fin : Addr} {ocin kVin dcin pmin ctin cdin : Value} {odin anin : Option Addr} {slin : Array (Option Value)}
    {fis : Addr} {ocis kVis dcis pmis ctis cdis : Value} {odis anis : Option Addr} {slis : Array (Option Value)}
    {fck : Addr} {occk kVck dcck pmck ctck cdck : Value} {odck anck : Option Addr} {slck : Array (Option Value)}
    {fnu : Addr} {ocnu kVnu dcnu pmnu ctnu cdnu : Value} {odnu annu : Option Addr} {slnu : Array (Option Value)}
    {fcm : Addr} {occm kVcm dccm pmcm ctcm cdcm : Value} {odcm ancm : Option Addr} {slcm : Array (Option Value)}
    {fct : Addr} {occt kVct dcct pmct ctct cdct : Value} {odct anct : Option Addr} {slct : Array (Option Value)}
    {fsp : Addr} {ocsp kVsp dcsp pmsp ctsp cdsp : Value} {odsp ansp : Option Addr} {slsp : Array (Option Value)}
    {fks : Addr} {ocks kVks dcks pmks ctks cdks : Value} {odks anks : Option Addr} {slks : Array (Option Value)}
    {fku : Addr} {ocku kVku dcku pmku ctku cdku : Value} {odku anku : Option Addr} {slku : Array (Option Value)}
    {fbb : Addr} {ocbb kVbb dcbb pmbb ctbb cdbb : Value} {odbb anbb : Option Addr} {slbb : Array (Option Value)}
    {fbo : Addr} {ocbo kVbo dcbo pmbo ctbo cdbo : Value} {odbo anbo : Option Addr} {slbo : Array (Option Value)}
    {fgl : Addr} {ocgl kVgl dcgl pmgl ctgl cdgl : Value} {odgl angl : Option Addr} {slgl : Array (Option Value)}
    {fka : Addr} {ocka kVka dcka pmka ctka cdka : Value} {odka anka : Option Addr} {slka : Array (Option Value)}
    {fgr : Addr} {ocgr kVgr dcgr pmgr ctgr cdgr : Value} {odgr angr : Option Addr} {slgr : Array (Option Value)}
    {fcb : Addr} {occb kVcb dccb pmcb ctcb cdcb : Value} {odcb ancb : Option Addr} {slcb : Array (Option Value)}
    {ffw : Addr} {ocfw kVfw dcfw pmfw ctfw cdfw : Value} {odfw anfw : Option Addr} {slfw : Array (Option Value)}
    {flp : Addr} {oclp kVlp dclp pmlp ctlp cdlp : Value} {odlp anlp : Option Addr} {sllp : Array (Option Value)}
    {fld : Addr} {ocld kVld dcld pmld ctld cdld : Value} {odld anld : Option Addr} {slld : Array (Option Value)}
    {flk : Addr} {oclk kVlk dclk pmlk ctlk cdlk : Value} {odlk anlk : Option Addr} {sllk : Array (Option Value)}
    {flq : Addr} {oclq kVlq dclq pmlq ctlq cdlq : Value} {odlq anlq : Option Addr} {sllq : Array (Option Value)}
    {flv : Addr} {oclv kVlv dclv pmlv ctlv cdlv : Value} {odlv anlv : Option Addr} {sllv : Array (Option Value)}
    {flw : Addr} {oclw kVlw dclw pmlw ctlw cdlw : Value} {odlw anlw : Option Addr} {sllw : Array (Option Value)}
    {flt : Addr} {oclt kVlt dclt pmlt ctlt cdlt : Value} {odlt anlt : Option Addr} {sllt : Array (Option Value)}
    {flu : Addr} {oclu kVlu dclu pmlu ctlu cdlu : Value} {odlu anlu : Option Addr} {sllu : Array (Option Value)}
    {fle : Addr} {ocle kVle dcle pmle ctle cdle : Value} {odle anle : Option Addr} {slle : Array (Option Value)}
    {flx : Addr} {oclx kVlx dclx pmlx ctlx cdlx : Value} {odlx anlx : Option Addr} {sllx : Array (Option Value)}
    {fly : Addr} {ocly kVly dcly pmly ctly cdly : Value} {odly anly : Option Addr} {slly : Array (Option Value)}
    {flb : Addr} {oclb kVlb dclb pmlb ctlb cdlb : Value} {odlb anlb : Option Addr} {sllb : Array (Option Value)}
    {flr : Addr} {oclr kVlr dclr pmlr ctlr cdlr : Value} {odlr anlr : Option Addr} {sllr : Array (Option Value)}
    {fla : Addr} {ocla kVla dcla pmla ctla cdla : Value} {odla anla : Option Addr} {slla : Array (Option Value)}
    {HC : Addr} {mcHC : Value}
    {tM : Tok} {vM : Int}
    {fhi : Addr} {ochi kVhi dchi pmhi cthi cdhi : Value} {odhi anhi : Option Addr} {slhi : Array (Option Value)}
    {fho : Addr} {ocho kVho dcho pmho ctho cdho : Value} {odho anho : Option Addr} {slho : Array (Option Value)}
    {pho : Addr} {rsho : List Value}
    {CC : Addr} {mcCC : Value}
    {fci : Addr} {occi kVci dcci pmci ctci cdci : Value} {odci anci : Option Addr} {slci : Array (Option Value)}
    {fco : Addr} {occo kVco dcco pmco ctco cdco : Value} {odco anco : Option Addr} {slco : Array (Option Value)}
    {pco : Addr} {rsco : List Value}
    {CS : Addr}
    {fsi : Addr} {ocsi kVsi dcsi pmsi ctsi cdsi : Value} {odsi ansi : Option Addr} {slsi : Array (Option Value)}
    {Tdsi : Addr} {ocDsi : Value} {odDsi : Option Addr} {slDsi : Array (Option Value)} {nDsi : Nat} {tDsi_0 tDsi_1 tDsi_2 : Tok}
    {fsl : Addr} {ocsl kVsl dcsl pmsl ctsl cdsl : Value} {odsl ansl : Option Addr} {slsl : Array (Option Value)}
    {FC : Addr}
    {ffi : Addr} {ocfi kVfi dcfi pmfi ctfi cdfi : Value} {odfi anfi : Option Addr} {slfi : Array (Option Value)}
    {NC : Addr}
    {fni : Addr} {ocni kVni dcni pmni ctni cdni : Value} {odni anni : Option Addr} {slni : Array (Option Value)}
    {RC : Addr} {mcRC : Value}
    {fqi : Addr} {ocqi kVqi dcqi pmqi ctqi cdqi : Value} {odqi anqi : Option Addr} {slqi : Array (Option Value)}
    {Tdqi : Addr} {ocDqi : Value} {odDqi : Option Addr} {slDqi : Array (Option Value)} {nDqi : Nat} {tDqi_0 : Tok}
    {fqo : Addr} {ocqo kVqo dcqo pmqo ctqo cdqo : Value} {odqo anqo : Option Addr} {slqo : Array (Option Value)}
    {pqo : Addr} {rsqo : List Value}
    {DG fEg : Addr} {ocEg kVEg dcEg pmEg cdEg ctEg : Value} {odEg anEg : Option Addr} {slEg : Array (Option Value)} {nmDg qDg : Str} {NDg : Addr} {bsDg bmDg : List Value} {snDg : List Str} {subDg : List Value} {abDg : Bool} {colDg : Option Bool} {ddDg : Option Addr} {e0g e1g e2g e3g e5g : Option Value}
    {DO fEo : Addr} {ocEo kVEo dcEo pmEo cdEo ctEo : Value} {odEo anEo : Option Addr} {slEo : Array (Option Value)} {nmDo qDo : Str} {NDo : Addr} {bsDo bmDo : List Value} {snDo : List Str} {subDo : List Value} {abDo : Bool} {colDo : Option Bool} {ddDo : Option Addr} {e0o e1o e2o e3o e5o : Option Value}
    {DF fEf : Addr} {ocEf kVEf dcEf pmEf cdEf ctEf : Value} {odEf anEf : Option Addr} {slEf : Array (Option Value)} {nmDf qDf : Str} {NDf : Addr} {bsDf bmDf : List Value} {snDf : List Str} {subDf : List Value} {abDf : Bool} {colDf : Option Bool} {ddDf : Option Addr} {e0f e1f e2f e3f e5f : Option Value}
    {DR fEr : Addr} {ocEr kVEr dcEr pmEr cdEr ctEr : Value} {odEr anEr : Option Addr} {slEr : Array (Option Value)} {nmDr qDr : Str} {NDr : Addr} {bsDr bmDr : List Value} {snDr : List Str} {subDr : List Value} {abDr : Bool} {colDr : Option Bool} {ddDr : Option Addr} {e0r e1r e2r e3r e5r : Option Value}
    {DL fEl : Addr} {ocEl kVEl dcEl pmEl cdEl ctEl : Value} {odEl anEl : Option Addr} {slEl : Array (Option Value)} {nmDl qDl : Str} {NDl : Addr} {bsDl bmDl : List Value} {snDl : List Str} {subDl : List Value} {abDl : Bool} {colDl : Option Bool} {ddDl : Option Addr} {e0l e1l e2l e3l e5l : Option Value}
    {DH fEh : Addr} {ocEh kVEh dcEh pmEh cdEh ctEh : Value} {odEh anEh : Option Addr} {slEh : Array (Option Value)} {nmDh qDh : Str} {NDh : Addr} {bsDh bmDh : List Value} {snDh : List Str} {subDh : List Value} {abDh : Bool} {colDh : Option Bool} {ddDh : Option Addr} {e0h e1h e2h e3h e5h : Option Value}
    {DZ fEz : Addr} {ocEz kVEz dcEz pmEz cdEz ctEz : Value} {odEz anEz : Option Addr} {slEz : Array (Option Value)} {nmDz qDz : Str} {NDz : Addr} {bsDz bmDz : List Value} {snDz : List Str} {subDz : List Value} {abDz : Bool} {colDz : Option Bool} {ddDz : Option Addr} {e0z e1z e2z e3z e5z : Option Value}
    {DT fEt : Addr} {ocEt kVEt dcEt pmEt cdEt ctEt : Value} {odEt anEt : Option Addr} {slEt : Array (Option Value)} {nmDt qDt : Str} {NDt : Addr} {bsDt bmDt : List Value} {snDt : List Str} {subDt : List Value} {abDt : Bool} {colDt : Option Bool} {ddDt : Option Addr} {e0t e1t e2t e3t e5t : Option Value}
    {DQ fEc : Addr} {ocEc kVEc dcEc pmEc cdEc ctEc : Value} {odEc anEc : Option Addr} {slEc : Array (Option Value)} {nmDc qDc : Str} {NDc : Addr} {bsDc bmDc : List Value} {snDc : List Str} {subDc : List Value} {abDc : Bool} {colDc : Option Bool} {ddDc : Option Addr} {e0c e1c e2c e3c e5c : Option Value}
    {DN fEn : Addr} {ocEn kVEn dcEn pmEn cdEn ctEn : Value} {odEn anEn : Option Addr} {slEn : Array (Option Value)} {nmDn qDn : Str} {NDn : Addr} {bsDn bmDn : List Value} {snDn : List Str} {subDn : List Value} {abDn : Bool} {colDn : Option Bool} {ddDn : Option Addr} {e0n e1n e2n e3n e5n : Option Value}
    {DD fEs : Addr} {ocEs kVEs dcEs pmEs cdEs ctEs : Value} {odEs anEs : Option Addr} {slEs : Array (Option Value)} {nmDs qDs : Str} {NDs : Addr} {bsDs bmDs : List Value} {snDs : List Str} {subDs : List Value} {abDs : Bool} {colDs : Option Bool} {ddDs : Option Addr} {e0s e1s e2s e3s e5s : Option Value}
    {DM fEm : Addr} {ocEm kVEm dcEm pmEm cdEm ctEm : Value} {odEm anEm : Option Addr} {slEm : Array (Option Value)} {nmDm qDm : Str} {NDm : Addr} {bsDm bmDm : List Value} {snDm : List Str} {subDm : List Value} {abDm : Bool} {colDm : Option Bool} {ddDm : Option Addr} {e0m e1m e2m e3m e5m : Option Value}
    {tMW : Tok} {vMW : Int}
    {tGP : Tok} {vGP : Int}
    {tLN : Tok} {vLN : Int}
    {tGC : Tok} {vGC : Int}
    {tGF : Tok} {vGF : Int}
    {tGS : Tok} {vGS : Int}
    {zE : Str} {tE : Tok} {aW : Addr} {odW : Option Addr} {wsW : Array Value} {nW : Nat} {slW : Array (Option Value)}
    (aii : PySem.W.nsIn K mainGlobals "is_integer" = some (some (.ref fii)))
    (lii : K.lookup fii = some ⟨ocii, odii, .func (PySem.W.fnOf "is_integer" "is_integer" (C8.fnArgs sIsInt) (C8.fnBody sIsInt) (C8.fnScope sIsInt) .none kVii dcii pmii anii cdii ctii), slii⟩)
    (cii : PySem.W.codeIn K cdii "is_integer" = true)
    (kii : PySem.W.keepIn K (.ref fii) = true)
    (aiw : PySem.W.nsIn K mainGlobals "is_within" = some (some (.ref fiw)))
    (liw : K.lookup fiw = some ⟨ociw, odiw, .func (PySem.W.fnOf "is_within" "is_within" (C8.fnArgs sWithin) (C8.fnBody sWithin) (C8.fnScope sWithin) .none kViw dciw pmiw aniw cdiw ctiw), sliw⟩)
    (ciw : PySem.W.codeIn K cdiw "is_within" = true)
    (kiw : PySem.W.keepIn K (.ref fiw) = true)
    (aiz : PySem.W.nsIn K mainGlobals "is_size" = some (some (.ref fiz)))
    (liz : K.lookup fiz = some ⟨ociz, odiz, .func (PySem.W.fnOf "is_size" "is_size" (C8.fnArgs sSize) (C8.fnBody sSize) (C8.fnScope sSize) .none kViz dciz pmiz aniz cdiz ctiz), sliz⟩)
    (ciz : PySem.W.codeIn K cdiz "is_size" = true)
    (kiz : PySem.W.keepIn K (.ref fiz) = true)
    (ain : PySem.W.nsIn K mainGlobals "is_name" = some (some (.ref fin)))
    (lin : K.lookup fin = some ⟨ocin, odin, .func (PySem.W.fnOf "is_name" "is_name" (C8.fnArgs sIsName) (C8.fnBody sIsName) (C8.fnScope sIsName) .none kVin dcin pmin anin cdin ctin), slin⟩)
    (cin : PySem.W.codeIn K cdin "is_name" = true)
    (kin : PySem.W.keepIn K (.ref fin) = true)
    (ais : PySem.W.nsIn K mainGlobals "is_speed" = some (some (.ref fis)))
    (lis : K.lookup fis = some ⟨ocis, odis, .func (PySem.W.fnOf "is_speed" "is_speed" (C8.fnArgs sIsp) (C8.fnBody sIsp) (C8.fnScope sIsp) .none kVis dcis pmis anis cdis ctis), slis⟩)
    (cis : PySem.W.codeIn K cdis "is_speed" = true)
    (kis : PySem.W.keepIn K (.ref fis) = true)
    (ack : PySem.W.nsIn K mainGlobals "check_speeds" = some (some (.ref fck)))
    (lck : K.lookup fck = some ⟨occk, odck, .func (PySem.W.fnOf "check_speeds" "check_speeds" (C8.fnArgs sChk) (C8.fnBody sChk) (C8.fnScope sChk) .none kVck dcck pmck anck cdck ctck), slck⟩)
    (cck : PySem.W.codeIn K cdck "check_speeds" = true)
    (kck : PySem.W.keepIn K (.ref fck) = true)
    (anu : PySem.W.nsIn K mainGlobals "is_number" = some (some (.ref fnu)))
    (lnu : K.lookup fnu = some ⟨ocnu, odnu, .func (PySem.W.fnOf "is_number" "is_number" (C8.fnArgs sNum) (C8.fnBody sNum) (C8.fnScope sNum) .none kVnu dcnu pmnu annu cdnu ctnu), slnu⟩)
    (cnu : PySem.W.codeIn K cdnu "is_number" = true)
    (knu : PySem.W.keepIn K (.ref fnu) = true)
    (acm : PySem.W.nsIn K mainGlobals "check_many" = some (some (.ref fcm)))
    (lcm : K.lookup fcm = some ⟨occm, odcm, .func (PySem.W.fnOf "check_many" "check_many" (C8.fnArgs sCM) (C8.fnBody sCM) (C8.fnScope sCM) .none kVcm dccm pmcm ancm cdcm ctcm), slcm⟩)
    (ccm : PySem.W.codeIn K cdcm "check_many" = true)
    (kcm : PySem.W.keepIn K (.ref fcm) = true)
    (act : PySem.W.nsIn K mainGlobals "check_total" = some (some (.ref fct)))
    (lct : K.lookup fct = some ⟨occt, odct, .func (PySem.W.fnOf "check_total" "check_total" (C8.fnArgs sCtt) (C8.fnBody sCtt) (C8.fnScope sCtt) .none kVct dcct pmct anct cdct ctct), slct⟩)
    (cct : PySem.W.codeIn K cdct "check_total" = true)
    (kct : PySem.W.keepIn K (.ref fct) = true)
    (asp : PySem.W.nsIn K mainGlobals "check_spot" = some (some (.ref fsp)))
    (lsp : K.lookup fsp = some ⟨ocsp, odsp, .func (PySem.W.fnOf "check_spot" "check_spot" (C8.fnArgs sSpo) (C8.fnBody sSpo) (C8.fnScope sSpo) .none kVsp dcsp pmsp ansp cdsp ctsp), slsp⟩)
    (csp : PySem.W.codeIn K cdsp "check_spot" = true)
    (ksp : PySem.W.keepIn K (.ref fsp) = true)
    (aks : PySem.W.nsIn K mainGlobals "check_setting" = some (some (.ref fks)))
    (lks : K.lookup fks = some ⟨ocks, odks, .func (PySem.W.fnOf "check_setting" "check_setting" (C8.fnArgs sCks) (C8.fnBody sCks) (C8.fnScope sCks) .none kVks dcks pmks anks cdks ctks), slks⟩)
    (cks : PySem.W.codeIn K cdks "check_setting" = true)
    (kks : PySem.W.keepIn K (.ref fks) = true)
    (aku : PySem.W.nsIn K mainGlobals "check_limit" = some (some (.ref fku)))
    (lku : K.lookup fku = some ⟨ocku, odku, .func (PySem.W.fnOf "check_limit" "check_limit" (C8.fnArgs sCli) (C8.fnBody sCli) (C8.fnScope sCli) .none kVku dcku pmku anku cdku ctku), slku⟩)
    (cku : PySem.W.codeIn K cdku "check_limit" = true)
    (kku : PySem.W.keepIn K (.ref fku) = true)
    (abb : PySem.W.nsIn K mainGlobals "bound_by" = some (some (.ref fbb)))
    (lbb : K.lookup fbb = some ⟨ocbb, odbb, .func (PySem.W.fnOf "bound_by" "bound_by" (C8.fnArgs sBby) (C8.fnBody sBby) (C8.fnScope sBby) .none kVbb dcbb pmbb anbb cdbb ctbb), slbb⟩)
    (cbb : PySem.W.codeIn K cdbb "bound_by" = true)
    (kbb : PySem.W.keepIn K (.ref fbb) = true)
    (abo : PySem.W.nsIn K mainGlobals "bounds_of" = some (some (.ref fbo)))
    (lbo : K.lookup fbo = some ⟨ocbo, odbo, .func (PySem.W.fnOf "bounds_of" "bounds_of" (C8.fnArgs sBof) (C8.fnBody sBof) (C8.fnScope sBof) .none kVbo dcbo pmbo anbo cdbo ctbo), slbo⟩)
    (cbo : PySem.W.codeIn K cdbo "bounds_of" = true)
    (kbo : PySem.W.keepIn K (.ref fbo) = true)
    (agl : PySem.W.nsIn K mainGlobals "greatest_let" = some (some (.ref fgl)))
    (lgl : K.lookup fgl = some ⟨ocgl, odgl, .func (PySem.W.fnOf "greatest_let" "greatest_let" (C8.fnArgs sGlt) (C8.fnBody sGlt) (C8.fnScope sGlt) .none kVgl dcgl pmgl angl cdgl ctgl), slgl⟩)
    (cgl : PySem.W.codeIn K cdgl "greatest_let" = true)
    (kgl : PySem.W.keepIn K (.ref fgl) = true)
    (aka : PySem.W.nsIn K mainGlobals "check_asked" = some (some (.ref fka)))
    (lka : K.lookup fka = some ⟨ocka, odka, .func (PySem.W.fnOf "check_asked" "check_asked" (C8.fnArgs sCka) (C8.fnBody sCka) (C8.fnScope sCka) .none kVka dcka pmka anka cdka ctka), slka⟩)
    (cka : PySem.W.codeIn K cdka "check_asked" = true)
    (kka : PySem.W.keepIn K (.ref fka) = true)
    (agr : PySem.W.nsIn K mainGlobals "greedy_rests" = some (some (.ref fgr)))
    (lgr : K.lookup fgr = some ⟨ocgr, odgr, .func (PySem.W.fnOf "greedy_rests" "greedy_rests" (C8.fnArgs sGrd) (C8.fnBody sGrd) (C8.fnScope sGrd) .none kVgr dcgr pmgr angr cdgr ctgr), slgr⟩)
    (cgr : PySem.W.codeIn K cdgr "greedy_rests" = true)
    (kgr : PySem.W.keepIn K (.ref fgr) = true)
    (acb : PySem.W.nsIn K mainGlobals "chunks_between" = some (some (.ref fcb)))
    (lcb : K.lookup fcb = some ⟨occb, odcb, .func (PySem.W.fnOf "chunks_between" "chunks_between" (C8.fnArgs sCbt) (C8.fnBody sCbt) (C8.fnScope sCbt) .none kVcb dccb pmcb ancb cdcb ctcb), slcb⟩)
    (ccb : PySem.W.codeIn K cdcb "chunks_between" = true)
    (kcb : PySem.W.keepIn K (.ref fcb) = true)
    (afw : PySem.W.nsIn K mainGlobals "fewest" = some (some (.ref ffw)))
    (lfw : K.lookup ffw = some ⟨ocfw, odfw, .func (PySem.W.fnOf "fewest" "fewest" (C8.fnArgs sFew) (C8.fnBody sFew) (C8.fnScope sFew) .none kVfw dcfw pmfw anfw cdfw ctfw), slfw⟩)
    (cfw : PySem.W.codeIn K cdfw "fewest" = true)
    (kfw : PySem.W.keepIn K (.ref ffw) = true)
    (alp : PySem.W.nsIn K mainGlobals "_law_pen" = some (some (.ref flp)))
    (llp : K.lookup flp = some ⟨oclp, odlp, .func (PySem.W.fnOf "_law_pen" "_law_pen" (C8.fnArgs sPen) (C8.fnBody sPen) (C8.fnScope sPen) .none kVlp dclp pmlp anlp cdlp ctlp), sllp⟩)
    (clp : PySem.W.codeIn K cdlp "_law_pen" = true)
    (klp : PySem.W.keepIn K (.ref flp) = true)
    (ald : PySem.W.nsIn K mainGlobals "_law_draw" = some (some (.ref fld)))
    (lld : K.lookup fld = some ⟨ocld, odld, .func (PySem.W.fnOf "_law_draw" "_law_draw" (C8.fnArgs sDraw) (C8.fnBody sDraw) (C8.fnScope sDraw) .none kVld dcld pmld anld cdld ctld), slld⟩)
    (cld : PySem.W.codeIn K cdld "_law_draw" = true)
    (kld : PySem.W.keepIn K (.ref fld) = true)
    (alk : PySem.W.nsIn K mainGlobals "_law_pick" = some (some (.ref flk)))
    (llk : K.lookup flk = some ⟨oclk, odlk, .func (PySem.W.fnOf "_law_pick" "_law_pick" (C8.fnArgs sPick) (C8.fnBody sPick) (C8.fnScope sPick) .none kVlk dclk pmlk anlk cdlk ctlk), sllk⟩)
    (clk : PySem.W.codeIn K cdlk "_law_pick" = true)
    (klk : PySem.W.keepIn K (.ref flk) = true)
    (alq : PySem.W.nsIn K mainGlobals "_law_drawn_plan" = some (some (.ref flq)))
    (llq : K.lookup flq = some ⟨oclq, odlq, .func (PySem.W.fnOf "_law_drawn_plan" "_law_drawn_plan" (C8.fnArgs sLdp) (C8.fnBody sLdp) (C8.fnScope sLdp) .none kVlq dclq pmlq anlq cdlq ctlq), sllq⟩)
    (clq : PySem.W.codeIn K cdlq "_law_drawn_plan" = true)
    (klq : PySem.W.keepIn K (.ref flq) = true)
    (alv : PySem.W.nsIn K mainGlobals "_law_setting" = some (some (.ref flv)))
    (llv : K.lookup flv = some ⟨oclv, odlv, .func (PySem.W.fnOf "_law_setting" "_law_setting" (C8.fnArgs sLse) (C8.fnBody sLse) (C8.fnScope sLse) .none kVlv dclv pmlv anlv cdlv ctlv), sllv⟩)
    (clv : PySem.W.codeIn K cdlv "_law_setting" = true)
    (klv : PySem.W.keepIn K (.ref flv) = true)
    (alw : PySem.W.nsIn K mainGlobals "_law_three" = some (some (.ref flw)))
    (llw : K.lookup flw = some ⟨oclw, odlw, .func (PySem.W.fnOf "_law_three" "_law_three" (C8.fnArgs sLth) (C8.fnBody sLth) (C8.fnScope sLth) .none kVlw dclw pmlw anlw cdlw ctlw), sllw⟩)
    (clw : PySem.W.codeIn K cdlw "_law_three" = true)
    (klw : PySem.W.keepIn K (.ref flw) = true)
    (alt : PySem.W.nsIn K mainGlobals "_law_late" = some (some (.ref flt)))
    (llt : K.lookup flt = some ⟨oclt, odlt, .func (PySem.W.fnOf "_law_late" "_law_late" (C8.fnArgs sLla) (C8.fnBody sLla) (C8.fnScope sLla) .none kVlt dclt pmlt anlt cdlt ctlt), sllt⟩)
    (clt : PySem.W.codeIn K cdlt "_law_late" = true)
    (klt : PySem.W.keepIn K (.ref flt) = true)
    (alu : PySem.W.nsIn K mainGlobals "_law_under" = some (some (.ref flu)))
    (llu : K.lookup flu = some ⟨oclu, odlu, .func (PySem.W.fnOf "_law_under" "_law_under" (C8.fnArgs sLun) (C8.fnBody sLun) (C8.fnScope sLun) .none kVlu dclu pmlu anlu cdlu ctlu), sllu⟩)
    (clu : PySem.W.codeIn K cdlu "_law_under" = true)
    (klu : PySem.W.keepIn K (.ref flu) = true)
    (ale : PySem.W.nsIn K mainGlobals "_law_is_let" = some (some (.ref fle)))
    (lle : K.lookup fle = some ⟨ocle, odle, .func (PySem.W.fnOf "_law_is_let" "_law_is_let" (C8.fnArgs sIlt) (C8.fnBody sIlt) (C8.fnScope sIlt) .none kVle dcle pmle anle cdle ctle), slle⟩)
    (cle : PySem.W.codeIn K cdle "_law_is_let" = true)
    (kle : PySem.W.keepIn K (.ref fle) = true)
    (alx : PySem.W.nsIn K mainGlobals "_law_limit" = some (some (.ref flx)))
    (llx : K.lookup flx = some ⟨oclx, odlx, .func (PySem.W.fnOf "_law_limit" "_law_limit" (C8.fnArgs sLli) (C8.fnBody sLli) (C8.fnScope sLli) .none kVlx dclx pmlx anlx cdlx ctlx), sllx⟩)
    (clx : PySem.W.codeIn K cdlx "_law_limit" = true)
    (klx : PySem.W.keepIn K (.ref flx) = true)
    (aly : PySem.W.nsIn K mainGlobals "_law_limit_of" = some (some (.ref fly)))
    (lly : K.lookup fly = some ⟨ocly, odly, .func (PySem.W.fnOf "_law_limit_of" "_law_limit_of" (C8.fnArgs sLlo) (C8.fnBody sLlo) (C8.fnScope sLlo) .none kVly dcly pmly anly cdly ctly), slly⟩)
    (cly : PySem.W.codeIn K cdly "_law_limit_of" = true)
    (kly : PySem.W.keepIn K (.ref fly) = true)
    (alb : PySem.W.nsIn K mainGlobals "_law_behind" = some (some (.ref flb)))
    (llb : K.lookup flb = some ⟨oclb, odlb, .func (PySem.W.fnOf "_law_behind" "_law_behind" (C8.fnArgs sBhd) (C8.fnBody sBhd) (C8.fnScope sBhd) .none kVlb dclb pmlb anlb cdlb ctlb), sllb⟩)
    (clb : PySem.W.codeIn K cdlb "_law_behind" = true)
    (klb : PySem.W.keepIn K (.ref flb) = true)
    (alr : PySem.W.nsIn K mainGlobals "_law_right" = some (some (.ref flr)))
    (llr : K.lookup flr = some ⟨oclr, odlr, .func (PySem.W.fnOf "_law_right" "_law_right" (C8.fnArgs sRig) (C8.fnBody sRig) (C8.fnScope sRig) .none kVlr dclr pmlr anlr cdlr ctlr), sllr⟩)
    (clr : PySem.W.codeIn K cdlr "_law_right" = true)
    (klr : PySem.W.keepIn K (.ref flr) = true)
    (ala : PySem.W.nsIn K mainGlobals "law" = some (some (.ref fla)))
    (lla : K.lookup fla = some ⟨ocla, odla, .func (PySem.W.fnOf "law" "law" (C8.fnArgs sLaw) (C8.fnBody sLaw) (C8.fnScope sLaw) .none kVla dcla pmla anla cdla ctla), slla⟩)
    (cla : PySem.W.codeIn K cdla "law" = true)
    (kla : PySem.W.keepIn K (.ref fla) = true)
    (aHC : PySem.W.nsIn K mainGlobals "Chunks" = some (some (.ref HC)))
    (sTHC : PySem.W.typeIn K (.ref HC) = some mcHC)
    (sRHC : PySem.W.readsIn K HC mcHC = true)
    (sGHC : PySem.W.specialIn K (.ref HC) "__getattribute__" = some (some (.builtin "type.__getattribute__")))
    (pgHC : PySem.W.plainGet K HC Str.empty = true)
    (hdHC : PySem.W.hasDictIn K HC = true)
    (poHC : PySem.W.plainOver K HC = true)
    (saHC : PySem.W.findIn K (.ref HC) "__setattr__" = some (some (.builtin "object.__setattr__")))
    (mkHC : PySem.W.makesIn K HC = true)
    (kCHC : PySem.W.keepIn K (.ref HC) = true)
    (noHC_sizes : PySem.W.findIn K (.ref HC) "sizes" = some none)
    (noHC_total : PySem.W.findIn K (.ref HC) "total" = some none)
    (noHC_ends : PySem.W.findIn K (.ref HC) "ends" = some none)
    (noHC_rests : PySem.W.findIn K (.ref HC) "rests" = some none)
    (hCHC : PySem.W.findIn K (.ref HC) "__class__" = some (some (.builtin "object.__class__")))
    (hMHC : PySem.W.mroIn K HC (.type "object") = some true)
    (hG : PySem.W.specialIn K (.builtin "object.__class__") "__get__" = some (some (.builtin "getset_descriptor.__get__")))
    (hK : PySem.W.takesIn K (.builtin "object.__class__") = some true)
    (cM : PySem.W.findCls K (.ref HC) mcHC "MOST" = some (.val (.int vM tM)))
    (eM : vM = 5000)
    (ahi : PySem.W.findIn K (.ref HC) "__init__" = some (some (.ref fhi)))
    (ihi : PySem.W.isFn K (.ref fhi) = true)
    (lhi : K.lookup fhi = some ⟨ochi, odhi, .func (PySem.W.fnOf "__init__" "Chunks.__init__" (C8.fnArgs sCI) (C8.fnBody sCI) (C8.fnScope sCI) .none kVhi dchi pmhi anhi cdhi cthi), slhi⟩)
    (chi : PySem.W.codeIn K cdhi "Chunks.__init__" = true)
    (khi : PySem.W.keepIn K (.ref fhi) = true)
    (lho : K.lookup fho = some ⟨ocho, odho, .func (PySem.W.fnOf "of" "Chunks.of" (C8.fnArgs sHof) (C8.fnBody sHof) (C8.fnScope sHof) .none kVho dcho pmho anho cdho ctho), slho⟩)
    (cho : PySem.W.codeIn K cdho "Chunks.of" = true)
    (kho : PySem.W.keepIn K (.ref fho) = true)
    (sho : PySem.W.findCls K (.ref HC) mcHC "of" = some (.get (.builtin "staticmethod.__get__") (.ref pho) .none (.ref HC)))
    (rho : PySem.W.recIn K pho "staticmethod" = some (.ref fho :: rsho))
    (aCC : PySem.W.nsIn K mainGlobals "Crew" = some (some (.ref CC)))
    (sTCC : PySem.W.typeIn K (.ref CC) = some mcCC)
    (sRCC : PySem.W.readsIn K CC mcCC = true)
    (sGCC : PySem.W.specialIn K (.ref CC) "__getattribute__" = some (some (.builtin "type.__getattribute__")))
    (pgCC : PySem.W.plainGet K CC Str.empty = true)
    (hdCC : PySem.W.hasDictIn K CC = true)
    (poCC : PySem.W.plainOver K CC = true)
    (saCC : PySem.W.findIn K (.ref CC) "__setattr__" = some (some (.builtin "object.__setattr__")))
    (mkCC : PySem.W.makesIn K CC = true)
    (kCCC : PySem.W.keepIn K (.ref CC) = true)
    (noCC_workers : PySem.W.findIn K (.ref CC) "workers" = some none)
    (noCC_speed : PySem.W.findIn K (.ref CC) "speed" = some none)
    (noCC_least_speed : PySem.W.findIn K (.ref CC) "least_speed" = some none)
    (noCC_greatest_speed : PySem.W.findIn K (.ref CC) "greatest_speed" = some none)
    (noCC_slowest : PySem.W.findIn K (.ref CC) "slowest" = some none)
    (noCC_fastest : PySem.W.findIn K (.ref CC) "fastest" = some none)
    (noCC__pairs : PySem.W.findIn K (.ref CC) "_pairs" = some none)
    (noCC__speeds : PySem.W.findIn K (.ref CC) "_speeds" = some none)
    (hCCC : PySem.W.findIn K (.ref CC) "__class__" = some (some (.builtin "object.__class__")))
    (hMCC : PySem.W.mroIn K CC (.type "object") = some true)
    (aci : PySem.W.findIn K (.ref CC) "__init__" = some (some (.ref fci)))
    (ici : PySem.W.isFn K (.ref fci) = true)
    (lci : K.lookup fci = some ⟨occi, odci, .func (PySem.W.fnOf "__init__" "Crew.__init__" (C8.fnArgs sCrI) (C8.fnBody sCrI) (C8.fnScope sCrI) .none kVci dcci pmci anci cdci ctci), slci⟩)
    (cci : PySem.W.codeIn K cdci "Crew.__init__" = true)
    (kci : PySem.W.keepIn K (.ref fci) = true)
    (lco : K.lookup fco = some ⟨occo, odco, .func (PySem.W.fnOf "of" "Crew.of" (C8.fnArgs sCof) (C8.fnBody sCof) (C8.fnScope sCof) .none kVco dcco pmco anco cdco ctco), slco⟩)
    (cco : PySem.W.codeIn K cdco "Crew.of" = true)
    (kco : PySem.W.keepIn K (.ref fco) = true)
    (sco : PySem.W.findCls K (.ref CC) mcCC "of" = some (.get (.builtin "staticmethod.__get__") (.ref pco) .none (.ref CC)))
    (rco : PySem.W.recIn K pco "staticmethod" = some (.ref fco :: rsco))
    (aCS : PySem.W.nsIn K mainGlobals "Setting" = some (some (.ref CS)))
    (pgCS : PySem.W.plainGet K CS Str.empty = true)
    (hdCS : PySem.W.hasDictIn K CS = true)
    (poCS : PySem.W.plainOver K CS = true)
    (saCS : PySem.W.findIn K (.ref CS) "__setattr__" = some (some (.builtin "object.__setattr__")))
    (mkCS : PySem.W.makesIn K CS = true)
    (kCCS : PySem.W.keepIn K (.ref CS) = true)
    (noCS_crew : PySem.W.findIn K (.ref CS) "crew" = some none)
    (noCS_least : PySem.W.findIn K (.ref CS) "least" = some none)
    (noCS_most : PySem.W.findIn K (.ref CS) "most" = some none)
    (noCS_fee : PySem.W.findIn K (.ref CS) "fee" = some none)
    (noCS_lowest : PySem.W.findIn K (.ref CS) "lowest" = some none)
    (hCCS : PySem.W.findIn K (.ref CS) "__class__" = some (some (.builtin "object.__class__")))
    (hMCS : PySem.W.mroIn K CS (.type "object") = some true)
    (asi : PySem.W.findIn K (.ref CS) "__init__" = some (some (.ref fsi)))
    (isi : PySem.W.isFn K (.ref fsi) = true)
    (lsi : K.lookup fsi = some ⟨ocsi, odsi, .func (PySem.W.fnOf "__init__" "Setting.__init__" (C8.fnArgs sSti) (C8.fnBody sSti) (C8.fnScope sSti) (.ref Tdsi) kVsi dcsi pmsi ansi cdsi ctsi), slsi⟩)
    (csi : PySem.W.codeIn K cdsi "Setting.__init__" = true)
    (ksi : PySem.W.keepIn K (.ref fsi) = true)
    (lDsi : K.lookup Tdsi = some ⟨ocDsi, odDsi, .seq #[.int 1 tDsi_0, .int 1 tDsi_1, .int 0 tDsi_2] nDsi, slDsi⟩)
    (asl : PySem.W.findIn K (.ref CS) "late_of" = some (some (.ref fsl)))
    (isl : PySem.W.isFn K (.ref fsl) = true)
    (lsl : K.lookup fsl = some ⟨ocsl, odsl, .func (PySem.W.fnOf "late_of" "Setting.late_of" (C8.fnArgs sLof) (C8.fnBody sLof) (C8.fnScope sLof) .none kVsl dcsl pmsl ansl cdsl ctsl), slsl⟩)
    (csl : PySem.W.codeIn K cdsl "Setting.late_of" = true)
    (ksl : PySem.W.keepIn K (.ref fsl) = true)
    (aFC : PySem.W.nsIn K mainGlobals "Fewest" = some (some (.ref FC)))
    (pgFC : PySem.W.plainGet K FC Str.empty = true)
    (hdFC : PySem.W.hasDictIn K FC = true)
    (poFC : PySem.W.plainOver K FC = true)
    (saFC : PySem.W.findIn K (.ref FC) "__setattr__" = some (some (.builtin "object.__setattr__")))
    (mkFC : PySem.W.makesIn K FC = true)
    (kCFC : PySem.W.keepIn K (.ref FC) = true)
    (noFC_chunks : PySem.W.findIn K (.ref FC) "chunks" = some none)
    (hCFC : PySem.W.findIn K (.ref FC) "__class__" = some (some (.builtin "object.__class__")))
    (hMFC : PySem.W.mroIn K FC (.type "object") = some true)
    (afi : PySem.W.findIn K (.ref FC) "__init__" = some (some (.ref ffi)))
    (ifi : PySem.W.isFn K (.ref ffi) = true)
    (lfi : K.lookup ffi = some ⟨ocfi, odfi, .func (PySem.W.fnOf "__init__" "Fewest.__init__" (C8.fnArgs sFwI) (C8.fnBody sFwI) (C8.fnScope sFwI) .none kVfi dcfi pmfi anfi cdfi ctfi), slfi⟩)
    (cfi : PySem.W.codeIn K cdfi "Fewest.__init__" = true)
    (kfi : PySem.W.keepIn K (.ref ffi) = true)
    (aNC : PySem.W.nsIn K mainGlobals "NoList" = some (some (.ref NC)))
    (pgNC : PySem.W.plainGet K NC Str.empty = true)
    (hdNC : PySem.W.hasDictIn K NC = true)
    (poNC : PySem.W.plainOver K NC = true)
    (saNC : PySem.W.findIn K (.ref NC) "__setattr__" = some (some (.builtin "object.__setattr__")))
    (mkNC : PySem.W.makesIn K NC = true)
    (kCNC : PySem.W.keepIn K (.ref NC) = true)
    (noNC_rests : PySem.W.findIn K (.ref NC) "rests" = some none)
    (hCNC : PySem.W.findIn K (.ref NC) "__class__" = some (some (.builtin "object.__class__")))
    (hMNC : PySem.W.mroIn K NC (.type "object") = some true)
    (ani : PySem.W.findIn K (.ref NC) "__init__" = some (some (.ref fni)))
    (ini : PySem.W.isFn K (.ref fni) = true)
    (lni : K.lookup fni = some ⟨ocni, odni, .func (PySem.W.fnOf "__init__" "NoList.__init__" (C8.fnArgs sNlI) (C8.fnBody sNlI) (C8.fnScope sNlI) .none kVni dcni pmni anni cdni ctni), slni⟩)
    (cni : PySem.W.codeIn K cdni "NoList.__init__" = true)
    (kni : PySem.W.keepIn K (.ref fni) = true)
    (nfc : PySem.W.kitOne K (.ref NC) (.ref FC) = some false)
    (aRC : PySem.W.nsIn K mainGlobals "Ratio" = some (some (.ref RC)))
    (sTRC : PySem.W.typeIn K (.ref RC) = some mcRC)
    (sRRC : PySem.W.readsIn K RC mcRC = true)
    (sGRC : PySem.W.specialIn K (.ref RC) "__getattribute__" = some (some (.builtin "type.__getattribute__")))
    (pgRC : PySem.W.plainGet K RC Str.empty = true)
    (hdRC : PySem.W.hasDictIn K RC = true)
    (poRC : PySem.W.plainOver K RC = true)
    (saRC : PySem.W.findIn K (.ref RC) "__setattr__" = some (some (.builtin "object.__setattr__")))
    (mkRC : PySem.W.makesIn K RC = true)
    (kCRC : PySem.W.keepIn K (.ref RC) = true)
    (noRC_over : PySem.W.findIn K (.ref RC) "over" = some none)
    (noRC_under : PySem.W.findIn K (.ref RC) "under" = some none)
    (hCRC : PySem.W.findIn K (.ref RC) "__class__" = some (some (.builtin "object.__class__")))
    (hMRC : PySem.W.mroIn K RC (.type "object") = some true)
    (oiRC : PySem.W.kitOne K (.ref RC) (.type "int") = some false)
    (obRC : PySem.W.kitOne K (.ref RC) (.type "bool") = some false)
    (osRC : PySem.W.kitOne K (.ref RC) (.type "str") = some false)
    (aqi : PySem.W.findIn K (.ref RC) "__init__" = some (some (.ref fqi)))
    (iqi : PySem.W.isFn K (.ref fqi) = true)
    (lqi : K.lookup fqi = some ⟨ocqi, odqi, .func (PySem.W.fnOf "__init__" "Ratio.__init__" (C8.fnArgs sRat) (C8.fnBody sRat) (C8.fnScope sRat) (.ref Tdqi) kVqi dcqi pmqi anqi cdqi ctqi), slqi⟩)
    (cqi : PySem.W.codeIn K cdqi "Ratio.__init__" = true)
    (kqi : PySem.W.keepIn K (.ref fqi) = true)
    (lDqi : K.lookup Tdqi = some ⟨ocDqi, odDqi, .seq #[.int 1 tDqi_0] nDqi, slDqi⟩)
    (lqo : K.lookup fqo = some ⟨ocqo, odqo, .func (PySem.W.fnOf "of" "Ratio.of" (C8.fnArgs sOf) (C8.fnBody sOf) (C8.fnScope sOf) .none kVqo dcqo pmqo anqo cdqo ctqo), slqo⟩)
    (cqo : PySem.W.codeIn K cdqo "Ratio.of" = true)
    (kqo : PySem.W.keepIn K (.ref fqo) = true)
    (sqo : PySem.W.findCls K (.ref RC) mcRC "of" = some (.get (.builtin "staticmethod.__get__") (.ref pqo) .none (.ref RC)))
    (rqo : PySem.W.recIn K pqo "staticmethod" = some (.ref fqo :: rsqo))
    (kir : PySem.W.kitOne K (.type "int") (.ref RC) = some false)
    (agc : PySem.W.nsIn K mainGlobals "gcd" = some (some (.builtin "math.gcd")))
    (aDg : PySem.W.nsIn K mainGlobals "BadSetting" = some (some (.ref DG)))
    (xDg : K.lookup DG = some (excClassObj nmDg qDg DG NDg bsDg bmDg true snDg subDg abDg colDg ddDg e0g e1g e2g e3g e5g "ValueError.__new__"))
    (xBg : PySem.HandSPX.refsVE bmDg = true)
    (xsg : PySem.W.findIn K (.ref DG) "__setattr__" = some (some (.builtin "object.__setattr__")))
    (xeg : PySem.W.subIn K (.ref DG) (.type "BaseException") = some true)
    (xtg : PySem.W.typeIn K (.ref DG) = some (.type "type"))
    (xkg : PySem.W.keepIn K (.ref DG) = true)
    (xig : PySem.W.findIn K (.ref DG) "__init__" = some (some (.ref fEg)))
    (xfg : PySem.W.typeIn K (.ref fEg) = some (.type "function"))
    (lEg : K.lookup fEg = some ⟨ocEg, odEg, .func (PySem.W.fnOf "__init__" "BadSetting.__init__" (C8.fnArgs sBsgE) (C8.fnBody sBsgE) (C8.fnScope sBsgE) .none kVEg dcEg pmEg anEg cdEg ctEg), slEg⟩)
    (cEg : PySem.W.codeIn K cdEg "BadSetting.__init__" = true)
    (xvg0 : PySem.W.findIn K (.ref DG) "part" = some none)
    (aDo : PySem.W.nsIn K mainGlobals "BadCost" = some (some (.ref DO)))
    (xDo : K.lookup DO = some (excClassObj nmDo qDo DO NDo bsDo bmDo true snDo subDo abDo colDo ddDo e0o e1o e2o e3o e5o "ValueError.__new__"))
    (xBo : PySem.HandSPX.refsVE bmDo = true)
    (xso : PySem.W.findIn K (.ref DO) "__setattr__" = some (some (.builtin "object.__setattr__")))
    (xeo : PySem.W.subIn K (.ref DO) (.type "BaseException") = some true)
    (xto : PySem.W.typeIn K (.ref DO) = some (.type "type"))
    (xko : PySem.W.keepIn K (.ref DO) = true)
    (xio : PySem.W.findIn K (.ref DO) "__init__" = some (some (.ref fEo)))
    (xfo : PySem.W.typeIn K (.ref fEo) = some (.type "function"))
    (lEo : K.lookup fEo = some ⟨ocEo, odEo, .func (PySem.W.fnOf "__init__" "BadCost.__init__" (C8.fnArgs sBcoE) (C8.fnBody sBcoE) (C8.fnScope sBcoE) .none kVEo dcEo pmEo anEo cdEo ctEo), slEo⟩)
    (cEo : PySem.W.codeIn K cdEo "BadCost.__init__" = true)
    (xvo0 : PySem.W.findIn K (.ref DO) "value" = some none)
    (aDf : PySem.W.nsIn K mainGlobals "BadFee" = some (some (.ref DF)))
    (xDf : K.lookup DF = some (excClassObj nmDf qDf DF NDf bsDf bmDf true snDf subDf abDf colDf ddDf e0f e1f e2f e3f e5f "ValueError.__new__"))
    (xBf : PySem.HandSPX.refsVE bmDf = true)
    (xsf : PySem.W.findIn K (.ref DF) "__setattr__" = some (some (.builtin "object.__setattr__")))
    (xef : PySem.W.subIn K (.ref DF) (.type "BaseException") = some true)
    (xtf : PySem.W.typeIn K (.ref DF) = some (.type "type"))
    (xkf : PySem.W.keepIn K (.ref DF) = true)
    (xif : PySem.W.findIn K (.ref DF) "__init__" = some (some (.ref fEf)))
    (xff : PySem.W.typeIn K (.ref fEf) = some (.type "function"))
    (lEf : K.lookup fEf = some ⟨ocEf, odEf, .func (PySem.W.fnOf "__init__" "BadFee.__init__" (C8.fnArgs sBfeE) (C8.fnBody sBfeE) (C8.fnScope sBfeE) .none kVEf dcEf pmEf anEf cdEf ctEf), slEf⟩)
    (cEf : PySem.W.codeIn K cdEf "BadFee.__init__" = true)
    (xvf0 : PySem.W.findIn K (.ref DF) "value" = some none)
    (aDr : PySem.W.nsIn K mainGlobals "BadRest" = some (some (.ref DR)))
    (xDr : K.lookup DR = some (excClassObj nmDr qDr DR NDr bsDr bmDr true snDr subDr abDr colDr ddDr e0r e1r e2r e3r e5r "ValueError.__new__"))
    (xBr : PySem.HandSPX.refsVE bmDr = true)
    (xsr : PySem.W.findIn K (.ref DR) "__setattr__" = some (some (.builtin "object.__setattr__")))
    (xer : PySem.W.subIn K (.ref DR) (.type "BaseException") = some true)
    (xtr : PySem.W.typeIn K (.ref DR) = some (.type "type"))
    (xkr : PySem.W.keepIn K (.ref DR) = true)
    (xir : PySem.W.findIn K (.ref DR) "__init__" = some (some (.ref fEr)))
    (xfr : PySem.W.typeIn K (.ref fEr) = some (.type "function"))
    (lEr : K.lookup fEr = some ⟨ocEr, odEr, .func (PySem.W.fnOf "__init__" "BadRest.__init__" (C8.fnArgs sBreE) (C8.fnBody sBreE) (C8.fnScope sBreE) .none kVEr dcEr pmEr anEr cdEr ctEr), slEr⟩)
    (cEr : PySem.W.codeIn K cdEr "BadRest.__init__" = true)
    (xvr0 : PySem.W.findIn K (.ref DR) "value" = some none)
    (aDl : PySem.W.nsIn K mainGlobals "BadLimit" = some (some (.ref DL)))
    (xDl : K.lookup DL = some (excClassObj nmDl qDl DL NDl bsDl bmDl true snDl subDl abDl colDl ddDl e0l e1l e2l e3l e5l "ValueError.__new__"))
    (xBl : PySem.HandSPX.refsVE bmDl = true)
    (xsl : PySem.W.findIn K (.ref DL) "__setattr__" = some (some (.builtin "object.__setattr__")))
    (xel : PySem.W.subIn K (.ref DL) (.type "BaseException") = some true)
    (xtl : PySem.W.typeIn K (.ref DL) = some (.type "type"))
    (xkl : PySem.W.keepIn K (.ref DL) = true)
    (xil : PySem.W.findIn K (.ref DL) "__init__" = some (some (.ref fEl)))
    (xfl : PySem.W.typeIn K (.ref fEl) = some (.type "function"))
    (lEl : K.lookup fEl = some ⟨ocEl, odEl, .func (PySem.W.fnOf "__init__" "BadLimit.__init__" (C8.fnArgs sBliE) (C8.fnBody sBliE) (C8.fnScope sBliE) .none kVEl dcEl pmEl anEl cdEl ctEl), slEl⟩)
    (cEl : PySem.W.codeIn K cdEl "BadLimit.__init__" = true)
    (xvl0 : PySem.W.findIn K (.ref DL) "value" = some none)
    (aDh : PySem.W.nsIn K mainGlobals "BadChunks" = some (some (.ref DH)))
    (xDh : K.lookup DH = some (excClassObj nmDh qDh DH NDh bsDh bmDh true snDh subDh abDh colDh ddDh e0h e1h e2h e3h e5h "ValueError.__new__"))
    (xBh : PySem.HandSPX.refsVE bmDh = true)
    (xsh : PySem.W.findIn K (.ref DH) "__setattr__" = some (some (.builtin "object.__setattr__")))
    (xeh : PySem.W.subIn K (.ref DH) (.type "BaseException") = some true)
    (xth : PySem.W.typeIn K (.ref DH) = some (.type "type"))
    (xkh : PySem.W.keepIn K (.ref DH) = true)
    (xih : PySem.W.findIn K (.ref DH) "__init__" = some (some (.ref fEh)))
    (xfh : PySem.W.typeIn K (.ref fEh) = some (.type "function"))
    (lEh : K.lookup fEh = some ⟨ocEh, odEh, .func (PySem.W.fnOf "__init__" "BadChunks.__init__" (C8.fnArgs sBchE) (C8.fnBody sBchE) (C8.fnScope sBchE) .none kVEh dcEh pmEh anEh cdEh ctEh), slEh⟩)
    (cEh : PySem.W.codeIn K cdEh "BadChunks.__init__" = true)
    (xvh0 : PySem.W.findIn K (.ref DH) "part" = some none)
    (aDz : PySem.W.nsIn K mainGlobals "BadSize" = some (some (.ref DZ)))
    (xDz : K.lookup DZ = some (excClassObj nmDz qDz DZ NDz bsDz bmDz true snDz subDz abDz colDz ddDz e0z e1z e2z e3z e5z "ValueError.__new__"))
    (xBz : PySem.HandSPX.refsVE bmDz = true)
    (xsz : PySem.W.findIn K (.ref DZ) "__setattr__" = some (some (.builtin "object.__setattr__")))
    (xez : PySem.W.subIn K (.ref DZ) (.type "BaseException") = some true)
    (xtz : PySem.W.typeIn K (.ref DZ) = some (.type "type"))
    (xkz : PySem.W.keepIn K (.ref DZ) = true)
    (xiz : PySem.W.findIn K (.ref DZ) "__init__" = some (some (.ref fEz)))
    (xfz : PySem.W.typeIn K (.ref fEz) = some (.type "function"))
    (lEz : K.lookup fEz = some ⟨ocEz, odEz, .func (PySem.W.fnOf "__init__" "BadSize.__init__" (C8.fnArgs sBszE) (C8.fnBody sBszE) (C8.fnScope sBszE) .none kVEz dcEz pmEz anEz cdEz ctEz), slEz⟩)
    (cEz : PySem.W.codeIn K cdEz "BadSize.__init__" = true)
    (xvz0 : PySem.W.findIn K (.ref DZ) "value" = some none)
    (aDt : PySem.W.nsIn K mainGlobals "BadTotal" = some (some (.ref DT)))
    (xDt : K.lookup DT = some (excClassObj nmDt qDt DT NDt bsDt bmDt true snDt subDt abDt colDt ddDt e0t e1t e2t e3t e5t "ValueError.__new__"))
    (xBt : PySem.HandSPX.refsVE bmDt = true)
    (xst : PySem.W.findIn K (.ref DT) "__setattr__" = some (some (.builtin "object.__setattr__")))
    (xet : PySem.W.subIn K (.ref DT) (.type "BaseException") = some true)
    (xtt : PySem.W.typeIn K (.ref DT) = some (.type "type"))
    (xkt : PySem.W.keepIn K (.ref DT) = true)
    (xit : PySem.W.findIn K (.ref DT) "__init__" = some (some (.ref fEt)))
    (xft : PySem.W.typeIn K (.ref fEt) = some (.type "function"))
    (lEt : K.lookup fEt = some ⟨ocEt, odEt, .func (PySem.W.fnOf "__init__" "BadTotal.__init__" (C8.fnArgs sBtoE) (C8.fnBody sBtoE) (C8.fnScope sBtoE) .none kVEt dcEt pmEt anEt cdEt ctEt), slEt⟩)
    (cEt : PySem.W.codeIn K cdEt "BadTotal.__init__" = true)
    (xvt0 : PySem.W.findIn K (.ref DT) "value" = some none)
    (aDc : PySem.W.nsIn K mainGlobals "BadCrew" = some (some (.ref DQ)))
    (xDc : K.lookup DQ = some (excClassObj nmDc qDc DQ NDc bsDc bmDc true snDc subDc abDc colDc ddDc e0c e1c e2c e3c e5c "ValueError.__new__"))
    (xBc : PySem.HandSPX.refsVE bmDc = true)
    (xsc : PySem.W.findIn K (.ref DQ) "__setattr__" = some (some (.builtin "object.__setattr__")))
    (xec : PySem.W.subIn K (.ref DQ) (.type "BaseException") = some true)
    (xtc : PySem.W.typeIn K (.ref DQ) = some (.type "type"))
    (xkc : PySem.W.keepIn K (.ref DQ) = true)
    (xic : PySem.W.findIn K (.ref DQ) "__init__" = some (some (.ref fEc)))
    (xfc : PySem.W.typeIn K (.ref fEc) = some (.type "function"))
    (lEc : K.lookup fEc = some ⟨ocEc, odEc, .func (PySem.W.fnOf "__init__" "BadCrew.__init__" (C8.fnArgs sBcrE) (C8.fnBody sBcrE) (C8.fnScope sBcrE) .none kVEc dcEc pmEc anEc cdEc ctEc), slEc⟩)
    (cEc : PySem.W.codeIn K cdEc "BadCrew.__init__" = true)
    (xvc0 : PySem.W.findIn K (.ref DQ) "part" = some none)
    (aDn : PySem.W.nsIn K mainGlobals "BadName" = some (some (.ref DN)))
    (xDn : K.lookup DN = some (excClassObj nmDn qDn DN NDn bsDn bmDn true snDn subDn abDn colDn ddDn e0n e1n e2n e3n e5n "ValueError.__new__"))
    (xBn : PySem.HandSPX.refsVE bmDn = true)
    (xsn : PySem.W.findIn K (.ref DN) "__setattr__" = some (some (.builtin "object.__setattr__")))
    (xen : PySem.W.subIn K (.ref DN) (.type "BaseException") = some true)
    (xtn : PySem.W.typeIn K (.ref DN) = some (.type "type"))
    (xkn : PySem.W.keepIn K (.ref DN) = true)
    (xin : PySem.W.findIn K (.ref DN) "__init__" = some (some (.ref fEn)))
    (xfn : PySem.W.typeIn K (.ref fEn) = some (.type "function"))
    (lEn : K.lookup fEn = some ⟨ocEn, odEn, .func (PySem.W.fnOf "__init__" "BadName.__init__" (C8.fnArgs sBnmE) (C8.fnBody sBnmE) (C8.fnScope sBnmE) .none kVEn dcEn pmEn anEn cdEn ctEn), slEn⟩)
    (cEn : PySem.W.codeIn K cdEn "BadName.__init__" = true)
    (xvn0 : PySem.W.findIn K (.ref DN) "value" = some none)
    (aDs : PySem.W.nsIn K mainGlobals "BadSpeed" = some (some (.ref DD)))
    (xDs : K.lookup DD = some (excClassObj nmDs qDs DD NDs bsDs bmDs true snDs subDs abDs colDs ddDs e0s e1s e2s e3s e5s "ValueError.__new__"))
    (xBs : PySem.HandSPX.refsVE bmDs = true)
    (xss : PySem.W.findIn K (.ref DD) "__setattr__" = some (some (.builtin "object.__setattr__")))
    (xes : PySem.W.subIn K (.ref DD) (.type "BaseException") = some true)
    (xts : PySem.W.typeIn K (.ref DD) = some (.type "type"))
    (xks : PySem.W.keepIn K (.ref DD) = true)
    (xis : PySem.W.findIn K (.ref DD) "__init__" = some (some (.ref fEs)))
    (xfs : PySem.W.typeIn K (.ref fEs) = some (.type "function"))
    (lEs : K.lookup fEs = some ⟨ocEs, odEs, .func (PySem.W.fnOf "__init__" "BadSpeed.__init__" (C8.fnArgs sBspE) (C8.fnBody sBspE) (C8.fnScope sBspE) .none kVEs dcEs pmEs anEs cdEs ctEs), slEs⟩)
    (cEs : PySem.W.codeIn K cdEs "BadSpeed.__init__" = true)
    (xvs0 : PySem.W.findIn K (.ref DD) "value" = some none)
    (aDm : PySem.W.nsIn K mainGlobals "TooMany" = some (some (.ref DM)))
    (xDm : K.lookup DM = some (excClassObj nmDm qDm DM NDm bsDm bmDm true snDm subDm abDm colDm ddDm e0m e1m e2m e3m e5m "ValueError.__new__"))
    (xBm : PySem.HandSPX.refsVE bmDm = true)
    (xsm : PySem.W.findIn K (.ref DM) "__setattr__" = some (some (.builtin "object.__setattr__")))
    (xem : PySem.W.subIn K (.ref DM) (.type "BaseException") = some true)
    (xtm : PySem.W.typeIn K (.ref DM) = some (.type "type"))
    (xkm : PySem.W.keepIn K (.ref DM) = true)
    (xim : PySem.W.findIn K (.ref DM) "__init__" = some (some (.ref fEm)))
    (xfm : PySem.W.typeIn K (.ref fEm) = some (.type "function"))
    (lEm : K.lookup fEm = some ⟨ocEm, odEm, .func (PySem.W.fnOf "__init__" "TooMany.__init__" (C8.fnArgs sMnE) (C8.fnBody sMnE) (C8.fnScope sMnE) .none kVEm dcEm pmEm anEm cdEm ctEm), slEm⟩)
    (cEm : PySem.W.codeIn K cdEm "TooMany.__init__" = true)
    (xvm0 : PySem.W.findIn K (.ref DM) "what" = some none)
    (xvm1 : PySem.W.findIn K (.ref DM) "most" = some none)
    (gMW : PySem.W.nsIn K mainGlobals "MOST_WORKERS" = some (some (.int vMW tMW)))
    (eMW : vMW = 8)
    (gGP : PySem.W.nsIn K mainGlobals "GREATEST_SPEED" = some (some (.int vGP tGP)))
    (eGP : vGP = 60)
    (gLN : PySem.W.nsIn K mainGlobals "LONGEST_NAME" = some (some (.int vLN tLN)))
    (eLN : vLN = 8)
    (gGC : PySem.W.nsIn K mainGlobals "GREATEST_COST" = some (some (.int vGC tGC)))
    (eGC : vGC = 60)
    (gGF : PySem.W.nsIn K mainGlobals "GREATEST_FEE" = some (some (.int vGF tGF)))
    (eGF : vGF = 10 ^ 30)
    (gGS : PySem.W.nsIn K mainGlobals "GREATEST_SIZE" = some (some (.int vGS tGS)))
    (eGS : vGS = 10 ^ 30)
    (gE : PySem.W.nsIn K mainGlobals "LETTERS" = some (some (.str zE tE)))
    (eE : zE = letters)
    (gW : PySem.W.nsIn K mainGlobals "TEXT_WORDS" = some (some (.ref aW)))
    (lW : K.lookup aW = some ⟨.type "tuple", odW, .seq wsW nW, slW⟩)
    (sW : wsW.size ≤ 100)
    (vW : Vals resV wsW.toList)
    (z_int : PySem.W.nsIn K mainGlobals "int" = some none)
    (z_list : PySem.W.nsIn K mainGlobals "list" = some none)
    (z_len : PySem.W.nsIn K mainGlobals "len" = some none)
    (z_abs : PySem.W.nsIn K mainGlobals "abs" = some none)
    (z_bool : PySem.W.nsIn K mainGlobals "bool" = some none)
    (z_str : PySem.W.nsIn K mainGlobals "str" = some none)
    (z_isinstance : PySem.W.nsIn K mainGlobals "isinstance" = some none)
    (z_range : PySem.W.nsIn K mainGlobals "range" = some none)
    (z_repr : PySem.W.nsIn K mainGlobals "repr" = some none)
    (z_all : PySem.W.nsIn K mainGlobals "all" = some none)
    (z_sorted : PySem.W.nsIn K mainGlobals "sorted" = some none)
    (z_tuple : PySem.W.nsIn K mainGlobals "tuple" = some none)
    (z_sum : PySem.W.nsIn K mainGlobals "sum" = some none)
    (z_min : PySem.W.nsIn K mainGlobals "min" = some none)
    (z_max : PySem.W.nsIn K mainGlobals "max" = some none)
    (z_dict : PySem.W.nsIn K mainGlobals "dict" = some none)
    (z_iter : PySem.W.nsIn K mainGlobals "iter" = some none)
    (z_zip : PySem.W.nsIn K mainGlobals "zip" = some none) :
    ∃ (fd : FuncData) (tb : List (Str × Addr × Addr)) (sp : Sp), (∀ e ∈ tb, e.1 ∈ ([] : List Str) ∧ PySem.W.tabIn K e.1 = some (e.2.1, e.2.2) ∧ K.lookup e.2.2 = none) ∧ (∀ (s : Shared) (u : Value), BindsTo s fd ⟨[u], []⟩ [("_law_script", u)]) ∧
      (∀ base : Heap, K.In base → base.Ns mainGlobals mg → (∀ e ∈ tb, TabB base mg e.2.1 e.2.2) → FnG l.prog w K mg base 16 fa fd ["_law_script"] sp) ∧
      ∀ (H : Hp) (a : Addr) (ns : List Int), (∀ e ∈ tb, H e.2.2 = some (.tbl #[])) → SqL K H a (ns.map V.int) → ns.length ≤ 63 → sp [.ref a] H (fun v _ => v = .bl true) C8.E0 := by
  have e := hfa.symm.trans (PySem.W.mg_of X G ala)
  cases e
  subst eM eMW eGP eLN eGC eGF eGS eE
  have Fii : C8.Def K mg "is_integer" sIsInt fii _ := ⟨⟨_, _, _, _, _, _, _, _, _, _, rfl, lii, cii⟩, PySem.W.mg_of X G aii, kii⟩
  have bii : Binds K _ ["value"] [] := Fii.fn.binds rfl fun _ _ _ _ _ _ us hl => match us, hl with | [_], _ => rfl
  have Fiw : C8.Def K mg "is_within" sWithin fiw _ := ⟨⟨_, _, _, _, _, _, _, _, _, _, rfl, liw, ciw⟩, PySem.W.mg_of X G aiw, kiw⟩
  have biw : Binds K _ ["value", "least", "most"] [] := Fiw.fn.binds rfl fun _ _ _ _ _ _ us hl => match us, hl with | [_, _, _], _ => rfl
  have Fiz : C8.Def K mg "is_size" sSize fiz _ := ⟨⟨_, _, _, _, _, _, _, _, _, _, rfl, liz, ciz⟩, PySem.W.mg_of X G aiz, kiz⟩
  have biz : Binds K _ ["value"] [] := Fiz.fn.binds rfl fun _ _ _ _ _ _ us hl => match us, hl with | [_], _ => rfl
  have Fin : C8.Def K mg "is_name" sIsName fin _ := ⟨⟨_, _, _, _, _, _, _, _, _, _, rfl, lin, cin⟩, PySem.W.mg_of X G ain, kin⟩
  have bin : Binds K _ ["value"] [] := Fin.fn.binds rfl fun _ _ _ _ _ _ us hl => match us, hl with | [_], _ => rfl
  have Fis : C8.Def K mg "is_speed" sIsp fis _ := ⟨⟨_, _, _, _, _, _, _, _, _, _, rfl, lis, cis⟩, PySem.W.mg_of X G ais, kis⟩
  have bis : Binds K _ ["value"] [] := Fis.fn.binds rfl fun _ _ _ _ _ _ us hl => match us, hl with | [_], _ => rfl
  have Fck : C8.Def K mg "check_speeds" sChk fck _ := ⟨⟨_, _, _, _, _, _, _, _, _, _, rfl, lck, cck⟩, PySem.W.mg_of X G ack, kck⟩
  have bck : Binds K _ ["names", "speeds"] [] := Fck.fn.binds rfl fun _ _ _ _ _ _ us hl => match us, hl with | [_, _], _ => rfl
  have Fnu : C8.Def K mg "is_number" sNum fnu _ := ⟨⟨_, _, _, _, _, _, _, _, _, _, rfl, lnu, cnu⟩, PySem.W.mg_of X G anu, knu⟩
  have bnu : Binds K _ ["value"] [] := Fnu.fn.binds rfl fun _ _ _ _ _ _ us hl => match us, hl with | [_], _ => rfl
  have Fcm : C8.Def K mg "check_many" sCM fcm _ := ⟨⟨_, _, _, _, _, _, _, _, _, _, rfl, lcm, ccm⟩, PySem.W.mg_of X G acm, kcm⟩
  have bcm : Binds K _ ["many"] [] := Fcm.fn.binds rfl fun _ _ _ _ _ _ us hl => match us, hl with | [_], _ => rfl
  have Fct : C8.Def K mg "check_total" sCtt fct _ := ⟨⟨_, _, _, _, _, _, _, _, _, _, rfl, lct, cct⟩, PySem.W.mg_of X G act, kct⟩
  have bct : Binds K _ ["total"] [] := Fct.fn.binds rfl fun _ _ _ _ _ _ us hl => match us, hl with | [_], _ => rfl
  have Fsp : C8.Def K mg "check_spot" sSpo fsp _ := ⟨⟨_, _, _, _, _, _, _, _, _, _, rfl, lsp, csp⟩, PySem.W.mg_of X G asp, ksp⟩
  have bsp : Binds K _ ["rest", "place"] [] := Fsp.fn.binds rfl fun _ _ _ _ _ _ us hl => match us, hl with | [_, _], _ => rfl
  have Fks : C8.Def K mg "check_setting" sCks fks _ := ⟨⟨_, _, _, _, _, _, _, _, _, _, rfl, lks, cks⟩, PySem.W.mg_of X G aks, kks⟩
  have bks : Binds K _ ["setting"] [] := Fks.fn.binds rfl fun _ _ _ _ _ _ us hl => match us, hl with | [_], _ => rfl
  have Fku : C8.Def K mg "check_limit" sCli fku _ := ⟨⟨_, _, _, _, _, _, _, _, _, _, rfl, lku, cku⟩, PySem.W.mg_of X G aku, kku⟩
  have bku : Binds K _ ["limit"] [] := Fku.fn.binds rfl fun _ _ _ _ _ _ us hl => match us, hl with | [_], _ => rfl
  have Fbb : C8.Def K mg "bound_by" sBby fbb _ := ⟨⟨_, _, _, _, _, _, _, _, _, _, rfl, lbb, cbb⟩, PySem.W.mg_of X G abb, kbb⟩
  have bbb : Binds K _ ["setting", "limit", "by"] [] := Fbb.fn.binds rfl fun _ _ _ _ _ _ us hl => match us, hl with | [_, _, _], _ => rfl
  have Fbo : C8.Def K mg "bounds_of" sBof fbo _ := ⟨⟨_, _, _, _, _, _, _, _, _, _, rfl, lbo, cbo⟩, PySem.W.mg_of X G abo, kbo⟩
  have bbo : Binds K _ ["setting", "limit"] [] := Fbo.fn.binds rfl fun _ _ _ _ _ _ us hl => match us, hl with | [_, _], _ => rfl
  have Fgl : C8.Def K mg "greatest_let" sGlt fgl _ := ⟨⟨_, _, _, _, _, _, _, _, _, _, rfl, lgl, cgl⟩, PySem.W.mg_of X G agl, kgl⟩
  have bgl : Binds K _ ["bounds", "rest", "place"] [] := Fgl.fn.binds rfl fun _ _ _ _ _ _ us hl => match us, hl with | [_, _, _], _ => rfl
  have Fka : C8.Def K mg "check_asked" sCka fka _ := ⟨⟨_, _, _, _, _, _, _, _, _, _, rfl, lka, cka⟩, PySem.W.mg_of X G aka, kka⟩
  have bka : Binds K _ ["total", "setting", "limit"] [] := Fka.fn.binds rfl fun _ _ _ _ _ _ us hl => match us, hl with | [_, _, _], _ => rfl
  have Fgr : C8.Def K mg "greedy_rests" sGrd fgr _ := ⟨⟨_, _, _, _, _, _, _, _, _, _, rfl, lgr, cgr⟩, PySem.W.mg_of X G agr, kgr⟩
  have bgr : Binds K _ ["total", "setting", "limit", "most"] [] := Fgr.fn.binds rfl fun _ _ _ _ _ _ us hl => match us, hl with | [_, _, _, _], _ => rfl
  have Fcb : C8.Def K mg "chunks_between" sCbt fcb _ := ⟨⟨_, _, _, _, _, _, _, _, _, _, rfl, lcb, ccb⟩, PySem.W.mg_of X G acb, kcb⟩
  have bcb : Binds K _ ["rests"] [] := Fcb.fn.binds rfl fun _ _ _ _ _ _ us hl => match us, hl with | [_], _ => rfl
  have Ffw : C8.Def K mg "fewest" sFew ffw _ := ⟨⟨_, _, _, _, _, _, _, _, _, _, rfl, lfw, cfw⟩, PySem.W.mg_of X G afw, kfw⟩
  have bfw : Binds K _ ["total", "setting", "limit"] [] := Ffw.fn.binds rfl fun _ _ _ _ _ _ us hl => match us, hl with | [_, _, _], _ => rfl
  have Flp : C8.Def K mg "_law_pen" sPen flp _ := ⟨⟨_, _, _, _, _, _, _, _, _, _, rfl, llp, clp⟩, PySem.W.mg_of X G alp, klp⟩
  have blp : Binds K _ ["_law_script"] [] := Flp.fn.binds rfl fun _ _ _ _ _ _ us hl => match us, hl with | [_], _ => rfl
  have Fld : C8.Def K mg "_law_draw" sDraw fld _ := ⟨⟨_, _, _, _, _, _, _, _, _, _, rfl, lld, cld⟩, PySem.W.mg_of X G ald, kld⟩
  have bld : Binds K _ ["_law_pen_here", "_law_many"] [] := Fld.fn.binds rfl fun _ _ _ _ _ _ us hl => match us, hl with | [_, _], _ => rfl
  have Flk : C8.Def K mg "_law_pick" sPick flk _ := ⟨⟨_, _, _, _, _, _, _, _, _, _, rfl, llk, clk⟩, PySem.W.mg_of X G alk, klk⟩
  have blk : Binds K _ ["_law_pen_here", "_law_some"] [] := Flk.fn.binds rfl fun _ _ _ _ _ _ us hl => match us, hl with | [_, _], _ => rfl
  have Flq : C8.Def K mg "_law_drawn_plan" sLdp flq _ := ⟨⟨_, _, _, _, _, _, _, _, _, _, rfl, llq, clq⟩, PySem.W.mg_of X G alq, klq⟩
  have blq : Binds K _ ["_law_pen_here", "_law_many"] [] := Flq.fn.binds rfl fun _ _ _ _ _ _ us hl => match us, hl with | [_, _], _ => rfl
  have Flv : C8.Def K mg "_law_setting" sLse flv _ := ⟨⟨_, _, _, _, _, _, _, _, _, _, rfl, llv, clv⟩, PySem.W.mg_of X G alv, klv⟩
  have blv : Binds K _ ["_law_plan"] [] := Flv.fn.binds rfl fun _ _ _ _ _ _ us hl => match us, hl with | [_], _ => rfl
  have Flw : C8.Def K mg "_law_three" sLth flw _ := ⟨⟨_, _, _, _, _, _, _, _, _, _, rfl, llw, clw⟩, PySem.W.mg_of X G alw, klw⟩
  have blw : Binds K _ ["_law_plan"] [] := Flw.fn.binds rfl fun _ _ _ _ _ _ us hl => match us, hl with | [_], _ => rfl
  have Flt : C8.Def K mg "_law_late" sLla flt _ := ⟨⟨_, _, _, _, _, _, _, _, _, _, rfl, llt, clt⟩, PySem.W.mg_of X G alt, klt⟩
  have blt : Binds K _ ["_law_plan", "_law_rest", "_law_place", "_law_size"] [] := Flt.fn.binds rfl fun _ _ _ _ _ _ us hl => match us, hl with | [_, _, _, _], _ => rfl
  have Flu : C8.Def K mg "_law_under" sLun flu _ := ⟨⟨_, _, _, _, _, _, _, _, _, _, rfl, llu, clu⟩, PySem.W.mg_of X G alu, klu⟩
  have blu : Binds K _ ["_law_plan"] [] := Flu.fn.binds rfl fun _ _ _ _ _ _ us hl => match us, hl with | [_], _ => rfl
  have Fle : C8.Def K mg "_law_is_let" sIlt fle _ := ⟨⟨_, _, _, _, _, _, _, _, _, _, rfl, lle, cle⟩, PySem.W.mg_of X G ale, kle⟩
  have ble : Binds K _ ["_law_plan", "_law_rest", "_law_place", "_law_size", "_law_limit_here"] [] := Fle.fn.binds rfl fun _ _ _ _ _ _ us hl => match us, hl with | [_, _, _, _, _], _ => rfl
  have Flx : C8.Def K mg "_law_limit" sLli flx _ := ⟨⟨_, _, _, _, _, _, _, _, _, _, rfl, llx, clx⟩, PySem.W.mg_of X G alx, klx⟩
  have blx : Binds K _ ["_law_pen_here", "_law_plan"] [] := Flx.fn.binds rfl fun _ _ _ _ _ _ us hl => match us, hl with | [_, _], _ => rfl
  have Fly : C8.Def K mg "_law_limit_of" sLlo fly _ := ⟨⟨_, _, _, _, _, _, _, _, _, _, rfl, lly, cly⟩, PySem.W.mg_of X G aly, kly⟩
  have bly : Binds K _ ["_law_limit_here"] [] := Fly.fn.binds rfl fun _ _ _ _ _ _ us hl => match us, hl with | [_], _ => rfl
  have Flb : C8.Def K mg "_law_behind" sBhd flb _ := ⟨⟨_, _, _, _, _, _, _, _, _, _, rfl, llb, clb⟩, PySem.W.mg_of X G alb, klb⟩
  have blb : Binds K _ ["_law_plan", "_law_some", "_law_place", "_law_limit_here"] [] := Flb.fn.binds rfl fun _ _ _ _ _ _ us hl => match us, hl with | [_, _, _, _], _ => rfl
  have Flr : C8.Def K mg "_law_right" sRig flr _ := ⟨⟨_, _, _, _, _, _, _, _, _, _, rfl, llr, clr⟩, PySem.W.mg_of X G alr, klr⟩
  have blr : Binds K _ ["_law_plan", "_law_total", "_law_limit_here"] [] := Flr.fn.binds rfl fun _ _ _ _ _ _ us hl => match us, hl with | [_, _, _], _ => rfl
  have Fla : C8.Def K mg "law" sLaw fa _ := ⟨⟨_, _, _, _, _, _, _, _, _, _, rfl, lla, cla⟩, PySem.W.mg_of X G ala, kla⟩
  have bla : Binds K _ ["_law_script"] [] := Fla.fn.binds rfl fun _ _ _ _ _ _ us hl => match us, hl with | [_], _ => rfl
  have rHC : CRead K HC mcHC := ⟨sRHC, sGHC⟩
  have clHC : Cls K HC := ⟨pgHC, hdHC, poHC, saHC⟩
  have IHC : C8.InsC K HC := ⟨clHC, hCHC, hG, hK, hMHC, by unfold PySem.W.kitOne; rw [if_pos (by simp)]⟩
  have Fhi : C8.Fun K "__init__" "Chunks.__init__" sCI fhi _ := ⟨_, _, _, _, _, _, _, _, _, _, rfl, lhi, chi⟩
  have thi : Meth K HC "__init__" fhi := ⟨ahi, ihi, khi⟩
  have Fho : C8.Fun K "of" "Chunks.of" sHof fho _ := ⟨_, _, _, _, _, _, _, _, _, _, rfl, lho, cho⟩
  have bho : Binds K _ ["sizes"] [] := Fho.binds rfl fun _ _ _ _ _ _ us hl => match us, hl with | [_], _ => rfl
  have Sho : SMet K HC "of" pho fho := ⟨⟨_, sTHC, sRHC, sho⟩, sGHC, ⟨_, rho⟩, kho⟩
  have rCC : CRead K CC mcCC := ⟨sRCC, sGCC⟩
  have clCC : Cls K CC := ⟨pgCC, hdCC, poCC, saCC⟩
  have ICC : C8.InsC K CC := ⟨clCC, hCCC, hG, hK, hMCC, by unfold PySem.W.kitOne; rw [if_pos (by simp)]⟩
  have Fci : C8.Fun K "__init__" "Crew.__init__" sCrI fci _ := ⟨_, _, _, _, _, _, _, _, _, _, rfl, lci, cci⟩
  have tci : Meth K CC "__init__" fci := ⟨aci, ici, kci⟩
  have Fco : C8.Fun K "of" "Crew.of" sCof fco _ := ⟨_, _, _, _, _, _, _, _, _, _, rfl, lco, cco⟩
  have bco : Binds K _ ["speeds"] [] := Fco.binds rfl fun _ _ _ _ _ _ us hl => match us, hl with | [_], _ => rfl
  have Sco : SMet K CC "of" pco fco := ⟨⟨_, sTCC, sRCC, sco⟩, sGCC, ⟨_, rco⟩, kco⟩
  have clCS : Cls K CS := ⟨pgCS, hdCS, poCS, saCS⟩
  have ICS : C8.InsC K CS := ⟨clCS, hCCS, hG, hK, hMCS, by unfold PySem.W.kitOne; rw [if_pos (by simp)]⟩
  have Fsi : C8.Fun K "__init__" "Setting.__init__" sSti fsi _ := ⟨_, _, _, _, _, _, _, _, _, _, rfl, lsi, csi⟩
  have FDsi : FunD K "__init__" "Setting.__init__" (C8.fnArgs sSti) (C8.fnBody sSti) (C8.fnScope sSti) [.int 1, .int 1, .int 0] [] fsi _ := ⟨⟨_, _, _, _, _, _, _, _, _, _, rfl, lsi, csi, .inr ⟨by simp, Tdsi, _, [.int 1 tDsi_0, .int 1 tDsi_1, .int 0 tDsi_2], nDsi, rfl, lDsi, rfl, .cons ⟨_, rfl⟩ (.cons ⟨_, rfl⟩ (.cons ⟨_, rfl⟩ (.nil)))⟩, .inl rfl⟩, ksi⟩
  have Fsl : C8.Fun K "late_of" "Setting.late_of" sLof fsl _ := ⟨_, _, _, _, _, _, _, _, _, _, rfl, lsl, csl⟩
  have bsl : Binds K _ ["self", "rest", "place", "size"] [] := Fsl.binds rfl fun _ _ _ _ _ _ us hl => match us, hl with | [_, _, _, _], _ => rfl
  have tsl : Meth K CS "late_of" fsl := ⟨asl, isl, ksl⟩
  have clFC : Cls K FC := ⟨pgFC, hdFC, poFC, saFC⟩
  have IFC : C8.InsC K FC := ⟨clFC, hCFC, hG, hK, hMFC, by unfold PySem.W.kitOne; rw [if_pos (by simp)]⟩
  have Ffi : C8.Fun K "__init__" "Fewest.__init__" sFwI ffi _ := ⟨_, _, _, _, _, _, _, _, _, _, rfl, lfi, cfi⟩
  have bfi : Binds K _ ["self", "chunks"] [] := Ffi.binds rfl fun _ _ _ _ _ _ us hl => match us, hl with | [_, _], _ => rfl
  have tfi : Meth K FC "__init__" ffi := ⟨afi, ifi, kfi⟩
  have clNC : Cls K NC := ⟨pgNC, hdNC, poNC, saNC⟩
  have INC : C8.InsC K NC := ⟨clNC, hCNC, hG, hK, hMNC, by unfold PySem.W.kitOne; rw [if_pos (by simp)]⟩
  have Fni : C8.Fun K "__init__" "NoList.__init__" sNlI fni _ := ⟨_, _, _, _, _, _, _, _, _, _, rfl, lni, cni⟩
  have bni : Binds K _ ["self", "rests"] [] := Fni.binds rfl fun _ _ _ _ _ _ us hl => match us, hl with | [_, _], _ => rfl
  have tni : Meth K NC "__init__" fni := ⟨ani, ini, kni⟩
  have rRC : CRead K RC mcRC := ⟨sRRC, sGRC⟩
  have clRC : Cls K RC := ⟨pgRC, hdRC, poRC, saRC⟩
  have IRC : C8.InsC K RC := ⟨clRC, hCRC, hG, hK, hMRC, by unfold PySem.W.kitOne; rw [if_pos (by simp)]⟩
  have Fqi : C8.Fun K "__init__" "Ratio.__init__" sRat fqi _ := ⟨_, _, _, _, _, _, _, _, _, _, rfl, lqi, cqi⟩
  have FDqi : FunD K "__init__" "Ratio.__init__" (C8.fnArgs sRat) (C8.fnBody sRat) (C8.fnScope sRat) [.int 1] [] fqi _ := ⟨⟨_, _, _, _, _, _, _, _, _, _, rfl, lqi, cqi, .inr ⟨by simp, Tdqi, _, [.int 1 tDqi_0], nDqi, rfl, lDqi, rfl, .cons ⟨_, rfl⟩ (.nil)⟩, .inl rfl⟩, kqi⟩
  have Fqo : C8.Fun K "of" "Ratio.of" sOf fqo _ := ⟨_, _, _, _, _, _, _, _, _, _, rfl, lqo, cqo⟩
  have bqo : Binds K _ ["value"] [] := Fqo.binds rfl fun _ _ _ _ _ _ us hl => match us, hl with | [_], _ => rfl
  have Sqo : SMet K RC "of" pqo fqo := ⟨⟨_, sTRC, sRRC, sqo⟩, sGRC, ⟨_, rqo⟩, kqo⟩
  have FEg : C8.Fun K "__init__" "BadSetting.__init__" sBsgE fEg _ := ⟨_, _, _, _, _, _, _, _, _, _, rfl, lEg, cEg⟩
  have bEg : Binds K _ ["self", "part"] [] := FEg.binds rfl fun _ _ _ _ _ _ us hl => match us, hl with | [_, _], _ => rfl
  have OXg : OexC K DG := ⟨⟨_, _, _, _, _, _, _, _, _, _, _, _, _, _, _, xDg, xBg⟩, xsg, xeg, xtg, xkg⟩
  have FEo : C8.Fun K "__init__" "BadCost.__init__" sBcoE fEo _ := ⟨_, _, _, _, _, _, _, _, _, _, rfl, lEo, cEo⟩
  have bEo : Binds K _ ["self", "value"] [] := FEo.binds rfl fun _ _ _ _ _ _ us hl => match us, hl with | [_, _], _ => rfl
  have OXo : OexC K DO := ⟨⟨_, _, _, _, _, _, _, _, _, _, _, _, _, _, _, xDo, xBo⟩, xso, xeo, xto, xko⟩
  have FEf : C8.Fun K "__init__" "BadFee.__init__" sBfeE fEf _ := ⟨_, _, _, _, _, _, _, _, _, _, rfl, lEf, cEf⟩
  have bEf : Binds K _ ["self", "value"] [] := FEf.binds rfl fun _ _ _ _ _ _ us hl => match us, hl with | [_, _], _ => rfl
  have OXf : OexC K DF := ⟨⟨_, _, _, _, _, _, _, _, _, _, _, _, _, _, _, xDf, xBf⟩, xsf, xef, xtf, xkf⟩
  have FEr : C8.Fun K "__init__" "BadRest.__init__" sBreE fEr _ := ⟨_, _, _, _, _, _, _, _, _, _, rfl, lEr, cEr⟩
  have bEr : Binds K _ ["self", "value"] [] := FEr.binds rfl fun _ _ _ _ _ _ us hl => match us, hl with | [_, _], _ => rfl
  have OXr : OexC K DR := ⟨⟨_, _, _, _, _, _, _, _, _, _, _, _, _, _, _, xDr, xBr⟩, xsr, xer, xtr, xkr⟩
  have FEl : C8.Fun K "__init__" "BadLimit.__init__" sBliE fEl _ := ⟨_, _, _, _, _, _, _, _, _, _, rfl, lEl, cEl⟩
  have bEl : Binds K _ ["self", "value"] [] := FEl.binds rfl fun _ _ _ _ _ _ us hl => match us, hl with | [_, _], _ => rfl
  have OXl : OexC K DL := ⟨⟨_, _, _, _, _, _, _, _, _, _, _, _, _, _, _, xDl, xBl⟩, xsl, xel, xtl, xkl⟩
  have FEh : C8.Fun K "__init__" "BadChunks.__init__" sBchE fEh _ := ⟨_, _, _, _, _, _, _, _, _, _, rfl, lEh, cEh⟩
  have bEh : Binds K _ ["self", "part"] [] := FEh.binds rfl fun _ _ _ _ _ _ us hl => match us, hl with | [_, _], _ => rfl
  have OXh : OexC K DH := ⟨⟨_, _, _, _, _, _, _, _, _, _, _, _, _, _, _, xDh, xBh⟩, xsh, xeh, xth, xkh⟩
  have FEz : C8.Fun K "__init__" "BadSize.__init__" sBszE fEz _ := ⟨_, _, _, _, _, _, _, _, _, _, rfl, lEz, cEz⟩
  have bEz : Binds K _ ["self", "value"] [] := FEz.binds rfl fun _ _ _ _ _ _ us hl => match us, hl with | [_, _], _ => rfl
  have OXz : OexC K DZ := ⟨⟨_, _, _, _, _, _, _, _, _, _, _, _, _, _, _, xDz, xBz⟩, xsz, xez, xtz, xkz⟩
  have FEt : C8.Fun K "__init__" "BadTotal.__init__" sBtoE fEt _ := ⟨_, _, _, _, _, _, _, _, _, _, rfl, lEt, cEt⟩
  have bEt : Binds K _ ["self", "value"] [] := FEt.binds rfl fun _ _ _ _ _ _ us hl => match us, hl with | [_, _], _ => rfl
  have OXt : OexC K DT := ⟨⟨_, _, _, _, _, _, _, _, _, _, _, _, _, _, _, xDt, xBt⟩, xst, xet, xtt, xkt⟩
  have FEc : C8.Fun K "__init__" "BadCrew.__init__" sBcrE fEc _ := ⟨_, _, _, _, _, _, _, _, _, _, rfl, lEc, cEc⟩
  have bEc : Binds K _ ["self", "part"] [] := FEc.binds rfl fun _ _ _ _ _ _ us hl => match us, hl with | [_, _], _ => rfl
  have OXc : OexC K DQ := ⟨⟨_, _, _, _, _, _, _, _, _, _, _, _, _, _, _, xDc, xBc⟩, xsc, xec, xtc, xkc⟩
  have FEn : C8.Fun K "__init__" "BadName.__init__" sBnmE fEn _ := ⟨_, _, _, _, _, _, _, _, _, _, rfl, lEn, cEn⟩
  have bEn : Binds K _ ["self", "value"] [] := FEn.binds rfl fun _ _ _ _ _ _ us hl => match us, hl with | [_, _], _ => rfl
  have OXn : OexC K DN := ⟨⟨_, _, _, _, _, _, _, _, _, _, _, _, _, _, _, xDn, xBn⟩, xsn, xen, xtn, xkn⟩
  have FEs : C8.Fun K "__init__" "BadSpeed.__init__" sBspE fEs _ := ⟨_, _, _, _, _, _, _, _, _, _, rfl, lEs, cEs⟩
  have bEs : Binds K _ ["self", "value"] [] := FEs.binds rfl fun _ _ _ _ _ _ us hl => match us, hl with | [_, _], _ => rfl
  have OXs : OexC K DD := ⟨⟨_, _, _, _, _, _, _, _, _, _, _, _, _, _, _, xDs, xBs⟩, xss, xes, xts, xks⟩
  have FEm : C8.Fun K "__init__" "TooMany.__init__" sMnE fEm _ := ⟨_, _, _, _, _, _, _, _, _, _, rfl, lEm, cEm⟩
  have bEm : Binds K _ ["self", "what", "most"] [] := FEm.binds rfl fun _ _ _ _ _ _ us hl => match us, hl with | [_, _, _], _ => rfl
  have OXm : OexC K DM := ⟨⟨_, _, _, _, _, _, _, _, _, _, _, _, _, _, _, xDm, xBm⟩, xsm, xem, xtm, xkm⟩
  have T0 : Txt mg := { n_int := PySem.W.mg_none_of X G z_int, n_list := PySem.W.mg_none_of X G z_list, n_len := PySem.W.mg_none_of X G z_len, n_abs := PySem.W.mg_none_of X G z_abs, n_bool := PySem.W.mg_none_of X G z_bool, n_str := PySem.W.mg_none_of X G z_str, n_isinstance := PySem.W.mg_none_of X G z_isinstance, n_range := PySem.W.mg_none_of X G z_range, n_repr := PySem.W.mg_none_of X G z_repr, n_all := PySem.W.mg_none_of X G z_all, c_GS := ⟨_, PySem.W.mg_of X G gGS⟩ }
  have T : TxtC mg := { toTxt := T0, n_sorted := PySem.W.mg_none_of X G z_sorted, n_tuple := PySem.W.mg_none_of X G z_tuple, n_sum := PySem.W.mg_none_of X G z_sum, n_min := PySem.W.mg_none_of X G z_min, n_max := PySem.W.mg_none_of X G z_max, n_dict := PySem.W.mg_none_of X G z_dict, n_iter := PySem.W.mg_none_of X G z_iter, c_MW := ⟨_, PySem.W.mg_of X G gMW⟩ }
  have TK : TxtK K mg := { toTxt := T0, c_LN := ⟨_, PySem.W.mg_of X G gLN⟩, c_LE := ⟨_, PySem.W.mg_of X G gE⟩, c_TW := ⟨aW, PySem.W.mg_of X G gW, fun H => .inr ⟨_, _, _, lW, rfl, rfl, Nat.le_trans sW (by decide), vW⟩⟩ }
  have hz := PySem.W.mg_none_of X G z_zip
  have htu := PySem.W.mg_none_of X G z_tuple
  obtain ⟨dq1, vq1, bq1⟩ := FDqi.binds1 (ps := ["self", "over", "under"]) 2 0 (by simp) rfl (fun Tq kVq dcq pmq anq cdq ctq us its h1 h2 => match us, its, h1, h2 with | [_, _], [_], _, _ => ⟨_, rfl, rfl⟩)
  obtain ⟨dq2, vq2, bq2⟩ := FDqi.binds1 (ps := ["self", "over", "under"]) 3 1 (by simp) rfl (fun Tq kVq dcq pmq anq cdq ctq us its h1 h2 => match us, its, h1, h2 with | [_, _, _], [_], _, _ => ⟨_, rfl, rfl⟩)
  obtain rfl : dq2 = [] := by cases (show Vals [] dq2 from vq2); rfl
  obtain ⟨dp1, vp1, bp1⟩ := FDsi.binds1 (ps := ["self", "crew", "least", "most", "fee"]) 2 0 (by simp) rfl (fun Tq kVq dcq pmq anq cdq ctq us its h1 h2 => match us, its, h1, h2 with | [_, _], [_, _, _], _, _ => ⟨_, rfl, rfl⟩)
  obtain ⟨dp2, vp2, bp2⟩ := FDsi.binds1 (ps := ["self", "crew", "least", "most", "fee"]) 5 3 (by simp) rfl (fun Tq kVq dcq pmq anq cdq ctq us its h1 h2 => match us, its, h1, h2 with | [_, _, _, _, _], [_, _, _], _, _ => ⟨_, rfl, rfl⟩)
  obtain rfl : dp2 = [] := by cases (show Vals [] dp2 from vp2); rfl
  refine ⟨PySem.W.fnOf "law" "law" (C8.fnArgs sLaw) (C8.fnBody sLaw) (C8.fnScope sLaw) .none kVla dcla pmla anla cdla ctla, [], spLaw K [], ?tbs, fun s u => .of_eq rfl, fun base KB GB TBS => ?_, ?hsp⟩
  case tbs =>
    exact fun e he => by cases he
  case hsp =>
    exact fun H a ns hB hS hl => ⟨a, ns, rfl, hS, hl, (fun p hp => by cases hp), fun _ => rfl⟩

  have ERg : Err1 "BadSetting" "part" l.prog w K mg base DG fEg _ := ⟨OXg, xig, xfg, fn_BsgE FEg OXg xvg0, bEg, PySem.W.mg_of X G aDg⟩
  have ERo : Err1 "BadCost" "value" l.prog w K mg base DO fEo _ := ⟨OXo, xio, xfo, fn_BcoE FEo OXo xvo0, bEo, PySem.W.mg_of X G aDo⟩
  have ERf : Err1 "BadFee" "value" l.prog w K mg base DF fEf _ := ⟨OXf, xif, xff, fn_BfeE FEf OXf xvf0, bEf, PySem.W.mg_of X G aDf⟩
  have ERr : Err1 "BadRest" "value" l.prog w K mg base DR fEr _ := ⟨OXr, xir, xfr, fn_BreE FEr OXr xvr0, bEr, PySem.W.mg_of X G aDr⟩
  have ERl : Err1 "BadLimit" "value" l.prog w K mg base DL fEl _ := ⟨OXl, xil, xfl, fn_BliE FEl OXl xvl0, bEl, PySem.W.mg_of X G aDl⟩
  have ERh : Err1 "BadChunks" "part" l.prog w K mg base DH fEh _ := ⟨OXh, xih, xfh, fn_BchE FEh OXh xvh0, bEh, PySem.W.mg_of X G aDh⟩
  have ERz : Err1 "BadSize" "value" l.prog w K mg base DZ fEz _ := ⟨OXz, xiz, xfz, fn_BszE FEz OXz xvz0, bEz, PySem.W.mg_of X G aDz⟩
  have ERt : Err1 "BadTotal" "value" l.prog w K mg base DT fEt _ := ⟨OXt, xit, xft, fn_BtoE FEt OXt xvt0, bEt, PySem.W.mg_of X G aDt⟩
  have ERc : Err1 "BadCrew" "part" l.prog w K mg base DQ fEc _ := ⟨OXc, xic, xfc, fn_BcrE FEc OXc xvc0, bEc, PySem.W.mg_of X G aDc⟩
  have ERn : Err1 "BadName" "value" l.prog w K mg base DN fEn _ := ⟨OXn, xin, xfn, fn_BnmE FEn OXn xvn0, bEn, PySem.W.mg_of X G aDn⟩
  have ERs : Err1 "BadSpeed" "value" l.prog w K mg base DD fEs _ := ⟨OXs, xis, xfs, fn_BspE FEs OXs xvs0, bEs, PySem.W.mg_of X G aDs⟩
  have ERm : Err2 "TooMany" "what" "most" l.prog w K mg base DM fEm _ := ⟨OXm, xim, xfm, fn_mnE FEm OXm xvm0 xvm1, bEm, PySem.W.mg_of X G aDm⟩
  have Dii := cal_isint (P := l.prog) (w := w) (base := base) Fii bii T0
  have Diw := cal_within Fiw biw T0 Dii
  have Diz := cal_size Fiz biz T0 Diw
  have Din := cal_isname (P := l.prog) (w := w) (base := base) Fin bin TK
  have Dis := cal_isp (P := l.prog) (w := w) (base := base) Fis bis ⟨_, PySem.W.mg_of X G gGP⟩ Diw
  have ZH : ChC l.prog w K mg base HC DM mcHC := ⟨rHC, ⟨_, ⟨cM, ⟨_, rfl⟩⟩⟩, PySem.W.mg_of X G aHC, clHC, noHC_sizes, noHC_total, noHC_ends, noHC_rests⟩
  have FCM := fn_cm (P := l.prog) (w := w) (base := base) Fcm ZH ERm
  have HM : ChM2 l.prog w K mg base HC DM DZ fhi mcHC := ⟨ZH, ⟨mkHC, ahi, ihi, kCHC⟩, fn_ci2 Fhi rfl T0 hz htu ZH ERz Diz Fcm bcm FCM⟩
  have OH : OfK l.prog w K mg base HC DM DZ DH pho fho _ := ⟨PySem.W.mg_of X G aHC, Sho, fn_cof2 Fho T0 htu ERh HM, bho⟩
  have Z : CrC K mg CC := ⟨clCC, PySem.W.mg_of X G aCC, noCC_workers, noCC_speed, noCC_least_speed, noCC_greatest_speed, noCC_slowest, noCC_fastest, noCC__pairs, noCC__speeds⟩
  have FK := fn_chk (P := l.prog) (w := w) (base := base) Fck ERn ERs Din Dis
  have CM : CrM l.prog w K mg base CC DN DD DQ DM fci := ⟨Z, ⟨mkCC, aci, ici, kCCC⟩, fn_crI Fci rfl T Z ERc ERm Fck bck FK⟩
  have FO := fn_cof (P := l.prog) (w := w) (base := base) Fco T CM ERc Fck bck FK
  have OF : OfC l.prog w K mg base CC DN DD DQ DM pco fco _ := ⟨Sco, FO, bco⟩
  have NB : NoB K RC := ⟨oiRC, obRC, osRC⟩
  have RM : RatM l.prog w K mg base RC fqi _ dq1 := ⟨⟨mkRC, aqi, iqi, kCRC⟩, fn_ratP Fqi clRC noRC_over noRC_under (PySem.W.mg_of X G agc) Dii, PySem.W.mg_of X G aRC, bq1, vq1, bq2⟩
  have OM : OfM l.prog w K mg base RC pqo fqo _ := ⟨Sqo, fn_ofP Fqo T0 IRC kir RM, bqo⟩
  have SC : StgC K mg CS := ⟨clCS, PySem.W.mg_of X G aCS, noCS_crew, noCS_least, noCS_most, noCS_fee, noCS_lowest⟩
  have FSP := fn_spo (P := l.prog) (w := w) (base := base) Fsp ERr ERh Dii
  have FLO := fn_lof (P := l.prog) (w := w) (base := base) Fsl SC Z Fsp bsp FSP Diw ERz RM
  have ML : MetX l.prog w K mg base 5 CS "late_of" (spLof K CS CC RC DR DH DZ) := ⟨_, _, _, tsl, FLO, bsl⟩
  have SM : SetM l.prog w K mg base CS CC RC DG DO DF fsi _ := ⟨⟨mkCS, asi, isi, kCCS⟩, fn_sti Fsi T SC (PySem.W.mg_of X G aCC) ⟨_, PySem.W.mg_of X G gGC⟩ ⟨_, PySem.W.mg_of X G gGF⟩ Diw ERg ERo ERf ML, PySem.W.mg_of X G aCS, bp2⟩
  have FKS := fn_cks (P := l.prog) (w := w) (base := base) Fks T ICS (PySem.W.mg_of X G aCS) ERg
  have FCT := fn_ctt (P := l.prog) (w := w) (base := base) Fct T0 ERt Diw
  have Dnu := cal_num (P := l.prog) (w := w) (base := base) Fnu bnu T0 (PySem.W.mg_of X G aRC) IRC NB Dii
  have FKU := fn_cli (P := l.prog) (w := w) (base := base) Fku ERl Dnu
  have FBB := fn_bby (P := l.prog) (w := w) (base := base) Fbb SC Z clRC noRC_over noRC_under
  have FBO := fn_bof (P := l.prog) (w := w) (base := base) Fbo SC Z RM OM Fbb bbb FBB
  have FGL := fn_glt (P := l.prog) (w := w) (base := base) Fgl T
  have FKA := fn_cka (P := l.prog) (w := w) (base := base) (CC := CC) Fka Fct bct FCT Fks bks FKS Fku bku FKU
  have FGR := fn_grd (P := l.prog) (w := w) (base := base) Fgr T Fbo bbo FBO Fgl bgl FGL
  have FCB := fn_cbt (P := l.prog) (w := w) (base := base) Fcb T hz ZH OH
  have FWM : PapM "Fewest" "chunks" l.prog w K mg base FC ffi _ := ⟨⟨mkFC, afi, ifi, kCFC⟩, fn_fwI Ffi clFC noFC_chunks, PySem.W.mg_of X G aFC, bfi, clFC, noFC_chunks⟩
  have NLM : PapM "NoList" "rests" l.prog w K mg base NC fni _ := ⟨⟨mkNC, ani, ini, kCNC⟩, fn_nlI Fni clNC noNC_rests, PySem.W.mg_of X G aNC, bni, clNC, noNC_rests⟩
  have FFW := fn_few (P := l.prog) (w := w) (base := base) Ffw T ZH Fka bka FKA Fgr bgr FGR Fcb bcb FCB Fcm bcm FCM FWM NLM
  have D1 := cal_draw (P := l.prog) (w := w) (K := K) (base := base) Fld bld T0.toTxt0
  have D2 := cal_pick Flk blk T0.toTxt0 D1
  have D0 := cal_pen (P := l.prog) (w := w) (base := base) Flp blp T0.toTxt0
  have DSe := cal_lse (P := l.prog) (w := w) (base := base) Flv blv ICC (PySem.W.mg_of X G aCC) OF SM
  have D3 := cal_lth (P := l.prog) (w := w) (base := base) Flw blw T
  have DLa := cal_lla (P := l.prog) (w := w) (base := base) Flt blt T D3
  have DUn := cal_lun (P := l.prog) (w := w) (base := base) Flu blu T D3
  have DPl := cal_ldp (P := l.prog) (w := w) (base := base) Flq blq T D1 D2
  have DIl := cal_ilt (P := l.prog) (w := w) (base := base) Fle ble T DLa DUn
  have DLi := cal_lli (P := l.prog) (w := w) (base := base) Flx blx T D1 D2 DLa DUn
  have DLo := cal_llo (P := l.prog) (w := w) (base := base) Fly bly T RM
  have DBh := cal_bhd (P := l.prog) (w := w) (base := base) Flb blb T DIl
  have DRi := cal_rig Flr blr T ZH DSe DLo DBh Ffw bfw FFW FWM NLM IFC INC nfc
  exact fn_law (TS := []) Fla.fn T D1 D0 DPl DLi DRi
end Lw
namespace Lw
open PySem PySem.Spec PyProof.Rows L2
open LamX
theorem tab_parts {K : PySem.W.Frag} {c P : Addr} (h : PySem.W.codeHdIn K c P = true) : ∃ (oc : Value) (od : Option Addr) (us : Array Value) (sl : Array (Option Value)), K.lookup c = some ⟨oc, od, .fields us, sl⟩ ∧ us[11]? = some (.ref P) := by
  unfold PySem.W.codeHdIn at h
  split at h
  · rename_i od vs sl hk
    refine ⟨_, _, _, _, hk, ?_⟩
    have h1 := (Bool.and_eq_true_iff.mp (Bool.and_eq_true_iff.mp (Bool.and_eq_true_iff.mp (Bool.and_eq_true_iff.mp (Bool.and_eq_true_iff.mp h).1).1).1).1).1
    split at h1
    · rename_i P' e
      rw [e, beq_iff_eq.mp h1]
    · cases h1
  · cases h
/-- the walk's end over a Hook that tells of some K -/
theorem walk_endX {l : PySem.W.OpenLaw} {n k : Nat} {q : Program} {loose : List Str} {XP : (Str → Option Value) → Heap → Prop} {YP : World → Heap → Prop} {d : DefRec} {x : Str} {xts : List Str}
    (hn : l.most = some n) (hn2 : n ≤ 63) (hdf : d.params.defaults = []) (hr : Room k callerA)
    (F : ∀ (w : World) (mg : Str → Option Value) (fa : Addr) (h : Heap), YP w h → h.Ns mainGlobals mg → mg d.name = some (.ref fa) → ∃ (K : PySem.W.Frag) (fd : FuncData) (tb : List (Str × Addr × Addr)) (sp : Sp), K.In h ∧ (∀ y ∈ xts, ∃ c B, PySem.W.tabIn K y = some (c, B) ∧ PySem.W.codeHdIn K c B = true ∧ h.get? B = some { cls := .none, data := .fields #[] }) ∧
      (∀ e ∈ tb, e.1 ∈ xts ∧ PySem.W.tabIn K e.1 = some (e.2.1, e.2.2) ∧ K.lookup e.2.2 = none) ∧ (∀ (s : Shared) (u : Value), BindsTo s fd ⟨[u], []⟩ [(x, u)]) ∧
      (∀ base : Heap, K.In base → base.Ns mainGlobals mg → (∀ e ∈ tb, TabB base mg e.2.1 e.2.2) → FnG l.prog w K mg base k fa fd [x] sp) ∧
      ∀ (H : Hp) (a : Addr) (ns : List Int), (∀ e ∈ tb, H e.2.2 = some (.tbl #[])) → SqL K H a (ns.map V.int) → ns.length ≤ 63 → sp [.ref a] H (fun v _ => v = .bl true) C8.E0) :
    PySem.W.WalkO q loose XP YP l.row.toRowW d [] (fun f vs => PySem.call f vs) := by
  refine Att.attach_callB hn hdf fun w s₀ s₁ mg mb fa o pm cd doc a vs ns G Y ho hd hcd hmg hobj hints hlen hbits hg => ?_
  obtain ⟨K, fd, tb, sp, KX, hx, ht, hb, hF, hsp⟩ := F w mg fa _ Y G.T.g hmg
  have tab : ∀ e ∈ tb, PySem.W.CodeHd s₁.heap e.2.1 e.2.2 ∧ s₁.heap.get? e.2.2 = some { cls := .none, data := .fields #[] } := fun e he => by
    obtain ⟨h1, h2, h3⟩ := ht e he
    obtain ⟨c, B, g1, g2, g3⟩ := hx _ h1
    rw [g1] at h2
    obtain ⟨z1, z2⟩ := Prod.mk.inj (Option.some.inj h2)
    rw [← z1, ← z2]
    exact ⟨PySem.W.codeHd_of_K KX g2, g3⟩
  have mem : ∀ {p : Addr → Prop}, (∀ e ∈ tb, p e.2.2) → ∀ b ∈ tb.map (·.2.2), p b := fun {p} h b hb => by
    obtain ⟨e, he, rfl⟩ := List.mem_map.mp hb
    exact h e he
  exact law_end (Bs := tb.map (·.2.2)) KX G.T.g G.T.b G.T.builtins G.T.nolimit hg (mem fun e he => (tab e he).2) (mem fun e he => (ht e he).2.2) (mem fun e he => ⟨_, (tab e he).1⟩) G.T.bmain hobj hints (Nat.le_trans (Nat.le_trans hlen hn2) (by decide)) hr
    (fun base kin ns' tbb => hF base kin ns' fun e he => tbb e.2.2 (List.mem_map.mpr ⟨e, he, rfl⟩) e.2.1 (tab e he).1) hb fun H hB hS => hsp H a ns (fun e he => hB e.2.2 (List.mem_map.mpr ⟨e, he, rfl⟩)) hS (Nat.le_trans hlen hn2)
theorem known {l : PySem.W.OpenLaw} {w : World} {K : PySem.W.Frag} {h : Heap} {mg : Str → Option Value} {fa : Addr} (X : K.In h) (G : h.Ns mainGlobals mg) (hfa' : mg "law" = some (.ref fa)) (c : Hz.SaysZ hfn htf exK h K) :
    ∃ (K : PySem.W.Frag) (fd : FuncData) (tb : List (Str × Addr × Addr)) (sp : Sp), K.In h ∧ (∀ y ∈ ([] : List Str), ∃ c B, PySem.W.tabIn K y = some (c, B) ∧ PySem.W.codeHdIn K c B = true ∧ h.get? B = some { cls := .none, data := .fields #[] }) ∧
      (∀ e ∈ tb, e.1 ∈ ([] : List Str) ∧ PySem.W.tabIn K e.1 = some (e.2.1, e.2.2) ∧ K.lookup e.2.2 = none) ∧ (∀ (s : Shared) (u : Value), BindsTo s fd ⟨[u], []⟩ [("_law_script", u)]) ∧
      (∀ base : Heap, K.In base → base.Ns mainGlobals mg → (∀ e ∈ tb, TabB base mg e.2.1 e.2.2) → FnG l.prog w K mg base 16 fa fd ["_law_script"] sp) ∧
      ∀ (H : Hp) (a : Addr) (ns : List Int), (∀ e ∈ tb, H e.2.2 = some (.tbl #[])) → SqL K H a (ns.map V.int) → ns.length ≤ 63 → sp [.ref a] H (fun v _ => v = .bl true) C8.E0 := by
  have e0 : (exK K).all (fun l => l.all id) = true := c.more
  obtain ⟨_, _, _, _, _, _, cd_ii, _, _, l_ii, c_ii⟩ := (show ∃ oc od kV dc pm an cd ct sl, K.lookup (He.ga K "is_integer") = some ⟨oc, od, .func (PySem.W.fnOf "is_integer" "is_integer" (C8.fnArgs sIsInt) (C8.fnBody sIsInt) (C8.fnScope sIsInt) .none kV dc pm an cd ct), sl⟩ ∧ PySem.W.codeIn K cd "is_integer" = true from c.get0 0 (d := hd0) rfl rfl)
  obtain ⟨_, _, _, _, _, _, cd_iw, _, _, l_iw, c_iw⟩ := (show ∃ oc od kV dc pm an cd ct sl, K.lookup (He.ga K "is_within") = some ⟨oc, od, .func (PySem.W.fnOf "is_within" "is_within" (C8.fnArgs sWithin) (C8.fnBody sWithin) (C8.fnScope sWithin) .none kV dc pm an cd ct), sl⟩ ∧ PySem.W.codeIn K cd "is_within" = true from c.get0 1 (d := hd1) rfl rfl)
  obtain ⟨_, _, _, _, _, _, cd_iz, _, _, l_iz, c_iz⟩ := (show ∃ oc od kV dc pm an cd ct sl, K.lookup (He.ga K "is_size") = some ⟨oc, od, .func (PySem.W.fnOf "is_size" "is_size" (C8.fnArgs sSize) (C8.fnBody sSize) (C8.fnScope sSize) .none kV dc pm an cd ct), sl⟩ ∧ PySem.W.codeIn K cd "is_size" = true from c.get0 2 (d := hd2) rfl rfl)
  obtain ⟨_, _, _, _, _, _, cd_in, _, _, l_in, c_in⟩ := (show ∃ oc od kV dc pm an cd ct sl, K.lookup (He.ga K "is_name") = some ⟨oc, od, .func (PySem.W.fnOf "is_name" "is_name" (C8.fnArgs sIsName) (C8.fnBody sIsName) (C8.fnScope sIsName) .none kV dc pm an cd ct), sl⟩ ∧ PySem.W.codeIn K cd "is_name" = true from c.get0 3 (d := hd3) rfl rfl)
  obtain ⟨_, _, _, _, _, _, cd_is, _, _, l_is, c_is⟩ := (show ∃ oc od kV dc pm an cd ct sl, K.lookup (He.ga K "is_speed") = some ⟨oc, od, .func (PySem.W.fnOf "is_speed" "is_speed" (C8.fnArgs sIsp) (C8.fnBody sIsp) (C8.fnScope sIsp) .none kV dc pm an cd ct), sl⟩ ∧ PySem.W.codeIn K cd "is_speed" = true from c.get0 4 (d := hd4) rfl rfl)
  obtain ⟨_, _, _, _, _, _, cd_ck, _, _, l_ck, c_ck⟩ := (show ∃ oc od kV dc pm an cd ct sl, K.lookup (He.ga K "check_speeds") = some ⟨oc, od, .func (PySem.W.fnOf "check_speeds" "check_speeds" (C8.fnArgs sChk) (C8.fnBody sChk) (C8.fnScope sChk) .none kV dc pm an cd ct), sl⟩ ∧ PySem.W.codeIn K cd "check_speeds" = true from c.get0 5 (d := hd5) rfl rfl)
  obtain ⟨_, _, _, _, _, _, cd_nu, _, _, l_nu, c_nu⟩ := (show ∃ oc od kV dc pm an cd ct sl, K.lookup (He.ga K "is_number") = some ⟨oc, od, .func (PySem.W.fnOf "is_number" "is_number" (C8.fnArgs sNum) (C8.fnBody sNum) (C8.fnScope sNum) .none kV dc pm an cd ct), sl⟩ ∧ PySem.W.codeIn K cd "is_number" = true from c.get0 6 (d := hd6) rfl rfl)
  obtain ⟨_, _, _, _, _, _, cd_cm, _, _, l_cm, c_cm⟩ := (show ∃ oc od kV dc pm an cd ct sl, K.lookup (He.ga K "check_many") = some ⟨oc, od, .func (PySem.W.fnOf "check_many" "check_many" (C8.fnArgs sCM) (C8.fnBody sCM) (C8.fnScope sCM) .none kV dc pm an cd ct), sl⟩ ∧ PySem.W.codeIn K cd "check_many" = true from c.get0 7 (d := hd7) rfl rfl)
  obtain ⟨_, _, _, _, _, _, cd_ct, _, _, l_ct, c_ct⟩ := (show ∃ oc od kV dc pm an cd ct sl, K.lookup (He.ga K "check_total") = some ⟨oc, od, .func (PySem.W.fnOf "check_total" "check_total" (C8.fnArgs sCtt) (C8.fnBody sCtt) (C8.fnScope sCtt) .none kV dc pm an cd ct), sl⟩ ∧ PySem.W.codeIn K cd "check_total" = true from c.get0 8 (d := hd8) rfl rfl)
  obtain ⟨_, _, _, _, _, _, cd_sp, _, _, l_sp, c_sp⟩ := (show ∃ oc od kV dc pm an cd ct sl, K.lookup (He.ga K "check_spot") = some ⟨oc, od, .func (PySem.W.fnOf "check_spot" "check_spot" (C8.fnArgs sSpo) (C8.fnBody sSpo) (C8.fnScope sSpo) .none kV dc pm an cd ct), sl⟩ ∧ PySem.W.codeIn K cd "check_spot" = true from c.get0 9 (d := hd9) rfl rfl)
  obtain ⟨_, _, _, _, _, _, cd_ks, _, _, l_ks, c_ks⟩ := (show ∃ oc od kV dc pm an cd ct sl, K.lookup (He.ga K "check_setting") = some ⟨oc, od, .func (PySem.W.fnOf "check_setting" "check_setting" (C8.fnArgs sCks) (C8.fnBody sCks) (C8.fnScope sCks) .none kV dc pm an cd ct), sl⟩ ∧ PySem.W.codeIn K cd "check_setting" = true from c.get0 10 (d := hd10) rfl rfl)
  obtain ⟨_, _, _, _, _, _, cd_ku, _, _, l_ku, c_ku⟩ := (show ∃ oc od kV dc pm an cd ct sl, K.lookup (He.ga K "check_limit") = some ⟨oc, od, .func (PySem.W.fnOf "check_limit" "check_limit" (C8.fnArgs sCli) (C8.fnBody sCli) (C8.fnScope sCli) .none kV dc pm an cd ct), sl⟩ ∧ PySem.W.codeIn K cd "check_limit" = true from c.get0 11 (d := hd11) rfl rfl)
  obtain ⟨_, _, _, _, _, _, cd_bb, _, _, l_bb, c_bb⟩ := (show ∃ oc od kV dc pm an cd ct sl, K.lookup (He.ga K "bound_by") = some ⟨oc, od, .func (PySem.W.fnOf "bound_by" "bound_by" (C8.fnArgs sBby) (C8.fnBody sBby) (C8.fnScope sBby) .none kV dc pm an cd ct), sl⟩ ∧ PySem.W.codeIn K cd "bound_by" = true from c.get0 12 (d := hd12) rfl rfl)
  obtain ⟨_, _, _, _, _, _, cd_bo, _, _, l_bo, c_bo⟩ := (show ∃ oc od kV dc pm an cd ct sl, K.lookup (He.ga K "bounds_of") = some ⟨oc, od, .func (PySem.W.fnOf "bounds_of" "bounds_of" (C8.fnArgs sBof) (C8.fnBody sBof) (C8.fnScope sBof) .none kV dc pm an cd ct), sl⟩ ∧ PySem.W.codeIn K cd "bounds_of" = true from c.get0 13 (d := hd13) rfl rfl)
  obtain ⟨_, _, _, _, _, _, cd_gl, _, _, l_gl, c_gl⟩ := (show ∃ oc od kV dc pm an cd ct sl, K.lookup (He.ga K "greatest_let") = some ⟨oc, od, .func (PySem.W.fnOf "greatest_let" "greatest_let" (C8.fnArgs sGlt) (C8.fnBody sGlt) (C8.fnScope sGlt) .none kV dc pm an cd ct), sl⟩ ∧ PySem.W.codeIn K cd "greatest_let" = true from c.get0 14 (d := hd14) rfl rfl)
  obtain ⟨_, _, _, _, _, _, cd_ka, _, _, l_ka, c_ka⟩ := (show ∃ oc od kV dc pm an cd ct sl, K.lookup (He.ga K "check_asked") = some ⟨oc, od, .func (PySem.W.fnOf "check_asked" "check_asked" (C8.fnArgs sCka) (C8.fnBody sCka) (C8.fnScope sCka) .none kV dc pm an cd ct), sl⟩ ∧ PySem.W.codeIn K cd "check_asked" = true from c.get0 15 (d := hd15) rfl rfl)
  obtain ⟨_, _, _, _, _, _, cd_gr, _, _, l_gr, c_gr⟩ := (show ∃ oc od kV dc pm an cd ct sl, K.lookup (He.ga K "greedy_rests") = some ⟨oc, od, .func (PySem.W.fnOf "greedy_rests" "greedy_rests" (C8.fnArgs sGrd) (C8.fnBody sGrd) (C8.fnScope sGrd) .none kV dc pm an cd ct), sl⟩ ∧ PySem.W.codeIn K cd "greedy_rests" = true from c.get0 16 (d := hd16) rfl rfl)
  obtain ⟨_, _, _, _, _, _, cd_cb, _, _, l_cb, c_cb⟩ := (show ∃ oc od kV dc pm an cd ct sl, K.lookup (He.ga K "chunks_between") = some ⟨oc, od, .func (PySem.W.fnOf "chunks_between" "chunks_between" (C8.fnArgs sCbt) (C8.fnBody sCbt) (C8.fnScope sCbt) .none kV dc pm an cd ct), sl⟩ ∧ PySem.W.codeIn K cd "chunks_between" = true from c.get0 17 (d := hd17) rfl rfl)
  obtain ⟨_, _, _, _, _, _, cd_fw, _, _, l_fw, c_fw⟩ := (show ∃ oc od kV dc pm an cd ct sl, K.lookup (He.ga K "fewest") = some ⟨oc, od, .func (PySem.W.fnOf "fewest" "fewest" (C8.fnArgs sFew) (C8.fnBody sFew) (C8.fnScope sFew) .none kV dc pm an cd ct), sl⟩ ∧ PySem.W.codeIn K cd "fewest" = true from c.get0 18 (d := hd18) rfl rfl)
  obtain ⟨_, _, _, _, _, _, cd_lp, _, _, l_lp, c_lp⟩ := (show ∃ oc od kV dc pm an cd ct sl, K.lookup (He.ga K "_law_pen") = some ⟨oc, od, .func (PySem.W.fnOf "_law_pen" "_law_pen" (C8.fnArgs sPen) (C8.fnBody sPen) (C8.fnScope sPen) .none kV dc pm an cd ct), sl⟩ ∧ PySem.W.codeIn K cd "_law_pen" = true from c.get0 19 (d := hd19) rfl rfl)
  obtain ⟨_, _, _, _, _, _, cd_ld, _, _, l_ld, c_ld⟩ := (show ∃ oc od kV dc pm an cd ct sl, K.lookup (He.ga K "_law_draw") = some ⟨oc, od, .func (PySem.W.fnOf "_law_draw" "_law_draw" (C8.fnArgs sDraw) (C8.fnBody sDraw) (C8.fnScope sDraw) .none kV dc pm an cd ct), sl⟩ ∧ PySem.W.codeIn K cd "_law_draw" = true from c.get0 20 (d := hd20) rfl rfl)
  obtain ⟨_, _, _, _, _, _, cd_lk, _, _, l_lk, c_lk⟩ := (show ∃ oc od kV dc pm an cd ct sl, K.lookup (He.ga K "_law_pick") = some ⟨oc, od, .func (PySem.W.fnOf "_law_pick" "_law_pick" (C8.fnArgs sPick) (C8.fnBody sPick) (C8.fnScope sPick) .none kV dc pm an cd ct), sl⟩ ∧ PySem.W.codeIn K cd "_law_pick" = true from c.get0 21 (d := hd21) rfl rfl)
  obtain ⟨_, _, _, _, _, _, cd_lq, _, _, l_lq, c_lq⟩ := (show ∃ oc od kV dc pm an cd ct sl, K.lookup (He.ga K "_law_drawn_plan") = some ⟨oc, od, .func (PySem.W.fnOf "_law_drawn_plan" "_law_drawn_plan" (C8.fnArgs sLdp) (C8.fnBody sLdp) (C8.fnScope sLdp) .none kV dc pm an cd ct), sl⟩ ∧ PySem.W.codeIn K cd "_law_drawn_plan" = true from c.get0 22 (d := hd22) rfl rfl)
  obtain ⟨_, _, _, _, _, _, cd_lv, _, _, l_lv, c_lv⟩ := (show ∃ oc od kV dc pm an cd ct sl, K.lookup (He.ga K "_law_setting") = some ⟨oc, od, .func (PySem.W.fnOf "_law_setting" "_law_setting" (C8.fnArgs sLse) (C8.fnBody sLse) (C8.fnScope sLse) .none kV dc pm an cd ct), sl⟩ ∧ PySem.W.codeIn K cd "_law_setting" = true from c.get0 23 (d := hd23) rfl rfl)
  obtain ⟨_, _, _, _, _, _, cd_lw, _, _, l_lw, c_lw⟩ := (show ∃ oc od kV dc pm an cd ct sl, K.lookup (He.ga K "_law_three") = some ⟨oc, od, .func (PySem.W.fnOf "_law_three" "_law_three" (C8.fnArgs sLth) (C8.fnBody sLth) (C8.fnScope sLth) .none kV dc pm an cd ct), sl⟩ ∧ PySem.W.codeIn K cd "_law_three" = true from c.get0 24 (d := hd24) rfl rfl)
  obtain ⟨_, _, _, _, _, _, cd_lt, _, _, l_lt, c_lt⟩ := (show ∃ oc od kV dc pm an cd ct sl, K.lookup (He.ga K "_law_late") = some ⟨oc, od, .func (PySem.W.fnOf "_law_late" "_law_late" (C8.fnArgs sLla) (C8.fnBody sLla) (C8.fnScope sLla) .none kV dc pm an cd ct), sl⟩ ∧ PySem.W.codeIn K cd "_law_late" = true from c.get0 25 (d := hd25) rfl rfl)
  obtain ⟨_, _, _, _, _, _, cd_lu, _, _, l_lu, c_lu⟩ := (show ∃ oc od kV dc pm an cd ct sl, K.lookup (He.ga K "_law_under") = some ⟨oc, od, .func (PySem.W.fnOf "_law_under" "_law_under" (C8.fnArgs sLun) (C8.fnBody sLun) (C8.fnScope sLun) .none kV dc pm an cd ct), sl⟩ ∧ PySem.W.codeIn K cd "_law_under" = true from c.get0 26 (d := hd26) rfl rfl)
  obtain ⟨_, _, _, _, _, _, cd_le, _, _, l_le, c_le⟩ := (show ∃ oc od kV dc pm an cd ct sl, K.lookup (He.ga K "_law_is_let") = some ⟨oc, od, .func (PySem.W.fnOf "_law_is_let" "_law_is_let" (C8.fnArgs sIlt) (C8.fnBody sIlt) (C8.fnScope sIlt) .none kV dc pm an cd ct), sl⟩ ∧ PySem.W.codeIn K cd "_law_is_let" = true from c.get0 27 (d := hd27) rfl rfl)
  obtain ⟨_, _, _, _, _, _, cd_lx, _, _, l_lx, c_lx⟩ := (show ∃ oc od kV dc pm an cd ct sl, K.lookup (He.ga K "_law_limit") = some ⟨oc, od, .func (PySem.W.fnOf "_law_limit" "_law_limit" (C8.fnArgs sLli) (C8.fnBody sLli) (C8.fnScope sLli) .none kV dc pm an cd ct), sl⟩ ∧ PySem.W.codeIn K cd "_law_limit" = true from c.get0 28 (d := hd28) rfl rfl)
  obtain ⟨_, _, _, _, _, _, cd_ly, _, _, l_ly, c_ly⟩ := (show ∃ oc od kV dc pm an cd ct sl, K.lookup (He.ga K "_law_limit_of") = some ⟨oc, od, .func (PySem.W.fnOf "_law_limit_of" "_law_limit_of" (C8.fnArgs sLlo) (C8.fnBody sLlo) (C8.fnScope sLlo) .none kV dc pm an cd ct), sl⟩ ∧ PySem.W.codeIn K cd "_law_limit_of" = true from c.get0 29 (d := hd29) rfl rfl)
  obtain ⟨_, _, _, _, _, _, cd_lb, _, _, l_lb, c_lb⟩ := (show ∃ oc od kV dc pm an cd ct sl, K.lookup (He.ga K "_law_behind") = some ⟨oc, od, .func (PySem.W.fnOf "_law_behind" "_law_behind" (C8.fnArgs sBhd) (C8.fnBody sBhd) (C8.fnScope sBhd) .none kV dc pm an cd ct), sl⟩ ∧ PySem.W.codeIn K cd "_law_behind" = true from c.get0 30 (d := hd30) rfl rfl)
  obtain ⟨_, _, _, _, _, _, cd_lr, _, _, l_lr, c_lr⟩ := (show ∃ oc od kV dc pm an cd ct sl, K.lookup (He.ga K "_law_right") = some ⟨oc, od, .func (PySem.W.fnOf "_law_right" "_law_right" (C8.fnArgs sRig) (C8.fnBody sRig) (C8.fnScope sRig) .none kV dc pm an cd ct), sl⟩ ∧ PySem.W.codeIn K cd "_law_right" = true from c.get0 31 (d := hd31) rfl rfl)
  obtain ⟨_, _, _, _, _, _, cd_la, _, _, l_la, c_la⟩ := (show ∃ oc od kV dc pm an cd ct sl, K.lookup (He.ga K "law") = some ⟨oc, od, .func (PySem.W.fnOf "law" "law" (C8.fnArgs sLaw) (C8.fnBody sLaw) (C8.fnScope sLaw) .none kV dc pm an cd ct), sl⟩ ∧ PySem.W.codeIn K cd "law" = true from c.get0 32 (d := hd32) rfl rfl)
  obtain ⟨_, _, _, _, _, _, cd_hi, _, _, l_hi, c_hi⟩ := (show ∃ oc od kV dc pm an cd ct sl, K.lookup (He.ma K (He.ga K "Chunks") "__init__") = some ⟨oc, od, .func (PySem.W.fnOf "__init__" "Chunks.__init__" (C8.fnArgs sCI) (C8.fnBody sCI) (C8.fnScope sCI) .none kV dc pm an cd ct), sl⟩ ∧ PySem.W.codeIn K cd "Chunks.__init__" = true from c.get0 33 (d := hd33) rfl rfl)
  obtain ⟨_, _, _, _, _, _, cd_ho, _, _, l_ho, c_ho⟩ := (show ∃ oc od kV dc pm an cd ct sl, K.lookup (Hz.rAd K (Hz.pAd K (He.ga K "Chunks") "of") "staticmethod") = some ⟨oc, od, .func (PySem.W.fnOf "of" "Chunks.of" (C8.fnArgs sHof) (C8.fnBody sHof) (C8.fnScope sHof) .none kV dc pm an cd ct), sl⟩ ∧ PySem.W.codeIn K cd "Chunks.of" = true from c.get0 34 (d := hd34) rfl rfl)
  obtain ⟨_, _, _, _, _, _, cd_ci, _, _, l_ci, c_ci⟩ := (show ∃ oc od kV dc pm an cd ct sl, K.lookup (He.ma K (He.ga K "Crew") "__init__") = some ⟨oc, od, .func (PySem.W.fnOf "__init__" "Crew.__init__" (C8.fnArgs sCrI) (C8.fnBody sCrI) (C8.fnScope sCrI) .none kV dc pm an cd ct), sl⟩ ∧ PySem.W.codeIn K cd "Crew.__init__" = true from c.get0 35 (d := hd35) rfl rfl)
  obtain ⟨_, _, _, _, _, _, cd_co, _, _, l_co, c_co⟩ := (show ∃ oc od kV dc pm an cd ct sl, K.lookup (Hz.rAd K (Hz.pAd K (He.ga K "Crew") "of") "staticmethod") = some ⟨oc, od, .func (PySem.W.fnOf "of" "Crew.of" (C8.fnArgs sCof) (C8.fnBody sCof) (C8.fnScope sCof) .none kV dc pm an cd ct), sl⟩ ∧ PySem.W.codeIn K cd "Crew.of" = true from c.get0 36 (d := hd36) rfl rfl)
  obtain ⟨_, _, _, _, _, _, _, _, _, _, _, _, its_si, _, _, l_si, c_si, lD_si, v_si⟩ := (show ∃ oc od T kV dc pm an cd ct sl oT odT its n slT, K.lookup (He.ma K (He.ga K "Setting") "__init__") = some ⟨oc, od, .func (PySem.W.fnOf "__init__" "Setting.__init__" (C8.fnArgs sSti) (C8.fnBody sSti) (C8.fnScope sSti) (.ref T) kV dc pm an cd ct), sl⟩ ∧ PySem.W.codeIn K cd "Setting.__init__" = true ∧ K.lookup T = some ⟨oT, odT, .seq (List.toArray its) n, slT⟩ ∧ Vals [V.int 1, V.int 1, V.int 0] its from c.getD 37 (d := hd37) rfl (by simp [hd37]))
  obtain ⟨_, _, _, rfl⟩ := Hz.ints3 v_si
  obtain ⟨_, _, _, _, _, _, cd_sl, _, _, l_sl, c_sl⟩ := (show ∃ oc od kV dc pm an cd ct sl, K.lookup (He.ma K (He.ga K "Setting") "late_of") = some ⟨oc, od, .func (PySem.W.fnOf "late_of" "Setting.late_of" (C8.fnArgs sLof) (C8.fnBody sLof) (C8.fnScope sLof) .none kV dc pm an cd ct), sl⟩ ∧ PySem.W.codeIn K cd "Setting.late_of" = true from c.get0 38 (d := hd38) rfl rfl)
  obtain ⟨_, _, _, _, _, _, cd_fi, _, _, l_fi, c_fi⟩ := (show ∃ oc od kV dc pm an cd ct sl, K.lookup (He.ma K (He.ga K "Fewest") "__init__") = some ⟨oc, od, .func (PySem.W.fnOf "__init__" "Fewest.__init__" (C8.fnArgs sFwI) (C8.fnBody sFwI) (C8.fnScope sFwI) .none kV dc pm an cd ct), sl⟩ ∧ PySem.W.codeIn K cd "Fewest.__init__" = true from c.get0 39 (d := hd39) rfl rfl)
  obtain ⟨_, _, _, _, _, _, cd_ni, _, _, l_ni, c_ni⟩ := (show ∃ oc od kV dc pm an cd ct sl, K.lookup (He.ma K (He.ga K "NoList") "__init__") = some ⟨oc, od, .func (PySem.W.fnOf "__init__" "NoList.__init__" (C8.fnArgs sNlI) (C8.fnBody sNlI) (C8.fnScope sNlI) .none kV dc pm an cd ct), sl⟩ ∧ PySem.W.codeIn K cd "NoList.__init__" = true from c.get0 40 (d := hd40) rfl rfl)
  obtain ⟨_, _, _, _, _, _, _, _, _, _, _, _, its_qi, _, _, l_qi, c_qi, lD_qi, v_qi⟩ := (show ∃ oc od T kV dc pm an cd ct sl oT odT its n slT, K.lookup (He.ma K (He.ga K "Ratio") "__init__") = some ⟨oc, od, .func (PySem.W.fnOf "__init__" "Ratio.__init__" (C8.fnArgs sRat) (C8.fnBody sRat) (C8.fnScope sRat) (.ref T) kV dc pm an cd ct), sl⟩ ∧ PySem.W.codeIn K cd "Ratio.__init__" = true ∧ K.lookup T = some ⟨oT, odT, .seq (List.toArray its) n, slT⟩ ∧ Vals [V.int 1] its from c.getD 41 (d := hd41) rfl (by simp [hd41]))
  obtain ⟨_, rfl⟩ := Hz.ints1 v_qi
  obtain ⟨_, _, _, _, _, _, cd_qo, _, _, l_qo, c_qo⟩ := (show ∃ oc od kV dc pm an cd ct sl, K.lookup (Hz.rAd K (Hz.pAd K (He.ga K "Ratio") "of") "staticmethod") = some ⟨oc, od, .func (PySem.W.fnOf "of" "Ratio.of" (C8.fnArgs sOf) (C8.fnBody sOf) (C8.fnScope sOf) .none kV dc pm an cd ct), sl⟩ ∧ PySem.W.codeIn K cd "Ratio.of" = true from c.get0 42 (d := hd42) rfl rfl)
  obtain ⟨_, _, _, _, _, _, cd_Eg, _, _, l_Eg, c_Eg⟩ := (show ∃ oc od kV dc pm an cd ct sl, K.lookup (He.ma K (He.ga K "BadSetting") "__init__") = some ⟨oc, od, .func (PySem.W.fnOf "__init__" "BadSetting.__init__" (C8.fnArgs sBsgE) (C8.fnBody sBsgE) (C8.fnScope sBsgE) .none kV dc pm an cd ct), sl⟩ ∧ PySem.W.codeIn K cd "BadSetting.__init__" = true from c.get0 43 (d := hd43) rfl rfl)
  obtain ⟨_, _, _, _, _, _, cd_Eo, _, _, l_Eo, c_Eo⟩ := (show ∃ oc od kV dc pm an cd ct sl, K.lookup (He.ma K (He.ga K "BadCost") "__init__") = some ⟨oc, od, .func (PySem.W.fnOf "__init__" "BadCost.__init__" (C8.fnArgs sBcoE) (C8.fnBody sBcoE) (C8.fnScope sBcoE) .none kV dc pm an cd ct), sl⟩ ∧ PySem.W.codeIn K cd "BadCost.__init__" = true from c.get0 44 (d := hd44) rfl rfl)
  obtain ⟨_, _, _, _, _, _, cd_Ef, _, _, l_Ef, c_Ef⟩ := (show ∃ oc od kV dc pm an cd ct sl, K.lookup (He.ma K (He.ga K "BadFee") "__init__") = some ⟨oc, od, .func (PySem.W.fnOf "__init__" "BadFee.__init__" (C8.fnArgs sBfeE) (C8.fnBody sBfeE) (C8.fnScope sBfeE) .none kV dc pm an cd ct), sl⟩ ∧ PySem.W.codeIn K cd "BadFee.__init__" = true from c.get0 45 (d := hd45) rfl rfl)
  obtain ⟨_, _, _, _, _, _, cd_Er, _, _, l_Er, c_Er⟩ := (show ∃ oc od kV dc pm an cd ct sl, K.lookup (He.ma K (He.ga K "BadRest") "__init__") = some ⟨oc, od, .func (PySem.W.fnOf "__init__" "BadRest.__init__" (C8.fnArgs sBreE) (C8.fnBody sBreE) (C8.fnScope sBreE) .none kV dc pm an cd ct), sl⟩ ∧ PySem.W.codeIn K cd "BadRest.__init__" = true from c.get0 46 (d := hd46) rfl rfl)
  obtain ⟨_, _, _, _, _, _, cd_El, _, _, l_El, c_El⟩ := (show ∃ oc od kV dc pm an cd ct sl, K.lookup (He.ma K (He.ga K "BadLimit") "__init__") = some ⟨oc, od, .func (PySem.W.fnOf "__init__" "BadLimit.__init__" (C8.fnArgs sBliE) (C8.fnBody sBliE) (C8.fnScope sBliE) .none kV dc pm an cd ct), sl⟩ ∧ PySem.W.codeIn K cd "BadLimit.__init__" = true from c.get0 47 (d := hd47) rfl rfl)
  obtain ⟨_, _, _, _, _, _, cd_Eh, _, _, l_Eh, c_Eh⟩ := (show ∃ oc od kV dc pm an cd ct sl, K.lookup (He.ma K (He.ga K "BadChunks") "__init__") = some ⟨oc, od, .func (PySem.W.fnOf "__init__" "BadChunks.__init__" (C8.fnArgs sBchE) (C8.fnBody sBchE) (C8.fnScope sBchE) .none kV dc pm an cd ct), sl⟩ ∧ PySem.W.codeIn K cd "BadChunks.__init__" = true from c.get0 48 (d := hd48) rfl rfl)
  obtain ⟨_, _, _, _, _, _, cd_Ez, _, _, l_Ez, c_Ez⟩ := (show ∃ oc od kV dc pm an cd ct sl, K.lookup (He.ma K (He.ga K "BadSize") "__init__") = some ⟨oc, od, .func (PySem.W.fnOf "__init__" "BadSize.__init__" (C8.fnArgs sBszE) (C8.fnBody sBszE) (C8.fnScope sBszE) .none kV dc pm an cd ct), sl⟩ ∧ PySem.W.codeIn K cd "BadSize.__init__" = true from c.get0 49 (d := hd49) rfl rfl)
  obtain ⟨_, _, _, _, _, _, cd_Et, _, _, l_Et, c_Et⟩ := (show ∃ oc od kV dc pm an cd ct sl, K.lookup (He.ma K (He.ga K "BadTotal") "__init__") = some ⟨oc, od, .func (PySem.W.fnOf "__init__" "BadTotal.__init__" (C8.fnArgs sBtoE) (C8.fnBody sBtoE) (C8.fnScope sBtoE) .none kV dc pm an cd ct), sl⟩ ∧ PySem.W.codeIn K cd "BadTotal.__init__" = true from c.get0 50 (d := hd50) rfl rfl)
  obtain ⟨_, _, _, _, _, _, cd_Ec, _, _, l_Ec, c_Ec⟩ := (show ∃ oc od kV dc pm an cd ct sl, K.lookup (He.ma K (He.ga K "BadCrew") "__init__") = some ⟨oc, od, .func (PySem.W.fnOf "__init__" "BadCrew.__init__" (C8.fnArgs sBcrE) (C8.fnBody sBcrE) (C8.fnScope sBcrE) .none kV dc pm an cd ct), sl⟩ ∧ PySem.W.codeIn K cd "BadCrew.__init__" = true from c.get0 51 (d := hd51) rfl rfl)
  obtain ⟨_, _, _, _, _, _, cd_En, _, _, l_En, c_En⟩ := (show ∃ oc od kV dc pm an cd ct sl, K.lookup (He.ma K (He.ga K "BadName") "__init__") = some ⟨oc, od, .func (PySem.W.fnOf "__init__" "BadName.__init__" (C8.fnArgs sBnmE) (C8.fnBody sBnmE) (C8.fnScope sBnmE) .none kV dc pm an cd ct), sl⟩ ∧ PySem.W.codeIn K cd "BadName.__init__" = true from c.get0 52 (d := hd52) rfl rfl)
  obtain ⟨_, _, _, _, _, _, cd_Es, _, _, l_Es, c_Es⟩ := (show ∃ oc od kV dc pm an cd ct sl, K.lookup (He.ma K (He.ga K "BadSpeed") "__init__") = some ⟨oc, od, .func (PySem.W.fnOf "__init__" "BadSpeed.__init__" (C8.fnArgs sBspE) (C8.fnBody sBspE) (C8.fnScope sBspE) .none kV dc pm an cd ct), sl⟩ ∧ PySem.W.codeIn K cd "BadSpeed.__init__" = true from c.get0 53 (d := hd53) rfl rfl)
  obtain ⟨_, _, _, _, _, _, cd_Em, _, _, l_Em, c_Em⟩ := (show ∃ oc od kV dc pm an cd ct sl, K.lookup (He.ma K (He.ga K "TooMany") "__init__") = some ⟨oc, od, .func (PySem.W.fnOf "__init__" "TooMany.__init__" (C8.fnArgs sMnE) (C8.fnBody sMnE) (C8.fnScope sMnE) .none kV dc pm an cd ct), sl⟩ ∧ PySem.W.codeIn K cd "TooMany.__init__" = true from c.get0 54 (d := hd54) rfl rfl)
  obtain ⟨_, y_cM⟩ := Hz.clsB_ok (Hz.at_ e0 2 4 rfl rfl)
  obtain ⟨_, y_rho⟩ := Hz.recB_ok (Hz.at_ e0 2 10 rfl rfl)
  obtain ⟨_, y_rco⟩ := Hz.recB_ok (Hz.at_ e0 2 36 rfl rfl)
  obtain ⟨_, y_rqo⟩ := Hz.recB_ok (Hz.at_ e0 4 26 rfl rfl)
  obtain ⟨_, _, _, _, _, _, _, _, _, _, _, _, _, _, _, y_xDg, y_xBg⟩ := Hz.exB_ok (Hz.at_ e0 4 30 rfl rfl)
  obtain ⟨_, _, _, _, _, _, _, _, _, _, _, _, _, _, _, y_xDo, y_xBo⟩ := Hz.exB_ok (Hz.at_ e0 4 39 rfl rfl)
  obtain ⟨_, _, _, _, _, _, _, _, _, _, _, _, _, _, _, y_xDf, y_xBf⟩ := Hz.exB_ok (Hz.at_ e0 5 8 rfl rfl)
  obtain ⟨_, _, _, _, _, _, _, _, _, _, _, _, _, _, _, y_xDr, y_xBr⟩ := Hz.exB_ok (Hz.at_ e0 5 17 rfl rfl)
  obtain ⟨_, _, _, _, _, _, _, _, _, _, _, _, _, _, _, y_xDl, y_xBl⟩ := Hz.exB_ok (Hz.at_ e0 5 26 rfl rfl)
  obtain ⟨_, _, _, _, _, _, _, _, _, _, _, _, _, _, _, y_xDh, y_xBh⟩ := Hz.exB_ok (Hz.at_ e0 5 35 rfl rfl)
  obtain ⟨_, _, _, _, _, _, _, _, _, _, _, _, _, _, _, y_xDz, y_xBz⟩ := Hz.exB_ok (Hz.at_ e0 6 4 rfl rfl)
  obtain ⟨_, _, _, _, _, _, _, _, _, _, _, _, _, _, _, y_xDt, y_xBt⟩ := Hz.exB_ok (Hz.at_ e0 6 13 rfl rfl)
  obtain ⟨_, _, _, _, _, _, _, _, _, _, _, _, _, _, _, y_xDc, y_xBc⟩ := Hz.exB_ok (Hz.at_ e0 6 22 rfl rfl)
  obtain ⟨_, _, _, _, _, _, _, _, _, _, _, _, _, _, _, y_xDn, y_xBn⟩ := Hz.exB_ok (Hz.at_ e0 6 31 rfl rfl)
  obtain ⟨_, _, _, _, _, _, _, _, _, _, _, _, _, _, _, y_xDs, y_xBs⟩ := Hz.exB_ok (Hz.at_ e0 7 0 rfl rfl)
  obtain ⟨_, _, _, _, _, _, _, _, _, _, _, _, _, _, _, y_xDm, y_xBm⟩ := Hz.exB_ok (Hz.at_ e0 7 9 rfl rfl)
  obtain ⟨_, y_gMW⟩ := Hz.intB_ok (Hz.at_ e0 7 18 rfl rfl)
  obtain ⟨_, y_gGP⟩ := Hz.intB_ok (Hz.at_ e0 7 19 rfl rfl)
  obtain ⟨_, y_gLN⟩ := Hz.intB_ok (Hz.at_ e0 7 20 rfl rfl)
  obtain ⟨_, y_gGC⟩ := Hz.intB_ok (Hz.at_ e0 7 21 rfl rfl)
  obtain ⟨_, y_gGF⟩ := Hz.intB_ok (Hz.at_ e0 7 22 rfl rfl)
  obtain ⟨_, y_gGS⟩ := Hz.intB_ok (Hz.at_ e0 7 23 rfl rfl)
  obtain ⟨_, y_gE⟩ := Hz.strB_ok (Hz.at_ e0 7 24 rfl rfl)
  obtain ⟨_, _, _, _, y_lW, y_vW, y_sW⟩ := Hz.tupB_ok (Hz.at_ e0 7 26 rfl rfl)
  obtain ⟨fd, tb, sp, r1, r2, r3, r4⟩ := all_known (l := l) (w := w) X G hfa' (of_decide_eq_true (Hz.at_ e0 0 0 rfl rfl)) l_ii c_ii (Hz.at_ e0 0 1 rfl rfl) (of_decide_eq_true (Hz.at_ e0 0 2 rfl rfl)) l_iw c_iw (Hz.at_ e0 0 3 rfl rfl) (of_decide_eq_true (Hz.at_ e0 0 4 rfl rfl)) l_iz c_iz (Hz.at_ e0 0 5 rfl rfl) (of_decide_eq_true (Hz.at_ e0 0 6 rfl rfl)) l_in c_in (Hz.at_ e0 0 7 rfl rfl) (of_decide_eq_true (Hz.at_ e0 0 8 rfl rfl)) l_is c_is (Hz.at_ e0 0 9 rfl rfl) (of_decide_eq_true (Hz.at_ e0 0 10 rfl rfl)) l_ck c_ck (Hz.at_ e0 0 11 rfl rfl) (of_decide_eq_true (Hz.at_ e0 0 12 rfl rfl)) l_nu c_nu (Hz.at_ e0 0 13 rfl rfl) (of_decide_eq_true (Hz.at_ e0 0 14 rfl rfl)) l_cm c_cm (Hz.at_ e0 0 15 rfl rfl) (of_decide_eq_true (Hz.at_ e0 0 16 rfl rfl)) l_ct c_ct (Hz.at_ e0 0 17 rfl rfl) (of_decide_eq_true (Hz.at_ e0 0 18 rfl rfl)) l_sp c_sp (Hz.at_ e0 0 19 rfl rfl) (of_decide_eq_true (Hz.at_ e0 0 20 rfl rfl)) l_ks c_ks (Hz.at_ e0 0 21 rfl rfl) (of_decide_eq_true (Hz.at_ e0 0 22 rfl rfl)) l_ku c_ku (Hz.at_ e0 0 23 rfl rfl) (of_decide_eq_true (Hz.at_ e0 0 24 rfl rfl)) l_bb c_bb (Hz.at_ e0 0 25 rfl rfl) (of_decide_eq_true (Hz.at_ e0 0 26 rfl rfl)) l_bo c_bo (Hz.at_ e0 0 27 rfl rfl) (of_decide_eq_true (Hz.at_ e0 0 28 rfl rfl)) l_gl c_gl (Hz.at_ e0 0 29 rfl rfl) (of_decide_eq_true (Hz.at_ e0 0 30 rfl rfl)) l_ka c_ka (Hz.at_ e0 0 31 rfl rfl) (of_decide_eq_true (Hz.at_ e0 0 32 rfl rfl)) l_gr c_gr (Hz.at_ e0 0 33 rfl rfl) (of_decide_eq_true (Hz.at_ e0 0 34 rfl rfl)) l_cb c_cb (Hz.at_ e0 0 35 rfl rfl) (of_decide_eq_true (Hz.at_ e0 0 36 rfl rfl)) l_fw c_fw (Hz.at_ e0 0 37 rfl rfl) (of_decide_eq_true (Hz.at_ e0 0 38 rfl rfl)) l_lp c_lp (Hz.at_ e0 0 39 rfl rfl) (of_decide_eq_true (Hz.at_ e0 1 0 rfl rfl)) l_ld c_ld (Hz.at_ e0 1 1 rfl rfl) (of_decide_eq_true (Hz.at_ e0 1 2 rfl rfl)) l_lk c_lk (Hz.at_ e0 1 3 rfl rfl) (of_decide_eq_true (Hz.at_ e0 1 4 rfl rfl)) l_lq c_lq (Hz.at_ e0 1 5 rfl rfl) (of_decide_eq_true (Hz.at_ e0 1 6 rfl rfl)) l_lv c_lv (Hz.at_ e0 1 7 rfl rfl) (of_decide_eq_true (Hz.at_ e0 1 8 rfl rfl)) l_lw c_lw (Hz.at_ e0 1 9 rfl rfl) (of_decide_eq_true (Hz.at_ e0 1 10 rfl rfl)) l_lt c_lt (Hz.at_ e0 1 11 rfl rfl) (of_decide_eq_true (Hz.at_ e0 1 12 rfl rfl)) l_lu c_lu (Hz.at_ e0 1 13 rfl rfl) (of_decide_eq_true (Hz.at_ e0 1 14 rfl rfl)) l_le c_le (Hz.at_ e0 1 15 rfl rfl) (of_decide_eq_true (Hz.at_ e0 1 16 rfl rfl)) l_lx c_lx (Hz.at_ e0 1 17 rfl rfl) (of_decide_eq_true (Hz.at_ e0 1 18 rfl rfl)) l_ly c_ly (Hz.at_ e0 1 19 rfl rfl) (of_decide_eq_true (Hz.at_ e0 1 20 rfl rfl)) l_lb c_lb (Hz.at_ e0 1 21 rfl rfl) (of_decide_eq_true (Hz.at_ e0 1 22 rfl rfl)) l_lr c_lr (Hz.at_ e0 1 23 rfl rfl) (of_decide_eq_true (Hz.at_ e0 1 24 rfl rfl)) l_la c_la (Hz.at_ e0 1 25 rfl rfl) (of_decide_eq_true (Hz.at_ e0 1 26 rfl rfl)) (Hz.typB_ok (Hz.at_ e0 1 27 rfl rfl)) (Hz.at_ e0 1 28 rfl rfl) (of_decide_eq_true (Hz.at_ e0 1 29 rfl rfl)) (Hz.at_ e0 1 30 rfl rfl) (Hz.at_ e0 1 31 rfl rfl) (Hz.at_ e0 1 32 rfl rfl) (of_decide_eq_true (Hz.at_ e0 1 33 rfl rfl)) (Hz.at_ e0 1 34 rfl rfl) (Hz.at_ e0 1 35 rfl rfl) (of_decide_eq_true (Hz.at_ e0 1 36 rfl rfl)) (of_decide_eq_true (Hz.at_ e0 1 37 rfl rfl)) (of_decide_eq_true (Hz.at_ e0 1 38 rfl rfl)) (of_decide_eq_true (Hz.at_ e0 1 39 rfl rfl)) (of_decide_eq_true (Hz.at_ e0 2 0 rfl rfl)) (of_decide_eq_true (Hz.at_ e0 2 1 rfl rfl)) (of_decide_eq_true (Hz.at_ e0 2 2 rfl rfl)) (of_decide_eq_true (Hz.at_ e0 2 3 rfl rfl)) y_cM rfl (of_decide_eq_true (Hz.at_ e0 2 5 rfl rfl)) (Hz.at_ e0 2 6 rfl rfl) l_hi c_hi (Hz.at_ e0 2 7 rfl rfl) l_ho c_ho (Hz.at_ e0 2 8 rfl rfl) (Hz.getB_ok (Hz.at_ e0 2 9 rfl rfl)) y_rho (of_decide_eq_true (Hz.at_ e0 2 11 rfl rfl)) (Hz.typB_ok (Hz.at_ e0 2 12 rfl rfl)) (Hz.at_ e0 2 13 rfl rfl) (of_decide_eq_true (Hz.at_ e0 2 14 rfl rfl)) (Hz.at_ e0 2 15 rfl rfl) (Hz.at_ e0 2 16 rfl rfl) (Hz.at_ e0 2 17 rfl rfl) (of_decide_eq_true (Hz.at_ e0 2 18 rfl rfl)) (Hz.at_ e0 2 19 rfl rfl) (Hz.at_ e0 2 20 rfl rfl) (of_decide_eq_true (Hz.at_ e0 2 21 rfl rfl)) (of_decide_eq_true (Hz.at_ e0 2 22 rfl rfl)) (of_decide_eq_true (Hz.at_ e0 2 23 rfl rfl)) (of_decide_eq_true (Hz.at_ e0 2 24 rfl rfl)) (of_decide_eq_true (Hz.at_ e0 2 25 rfl rfl)) (of_decide_eq_true (Hz.at_ e0 2 26 rfl rfl)) (of_decide_eq_true (Hz.at_ e0 2 27 rfl rfl)) (of_decide_eq_true (Hz.at_ e0 2 28 rfl rfl)) (of_decide_eq_true (Hz.at_ e0 2 29 rfl rfl)) (of_decide_eq_true (Hz.at_ e0 2 30 rfl rfl)) (of_decide_eq_true (Hz.at_ e0 2 31 rfl rfl)) (Hz.at_ e0 2 32 rfl rfl) l_ci c_ci (Hz.at_ e0 2 33 rfl rfl) l_co c_co (Hz.at_ e0 2 34 rfl rfl) (Hz.getB_ok (Hz.at_ e0 2 35 rfl rfl)) y_rco (of_decide_eq_true (Hz.at_ e0 2 37 rfl rfl)) (Hz.at_ e0 2 38 rfl rfl) (Hz.at_ e0 2 39 rfl rfl) (Hz.at_ e0 3 0 rfl rfl) (of_decide_eq_true (Hz.at_ e0 3 1 rfl rfl)) (Hz.at_ e0 3 2 rfl rfl) (Hz.at_ e0 3 3 rfl rfl) (of_decide_eq_true (Hz.at_ e0 3 4 rfl rfl)) (of_decide_eq_true (Hz.at_ e0 3 5 rfl rfl)) (of_decide_eq_true (Hz.at_ e0 3 6 rfl rfl)) (of_decide_eq_true (Hz.at_ e0 3 7 rfl rfl)) (of_decide_eq_true (Hz.at_ e0 3 8 rfl rfl)) (of_decide_eq_true (Hz.at_ e0 3 9 rfl rfl)) (of_decide_eq_true (Hz.at_ e0 3 10 rfl rfl)) (of_decide_eq_true (Hz.at_ e0 3 11 rfl rfl)) (Hz.at_ e0 3 12 rfl rfl) l_si c_si (Hz.at_ e0 3 13 rfl rfl) lD_si (of_decide_eq_true (Hz.at_ e0 3 14 rfl rfl)) (Hz.at_ e0 3 15 rfl rfl) l_sl c_sl (Hz.at_ e0 3 16 rfl rfl) (of_decide_eq_true (Hz.at_ e0 3 17 rfl rfl)) (Hz.at_ e0 3 18 rfl rfl) (Hz.at_ e0 3 19 rfl rfl) (Hz.at_ e0 3 20 rfl rfl) (of_decide_eq_true (Hz.at_ e0 3 21 rfl rfl)) (Hz.at_ e0 3 22 rfl rfl) (Hz.at_ e0 3 23 rfl rfl) (of_decide_eq_true (Hz.at_ e0 3 24 rfl rfl)) (of_decide_eq_true (Hz.at_ e0 3 25 rfl rfl)) (of_decide_eq_true (Hz.at_ e0 3 26 rfl rfl)) (of_decide_eq_true (Hz.at_ e0 3 27 rfl rfl)) (Hz.at_ e0 3 28 rfl rfl) l_fi c_fi (Hz.at_ e0 3 29 rfl rfl) (of_decide_eq_true (Hz.at_ e0 3 30 rfl rfl)) (Hz.at_ e0 3 31 rfl rfl) (Hz.at_ e0 3 32 rfl rfl) (Hz.at_ e0 3 33 rfl rfl) (of_decide_eq_true (Hz.at_ e0 3 34 rfl rfl)) (Hz.at_ e0 3 35 rfl rfl) (Hz.at_ e0 3 36 rfl rfl) (of_decide_eq_true (Hz.at_ e0 3 37 rfl rfl)) (of_decide_eq_true (Hz.at_ e0 3 38 rfl rfl)) (of_decide_eq_true (Hz.at_ e0 3 39 rfl rfl)) (of_decide_eq_true (Hz.at_ e0 4 0 rfl rfl)) (Hz.at_ e0 4 1 rfl rfl) l_ni c_ni (Hz.at_ e0 4 2 rfl rfl) (of_decide_eq_true (Hz.at_ e0 4 3 rfl rfl)) (of_decide_eq_true (Hz.at_ e0 4 4 rfl rfl)) (Hz.typB_ok (Hz.at_ e0 4 5 rfl rfl)) (Hz.at_ e0 4 6 rfl rfl) (of_decide_eq_true (Hz.at_ e0 4 7 rfl rfl)) (Hz.at_ e0 4 8 rfl rfl) (Hz.at_ e0 4 9 rfl rfl) (Hz.at_ e0 4 10 rfl rfl) (of_decide_eq_true (Hz.at_ e0 4 11 rfl rfl)) (Hz.at_ e0 4 12 rfl rfl) (Hz.at_ e0 4 13 rfl rfl) (of_decide_eq_true (Hz.at_ e0 4 14 rfl rfl)) (of_decide_eq_true (Hz.at_ e0 4 15 rfl rfl)) (of_decide_eq_true (Hz.at_ e0 4 16 rfl rfl)) (of_decide_eq_true (Hz.at_ e0 4 17 rfl rfl)) (of_decide_eq_true (Hz.at_ e0 4 18 rfl rfl)) (of_decide_eq_true (Hz.at_ e0 4 19 rfl rfl)) (of_decide_eq_true (Hz.at_ e0 4 20 rfl rfl)) (of_decide_eq_true (Hz.at_ e0 4 21 rfl rfl)) (Hz.at_ e0 4 22 rfl rfl) l_qi c_qi (Hz.at_ e0 4 23 rfl rfl) lD_qi l_qo c_qo (Hz.at_ e0 4 24 rfl rfl) (Hz.getB_ok (Hz.at_ e0 4 25 rfl rfl)) y_rqo (of_decide_eq_true (Hz.at_ e0 4 27 rfl rfl)) (of_decide_eq_true (Hz.at_ e0 4 28 rfl rfl)) (of_decide_eq_true (Hz.at_ e0 4 29 rfl rfl)) y_xDg y_xBg (of_decide_eq_true (Hz.at_ e0 4 31 rfl rfl)) (of_decide_eq_true (Hz.at_ e0 4 32 rfl rfl)) (of_decide_eq_true (Hz.at_ e0 4 33 rfl rfl)) (Hz.at_ e0 4 34 rfl rfl) (of_decide_eq_true (Hz.at_ e0 4 35 rfl rfl)) (of_decide_eq_true (Hz.at_ e0 4 36 rfl rfl)) l_Eg c_Eg (of_decide_eq_true (Hz.at_ e0 4 37 rfl rfl)) (of_decide_eq_true (Hz.at_ e0 4 38 rfl rfl)) y_xDo y_xBo (of_decide_eq_true (Hz.at_ e0 5 0 rfl rfl)) (of_decide_eq_true (Hz.at_ e0 5 1 rfl rfl)) (of_decide_eq_true (Hz.at_ e0 5 2 rfl rfl)) (Hz.at_ e0 5 3 rfl rfl) (of_decide_eq_true (Hz.at_ e0 5 4 rfl rfl)) (of_decide_eq_true (Hz.at_ e0 5 5 rfl rfl)) l_Eo c_Eo (of_decide_eq_true (Hz.at_ e0 5 6 rfl rfl)) (of_decide_eq_true (Hz.at_ e0 5 7 rfl rfl)) y_xDf y_xBf (of_decide_eq_true (Hz.at_ e0 5 9 rfl rfl)) (of_decide_eq_true (Hz.at_ e0 5 10 rfl rfl)) (of_decide_eq_true (Hz.at_ e0 5 11 rfl rfl)) (Hz.at_ e0 5 12 rfl rfl) (of_decide_eq_true (Hz.at_ e0 5 13 rfl rfl)) (of_decide_eq_true (Hz.at_ e0 5 14 rfl rfl)) l_Ef c_Ef (of_decide_eq_true (Hz.at_ e0 5 15 rfl rfl)) (of_decide_eq_true (Hz.at_ e0 5 16 rfl rfl)) y_xDr y_xBr (of_decide_eq_true (Hz.at_ e0 5 18 rfl rfl)) (of_decide_eq_true (Hz.at_ e0 5 19 rfl rfl)) (of_decide_eq_true (Hz.at_ e0 5 20 rfl rfl)) (Hz.at_ e0 5 21 rfl rfl) (of_decide_eq_true (Hz.at_ e0 5 22 rfl rfl)) (of_decide_eq_true (Hz.at_ e0 5 23 rfl rfl)) l_Er c_Er (of_decide_eq_true (Hz.at_ e0 5 24 rfl rfl)) (of_decide_eq_true (Hz.at_ e0 5 25 rfl rfl)) y_xDl y_xBl (of_decide_eq_true (Hz.at_ e0 5 27 rfl rfl)) (of_decide_eq_true (Hz.at_ e0 5 28 rfl rfl)) (of_decide_eq_true (Hz.at_ e0 5 29 rfl rfl)) (Hz.at_ e0 5 30 rfl rfl) (of_decide_eq_true (Hz.at_ e0 5 31 rfl rfl)) (of_decide_eq_true (Hz.at_ e0 5 32 rfl rfl)) l_El c_El (of_decide_eq_true (Hz.at_ e0 5 33 rfl rfl)) (of_decide_eq_true (Hz.at_ e0 5 34 rfl rfl)) y_xDh y_xBh (of_decide_eq_true (Hz.at_ e0 5 36 rfl rfl)) (of_decide_eq_true (Hz.at_ e0 5 37 rfl rfl)) (of_decide_eq_true (Hz.at_ e0 5 38 rfl rfl)) (Hz.at_ e0 5 39 rfl rfl) (of_decide_eq_true (Hz.at_ e0 6 0 rfl rfl)) (of_decide_eq_true (Hz.at_ e0 6 1 rfl rfl)) l_Eh c_Eh (of_decide_eq_true (Hz.at_ e0 6 2 rfl rfl)) (of_decide_eq_true (Hz.at_ e0 6 3 rfl rfl)) y_xDz y_xBz (of_decide_eq_true (Hz.at_ e0 6 5 rfl rfl)) (of_decide_eq_true (Hz.at_ e0 6 6 rfl rfl)) (of_decide_eq_true (Hz.at_ e0 6 7 rfl rfl)) (Hz.at_ e0 6 8 rfl rfl) (of_decide_eq_true (Hz.at_ e0 6 9 rfl rfl)) (of_decide_eq_true (Hz.at_ e0 6 10 rfl rfl)) l_Ez c_Ez (of_decide_eq_true (Hz.at_ e0 6 11 rfl rfl)) (of_decide_eq_true (Hz.at_ e0 6 12 rfl rfl)) y_xDt y_xBt (of_decide_eq_true (Hz.at_ e0 6 14 rfl rfl)) (of_decide_eq_true (Hz.at_ e0 6 15 rfl rfl)) (of_decide_eq_true (Hz.at_ e0 6 16 rfl rfl)) (Hz.at_ e0 6 17 rfl rfl) (of_decide_eq_true (Hz.at_ e0 6 18 rfl rfl)) (of_decide_eq_true (Hz.at_ e0 6 19 rfl rfl)) l_Et c_Et (of_decide_eq_true (Hz.at_ e0 6 20 rfl rfl)) (of_decide_eq_true (Hz.at_ e0 6 21 rfl rfl)) y_xDc y_xBc (of_decide_eq_true (Hz.at_ e0 6 23 rfl rfl)) (of_decide_eq_true (Hz.at_ e0 6 24 rfl rfl)) (of_decide_eq_true (Hz.at_ e0 6 25 rfl rfl)) (Hz.at_ e0 6 26 rfl rfl) (of_decide_eq_true (Hz.at_ e0 6 27 rfl rfl)) (of_decide_eq_true (Hz.at_ e0 6 28 rfl rfl)) l_Ec c_Ec (of_decide_eq_true (Hz.at_ e0 6 29 rfl rfl)) (of_decide_eq_true (Hz.at_ e0 6 30 rfl rfl)) y_xDn y_xBn (of_decide_eq_true (Hz.at_ e0 6 32 rfl rfl)) (of_decide_eq_true (Hz.at_ e0 6 33 rfl rfl)) (of_decide_eq_true (Hz.at_ e0 6 34 rfl rfl)) (Hz.at_ e0 6 35 rfl rfl) (of_decide_eq_true (Hz.at_ e0 6 36 rfl rfl)) (of_decide_eq_true (Hz.at_ e0 6 37 rfl rfl)) l_En c_En (of_decide_eq_true (Hz.at_ e0 6 38 rfl rfl)) (of_decide_eq_true (Hz.at_ e0 6 39 rfl rfl)) y_xDs y_xBs (of_decide_eq_true (Hz.at_ e0 7 1 rfl rfl)) (of_decide_eq_true (Hz.at_ e0 7 2 rfl rfl)) (of_decide_eq_true (Hz.at_ e0 7 3 rfl rfl)) (Hz.at_ e0 7 4 rfl rfl) (of_decide_eq_true (Hz.at_ e0 7 5 rfl rfl)) (of_decide_eq_true (Hz.at_ e0 7 6 rfl rfl)) l_Es c_Es (of_decide_eq_true (Hz.at_ e0 7 7 rfl rfl)) (of_decide_eq_true (Hz.at_ e0 7 8 rfl rfl)) y_xDm y_xBm (of_decide_eq_true (Hz.at_ e0 7 10 rfl rfl)) (of_decide_eq_true (Hz.at_ e0 7 11 rfl rfl)) (of_decide_eq_true (Hz.at_ e0 7 12 rfl rfl)) (Hz.at_ e0 7 13 rfl rfl) (of_decide_eq_true (Hz.at_ e0 7 14 rfl rfl)) (of_decide_eq_true (Hz.at_ e0 7 15 rfl rfl)) l_Em c_Em (of_decide_eq_true (Hz.at_ e0 7 16 rfl rfl)) (of_decide_eq_true (Hz.at_ e0 7 17 rfl rfl)) y_gMW rfl y_gGP rfl y_gLN rfl y_gGC rfl y_gGF rfl y_gGS rfl y_gE rfl (of_decide_eq_true (Hz.at_ e0 7 25 rfl rfl)) y_lW (Nat.le_trans (Nat.le_of_eq y_sW) (by decide)) y_vW (of_decide_eq_true (Hz.at_ e0 7 27 rfl rfl)) (of_decide_eq_true (Hz.at_ e0 7 28 rfl rfl)) (of_decide_eq_true (Hz.at_ e0 7 29 rfl rfl)) (of_decide_eq_true (Hz.at_ e0 7 30 rfl rfl)) (of_decide_eq_true (Hz.at_ e0 7 31 rfl rfl)) (of_decide_eq_true (Hz.at_ e0 7 32 rfl rfl)) (of_decide_eq_true (Hz.at_ e0 7 33 rfl rfl)) (of_decide_eq_true (Hz.at_ e0 7 34 rfl rfl)) (of_decide_eq_true (Hz.at_ e0 7 35 rfl rfl)) (of_decide_eq_true (Hz.at_ e0 7 36 rfl rfl)) (of_decide_eq_true (Hz.at_ e0 7 37 rfl rfl)) (of_decide_eq_true (Hz.at_ e0 7 38 rfl rfl)) (of_decide_eq_true (Hz.at_ e0 7 39 rfl rfl)) (of_decide_eq_true (Hz.at_ e0 8 0 rfl rfl)) (of_decide_eq_true (Hz.at_ e0 8 1 rfl rfl)) (of_decide_eq_true (Hz.at_ e0 8 2 rfl rfl)) (of_decide_eq_true (Hz.at_ e0 8 3 rfl rfl)) (of_decide_eq_true (Hz.at_ e0 8 4 rfl rfl))
  refine ⟨K, fd, tb, sp, X, fun y hy => (by cases hy), r1, r2, r3, r4⟩
end Lw
open PySem PySem.W PyProof.Rows
set_option maxRecDepth 100000 in
set_option maxHeartbeats 0 in
theorem PySem.Challenge.cw_latechunks_k36_whole_rests_left_by_all_l_holds : PySem.Challenge.rw_latechunks_k36_whole_rests_left_by_all_l.Holds := by
  w_on; o_law
  refine HandSHeadRun.head_imp (r := PySem.W.OpenLaw.row PySem.Challenge.rw_latechunks_k36_whole_rests_left_by_all_l) (q := view (OpenLaw.row PySem.Challenge.rw_latechunks_k36_whole_rests_left_by_all_l).prog [0, 97]) (H := Lw.hkZ) (ob := Lw.hob) (M := 20000) (loose := ((["_wall", "GREATEST_SIZE", "LONGEST_NAME", "LETTERS", "TEXT_WORDS", "is_integer", "is_within", "is_size", "is_name", "LateError", "BadName", "BadSize", "BadSpeed", "BadCost", "BadFee", "BadTotal", "BadLimit", "BadRatio", "BadRest", "BadChunks", "BadCrew", "BadSetting", "BadText", "NoWorker", "NoChunk", "TooMany", "PIECE_FIGURES", "PIECE_WORTH", "integer_text", "integer_of"] : List PySem.Str) ++ (["number_of", "Reader", "read_worths", "read_named", "MOST_FIGURES", "Ratio", "is_number", "ratio_of", "worth_of", "is_readable", "bounds_of", "bound_by", "greatest_let", "Chunks", "check_many", "check_total", "check_other", "read_sizes", "sizes_between", "Paper", "Denial", "MOST_WORKERS", "GREATEST_SPEED", "Crew", "is_speed", "check_speeds", "read_speeds", "GREATEST_COST", "GREATEST_FEE", "Setting"] : List PySem.Str) ++ (["read_setting", "read_costs", "read_fee", "check_spot", "check_setting", "check_limit", "Fewest", "NoList", "fewest", "greedy_rests", "chunks_between", "check_asked", "_law_pen", "_law_draw", "_law_pick", "_law_drawn_plan", "_law_setting", "_law_three", "_law_late", "_law_under", "_law_is_let", "_law_limit", "_law_limit_of", "_law_behind", "_law_right"] : List PySem.Str))) (d := HandSHeadRun.topDef (OpenLaw.row PySem.Challenge.rw_latechunks_k36_whole_rests_left_by_all_l).prog 97) (kwd := []) Lw.hob_eq
    Lw.head_run (by kernel_rfl) (by kernel_rfl) (by kernel_rfl) (by rfl) (by first | assumption | decide +kernel) (by decide +kernel) ⟨rfl, rfl, rfl, rfl, rfl, by decide +kernel⟩ ?hw ?hc
  case hw => w_witness2
  case hc =>
    refine Lw.walk_endX (l := PySem.Challenge.rw_latechunks_k36_whole_rests_left_by_all_l) (n := 63) (k := 16) (x := "_law_script") (xts := ([] : List Str)) rfl (by decide) (by kernel_rfl) ⟨rfl, by decide, by decide⟩ ?F
    intro w mg fa h Y G hmg0
    obtain ⟨K, KX, c⟩ := Y
    have hmg : mg ("law" : PySem.Str) = some (.ref fa) := by
      have e : (HandSHeadRun.topDef (OpenLaw.row PySem.Challenge.rw_latechunks_k36_whole_rests_left_by_all_l).prog 97).name = ("law" : PySem.Str) := by kernel_rfl
      rw [← e]
      exact hmg0
    exact Lw.known KX G hmg c
