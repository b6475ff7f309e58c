import PyProof.Rows.All
import Wide.All
import OpenK.AllK
import Wide.FinOn
import HandS.ForMost
import HandS.Wide
import HandS.Codes
import HandS.EndBits
import KE.KStateDown
import HandS.Defaults
import HandS.Words
import HandS.Head0
import HandS.Head1
import HandS.Head2
import HandS.HeadHook1
import HandS.HeadHook2
import HandS.HeadHook3
import HandS.HeadHook4
import HandS.Lambda
import HandS.IsInst
import PyProof.IsiBase
import KE.KIsAll
import HandS.Walk
import HandS.Exc
import HandS.ExcField
import HandS.ExcIs
import HandS.Dict
import HandS.ExcInit
import HandS.ExcValue
import HandS.Style
import HandS.MakeKwOnly
import PyProof.ReprLen
import HandS.SlotsOwn
import KE.KOpsOwn
import PyProof.TwoTypes
import HandS.DictComp
import PyProof.Methods
import KE.KCallOwn
import HandS.MakeKw
import HandS.EndTab
import PySem.Challenge.RW_latechunks_k03_papers_of_all_kinds
set_option Elab.async false
set_option linter.all false
set_option maxRecDepth 100000
set_option maxHeartbeats 4000000
namespace Lw
open PySem PySem.Spec PyProof.Rows L2
def tq (i : Nat) : Stmt := PySem.Challenge.pw_latechunks_k03_papers_of_all_kinds.main.body.getD i (.Pass ⟨0, 0, 0, 0⟩)
/-! ### a Hook that tells of the objects at given places, empty tables left out -/
open He in
structure SaysY (fa : List Fa) (fn : List DefD) (tf : List Defn) (ex : PySem.W.Frag → Bool) (h : Heap) (K : PySem.W.Frag) : Prop where
  d : SaysD fa fn K
  more : ex K = true
  hd : ∀ p ∈ tf, PySem.W.codeHdIn K (cT K p).1 (cT K p).2 = true
  out : ∀ p ∈ tf, K.lookup (cT K p).2 = none
  empty : ∀ p ∈ tf, h.get? (cT K p).2 = some { cls := .none, data := .fields #[] }
open He in
def obsY (as : List Addr) (fa : List Fa) (fn : List DefD) (tf : List Defn) (ex : PySem.W.Frag → Bool) (g : Addr → Option Obj) : AlD × Bool := (obsD fa fn (frT g as), ex (frT g as) && tabsB g tf (frT g as))
open He in
theorem saysY_of {as : List Addr} {fa : List Fa} {fn : List DefD} {tf : List Defn} {ex : PySem.W.Frag → Bool} {h : Heap} (e : obsY as fa fn tf ex h.get? = (valD fn, true)) : SaysY fa fn tf ex h (frT h.get? as) := by
  have e1 : obsD fa fn (frT h.get? as) = valD fn := congrArg (fun z : AlD × Bool => z.1) e
  have e2 : (ex (frT h.get? as) && tabsB h.get? tf (frT h.get? as)) = true := congrArg (fun z : AlD × Bool => z.2) e
  obtain ⟨h1, h2⟩ := ba e2
  have key : ∀ p ∈ tf, PySem.W.codeHdIn (frT h.get? as) (cT (frT h.get? as) p).1 (cT (frT h.get? as) p).2 = true ∧ ∃ o, h.get? (cT (frT h.get? as) p).2 = some o ∧ emptyTab o = true := fun p hp => by
    obtain ⟨h3, h4⟩ := ba (List.all_eq_true.mp h2 p hp)
    refine ⟨h3, ?_⟩
    cases q : h.get? (cT (frT h.get? as) p).2 with
    | none =>
      rw [q] at h4
      cases h4
    | some o =>
      rw [q] at h4
      exact ⟨o, rfl, h4⟩
  exact ⟨e1, h1, fun p hp => (key p hp).1, fun p hp => by
    obtain ⟨_, o, q, z⟩ := key p hp
    exact frT_none q z, fun p hp => by
    obtain ⟨_, o, q, z⟩ := key p hp
    rw [q, emptyTab_eq z]⟩
open He in
def hookY (as : List Addr) (fa : List Fa) (fn : List DefD) (tf : List Defn) (ex : PySem.W.Frag → Bool) : PySem.W.Hook where
  α := AlD × Bool
  obs := fun s => obsY as fa fn tf ex s.heap.get?
  val := fun _ => (valD fn, true)
  says := fun _ h => ∃ K : PySem.W.Frag, K.In h ∧ SaysY fa fn tf ex h K
  of := fun _ _ e => ⟨_, frT_in, saysY_of e⟩
  keeps := fun _ _ _ ⟨K, hK, c⟩ k => ⟨K, PySem.W.Frag.In.keeps hK k, ⟨c.d, c.more, c.hd, c.out, fun p hp => k _ _ (c.empty p hp)⟩⟩
open He in
theorem obsY_eq {as : List Addr} {fa : List Fa} {fn : List DefD} {tf : List Defn} {ex : PySem.W.Frag → Bool} {g : Addr → Option Obj} {s : Shared} (h : ∀ a, g a = s.heap.get? a) : obsY as fa fn tf ex g = (hookY as fa fn tf ex).obs s := by
  have e : g = s.heap.get? := funext h
  rw [e] <;> rfl
def fal : Nat → Bool
  | 1 => true
  | 5 => true
  | 10 => true
  | 11 => true
  | 12 => true
  | 13 => true
  | 14 => true
  | 16 => true
  | 18 => true
  | 22 => true
  | 23 => true
  | _ => false
/-- the class of a row -/
def rc : Nat → Nat
  | 0 => 0
  | 1 => 1
  | 2 => 2
  | 3 => 3
  | 4 => 3
  | 5 => 19
  | 6 => 15
  | 7 => 16
  | 8 => 17
  | 9 => 18
  | 10 => 6
  | 11 => 7
  | 12 => 8
  | 13 => 9
  | 14 => 10
  | 15 => 11
  | 16 => 12
  | 17 => 13
  | 18 => 14
  | 19 => 4
  | 20 => 5
  | 21 => 25
  | 22 => 21
  | 23 => 22
  | 24 => 23
  | 25 => 24
  | 26 => 20
  | 27 => 20
  | 28 => 26
  | 29 => 26
  | _ => 0
def papB (K : PySem.W.Frag) (C fI fQ : Addr) (fs : List Str) : Bool :=
  PySem.W.plainGet K C Str.empty && (PySem.W.hasDictIn K C && (PySem.W.plainOver K C && (decide (PySem.W.findIn K (.ref C) "__setattr__" = some (some (.builtin "object.__setattr__"))) && (PySem.W.makesIn K C && (PySem.W.keepIn K (.ref C) && ((fs.all fun f => decide (PySem.W.findIn K (.ref C) f = some none)) &&
  (decide (PySem.W.findIn K (.ref C) "__class__" = some (some (.builtin "object.__class__"))) && (decide (PySem.W.mroIn K C (.type "object") = some true) && (PySem.W.isFn K (.ref fI) && (PySem.W.isFn K (.ref fQ) && (PySem.W.keepIn K (.ref fQ) && decide (PySem.W.kitOne K (.type "list") (.ref C) = some false))))))))))))
def kdB (K : PySem.W.Frag) (Ds : List Addr) (De : Addr) : Bool := (List.range 27).all fun i => decide (PySem.W.kitOne K (.ref (Ds.getD i 0)) (.ref De) = some (fal i))
def knB (K : PySem.W.Frag) (Ds : List Addr) : Bool := (List.range 29).all fun i => (i == 3 || (i == 26 || i == 28)) || (decide (PySem.W.kitOne K (.ref (Ds.getD (rc (i + 1)) 0)) (.ref (Ds.getD (rc i) 0)) = some false) && decide (PySem.W.subIn K (.ref (Ds.getD (rc (i + 1)) 0)) (.ref (Ds.getD (rc i) 0)) = some false))
def kxB (K : PySem.W.Frag) (C C2 : Addr) : Bool := decide (PySem.W.kitOne K (.ref C) (.ref C2) = some false) && decide (PySem.W.subIn K (.ref C) (.ref C2) = some false)
def tfB (K : PySem.W.Frag) (Ds : List Addr) : Bool := (List.range 27).all fun i => fal i || (decide (PySem.W.findIn K (.ref (Ds.getD i 0)) "__bool__" = some none) && decide (PySem.W.findIn K (.ref (Ds.getD i 0)) "__len__" = some none))
def ttB (K : PySem.W.Frag) (Ds : List Addr) (f : Addr) : Bool := (List.range 27).all fun i => !fal i || decide (PySem.W.findIn K (.ref (Ds.getD i 0)) "__bool__" = some (some (.ref f)))
/-! ### the head by one run -/
abbrev hd0 : He.DefD := ⟨("_law_pen", none), "_law_pen", "_law_pen", C8.fnArgs (tq 40), C8.fnBody (tq 40), C8.fnScope (tq 40), [], []⟩
abbrev hd1 : He.DefD := ⟨("_law_draw", none), "_law_draw", "_law_draw", C8.fnArgs (tq 41), C8.fnBody (tq 41), C8.fnScope (tq 41), [], []⟩
abbrev hd2 : He.DefD := ⟨("_law_pick", none), "_law_pick", "_law_pick", C8.fnArgs (tq 42), C8.fnBody (tq 42), C8.fnScope (tq 42), [], []⟩
abbrev hd3 : He.DefD := ⟨("_law_value", none), "_law_value", "_law_value", C8.fnArgs (tq 43), C8.fnBody (tq 43), C8.fnScope (tq 43), [], []⟩
abbrev hd4 : He.DefD := ⟨("_law_made", none), "_law_made", "_law_made", C8.fnArgs (tq 44), C8.fnBody (tq 44), C8.fnScope (tq 44), [], []⟩
abbrev hd5 : He.DefD := ⟨("law", none), "law", "law", C8.fnArgs (tq 45), C8.fnBody (tq 45), C8.fnScope (tq 45), [], []⟩
abbrev hd6 : He.DefD := ⟨("Fewest", some "__init__"), "__init__", "Fewest.__init__", C8.fnArgs (inClass (tq 4) 0), C8.fnBody (inClass (tq 4) 0), C8.fnScope (inClass (tq 4) 0), [], []⟩
abbrev hd7 : He.DefD := ⟨("NoList", some "__init__"), "__init__", "NoList.__init__", C8.fnArgs (inClass (tq 5) 0), C8.fnBody (inClass (tq 5) 0), C8.fnScope (inClass (tq 5) 0), [], []⟩
abbrev hd8 : He.DefD := ⟨("Greatest", some "__init__"), "__init__", "Greatest.__init__", C8.fnArgs (inClass (tq 6) 0), C8.fnBody (inClass (tq 6) 0), C8.fnScope (inClass (tq 6) 0), [], []⟩
abbrev hd9 : He.DefD := ⟨("Least", some "__init__"), "__init__", "Least.__init__", C8.fnArgs (inClass (tq 7) 0), C8.fnBody (inClass (tq 7) 0), C8.fnScope (inClass (tq 7) 0), [], []⟩
abbrev hd10 : He.DefD := ⟨("BatchBound", some "__init__"), "__init__", "BatchBound.__init__", C8.fnArgs (inClass (tq 9) 0), C8.fnBody (inClass (tq 9) 0), C8.fnScope (inClass (tq 9) 0), [], []⟩
abbrev hd11 : He.DefD := ⟨("BatchEndless", some "__init__"), "__init__", "BatchEndless.__init__", C8.fnArgs (inClass (tq 10) 0), C8.fnBody (inClass (tq 10) 0), C8.fnScope (inClass (tq 10) 0), [], []⟩
abbrev hd12 : He.DefD := ⟨("NeverLess", some "__init__"), "__init__", "NeverLess.__init__", C8.fnArgs (inClass (tq 12) 0), C8.fnBody (inClass (tq 12) 0), C8.fnScope (inClass (tq 12) 0), [], []⟩
abbrev hd13 : He.DefD := ⟨("Steady", some "__init__"), "__init__", "Steady.__init__", C8.fnArgs (inClass (tq 13) 0), C8.fnBody (inClass (tq 13) 0), C8.fnScope (inClass (tq 13) 0), [], []⟩
abbrev hd14 : He.DefD := ⟨("Same", some "__init__"), "__init__", "Same.__init__", C8.fnArgs (inClass (tq 14) 0), C8.fnBody (inClass (tq 14) 0), C8.fnScope (inClass (tq 14) 0), [], []⟩
abbrev hd15 : He.DefD := ⟨("Surely", some "__init__"), "__init__", "Surely.__init__", C8.fnArgs (inClass (tq 15) 0), C8.fnBody (inClass (tq 15) 0), C8.fnScope (inClass (tq 15) 0), [], []⟩
abbrev hd16 : He.DefD := ⟨("Less", some "__init__"), "__init__", "Less.__init__", C8.fnArgs (inClass (tq 16) 0), C8.fnBody (inClass (tq 16) 0), C8.fnScope (inClass (tq 16) 0), [], []⟩
abbrev hd17 : He.DefD := ⟨("Jump", some "__init__"), "__init__", "Jump.__init__", C8.fnArgs (inClass (tq 17) 0), C8.fnBody (inClass (tq 17) 0), C8.fnScope (inClass (tq 17) 0), [], []⟩
abbrev hd18 : He.DefD := ⟨("Other", some "__init__"), "__init__", "Other.__init__", C8.fnArgs (inClass (tq 18) 0), C8.fnBody (inClass (tq 18) 0), C8.fnScope (inClass (tq 18) 0), [], []⟩
abbrev hd19 : He.DefD := ⟨("Counter", some "__init__"), "__init__", "Counter.__init__", C8.fnArgs (inClass (tq 19) 0), C8.fnBody (inClass (tq 19) 0), C8.fnScope (inClass (tq 19) 0), [], []⟩
abbrev hd20 : He.DefD := ⟨("Undecided", some "__init__"), "__init__", "Undecided.__init__", C8.fnArgs (inClass (tq 20) 0), C8.fnBody (inClass (tq 20) 0), C8.fnScope (inClass (tq 20) 0), [], []⟩
abbrev hd21 : He.DefD := ⟨("Bound", some "__init__"), "__init__", "Bound.__init__", C8.fnArgs (inClass (tq 22) 0), C8.fnBody (inClass (tq 22) 0), C8.fnScope (inClass (tq 22) 0), [], []⟩
abbrev hd22 : He.DefD := ⟨("Endless", some "__init__"), "__init__", "Endless.__init__", C8.fnArgs (inClass (tq 23) 0), C8.fnBody (inClass (tq 23) 0), C8.fnScope (inClass (tq 23) 0), [], []⟩
abbrev hd23 : He.DefD := ⟨("Within", some "__init__"), "__init__", "Within.__init__", C8.fnArgs (inClass (tq 24) 0), C8.fnBody (inClass (tq 24) 0), C8.fnScope (inClass (tq 24) 0), [], []⟩
abbrev hd24 : He.DefD := ⟨("Beyond", some "__init__"), "__init__", "Beyond.__init__", C8.fnArgs (inClass (tq 25) 0), C8.fnBody (inClass (tq 25) 0), C8.fnScope (inClass (tq 25) 0), [], []⟩
abbrev hd25 : He.DefD := ⟨("Latest", some "__init__"), "__init__", "Latest.__init__", C8.fnArgs (inClass (tq 27) 0), C8.fnBody (inClass (tq 27) 0), C8.fnScope (inClass (tq 27) 0), [], []⟩
abbrev hd26 : He.DefD := ⟨("Taking", some "__init__"), "__init__", "Taking.__init__", C8.fnArgs (inClass (tq 29) 0), C8.fnBody (inClass (tq 29) 0), C8.fnScope (inClass (tq 29) 0), [], []⟩
abbrev hd27 : He.DefD := ⟨("Fits", some "__init__"), "__init__", "Fits.__init__", C8.fnArgs (inClass (tq 31) 0), C8.fnBody (inClass (tq 31) 0), C8.fnScope (inClass (tq 31) 0), [], []⟩
abbrev hd28 : He.DefD := ⟨("Misfit", some "__init__"), "__init__", "Misfit.__init__", C8.fnArgs (inClass (tq 32) 0), C8.fnBody (inClass (tq 32) 0), C8.fnScope (inClass (tq 32) 0), [], []⟩
abbrev hd29 : He.DefD := ⟨("Ring", some "__init__"), "__init__", "Ring.__init__", C8.fnArgs (inClass (tq 33) 0), C8.fnBody (inClass (tq 33) 0), C8.fnScope (inClass (tq 33) 0), [], []⟩
abbrev hd30 : He.DefD := ⟨("Came", some "__init__"), "__init__", "Came.__init__", C8.fnArgs (inClass (tq 34) 0), C8.fnBody (inClass (tq 34) 0), C8.fnScope (inClass (tq 34) 0), [], []⟩
abbrev hd31 : He.DefD := ⟨("BestOrder", some "__init__"), "__init__", "BestOrder.__init__", C8.fnArgs (inClass (tq 36) 0), C8.fnBody (inClass (tq 36) 0), C8.fnScope (inClass (tq 36) 0), [], []⟩
abbrev hd32 : He.DefD := ⟨("PoolTaking", some "__init__"), "__init__", "PoolTaking.__init__", C8.fnArgs (inClass (tq 38) 0), C8.fnBody (inClass (tq 38) 0), C8.fnScope (inClass (tq 38) 0), [], []⟩
abbrev hd33 : He.DefD := ⟨("Fewest", some "__eq__"), "__eq__", "Fewest.__eq__", C8.fnArgs (inClass (tq 4) 1), C8.fnBody (inClass (tq 4) 1), C8.fnScope (inClass (tq 4) 1), [], []⟩
abbrev hd34 : He.DefD := ⟨("NoList", some "__eq__"), "__eq__", "NoList.__eq__", C8.fnArgs (inClass (tq 5) 1), C8.fnBody (inClass (tq 5) 1), C8.fnScope (inClass (tq 5) 1), [], []⟩
abbrev hd35 : He.DefD := ⟨("Greatest", some "__eq__"), "__eq__", "Greatest.__eq__", C8.fnArgs (inClass (tq 6) 1), C8.fnBody (inClass (tq 6) 1), C8.fnScope (inClass (tq 6) 1), [], []⟩
abbrev hd36 : He.DefD := ⟨("Least", some "__eq__"), "__eq__", "Least.__eq__", C8.fnArgs (inClass (tq 7) 1), C8.fnBody (inClass (tq 7) 1), C8.fnScope (inClass (tq 7) 1), [], []⟩
abbrev hd37 : He.DefD := ⟨("BatchBound", some "__eq__"), "__eq__", "BatchBound.__eq__", C8.fnArgs (inClass (tq 9) 1), C8.fnBody (inClass (tq 9) 1), C8.fnScope (inClass (tq 9) 1), [], []⟩
abbrev hd38 : He.DefD := ⟨("BatchEndless", some "__eq__"), "__eq__", "BatchEndless.__eq__", C8.fnArgs (inClass (tq 10) 1), C8.fnBody (inClass (tq 10) 1), C8.fnScope (inClass (tq 10) 1), [], []⟩
abbrev hd39 : He.DefD := ⟨("NeverLess", some "__eq__"), "__eq__", "NeverLess.__eq__", C8.fnArgs (inClass (tq 12) 1), C8.fnBody (inClass (tq 12) 1), C8.fnScope (inClass (tq 12) 1), [], []⟩
abbrev hd40 : He.DefD := ⟨("Steady", some "__eq__"), "__eq__", "Steady.__eq__", C8.fnArgs (inClass (tq 13) 1), C8.fnBody (inClass (tq 13) 1), C8.fnScope (inClass (tq 13) 1), [], []⟩
abbrev hd41 : He.DefD := ⟨("Same", some "__eq__"), "__eq__", "Same.__eq__", C8.fnArgs (inClass (tq 14) 1), C8.fnBody (inClass (tq 14) 1), C8.fnScope (inClass (tq 14) 1), [], []⟩
abbrev hd42 : He.DefD := ⟨("Surely", some "__eq__"), "__eq__", "Surely.__eq__", C8.fnArgs (inClass (tq 15) 1), C8.fnBody (inClass (tq 15) 1), C8.fnScope (inClass (tq 15) 1), [], []⟩
abbrev hd43 : He.DefD := ⟨("Less", some "__eq__"), "__eq__", "Less.__eq__", C8.fnArgs (inClass (tq 16) 1), C8.fnBody (inClass (tq 16) 1), C8.fnScope (inClass (tq 16) 1), [], []⟩
abbrev hd44 : He.DefD := ⟨("Jump", some "__eq__"), "__eq__", "Jump.__eq__", C8.fnArgs (inClass (tq 17) 1), C8.fnBody (inClass (tq 17) 1), C8.fnScope (inClass (tq 17) 1), [], []⟩
abbrev hd45 : He.DefD := ⟨("Other", some "__eq__"), "__eq__", "Other.__eq__", C8.fnArgs (inClass (tq 18) 1), C8.fnBody (inClass (tq 18) 1), C8.fnScope (inClass (tq 18) 1), [], []⟩
abbrev hd46 : He.DefD := ⟨("Counter", some "__eq__"), "__eq__", "Counter.__eq__", C8.fnArgs (inClass (tq 19) 1), C8.fnBody (inClass (tq 19) 1), C8.fnScope (inClass (tq 19) 1), [], []⟩
abbrev hd47 : He.DefD := ⟨("Undecided", some "__eq__"), "__eq__", "Undecided.__eq__", C8.fnArgs (inClass (tq 20) 1), C8.fnBody (inClass (tq 20) 1), C8.fnScope (inClass (tq 20) 1), [], []⟩
abbrev hd48 : He.DefD := ⟨("Bound", some "__eq__"), "__eq__", "Bound.__eq__", C8.fnArgs (inClass (tq 22) 1), C8.fnBody (inClass (tq 22) 1), C8.fnScope (inClass (tq 22) 1), [], []⟩
abbrev hd49 : He.DefD := ⟨("Endless", some "__eq__"), "__eq__", "Endless.__eq__", C8.fnArgs (inClass (tq 23) 1), C8.fnBody (inClass (tq 23) 1), C8.fnScope (inClass (tq 23) 1), [], []⟩
abbrev hd50 : He.DefD := ⟨("Within", some "__eq__"), "__eq__", "Within.__eq__", C8.fnArgs (inClass (tq 24) 1), C8.fnBody (inClass (tq 24) 1), C8.fnScope (inClass (tq 24) 1), [], []⟩
abbrev hd51 : He.DefD := ⟨("Beyond", some "__eq__"), "__eq__", "Beyond.__eq__", C8.fnArgs (inClass (tq 25) 1), C8.fnBody (inClass (tq 25) 1), C8.fnScope (inClass (tq 25) 1), [], []⟩
abbrev hd52 : He.DefD := ⟨("Latest", some "__eq__"), "__eq__", "Latest.__eq__", C8.fnArgs (inClass (tq 27) 1), C8.fnBody (inClass (tq 27) 1), C8.fnScope (inClass (tq 27) 1), [], []⟩
abbrev hd53 : He.DefD := ⟨("Taking", some "__eq__"), "__eq__", "Taking.__eq__", C8.fnArgs (inClass (tq 29) 1), C8.fnBody (inClass (tq 29) 1), C8.fnScope (inClass (tq 29) 1), [], []⟩
abbrev hd54 : He.DefD := ⟨("Fits", some "__eq__"), "__eq__", "Fits.__eq__", C8.fnArgs (inClass (tq 31) 1), C8.fnBody (inClass (tq 31) 1), C8.fnScope (inClass (tq 31) 1), [], []⟩
abbrev hd55 : He.DefD := ⟨("Misfit", some "__eq__"), "__eq__", "Misfit.__eq__", C8.fnArgs (inClass (tq 32) 1), C8.fnBody (inClass (tq 32) 1), C8.fnScope (inClass (tq 32) 1), [], []⟩
abbrev hd56 : He.DefD := ⟨("Ring", some "__eq__"), "__eq__", "Ring.__eq__", C8.fnArgs (inClass (tq 33) 1), C8.fnBody (inClass (tq 33) 1), C8.fnScope (inClass (tq 33) 1), [], []⟩
abbrev hd57 : He.DefD := ⟨("Came", some "__eq__"), "__eq__", "Came.__eq__", C8.fnArgs (inClass (tq 34) 1), C8.fnBody (inClass (tq 34) 1), C8.fnScope (inClass (tq 34) 1), [], []⟩
abbrev hd58 : He.DefD := ⟨("BestOrder", some "__eq__"), "__eq__", "BestOrder.__eq__", C8.fnArgs (inClass (tq 36) 1), C8.fnBody (inClass (tq 36) 1), C8.fnScope (inClass (tq 36) 1), [], []⟩
abbrev hd59 : He.DefD := ⟨("PoolTaking", some "__eq__"), "__eq__", "PoolTaking.__eq__", C8.fnArgs (inClass (tq 38) 1), C8.fnBody (inClass (tq 38) 1), C8.fnScope (inClass (tq 38) 1), [], []⟩
abbrev hd60 : He.DefD := ⟨("NoList", some "__bool__"), "__bool__", "Denial.__bool__", C8.fnArgs (inClass (tq 2) 0), C8.fnBody (inClass (tq 2) 0), C8.fnScope (inClass (tq 2) 0), [], []⟩
def hfn : List He.DefD := ([hd0, hd1, hd2, hd3, hd4, hd5, hd6, hd7, hd8, hd9, hd10, hd11, hd12, hd13, hd14, hd15, hd16, hd17, hd18, hd19, hd20, hd21, hd22, hd23, hd24, hd25, hd26, hd27, hd28, hd29] : List He.DefD) ++ ([hd30, hd31, hd32, hd33, hd34, hd35, hd36, hd37, hd38, hd39, hd40, hd41, hd42, hd43, hd44, hd45, hd46, hd47, hd48, hd49, hd50, hd51, hd52, hd53, hd54, hd55, hd56, hd57, hd58, hd59] : List He.DefD) ++ ([hd60] : List He.DefD)
def hfa : List He.Fa := ([.glo "_law_pen", .glo "_law_draw", .glo "_law_pick", .glo "_law_value", .glo "_law_made", .glo "law", .glo "Paper", .glo "Denial", .glo "Fewest", .glo "NoList", .glo "Greatest", .glo "Least", .glo "BatchBound", .glo "BatchEndless", .glo "NeverLess", .glo "Steady", .glo "Same", .glo "Surely", .glo "Less", .glo "Jump", .glo "Other", .glo "Counter", .glo "Undecided", .glo "Bound", .glo "Endless", .glo "Within", .glo "Beyond", .glo "Latest", .glo "Taking", .glo "Fits"] : List He.Fa) ++ ([.glo "Misfit", .glo "Ring", .glo "Came", .glo "BestOrder", .glo "PoolTaking", .free "int", .free "list", .free "len", .free "abs", .free "bool", .free "isinstance", .free "range", .free "repr", .meth "Fewest" "__init__", .meth "NoList" "__init__", .meth "Greatest" "__init__", .meth "Least" "__init__", .meth "BatchBound" "__init__", .meth "BatchEndless" "__init__", .meth "NeverLess" "__init__", .meth "Steady" "__init__", .meth "Same" "__init__", .meth "Surely" "__init__", .meth "Less" "__init__", .meth "Jump" "__init__", .meth "Other" "__init__", .meth "Counter" "__init__", .meth "Undecided" "__init__", .meth "Bound" "__init__", .meth "Endless" "__init__"] : List He.Fa) ++ ([.meth "Within" "__init__", .meth "Beyond" "__init__", .meth "Latest" "__init__", .meth "Taking" "__init__", .meth "Fits" "__init__", .meth "Misfit" "__init__", .meth "Ring" "__init__", .meth "Came" "__init__", .meth "BestOrder" "__init__", .meth "PoolTaking" "__init__", .meth "Fewest" "__eq__", .meth "NoList" "__eq__", .meth "Greatest" "__eq__", .meth "Least" "__eq__", .meth "BatchBound" "__eq__", .meth "BatchEndless" "__eq__", .meth "NeverLess" "__eq__", .meth "Steady" "__eq__", .meth "Same" "__eq__", .meth "Surely" "__eq__", .meth "Less" "__eq__", .meth "Jump" "__eq__", .meth "Other" "__eq__", .meth "Counter" "__eq__", .meth "Undecided" "__eq__", .meth "Bound" "__eq__", .meth "Endless" "__eq__", .meth "Within" "__eq__", .meth "Beyond" "__eq__", .meth "Latest" "__eq__"] : List He.Fa) ++ ([.meth "Taking" "__eq__", .meth "Fits" "__eq__", .meth "Misfit" "__eq__", .meth "Ring" "__eq__", .meth "Came" "__eq__", .meth "BestOrder" "__eq__", .meth "PoolTaking" "__eq__", .meth "NoList" "__bool__"] : List He.Fa)
def htf : List He.Defn := [("_law_made", none)]
def rowsK (K : PySem.W.Frag) : List (Addr × Addr × Addr × List Str) := [((He.ga K "Fewest"), (He.ma K (He.ga K "Fewest") "__init__"), (He.ma K (He.ga K "Fewest") "__eq__"), ["chunks"]), ((He.ga K "NoList"), (He.ma K (He.ga K "NoList") "__init__"), (He.ma K (He.ga K "NoList") "__eq__"), ["rests"]), ((He.ga K "Greatest"), (He.ma K (He.ga K "Greatest") "__init__"), (He.ma K (He.ga K "Greatest") "__eq__"), ["total", "chunks"]), ((He.ga K "Least"), (He.ma K (He.ga K "Least") "__init__"), (He.ma K (He.ga K "Least") "__eq__"), ["limit", "chunks", "below"]), ((He.ga K "BatchBound"), (He.ma K (He.ga K "BatchBound") "__init__"), (He.ma K (He.ga K "BatchBound") "__eq__"), ["late", "rest", "spot"]), ((He.ga K "BatchEndless"), (He.ma K (He.ga K "BatchEndless") "__init__"), (He.ma K (He.ga K "BatchEndless") "__eq__"), ["spot", "rise"]), ((He.ga K "NeverLess"), (He.ma K (He.ga K "NeverLess") "__init__"), (He.ma K (He.ga K "NeverLess") "__eq__"), ["begins"]), ((He.ga K "Steady"), (He.ma K (He.ga K "Steady") "__init__"), (He.ma K (He.ga K "Steady") "__eq__"), ["begins"]), ((He.ga K "Same"), (He.ma K (He.ga K "Same") "__init__"), (He.ma K (He.ga K "Same") "__eq__"), ["first", "last"]), ((He.ga K "Surely"), (He.ma K (He.ga K "Surely") "__init__"), (He.ma K (He.ga K "Surely") "__eq__"), ["never", "steady"]), ((He.ga K "Less"), (He.ma K (He.ga K "Less") "__init__"), (He.ma K (He.ga K "Less") "__eq__"), ["rest"]), ((He.ga K "Jump"), (He.ma K (He.ga K "Jump") "__init__"), (He.ma K (He.ga K "Jump") "__eq__"), ["rest"]), ((He.ga K "Other"), (He.ma K (He.ga K "Other") "__init__"), (He.ma K (He.ga K "Other") "__eq__"), ["rest"]), ((He.ga K "Counter"), (He.ma K (He.ga K "Counter") "__init__"), (He.ma K (He.ga K "Counter") "__eq__"), ["total", "counts"]), ((He.ga K "Undecided"), (He.ma K (He.ga K "Undecided") "__init__"), (He.ma K (He.ga K "Undecided") "__eq__"), ["upto"]), ((He.ga K "Bound"), (He.ma K (He.ga K "Bound") "__init__"), (He.ma K (He.ga K "Bound") "__eq__"), ["late", "rest"]), ((He.ga K "Endless"), (He.ma K (He.ga K "Endless") "__init__"), (He.ma K (He.ga K "Endless") "__eq__"), ["residue", "begin"]), ((He.ga K "Within"), (He.ma K (He.ga K "Within") "__init__"), (He.ma K (He.ga K "Within") "__eq__"), ["table"]), ((He.ga K "Beyond"), (He.ma K (He.ga K "Beyond") "__init__"), (He.ma K (He.ga K "Beyond") "__eq__"), ["rest", "late"]), ((He.ga K "Latest"), (He.ma K (He.ga K "Latest") "__init__"), (He.ma K (He.ga K "Latest") "__eq__"), ["late", "at", "world"]), ((He.ga K "Taking"), (He.ma K (He.ga K "Taking") "__init__"), (He.ma K (He.ga K "Taking") "__eq__"), ["worker", "at", "begun", "ended"]), ((He.ga K "Fits"), (He.ma K (He.ga K "Fits") "__init__"), (He.ma K (He.ga K "Fits") "__eq__"), ["world"]), ((He.ga K "Misfit"), (He.ma K (He.ga K "Misfit") "__init__"), (He.ma K (He.ga K "Misfit") "__eq__"), ["at", "why"]), ((He.ga K "Ring"), (He.ma K (He.ga K "Ring") "__init__"), (He.ma K (He.ga K "Ring") "__eq__"), ["workers"]), ((He.ga K "Came"), (He.ma K (He.ga K "Came") "__init__"), (He.ma K (He.ga K "Came") "__eq__"), ["least", "most"]), ((He.ga K "BestOrder"), (He.ma K (He.ga K "BestOrder") "__init__"), (He.ma K (He.ga K "BestOrder") "__eq__"), ["names", "late", "last"]), ((He.ga K "PoolTaking"), (He.ma K (He.ga K "PoolTaking") "__init__"), (He.ma K (He.ga K "PoolTaking") "__eq__"), ["loop", "worker", "many", "begun", "ended"])]
def dsK (K : PySem.W.Frag) : List Addr := [(He.ga K "Fewest"), (He.ga K "NoList"), (He.ga K "Greatest"), (He.ga K "Least"), (He.ga K "BatchBound"), (He.ga K "BatchEndless"), (He.ga K "NeverLess"), (He.ga K "Steady"), (He.ga K "Same"), (He.ga K "Surely"), (He.ga K "Less"), (He.ga K "Jump"), (He.ga K "Other"), (He.ga K "Counter"), (He.ga K "Undecided"), (He.ga K "Bound"), (He.ga K "Endless"), (He.ga K "Within"), (He.ga K "Beyond"), (He.ga K "Latest"), (He.ga K "Taking"), (He.ga K "Fits"), (He.ga K "Misfit"), (He.ga K "Ring"), (He.ga K "Came"), (He.ga K "BestOrder"), (He.ga K "PoolTaking")]
def exK (K : PySem.W.Frag) : Bool :=
  decide (PySem.W.specialIn K (.builtin "object.__class__") "__get__" = some (some (.builtin "getset_descriptor.__get__"))) && (decide (PySem.W.takesIn K (.builtin "object.__class__") = some true) && ((rowsK K).all (fun r => papB K r.1 r.2.1 r.2.2.1 r.2.2.2) &&
  ((dsK K).all (fun C => decide (PySem.W.kitOne K (.ref C) (.ref (He.ga K "Paper")) = some true)) && (kdB K (dsK K) (He.ga K "Denial") && (knB K (dsK K) && (kxB K (He.ga K "Beyond") (He.ga K "Bound") && (tfB K (dsK K) && (ttB K (dsK K) (He.ma K (He.ga K "NoList") "__bool__") &&
  (decide (PySem.W.findIn K (.ref (He.ga K "NoList")) "__ne__" = some (some (.builtin "object.__ne__"))) && (decide (PySem.W.findIn K (.ref (He.ga K "Taking")) "__ne__" = some (some (.builtin "object.__ne__"))) && decide (PySem.W.tabIn K "_law_made" = some (He.cT K ("_law_made", none)))))))))))))
abbrev hR : PySem.W.OpenRow := PySem.W.OpenLaw.row PySem.Challenge.rw_latechunks_k03_papers_of_all_kinds
def hAS : List Addr := [2, 3, 22, 23, 24, 25, 26, 29, 36, 38, 39, 41, 42, 43, 44, 45, 48, 55, 57, 58, 60, 61, 62, 64, 65, 67, 68, 69, 70, 71, 74, 81, 83, 84, 86, 87, 88, 90, 91, 93, 94, 95, 96, 97, 100, 107, 109, 110, 112, 113, 114, 116, 117, 119, 120, 121, 122, 123, 126, 133, 135, 136, 138, 139, 140, 142, 143, 145, 146, 147, 148, 149, 152, 159, 161, 162, 164, 165, 166, 168, 169, 171, 172, 173, 174, 175, 178, 185, 187, 188, 190, 191, 192, 194, 195, 197, 198, 199, 200, 201, 204, 211, 213, 214, 216, 217, 218, 220, 221, 223, 224, 225, 226, 227, 230, 237, 239, 240, 242, 243, 244, 246, 247, 249, 250, 251, 252, 253, 256, 263, 265, 266, 268, 269, 270, 272, 273, 275, 276, 277, 278, 279, 282, 289, 291, 292, 294, 295, 296, 298, 299, 301, 302, 303, 304, 305, 308, 315, 317, 318, 320, 321, 322, 324, 325, 327, 328, 329, 330, 331, 334, 341, 343, 344, 346, 347, 348, 350, 351, 353, 354, 355, 356, 357, 360, 367, 369, 370, 372, 373, 374, 376, 377, 379, 380, 381, 382, 383, 386, 393, 395, 396, 398, 399, 400, 402, 403, 405, 406, 407, 408, 409, 412, 419, 421, 422, 424, 425, 426, 428, 429, 431, 432, 433, 434, 435, 438, 445, 447, 448, 450, 451, 452, 454, 455, 457, 458, 459, 460, 461, 464, 471, 473, 474, 476, 477, 478, 480, 481, 483, 484, 485, 486, 487, 490, 497, 499, 500, 502, 503, 504, 506, 507, 509, 510, 511, 512, 513, 516, 523, 525, 526, 528, 529, 530, 532, 533, 535, 536, 537, 538, 539, 542, 549, 551, 552, 554, 555, 556, 558, 559, 561, 562, 563, 564, 565, 568, 575, 577, 578, 580, 581, 582, 584, 585, 587, 588, 589, 590, 591, 594, 601, 603, 604, 606, 607, 608, 610, 611, 613, 614, 615, 616, 617, 620, 627, 629, 630, 632, 633, 634, 636, 637, 639, 640, 641, 642, 643, 646, 653, 655, 656, 658, 659, 660, 662, 663, 665, 666, 667, 668, 669, 672, 679, 681, 682, 684, 685, 686, 688, 689, 691, 692, 693, 694, 695, 698, 705, 707, 708, 710, 711, 712, 714, 715, 717, 718, 719, 720, 721, 724, 731, 733, 734, 736, 737, 738, 740, 741, 743, 744, 745, 746, 747, 750, 752, 753, 755, 756, 757, 759, 760, 762, 763, 764, 766, 767, 769, 770, 771, 773, 774, 776, 777, 778, 780, 781, 783, 784, 785, 788, 789]
abbrev hkX : PySem.W.Hook := hookY hAS hfa hfn htf exK
def hob (s : PySem.W.SharedT) : He.AlD × Bool := obsY hAS hfa hfn htf exK (HandSHeadRun.getT s)
theorem hob_eq (s : PySem.W.SharedT) : hob s = hkX.obs s.abs := obsY_eq (HandSHeadRun.getT_eq s)
theorem head_run (w : World) : HandSHeadRun.RunEq hR (PySem.W.view hR.prog [1, 2, 4, 5, 6, 7, 9, 10, 12, 13, 14, 15, 16, 17, 18, 19, 20, 22, 23, 24, 25, 27, 29, 31, 32, 33, 34, 36, 38, 40, 41, 42, 43, 44, 45]) hkX hob 12000 [] w := by
  intro os
  kernel_rfl
end Lw
namespace Lw
open PySem PySem.Spec PyProof.Rows L2
def top (i : Nat) : Stmt := PySem.Challenge.pw_latechunks_k03_papers_of_all_kinds.main.body.getD i (.Pass ⟨0, 0, 0, 0⟩)

theorem stir {x s : Int} (hx0 : 0 ≤ x) (hx : x < 2147483648) (hs0 : 0 ≤ s) (hs : s ≤ 1000000) (e f g : Int) (he0 : 0 ≤ e) (he : e ≤ 1000) (hf0 : 0 ≤ f) (hf : f ≤ 1000000) (hg0 : 0 ≤ g) (hg : g ≤ 1000000) :
    (x * (2 * s + e) + f * s * s + g).natAbs < 2 ^ 64 := by
  have a0 : 0 ≤ x * (2 * s + e) := Int.mul_nonneg hx0 (by omega)
  have a1 : x * (2 * s + e) ≤ 2147483648 * 2001000 := Int.mul_le_mul (by omega) (by omega) (by omega) (by omega)
  have b0 : 0 ≤ f * s := Int.mul_nonneg hf0 hs0
  have b1 : f * s ≤ 1000000 * 1000000 := Int.mul_le_mul hf hs hs0 (by omega)
  have c0 : 0 ≤ f * s * s := Int.mul_nonneg b0 hs0
  have c1 : f * s * s ≤ 1000000 * 1000000 * 1000000 := Int.mul_le_mul b1 hs hs0 (by omega)
  omega
theorem fsmall {f s : Int} (hf0 : 0 ≤ f) (hf : f ≤ 1000000) (hs0 : 0 ≤ s) (hs : s ≤ 1000000) : -(2 ^ 64) < f * s ∧ f * s < 2 ^ 64 := by
  have b0 : 0 ≤ f * s := Int.mul_nonneg hf0 hs0
  have b1 : f * s ≤ 1000000 * 1000000 := Int.mul_le_mul hf hs hs0 (by omega)
  omega
theorem fm0 {a d : Int} (hd : 0 < d) : 0 ≤ Int.fmod a d := Int.fmod_nonneg_of_pos _ hd
theorem fm1 {a d : Int} (hd : 0 < d) (h : d ≤ 2147483648) : Int.fmod a d < 2147483648 := Int.lt_of_lt_of_le (Int.fmod_lt_of_pos _ hd) h
theorem fm64 {a d : Int} (hd : 0 < d) (h : d ≤ 2147483648) : -(2 ^ 64) < Int.fmod a d ∧ Int.fmod a d < 2 ^ 64 := by
  have h0 := fm0 (a := a) hd
  have h1 := fm1 (a := a) hd h
  omega
theorem ite_false_of {c : Bool} {A B : Prop} (h : ¬ c = true) (hb : B) : if c = true then A else B := by rw [if_neg h]; exact hb
/-- behind an if: what both ways end in -/
theorem join_if {t u : TS} {D : Ends} {b : Bool} {σ : L2.St} {H : Hp} (Pj : L2.St → Hp → Prop) (hr : ∀ σ' H', Pj σ' H' → D.nx σ' H') (h : (∀ σ' H', Pj σ' H' → D.nx σ' H') → if b = true then t D σ H else u D σ H) : if b = true then t D σ H else u D σ H := h hr
theorem lay_ints : ∀ xs : List Int, PyData.canLayAll0 (xs.map PyData.int) = true
  | [] => rfl
  | x :: r => by
    show (PyData.canLay0 (.int x) && PyData.canLayAll0 (r.map PyData.int)) = true
    rw [lay_ints r]; rfl
theorem depth_ints : ∀ xs : List Int, PyData.depthAll (xs.map PyData.int) = 0
  | [] => rfl
  | x :: r => by
    show max (PyData.depth (.int x)) (PyData.depthAll (r.map PyData.int)) = 0
    rw [depth_ints r]; rfl
theorem shaped_ints (xs : List Int) : SeqAt.shaped (.list (xs.map PyData.int)) = true := by
  unfold SeqAt.shaped
  have h1 : PyData.canLay0 (.list (xs.map PyData.int)) = true := lay_ints xs
  have h2 : PyData.depth (.list (xs.map PyData.int)) = 1 := by
    show PyData.depthAll (xs.map PyData.int) + 1 = 1
    rw [depth_ints]
  rw [h1, h2]; rfl
theorem dp_ints {K : PySem.W.Frag} {H : Hp} : ∀ xs : List Int, DpAll K H (xs.map V.int) (xs.map PyData.int)
  | [] => .nil
  | x :: r => .cons (.int x) (dp_ints r)
theorem eqv_nil (xs : List Int) : PyData.eqv (.list (xs.map PyData.int)) (.list []) = decide (xs = []) := by
  cases xs <;> rfl
abbrev sPen : Stmt := top 40
abbrev sDraw : Stmt := top 41
abbrev sPick : Stmt := top 42
/-- all but what stands at p is as it was -/
def Kp (p : Addr) (H H' : Hp) : Prop := ∀ b o, b ≠ p → H b = some o → H' b = some o
/-- a pen at p: its numbers at l, its place, its rest -/
structure PenAt (H : Hp) (p l : Addr) (xs : List Int) (s g : Int) : Prop where
  at_ : H p = some (.lst [.ref l, .int s, .int g])
  ls : H l = some (.lst (xs.map V.int))
  ne : p ≠ l
  s0 : 0 ≤ s
  g0 : 0 ≤ g
def Pen (H : Hp) (p l : Addr) (n : Nat) : Prop := ∃ xs s g, PenAt H p l xs s g ∧ s ≤ n
def spDraw : Sp := fun vs H Q _ => ∃ (p l : Addr) (n : Nat) (m : Int), vs = [.ref p, .int m] ∧ 0 < m ∧ m < 2 ^ 200 ∧ Pen H p l n ∧ n ≤ 1000000 ∧
  ∀ (r : Int) (H' : Hp), 0 ≤ r → r < m → Pen H' p l (n + 1) → Kp p H H' → Q (.int r) H'
structure Txt0 (mg : Str → Option Value) : Prop where
  n_int : mg "int" = none
  n_list : mg "list" = none
  n_len : mg "len" = none
  n_abs : mg "abs" = none
section
variable {P : Program} {w : World} {K : PySem.W.Frag} {mg : Str → Option Value} {base : Heap}
theorem scDraw : FnScope ["_law_pen_here", "_law_many", "_law_digit", "_law_spot", "_law_cell", "_law_great", "_law_stirred"] ["_law_pen_here", "_law_many"] (C8.fnScope sDraw) := C8.fnScope_by (by decide +kernel)
theorem cal_draw {f : Addr} {fd : FuncData} (F : C8.Def K mg "_law_draw" sDraw f fd) (b : Binds K fd ["_law_pen_here", "_law_many"] []) (T : Txt0 mg) : C8.Cal P w K mg base 1 "_law_draw" spDraw [] := by
  refine C8.cal0 F b .nil scDraw (fun vs H Q E h => ?_) (fun cdv A outer st H vs Q E hr h => ?_)
  · obtain ⟨p, l, n, m, rfl, _⟩ := h
    rfl
  · obtain ⟨p, l, n, m, rfl, hm, hm2, ⟨xs, s, g, ⟨hp, hl, ne, s0, g0⟩, hs⟩, hn, k⟩ := h
    refine ⟨_, (pss_cons (ps_if (pt_cmpR op_gt (pe_ix ix_list (pv 0) pe_int (fun _ _ => rfl)) pe_int (nomark _)) (pss_cons (ps_set (i := 2) scDraw.nd rfl (Or.inl rfl) (pe_op op_modN (pe_callTy call_int1 (by rfl) T.n_int (by decide +kernel) (pa_cons (pe_ix ix_list (pv 0) pe_int (fun _ _ => rfl)) pa_nil)) (pv 1)))
  (pss_cons (ps_asg (pe_op op_fdivW (pe_callTy call_int1 (by rfl) T.n_int (by decide +kernel) (pa_cons (pe_ix ix_list (pv 0) pe_int (fun _ _ => rfl)) pa_nil)) (pv 1)) (pg_sub (pv 0) pe_int set_list))
  (pss_one (ps_ret (pv 2))))) pss_nil)
  (pss_cons (ps_set (i := 3) scDraw.nd rfl (Or.inl rfl) (pe_ix ix_list (pv 0) pe_int (fun _ _ => rfl)))
  (pss_cons (ps_asg (pe_op op_add (pv 3) pe_int) (pg_sub (pv 0) pe_int set_list))
  (pss_cons (ps_set (i := 4) scDraw.nd rfl (Or.inl rfl) (pe_op op_add (pe_op op_mul pe_int (pv 3)) pe_int))
  (pss_cons (ps_if (pt_cmpR (op_neD hr.units) (pe_ix ix_list (pv 0) pe_int (fun _ _ => rfl)) (pe_lst pa_nil) (nomark _)) (pss_one (ps_set (i := 4) scDraw.nd rfl (Or.inl rfl) (pe_ix ix_list (pe_ix ix_list (pv 0) pe_int (fun _ _ => rfl)) (pe_op op_modN (pe_callTy call_int1 (by rfl) T.n_int (by decide +kernel) (pa_cons (pv 3) pa_nil)) (pe_callB call_len_seq (by rfl) T.n_len (by decide +kernel) (pa_cons (pe_ix ix_list (pv 0) pe_int (fun _ _ => rfl)) pa_nil))) (fun _ _ => rfl)))) pss_nil)
  (pss_cons (ps_if (PW.pt (pw_and (pt_cmpR op_lt (pv 3) (pe_callB call_len_seq (by rfl) T.n_len (by decide +kernel) (pa_cons (pe_ix ix_list (pv 0) pe_int (fun _ _ => rfl)) pa_nil)) (nomark _)) (pw_and1 (pt_cmpR op_ge (pe_callB call_abs (by rfl) T.n_abs (by decide +kernel) (pa_cons (pv 4) pa_nil)) (pe_op op_pow pe_int pe_int) (nomark _))))) (pss_cons (ps_set (i := 5) scDraw.nd rfl (Or.inl rfl) (pe_op op_add (pe_op op_mul pe_int (pe_op op_sub (pe_callB call_abs (by rfl) T.n_abs (by decide +kernel) (pa_cons (pv 4) pa_nil)) (pe_op op_pow pe_int pe_int))) (pe_callTy call_int1 (by rfl) T.n_int (by decide +kernel) (pa_cons (pe_cmpR op_lt (pv 4) pe_int (nomark _)) pa_nil))))
  (pss_cons (ps_asg (pe_op op_fdivW (pe_callTy call_int1 (by rfl) T.n_int (by decide +kernel) (pa_cons (pv 5) pa_nil)) (pv 1)) (pg_sub (pv 0) pe_int set_list))
  (pss_one (ps_ret (pe_op op_modN (pe_callTy call_int1 (by rfl) T.n_int (by decide +kernel) (pa_cons (pv 5) pa_nil)) (pv 1)))))) pss_nil)
  (pss_cons (ps_set (i := 6) scDraw.nd rfl (Or.inl rfl) (pe_op op_modN (pe_callTy call_int1 (by rfl) T.n_int (by decide +kernel) (pa_cons (pe_op op_pow (pe_op op_add (pe_op op_add (pe_op op_modN (pe_callTy call_int1 (by rfl) T.n_int (by decide +kernel) (pa_cons (pv 4) pa_nil)) pe_int) (pe_op op_mul pe_int (pv 3))) pe_int) pe_int) pa_nil)) pe_int))
  (pss_cons (ps_set (i := 6) scDraw.nd rfl (Or.inl rfl) (pe_op op_modN (pe_callTy call_int1 (by rfl) T.n_int (by decide +kernel) (pa_cons (pe_op op_pow (pe_op op_add (pe_op op_add (pe_op op_mul (pv 6) (pe_op op_add (pe_op op_mul pe_int (pv 3)) pe_int)) (pe_op op_mul (pe_op op_mul pe_int (pv 3)) (pv 3))) pe_int) pe_int) pa_nil)) pe_int))
  (pss_one (ps_ret (pe_op op_modN (pe_callTy call_int1 (by rfl) T.n_int (by decide +kernel) (pa_cons (pe_op op_fdivW (pv 6) pe_int) pa_nil)) (pv 1)))))))))))), ?_⟩
    have hmb : CDivW 0 m := wide_div (b := 200) hm (by omega) (by decide) (by decide)
    refine ⟨_, rfl, p, _, _, _, rfl, rfl, SqL.of hp, rfl, _, _, rfl, rfl, _, rfl, ite2 (fun c => ?_) (fun c => ?_)⟩
    · -- the rest is above 0: a digit of it
      refine ⟨_, rfl, p, _, _, _, rfl, rfl, SqL.of hp, rfl, Or.inl ⟨_, rfl, ?_⟩⟩
      refine ⟨_, rfl, _, _, rfl, rfl, (by omega), ?_⟩
      refine ⟨_, rfl, p, _, _, _, rfl, rfl, SqL.of hp, rfl, Or.inl ⟨_, rfl, ?_⟩⟩
      refine ⟨_, rfl, _, _, rfl, rfl, hmb, ?_⟩
      refine ⟨_, rfl, p, _, _, _, rfl, rfl, hp, rfl, ?_⟩
      refine ⟨_, rfl, ?_⟩
      refine k _ _ (Int.fmod_nonneg_of_pos _ hm) (Int.fmod_lt_of_pos _ hm) ⟨xs, s, g / m, ⟨?_, ?_, ne, s0, Int.ediv_nonneg g0 (Int.le_of_lt hm)⟩, by omega⟩ fun b o hb e => ?_
      · rw [upd_same]; rfl
      · rw [upd_ne (Ne.symm ne)]; exact hl
      · rw [upd_ne hb]; exact e
    · -- the next place
      refine ⟨_, rfl, p, _, _, _, rfl, rfl, SqL.of hp, rfl, ?_⟩
      refine ⟨_, rfl, _, _, rfl, rfl, _, rfl, p, _, _, _, rfl, rfl, hp, rfl, ?_⟩
      have hp1 : upd H p (.lst [V.ref l, V.int (s + 1), V.int g]) p = some (.lst [V.ref l, V.int (s + 1), V.int g]) := upd_same
      have hl1 : upd H p (.lst [V.ref l, V.int (s + 1), V.int g]) l = some (.lst (xs.map V.int)) := by rw [upd_ne (Ne.symm ne)]; exact hl
      have k1 : Kp p H (upd H p (.lst [V.ref l, V.int (s + 1), V.int g])) := fun b o hb e => by rw [upd_ne hb]; exact e
      show tSeq _ _ _ _ (upd H p (.lst [V.ref l, V.int (s + 1), V.int g]))
      generalize upd H p (.lst [V.ref l, V.int (s + 1), V.int g]) = H1 at hp1 hl1 k1 ⊢
      have fin : ∀ (r g' : Int) (H' : Hp), 0 ≤ r → r < m → 0 ≤ g' → H' p = some (.lst [V.ref l, V.int (s + 1), V.int g']) → Kp p H1 H' → Q (.int r) H' := fun r g' H' h0 h1 h2 h3 h4 =>
        k r H' h0 h1 ⟨xs, s + 1, g', ⟨h3, h4 _ _ (Ne.symm ne) hl1, ne, by omega, h2⟩, by omega⟩ fun b o hb e => h4 b o hb (k1 b o hb e)
      refine ⟨_, rfl, _, _, rfl, rfl, Or.inl (by decide), _, _, rfl, rfl, ?_⟩
      refine ⟨_, rfl, p, _, _, _, rfl, rfl, SqL.of hp1, rfl, (by show 0 ≤ sizeLine; decide), fun q hq => ?_⟩
      have lq : l ≠ q := ne_of_none hl1 hq
      have pq : p ≠ q := ne_of_none hp1 hq
      have hl2 : upd H1 q (.lst []) l = some (.lst (xs.map V.int)) := by rw [upd_ne lq]; exact hl1
      have hp2 : upd H1 q (.lst []) p = some (.lst [V.ref l, V.int (s + 1), V.int g]) := by rw [upd_ne pq]; exact hp1
      have k2 : Kp p H1 (upd H1 q (.lst [])) := fun b o hb e => by rw [upd_ne (ne_of_none e hq)]; exact e
      refine ⟨.list (xs.map PyData.int), .list [], .lst (SqL.of hl2) (dp_ints xs), .lst (SqL.of upd_same) .nil, shaped_ints xs, rfl, _, rfl, ?_⟩
      generalize upd H1 q (.lst []) = H2 at hl2 hp2 k2 ⊢
      refine join_if (fun σ' H' => ∃ cell : Int, σ' = [some (V.ref p), some (V.int m), none, some (V.int s), some (V.int cell), none, none] ∧ H' = H2) ?rest (fun go => ?_)
      case rest =>
        rintro σ' H' ⟨cell, rfl, rfl⟩
        refine ⟨_, rfl, _, rfl, p, _, _, _, rfl, rfl, SqL.of hp2, rfl, l, xs.map V.int, rfl, .inl (SqL.of hl2), _, _, rfl, rfl, _, rfl, ?_⟩
        refine ite2 (fun c2 => ?_) (fun c2 => ?_)
        · refine ⟨_, rfl, _, rfl, _, _, rfl, rfl, ⟨by decide, by decide, by decide⟩, _, _, rfl, rfl, _, rfl, ?_⟩
          refine ite2 (fun c3 => ?_) (fun c3 => ?_)
          · refine ⟨_, rfl, _, rfl, _, _, rfl, rfl, ⟨by decide, by decide, by decide⟩, _, _, rfl, rfl, _, _, rfl, rfl, Or.inl (by decide), _, rfl, _, _, rfl, rfl, Or.inr ⟨_, rfl, _, _, rfl, rfl, ?_⟩⟩
            have hge : (10 : Int) ^ (18 : Int).toNat ≤ (if cell < 0 then -cell else cell) := of_decide_eq_true c3
            generalize hG : 2 * ((if cell < 0 then -cell else cell) - 10 ^ (18 : Int).toNat) + (if decide (cell < 0) = true then (1 : Int) else 0) = G
            have hG0 : 0 ≤ G := by
              rw [← hG]
              have h1 : 0 ≤ (if decide (cell < 0) = true then (1 : Int) else 0) := by split <;> decide
              omega
            refine ⟨_, rfl, Or.inl ⟨_, rfl, _, rfl, _, _, rfl, rfl, (by exact hmb), _, rfl, p, _, _, _, rfl, rfl, hp2, rfl, ?_⟩⟩
            refine ⟨_, rfl, Or.inl ⟨_, rfl, _, rfl, _, _, rfl, rfl, (by show ¬ (_ = _); omega), ?_⟩⟩
            refine fin _ (G / m) _ (fm0 hm) (Int.fmod_lt_of_pos _ hm) (Int.ediv_nonneg hG0 (Int.le_of_lt hm)) ?_ fun b o hb e => ?_
            · rw [upd_same, ← hG]; rfl
            · rw [upd_ne hb]; exact k2 b o hb e
          · refine ⟨_, rfl, Or.inl ⟨_, rfl, ?_⟩⟩
            refine ⟨_, _, rfl, rfl, (by show ¬ (_ = _); decide), _, rfl, _, _, rfl, rfl, Or.inl (by decide), _, _, rfl, rfl, _, _, rfl, rfl, ?_⟩
            generalize hz : Int.fmod cell _ = z
            have hz0 : 0 ≤ z := by rw [← hz]; exact fm0 (by decide)
            have hz1 : z < 2147483648 := by rw [← hz]; exact fm1 (by decide) (by decide)
            refine ⟨_, _, rfl, rfl, ⟨by decide, by decide, by omega⟩, Or.inl ⟨_, rfl, ?_⟩⟩
            refine ⟨_, _, rfl, rfl, (by show ¬ (_ = _); decide), ?_⟩
            refine ⟨_, rfl, _, rfl, _, _, rfl, rfl, Or.inl (by decide), _, _, rfl, rfl, _, _, rfl, rfl, Or.inl (by exact fm64 (by decide) (by decide)), ?_⟩
            refine ⟨_, rfl, _, _, rfl, rfl, Or.inl (by decide), _, rfl, _, _, rfl, rfl, Or.inl (by exact fsmall (by decide) (by decide) s0 (by omega)), _, _, rfl, rfl, _, _, rfl, rfl, ?_⟩
            refine ⟨_, _, rfl, rfl, ⟨by decide, by decide, by exact stir (fm0 (by decide)) (fm1 (by decide) (by decide)) s0 (by omega) _ _ _ (by decide) (by decide) (by decide) (by decide) (by decide) (by decide)⟩, Or.inl ⟨_, rfl, ?_⟩⟩
            refine ⟨_, _, rfl, rfl, (by show ¬ (_ = _); decide), ?_⟩
            refine ⟨_, rfl, _, _, rfl, rfl, ⟨by decide, by decide⟩, Or.inl ⟨_, rfl, _, rfl, _, _, rfl, rfl, (by show ¬ (_ = _); omega), ?_⟩⟩
            exact fin _ g _ (fm0 hm) (Int.fmod_lt_of_pos _ hm) g0 hp2 k2
        · refine iteF ?_
          refine ⟨_, rfl, Or.inl ⟨_, rfl, ?_⟩⟩
          refine ⟨_, _, rfl, rfl, (by show ¬ (_ = _); decide), _, rfl, _, _, rfl, rfl, Or.inl (by decide), _, _, rfl, rfl, _, _, rfl, rfl, ?_⟩
          generalize hz : Int.fmod cell _ = z
          have hz0 : 0 ≤ z := by rw [← hz]; exact fm0 (by decide)
          have hz1 : z < 2147483648 := by rw [← hz]; exact fm1 (by decide) (by decide)
          refine ⟨_, _, rfl, rfl, ⟨by decide, by decide, by omega⟩, Or.inl ⟨_, rfl, ?_⟩⟩
          refine ⟨_, _, rfl, rfl, (by show ¬ (_ = _); decide), ?_⟩
          refine ⟨_, rfl, _, rfl, _, _, rfl, rfl, Or.inl (by decide), _, _, rfl, rfl, _, _, rfl, rfl, Or.inl (by exact fm64 (by decide) (by decide)), ?_⟩
          refine ⟨_, rfl, _, _, rfl, rfl, Or.inl (by decide), _, rfl, _, _, rfl, rfl, Or.inl (by exact fsmall (by decide) (by decide) s0 (by omega)), _, _, rfl, rfl, _, _, rfl, rfl, ?_⟩
          refine ⟨_, _, rfl, rfl, ⟨by decide, by decide, by exact stir (fm0 (by decide)) (fm1 (by decide) (by decide)) s0 (by omega) _ _ _ (by decide) (by decide) (by decide) (by decide) (by decide) (by decide)⟩, Or.inl ⟨_, rfl, ?_⟩⟩
          refine ⟨_, _, rfl, rfl, (by show ¬ (_ = _); decide), ?_⟩
          refine ⟨_, rfl, _, _, rfl, rfl, ⟨by decide, by decide⟩, Or.inl ⟨_, rfl, _, rfl, _, _, rfl, rfl, (by show ¬ (_ = _); omega), ?_⟩⟩
          exact fin _ g _ (fm0 hm) (Int.fmod_lt_of_pos _ hm) g0 hp2 k2
      refine ite2 (fun c1 => ?_) (fun c1 => ?_)
      · rw [eqv_nil] at c1
        have hx : xs ≠ [] := by simpa using c1
        have hlen : 0 < xs.length := List.length_pos_iff.mpr hx
        refine ⟨_, rfl, p, _, _, _, rfl, rfl, SqL.of hp2, rfl, ?_⟩
        refine ⟨_, rfl, Or.inl ⟨_, rfl, ?_⟩⟩
        refine ⟨_, rfl, p, _, _, _, rfl, rfl, SqL.of hp2, rfl, l, xs.map V.int, rfl, .inl (SqL.of hl2), ?_⟩
        have hL : ((xs.map V.int).length : Int) = (xs.length : Int) := by rw [List.length_map]
        have hb1 : 0 ≤ s.fmod ((xs.map V.int).length : Int) := Int.fmod_nonneg_of_pos _ (by omega)
        have hb2 : s.fmod ((xs.map V.int).length : Int) < ((xs.map V.int).length : Int) := Int.fmod_lt_of_pos _ (by omega)
        obtain ⟨j, hj⟩ : ∃ j : Nat, s.fmod ((xs.map V.int).length : Int) = (j : Int) := ⟨(s.fmod ((xs.map V.int).length : Int)).toNat, by omega⟩
        have hjl : j < xs.length := by omega
        have hat : atI (xs.map V.int) (s.fmod ((xs.map V.int).length : Int)) = some (V.int xs[j]) := by
          rw [hj]; exact atI_nat (by simp [hjl])
        refine ⟨_, _, rfl, rfl, (by omega), ?_⟩
        refine ⟨l, _, _, V.int xs[j], rfl, rfl, SqL.of hl2, hat, ?_⟩
        exact go _ _ ⟨xs[j], rfl, rfl⟩
      · exact go _ _ ⟨_, rfl, rfl⟩
end
end Lw
namespace Lw
open PySem PySem.Spec PyProof.Rows L2

theorem Kp.refl (p : Addr) (H : Hp) : Kp p H H := fun _ _ _ e => e
theorem Kp.trans {p : Addr} {H H1 H2 : Hp} (a : Kp p H H1) (b : Kp p H1 H2) : Kp p H H2 := fun c o hc e => b c o hc (a c o hc e)
theorem Kp.of {p : Addr} {H H' : Hp} (s : Same H H') : Kp p H H' := fun b o _ e => s b o e
theorem Kp.seq {K : PySem.W.Frag} {p a : Addr} {H H' : Hp} {ys : List V} (k : Kp p H H') (ne : a ≠ p) (h : SqL K H a ys) : SqL K H' a ys := by
  rcases h with (h | ⟨o, h⟩) | h
  · exact .inl (.inl (k _ _ ne h))
  · exact .inl (.inr ⟨o, k _ _ ne h⟩)
  · exact .inr h
theorem same_new {H : Hp} {q : Addr} {o : HO} (hq : H q = none) : Same H (upd H q o) := fun b u e => by rw [upd_ne (ne_of_none e hq)]; exact e
theorem Pen.keep {H H' : Hp} {p l : Addr} {n : Nat} (h : Pen H p l n) (s : Same H H') : Pen H' p l n := by
  obtain ⟨xs, a, g, ⟨h1, h2, h3, h4, h5⟩, h6⟩ := h
  exact ⟨xs, a, g, ⟨s _ _ h1, s _ _ h2, h3, h4, h5⟩, h6⟩
theorem Pen.at {H : Hp} {p l : Addr} {n : Nat} (h : Pen H p l n) : ∃ o, H p = some o := by
  obtain ⟨xs, a, g, h, _⟩ := h
  exact ⟨_, h.at_⟩
theorem Pen.ne_new {H : Hp} {p l q : Addr} {n : Nat} (h : Pen H p l n) (hq : H q = none) : q ≠ p := by
  obtain ⟨o, h1⟩ := h.at
  exact (ne_of_none h1 hq).symm
theorem Pen.more {H : Hp} {p l : Addr} {n m : Nat} (h : Pen H p l n) (hm : n ≤ m) : Pen H p l m := by
  obtain ⟨xs, a, g, h1, h2⟩ := h
  exact ⟨xs, a, g, h1, by omega⟩
def spPick (K : PySem.W.Frag) : Sp := fun vs H Q _ => ∃ (p l a : Addr) (n : Nat) (ys : List V), vs = [.ref p, .ref a] ∧ Pen H p l n ∧ n ≤ 1000000 ∧ SqL K H a ys ∧ a ≠ p ∧ 0 < ys.length ∧ ys.length < 1000000 ∧
  ∀ (j : Nat) (v : V) (H' : Hp), ys[j]? = some v → Pen H' p l (n + 1) → Kp p H H' → Q v H'
def spPen (K : PySem.W.Frag) : Sp := fun vs H Q _ => ∃ (a : Addr) (ns : List Int), vs = [.ref a] ∧ SqL K H a (ns.map V.int) ∧ ns.length ≤ 63 ∧ ∀ (p l : Addr) (H' : Hp), Pen H' p l 0 → Same H H' → H p = none → Q (.ref p) H'
theorem Pen.over {H : Hp} {p l q : Addr} {n : Nat} {o : HO} (h : Pen H p l n) (h1 : q ≠ p) (h2 : q ≠ l) : Pen (upd H q o) p l n := by
  obtain ⟨xs, a, g, ⟨e1, e2, e3, e4, e5⟩, h6⟩ := h
  exact ⟨xs, a, g, ⟨by rw [upd_ne h1.symm]; exact e1, by rw [upd_ne h2.symm]; exact e2, e3, e4, e5⟩, h6⟩
theorem Pen.ne_new2 {H : Hp} {p l q : Addr} {n : Nat} (h : Pen H p l n) (hq : H q = none) : q ≠ l := by
  obtain ⟨xs, a, g, h, _⟩ := h
  exact (ne_of_none h.ls hq).symm
section
variable {P : Program} {w : World} {K : PySem.W.Frag} {mg : Str → Option Value} {base : Heap}
theorem scPick : FnScope ["_law_pen_here", "_law_some"] ["_law_pen_here", "_law_some"] (C8.fnScope sPick) := C8.fnScope_by (by decide +kernel)
theorem cal_pick {f : Addr} {fd : FuncData} (F : C8.Def K mg "_law_pick" sPick f fd) (b : Binds K fd ["_law_pen_here", "_law_some"] []) (T : Txt0 mg) (D : C8.Cal P w K mg base 1 "_law_draw" spDraw []) : C8.Cal P w K mg base 2 "_law_pick" (spPick K) [] := by
  refine C8.cal0 F b .nil scPick (fun vs H Q E h => ?_) (fun cdv A outer st H vs Q E hr h => ?_)
  · obtain ⟨p, l, a, n, ys, rfl, _⟩ := h
    rfl
  · obtain ⟨p, l, a, n, ys, rfl, hp, hn, hs, ne, h0, h1, k⟩ := h
    refine ⟨_, (pss_one (ps_ret (pe_ix ix_list (pv 1) (C8.pe_c D hr (by decide) (by rfl) (pa_cons (pv 0) (pa_cons (pe_callB call_len_seq (by rfl) T.n_len (by decide +kernel) (pa_cons (pv 1) pa_nil)) pa_nil))) (fun _ _ => rfl)))), ?_⟩
    refine ⟨_, rfl, _, rfl, _, rfl, a, ys, rfl, .inl hs, ?_⟩
    refine ⟨p, l, n, _, rfl, (by omega), (by omega), hp, hn, fun r H' r0 r1 hp' k' => ?_⟩
    obtain ⟨j, hj⟩ : ∃ j : Nat, r = (j : Int) := ⟨r.toNat, by omega⟩
    subst hj
    have hjl : j < ys.length := by omega
    refine ⟨a, ys, _, ys[j], rfl, rfl, k'.seq ne hs, atI_nat (by simp [hjl]), ?_⟩
    exact k j _ H' (by simp [hjl]) hp' k'
theorem scPen : FnScope ["_law_script"] ["_law_script"] (C8.fnScope sPen) := C8.fnScope_by (by decide +kernel)
theorem cut_ints (xs : List Int) (lo hi : Option Int) : cutV (xs.map V.int) lo hi = ((xs.drop (HT.sIx xs.length 0 lo)).take (HT.sIx xs.length xs.length hi - HT.sIx xs.length 0 lo)).map V.int := by
  unfold cutV
  rw [List.length_map, List.map_take, List.map_drop]
theorem cal_pen {f : Addr} {fd : FuncData} (F : C8.Def K mg "_law_pen" sPen f fd) (b : Binds K fd ["_law_script"] []) (T : Txt0 mg) : C8.Cal P w K mg base 1 "_law_pen" (spPen K) [] := by
  refine C8.cal0 F b .nil scPen (fun vs H Q E h => ?_) (fun cdv A outer st H vs Q E hr h => ?_)
  · obtain ⟨a, ns, rfl, _⟩ := h
    rfl
  · obtain ⟨a, ns, rfl, hs, hl, k⟩ := h
    refine ⟨_, (pss_one (ps_ret (pe_lst (pa_cons (pe_callTy call_list_of (by rfl) T.n_list (by decide +kernel) (pa_cons (pe_slice sl_list (pv 0) po_none (po_some pe_int)) pa_nil)) (pa_cons pe_int (pa_cons pe_int pa_nil)))))), ?_⟩
    refine ⟨_, rfl, _, rfl, a, _, rfl, hs, fun c hc => ?_⟩
    refine ⟨c, _, rfl, .inl (SqL.of upd_same), fun l hl2 => ?_⟩
    refine ⟨(by show 3 ≤ sizeLine; decide), fun p hp => ?_⟩
    have s1 := same_new (o := HO.lst (cutV (ns.map V.int) none (some 63))) hc
    have s2 := same_new (o := HO.lst (cutV (ns.map V.int) none (some 63))) hl2
    have s3 := same_new (o := HO.lst [V.ref l, V.int 0, V.int 0]) hp
    have pl : p ≠ l := fun e => by rw [e, upd_same] at hp; cases hp
    refine k p l _ ⟨((ns.drop (HT.sIx ns.length 0 none)).take (HT.sIx ns.length ns.length (some 63) - HT.sIx ns.length 0 none)), 0, 0, ⟨upd_same, ?_, pl, by omega, by omega⟩, by omega⟩ ((s1.trans s2).trans s3) ((s1.trans s2).free hp)
    rw [upd_ne pl.symm, upd_same, cut_ints]
end
end Lw
namespace Lw
open PySem PySem.Spec PyProof.Rows L2

/-! ### defs that are called where no repr runs -/
/-- a def's promise where nothing is being shown -/
structure FnG (P : Program) (w : World) (K : PySem.W.Frag) (mg : Str → Option Value) (base : Heap) (k : Nat) (f : Addr) (fd : FuncData) (ps : List Str) (sp : Sp) : Prop where
  len : ∀ vs H Q E, sp vs H Q E → vs.length = ps.length
  run : ∀ (A : Around) (outer : List Env) (s : Shared) (H : Hp) (args : Args) (us : List Value) (vs : List V) (Q : VK) (E : XK), A.guards = some [] → Room k A → Env0 P w K mg base A outer s H →
    BindsTo s fd args (ps.zip us) → Vals vs us → sp vs H Q E → codeAny (model P w) A (.call (.ref f) args) (CR C8.CX0 outer P w H s Q E) s
structure CalG (P : Program) (w : World) (K : PySem.W.Frag) (mg : Str → Option Value) (base : Heap) (k : Nat) (x : Str) (sp : Sp) (dvs : List V) : Prop where
  ex : ∃ (f : Addr) (fd : FuncData) (ps : List Str) (ds : List Value), FnG P w K mg base k f fd ps sp ∧ mg x = some (.ref f) ∧ PySem.W.keepIn K (.ref f) = true ∧ Binds K fd ps ds ∧ Vals dvs ds
section
variable {P : Program} {w : World} {K : PySem.W.Frag} {mg : Str → Option Value} {base : Heap}
theorem calG {x : Str} {st : Stmt} {f : Addr} {fd : FuncData} {N ps : List Str} {ds : List Value} {dvs : List V} {k : Nat} {sp : Sp} (F : C8.Def K mg x st f fd) (b : Binds K fd ps ds) (d : Vals dvs ds) (S : FnScope N ps (C8.fnScope st))
    (len : ∀ vs H Q E, sp vs H Q E → vs.length = ps.length)
    (body : ∀ (cdv : Value) (A : Around) (outer : List Env) (s : Shared) (H : Hp) (vs : List V) (Q : VK) (E : XK), (A.deeper (envOfC x (C8.fnScope st) s.heap.objs.size f cdv)).guards = some [] → Room k (A.deeper (envOfC x (C8.fnScope st) s.heap.objs.size f cdv)) → sp vs H Q E →
      ∃ t, PSs (cxOf C8.CX0 P w K mg base N x (C8.fnScope st) f cdv A outer s H E).nox (C8.fnBody st) t ∧ t { nx := fun _ H' => Q .non H', rt := Q } (start N vs) H) : CalG P w K mg base (k + 1) x sp dvs := by
  refine ⟨f, fd, ps, ds, ⟨len, ?_⟩, F.mgf, F.kp, b, d⟩
  intro A outer s H args us vs Q E hg hr e0 hb r hs
  obtain ⟨oc, od, dV, kV, doc, pm, an, cdv, ct, osl, rfl, lk, hcd⟩ := F.fn.ex
  refine LamX.run_ofS lk hcd S hr e0 hb r (len _ _ _ _ hs) fun hr' => ?_
  obtain ⟨t, h1, h2⟩ := body cdv A outer s H vs Q E hg hr' hs
  exact ⟨t, h1.nox, h2⟩
end
section
variable {X : Cx} {k j : Nat} {x : Str} {sp : Sp} {dvs : List V} {p pos : Pos} {e : Expr} {es : List Expr} {t : TA}
theorem pe_g (c : CalG X.prog X.w X.K X.mg X.base k x sp dvs) (hG : X.A.guards = some []) (hr : Room j X.A) (hk : k ≤ j) (hg : Gl X x) (ha : PA X (e :: es) t)
    (hdb : (x == ("__debug__" : Str)) = false := by decide) (he : starEach (e :: es) X.env = (false, eval e X.env) :: starEach es X.env := by rfl) (hpl : (backTo pos (starEach es X.env)).any (·.1) = false := by rfl) :
    PE X (.Call (.Name x p) (e :: es) [] pos) (tCall sp dvs C8.E0 t) := by
  obtain ⟨f, fd, ps, ds, F, hm, kp, b, d⟩ := c.ex
  refine ⟨fun pins s σ H Q I h => ?_⟩
  refine wpAny_Call_Name_kw (ld_glob I hg hm ?_ hdb)
  refine PySem.W.callWith_K (h₀ := X.base) I.ok.mod.kin kp (thn (ha.run pos pins s σ H _ I h) fun us s1 g => ?_) he hpl
  obtain ⟨vs, H1, I1, r, q⟩ := g
  refine ⟨I1.kIn, ?_⟩
  have r2 := r.append d
  have hl : (us ++ ds).length = ps.length := r2.length.symm.trans (F.len _ _ _ _ q)
  refine wpAny_call (codeAny_mono (F.run X.A X.stack s1 H1 ⟨us, []⟩ (us ++ ds) (vs ++ dvs) Q C8.E0 hG (hr.mono hk) I1.env0 (b s1 us I1.kIn hl) r2 q) fun r s' hq => ?_)
  match r, hq with
  | .error e, hq => exact hq.elim
  | .ok (.ret u), hq => exact I1.after hq
  | .ok .next, hq => exact hq.elim
  | .ok .brk, hq => exact hq.elim
  | .ok .cont, hq => exact hq.elim
/-! ### repr of data -/
def rRepr (K : PySem.W.Frag) : List V → Hp → VK → Prop := fun xs H Q => ∃ (a : Addr) (d : PyData), xs = [.ref a] ∧ Dp K H (.ref a) d ∧ d.showable = true ∧ d.hasDict = false ∧ d.depth ≤ 100 ∧ d.shown.length ≤ sizeLine ∧ Q (.str d.shown) H
theorem call_reprD (hG : X.A.guards = some []) (hr : Room 0 X.A) : CallR X (.builtin "repr") (rRepr X.K) := by
  intro pins s σ H xs us Q I r h
  obtain ⟨a, d, rfl, hd, h1, h2, h3, h4, q⟩ := h
  obtain ⟨u, rfl, ru⟩ := vals1 r
  have e : u = Value.ref a := ru
  subst e
  obtain ⟨as, rd⟩ := Dp.reads I d _ _ hd rfl
  have hun := hr.un
  exact repr_of_reads' rd h1 (fun z => by rw [h2] at z; cases z) hG (by omega) (fun _ _ e => e) (fun h' u' tk kp => ⟨.str d.shown, H, I.kept kp, ⟨u', rfl⟩, q⟩) h4
end
end Lw
namespace Lw
open PySem PySem.Spec PyProof.Rows L2

open LamX
/-! ### a lambda as a value -/
def FnO (f : Addr) : HO := .ext fun h => ∃ o : Obj, h.get? f = some o ∧ o.cls = .type "function"
section
variable {X : Cx} {pins : List (Addr × Obj)} {σ : L2.St} {H : Hp} {s : Shared}
theorem lay_fn {h' : Heap} {t' : Nat} {o : Obj} (I : Inv X pins σ H { s with heap := h', toks := t' }) (ho : o.cls = .type "function") (hs : o.isFreed = false) :
    Inv X pins σ (upd H h'.objs.size (FnO h'.objs.size)) { s with heap := h'.push o, toks := t' } := by
  refine I.laid (h' := h'.push o) (t' := t') (fun b u e => Heap.get?_push_of_some _ e) (Nat.le_refl _) ?_
  have g : (h'.push o).get? h'.objs.size = some o := Heap.get?_push_size _ hs
  refine ⟨⟨o, g, ho⟩, ⟨o, g⟩, ?_⟩
  rintro h1 h2 ⟨u, e1, e2⟩ st
  exact ⟨u, st u e1, e2⟩
theorem lam_val {T : List (Addr × Str)} {c B : Addr} {params : Arguments} {body : Expr} {scope : Scope} {pos : Pos} {E Q : Value → Shared → Prop} (I : Inv X pins σ H s) (TB : TabB X.base X.mg c B) (hcode : X.env.code = .ref c)
    (hm : (B, X.env.qual ++ "<lambda>") ∈ T) (hu : ∀ p ∈ T, p.1 = B → p.2 = X.env.qual ++ "<lambda>") (hT : Tabs T H) (hdef : defaultsOf params X.env = ([], []))
    (hfree : ∀ y ∈ scope.names, y.2 = .free → ∃ c, X.env.cells.lookup y.1 = some c)
    (h : ∀ (f : Addr) (H1 : Hp) (s' : Shared), Inv X pins σ (upd H1 f (FnO f)) s' → ExtN H H1 → Tabs T H1 → H1 f = none → Q (.ref f) s') :
    wpAny (model X.prog X.w) X.A (eval (.Lambda params body scope pos) X.env) Q E s := by
  have known := hT _ hm
  obtain ⟨ps, hB, trip, amg⟩ := known
  refine PySem.W.kla_eval hdef ?_
  have hat : s.heap.get? B = some { cls := .none, data := .fields ps } := I.hok B _ hB
  have blt := TB.bm.keeps I.bk
  have hdc := TB.code.keeps I.bk
  have glb := I.mod.glob.keeps I.bk
  rcases hc : codeAmong pos ps.toList with _ | cv
  · refine PySem.W.kla_makeFunction (mg := X.mg) (c := c) (P := B) (ps := ps) (closure_ok hfree) I.ok.glob glb hcode hdc hat trip hc TB.gP blt ?_
    intro c2 ctv h' tk hx hge hlt hrec htb
    obtain ⟨c3, oc, vs, t, e3, g1, g2, g3⟩ := hrec
    cases e3
    have nC : H c2 = none := I.hok.fresh hge
    have I0 := inv_table (t' := tk) (more := #[rawInt pos.line, rawInt pos.col, .ref c2]) (h' := h') I hB hx htb hge ⟨oc, vs, t, g1, g2, g3⟩
    have stays : ExtN H (upd (upd H B (.tbl (ps ++ #[rawInt pos.line, rawInt pos.col, .ref c2]))) c2 (CodeO c2 (X.env.qual ++ "<lambda>"))) := by
      intro b o e n
      rw [upd_ne (ne_of_none e nC)]
      by_cases hb : b = B
      · subst hb
        rw [hB] at e
        exact absurd (Option.some.inj e).symm (n ps)
      · rw [upd_ne hb]; exact e
    refine h h'.objs.size _ _ (lay_fn (t' := tk) I0 rfl rfl) stays ?_ ?_
    · intro p hp
      by_cases hb : p.1 = B
      · rw [hu p hp hb, hb]
        refine ⟨ps ++ #[rawInt pos.line, rawInt pos.col, .ref c2], ?_, ?_, ?_⟩
        · rw [upd_ne (ne_of_none hB nC), upd_same]
        · rw [show (ps ++ #[rawInt pos.line, rawInt pos.col, .ref c2]).toList = ps.toList ++ [rawInt pos.line, rawInt pos.col, .ref c2] by simp]
          exact PySem.TriplesOk_snoc _ _ _ _ trip
        · intro p' cv' hcv
          rw [show (ps ++ #[rawInt pos.line, rawInt pos.col, .ref c2]).toList = ps.toList ++ [rawInt pos.line, rawInt pos.col, .ref c2] by simp] at hcv
          rcases among_app _ trip hcv with z | z
          · obtain ⟨c0, a1, a2⟩ := amg p' cv' z
            exact ⟨c0, a1, stays _ _ a2 codeO_ne⟩
          · exact ⟨c2, z, upd_same⟩
      · obtain ⟨qs, a1, a2, a3⟩ := hT p hp
        refine ⟨qs, ?_, a2, ?_⟩
        · rw [upd_ne (ne_of_none a1 nC), upd_ne hb]; exact a1
        · intro p' cv' hcv
          obtain ⟨c0, b1, b2⟩ := a3 p' cv' hcv
          exact ⟨c0, b1, stays _ _ b2 codeO_ne⟩
    · have n1 : h'.objs.size ≠ c2 := Nat.ne_of_gt hlt
      have n2 : h'.objs.size ≠ B := Nat.ne_of_gt (Nat.lt_of_lt_of_le (Heap.lt_size hat) (Nat.le_trans hge (Nat.le_of_lt hlt)))
      rw [upd_ne n1, upd_ne n2]
      exact I.hok.fresh (Nat.le_trans hge (Nat.le_of_lt hlt))
  · obtain ⟨c2, e, hco⟩ := amg pos cv hc
    subst e
    refine PySem.W.kla_makeFunctionHit (mg := X.mg) (c := c) (P := B) (ps := ps) (closure_ok hfree) I.ok.glob glb hcode hdc hat trip hc blt ?_
    intro ctv h' tk hx hsz
    have I0 : Inv X pins σ H { s with heap := h', toks := tk } := I.kept hx
    exact h h'.objs.size H _ (lay_fn (t' := tk) I0 rfl rfl) (ExtN.refl H) hT (I.hok.fresh hsz)
end
def tLamV (T : List (Addr × Str)) : TE := fun _ H Q => Tabs T H ∧ ∀ (f : Addr) (H1 : Hp), ExtN H H1 → Tabs T H1 → H1 f = none → Q (.ref f) (upd H1 f (FnO f))
section
variable {X : Cx}
theorem pe_lamV {T : List (Addr × Str)} {c B : Addr} {params : Arguments} {body : Expr} {scope : Scope} {pos : Pos} (TB : TabB X.base X.mg c B) (hcode : X.env.code = .ref c)
    (hm : (B, X.env.qual ++ "<lambda>") ∈ T) (hu : ∀ p ∈ T, p.1 = B → p.2 = X.env.qual ++ "<lambda>") (hdef : defaultsOf params X.env = ([], [])) (L : ∀ y ∈ scope.names, y.2 ≠ .free) :
    PE X (.Lambda params body scope pos) (tLamV T) := by
  refine ⟨fun pins s σ H Q I h => ?_⟩
  refine lam_val I TB hcode hm hu h.1 hdef (fun y hy e => absurd e (L y hy)) fun f H1 s' I1 eN T1 nf => ?_
  exact ⟨.ref f, _, I1, rfl, h.2 f H1 eN T1 nf⟩
end
end Lw
namespace Lf
open PySem
open Sem (wp)

theorem ga : Slot "function" "__getattribute__" "object.__getattribute__" := by
  refine .of (owner := "object") (n := "__getattribute__") ?_ (by decide +kernel) (by decide +kernel) (by decide +kernel) ?_ ?_
  · rw [typeLookup_type, builtinLookup_eq_fast]
    kernel_rfl
  · first
      | exact .inl (by decide +kernel)
      | exact .inr (by decide +kernel)
  · rw [isSubtype_type]
    kernel_rfl
theorem lkc : typeLookup (.type "function") "__class__" = pure (some (.builtin "object.__class__")) := by
  rw [typeLookup_type, builtinLookup_eq_fast]
  kernel_rfl
theorem sub_own : isSubtype (.type "function") (.type (".".intercalate ("object.__class__".cutAt '.').dropLast)) = pure true := by
  rw [F.owner_object_class]
  rw [isSubtype_type]
  kernel_rfl
section
variable {prog : Program} {w : World} {A : Around} {E : Value → Shared → Prop} {h : Heap} {g : Array GenState} {d : Drawn} {t : Nat} {os : OsState} {a : Addr} {o : Obj}
theorem fn_get {R : Result → Shared → Prop} (hx : h.get? a = some o) (hc : o.cls = .type "function")
    (hq : R (.ok (.ret (.type "function"))) ⟨h, g, d, t, os⟩) :
    codeAny (model prog w) A (.call (.builtin "getset_descriptor.__get__") ⟨[.builtin "object.__class__", .ref a, .type "function"], []⟩) R ⟨h, g, d, t, os⟩ := by
  have i1 : (⟨h, g, d, t, os⟩ : Shared).TypeIs (.ref a) "function" := ⟨o, hx, hc⟩
  have i2 : (⟨h, g, d, t, os⟩ : Shared).TypeIs (.builtin "object.__class__") "getset_descriptor" := F.typeOf_object_class
  have i3 := sub_own
  refine codeAny_call_builtin F.slot_gs_get.plain F.entry_gs_get ?_
  refine F.slot_gs_get.check _ _ _ _ _ _ _ _ i2 (F.args_gs_get _ _ _) ?_
  repeat (any_goals (first | assumption | wp_step))
  refine ⟨Code.quiet_builtin _ (by decide +kernel), ?_⟩
  refine codeAny_builtin F.entry_object_class ?_
  repeat (any_goals (first | assumption | wp_step))
theorem fn_ga {tk : Tok} {Q : Fin → Shared → Prop} (hx : h.get? a = some o) (hc : o.cls = .type "function")
    (hq : Q (.done (.ret (.type "function"))) ⟨h, g, d, t, os⟩) :
    wpAny (model prog w) A (Builtin.«object.__getattribute__» ⟨[.ref a, .str "__class__" tk], []⟩) Q E ⟨h, g, d, t, os⟩ := by
  have i1 : (⟨h, g, d, t, os⟩ : Shared).TypeIs (.ref a) "function" := ⟨o, hx, hc⟩
  have i2 : (⟨h, g, d, t, os⟩ : Shared).TypeIs (.builtin "object.__class__") "getset_descriptor" := F.typeOf_object_class
  have i3 := lkc
  have i4 := F.typeOf_object_class
  have i5 := F.slot_gs_get.lookup
  have i6 := F.slot_gs_set.lookup
  repeat (any_goals (first | assumption | wp_step))
  refine fn_get hx hc ?_
  repeat (any_goals (first | assumption | wp_step))
theorem fn_call {tk : Tok} {R : Result → Shared → Prop} (hx : h.get? a = some o) (hc : o.cls = .type "function")
    (hq : R (.ok (.ret (.type "function"))) ⟨h, g, d, t, os⟩) :
    codeAny (model prog w) A (.call (.builtin "object.__getattribute__") ⟨[.ref a, .str "__class__" tk], []⟩) R ⟨h, g, d, t, os⟩ := by
  refine codeAny_call_builtin ga.plain F.entry_object_getattribute ?_
  exact ga.check _ _ _ _ _ _ _ _ (show (⟨h, g, d, t, os⟩ : Shared).TypeIs (.ref a) "function" from ⟨o, hx, hc⟩) (F.args_object_getattribute_2 _ _) (fn_ga hx hc hq)
theorem fn_by {tk : Tok} {Q : Value → Shared → Prop} (hx : h.get? a = some o) (hc : o.cls = .type "function") (hq : Q (.type "function") ⟨h, g, d, t, os⟩) :
    wpAny (model prog w) A (getAttrBy (.ref a) (.str "__class__" tk) false) Q E ⟨h, g, d, t, os⟩ := by
  have i1 : (⟨h, g, d, t, os⟩ : Shared).TypeIs (.ref a) "function" := ⟨o, hx, hc⟩
  have i2 := ga.lookup
  have i3 := ga.bind (.ref a)
  repeat (any_goals (first | assumption | wp_step))
  refine fn_call hx hc ?_
  repeat (any_goals (first | assumption | wp_step))
theorem fn_attr {Q : Option Value → Shared → Prop} (hx : h.get? a = some o) (hc : o.cls = .type "function") (hq : Q (some (.type "function")) ⟨h, g, d, t + 1, os⟩) :
    wpAny (model prog w) A (getAttr? (.ref a) "__class__") Q E ⟨h, g, d, t, os⟩ := by
  unfold getAttr? getAttrBy?
  repeat (any_goals (first | assumption | with_reducible apply fn_by hx hc | wp_step))
end
end Lf
namespace Lw
open PySem PySem.Spec PyProof.Rows L2

open LamX
theorem kitx_fn {K : PySem.W.Frag} {a : Addr} : PySem.W.KitX K (.ref a) (.type "function") (PySem.W.KitAt a "function") := PySem.W.kitx_of PySem.W.kitAt_ty (fun {_ _ _ _ _ s} p k => by
  obtain ⟨h, g, d, t, os⟩ := s
  obtain ⟨o, h1, h2⟩ := p
  exact Lf.fn_attr h1 h2 k)
/-- a value's type: a def's, too -/
inductive TyZ (K : PySem.W.Frag) (H : Hp) : V → Value → Prop where
  | x {v : V} {t : Value} (h : TyX K H v t) : TyZ K H v t
  | fn {a : Addr} (e : H a = some (FnO a)) : TyZ K H (.ref a) (.type "function")
def rIsz (K : PySem.W.Frag) : List V → Hp → VK → Prop := fun xs H Q => ∃ (x c : V) (t u : Value) (b : Bool), xs = [x, c] ∧ ClsV c u ∧ TyZ K H x t ∧ PySem.W.kitOne K t u = some b ∧ Q (.bl b) H
theorem call_isz {X : Cx} : CallR X (.builtin "isinstance") (rIsz X.K) := by
  intro pins s σ H xs us Q I r h
  obtain ⟨x, c, t, u, b, rfl, k, ty, e, q⟩ := h
  obtain ⟨u1, u2, rfl, r1, r2⟩ := vals2 r
  have e2 := k.eq r2
  subst e2
  cases ty with
  | x ty =>
    obtain ⟨W, Z, p, hx⟩ := kit_of I r1 ty
    exact PySem.W.kia_one Z I.kIn p e hx fun tk => ⟨.bl b, H, I.tok tk, rfl, q⟩
  | @fn a ea =>
    have e3 : u1 = Value.ref a := r1
    subst e3
    obtain ⟨⟨o, h1, h2⟩, _⟩ := I.hok a _ ea
    exact PySem.W.kia_one kitx_fn I.kIn ⟨o, h1, h2⟩ e (fun z => by cases z) fun tk => ⟨.bl b, H, I.tok tk, rfl, q⟩
end Lw
namespace Lw
open PySem PySem.Spec PyProof.Rows L2

/-! ### try: body / except X as n: suite, the caught exception held behind the suite -/
/-- an exception's object: its class, its dict -/
def ExO (a : Addr) (cls : Value) (d : Option Addr) : HO := .ext fun h => ∃ o, h.get? a = some o ∧ Zc cls d o ∧ ∃ vs, o.data = .fields vs
section
variable {X : Cx} {pins : List (Addr × Obj)} {σ : L2.St} {H : Hp} {s : Shared}
/-- a pinned object is tracked from now on -/
theorem promote {a : Addr} {o : Obj} {cls : Value} {d : Option Addr} (I : Inv X ((a, o) :: pins) σ H s) (hz : Zc cls d o) (hf : ∃ vs, o.data = .fields vs) (new : X.s_0.heap.get? a = none) (apart : ∀ p ∈ X.pn ++ pins, p.1 ≠ a) : Inv X pins σ (upd H a (ExO a cls d)) s := by
  obtain ⟨ha, na, nL, nF, nC⟩ := I.pin (a, o) (List.mem_append_right _ List.mem_cons_self)
  have here : ∀ b, b ≠ a → upd H a (ExO a cls d) b = H b := fun b n => upd_ne n
  have known : ∀ b u, H b = some u → b ≠ a := fun b u e z => by rw [z, na] at e; cases e
  have old : ∀ b u, X.s_0.heap.get? b = some u → b ≠ a := fun b u e z => by rw [z, new] at e; cases e
  refine ⟨I.ok, I.os, I.bare, ⟨I.base.keep, I.base.slot, fun b u e n hx => ?_, I.base.there, fun b xs e => ?_, fun b u v e => ?_, fun b ps e => ?_⟩, I.loc, I.cell, ?_, fun y c e => ?_, fun p hp => ?_, fun b u e => ?_, I.len⟩
  · rw [here b (old b u e)]
    exact I.base.free b u e n hx
  · have z := I.base.tups b xs e
    rw [here b (known b _ z)]
    exact z
  · have z := I.base.frzs b u v e
    rw [here b (known b _ z)]
    exact z
  · obtain ⟨more, z⟩ := I.base.tbls b ps e
    exact ⟨more, by rw [here b (known b _ z)]; exact z⟩
  · rw [here _ nL.symm]
    exact I.free
  · have ne : c ≠ a := fun z => by
      obtain ⟨v, oc, hoc, hdc⟩ := I.cell y c e
      rw [z, ha] at hoc
      cases hoc
      exact nC v hdc
    rw [here c ne]
    exact I.freeC y c e
  · have hp2 : p ∈ X.pn ++ ((a, o) :: pins) := by
      rcases List.mem_append.mp hp with h | h
      · exact List.mem_append_left _ h
      · exact List.mem_append_right _ (List.mem_cons_of_mem _ h)
    obtain ⟨e1, e2, e3⟩ := I.pin p hp2
    exact ⟨e1, by rw [here _ (apart p hp)]; exact e2, e3⟩
  · by_cases q : b = a
    · subst q
      rw [upd_same] at e
      cases e
      refine ⟨⟨o, ha, hz, hf⟩, ⟨o, ha⟩, ?_⟩
      rintro h1 h2 ⟨u, e1, e2⟩ st
      exact ⟨u, st u e1, e2⟩
    · rw [here b q] at e
      exact (I.hok b u e).stay (fun _ _ _ z => z) (fun c z => by rw [here c (known c _ z)]; exact z) fun c xs z => by rw [here c (known c _ z)]; exact z
end
end Lw
namespace Lw
open PySem PySem.Spec PyProof.Rows L2

/-- what the body's exceptions must be: of the class that is named; the suite ends plainly, and the exception stays known behind it -/
def wHeld (K : PySem.W.Frag) (c : Value) (i n : Nat) (ts : Addr → Value → Option Addr → TS) (D : Ends) : WX := fun cls d σ H => σ.length = n →
  PySem.W.exmOne K cls c = some true ∧ ∀ a, H a = none → ts a cls d { nx := fun σ' H' => H' a = none → D.nx (σ'.set i none) (upd H' a (ExO a cls d)), rt := fun _ _ => False, bk := fun _ _ => False, ct := fun _ _ => False } (σ.set i (some (.ref a))) H
section
variable {X : Cx} {x n : Str} {c : Value} {i : Nat} {body suite : List Stmt} {b₀ : Stmt} {np pos pos' : Pos} {tb : WX → TS} {ts : Addr → Value → Option Addr → TS}
theorem ps_try_held (stk : X.stack = X.env :: X.outer) (frm : X.env.frame = some X.env.locals) (hN : X.N.Nodup) (hi : X.N[i]? = some n) (loc : X.env.kindOf n = some .local) (nm : Names X x c) (noex : X.ex = [])
    (hb : ∀ (W : WX) (pn : List (Addr × Obj)) (xe : Value → Shared → Prop), Takes (X.tr pn xe) W → PassesOwn (model X.prog X.w) X.A X.env xe → PSs (X.tr pn xe) body (tb W))
    (hsu : ∀ (a : Addr) (oe : Obj) (cls : Value) (d : Option Addr) (pn : List (Addr × Obj)), Zc cls d oe → (∃ vs, oe.data = .fields vs) → PSs (X.suite a ((a, oe) :: pn)) (b₀ :: suite) (ts a cls d)) :
    PS X (.Try body [.ExceptHandler (some (.Name x np)) (some n) (b₀ :: suite) pos'] [] [] pos) (fun D σ H => tb (wHeld X.K c i X.N.length ts D) D σ H) := by
  refine ⟨fun pins s σ H D I h => ?_⟩
  have ok := I.ok
  have frames : X.A.frames = some (X.env :: X.outer) := by rw [ok.frames, stk]
  refine wpAny_Try_except ?_
  refine wpAny_mono ((hb (wHeld X.K c i X.N.length ts D) (X.pn ++ pins) (fun e s₁ => wpAny (model X.prog X.w) X.A (noteFrame e X.env) (fun _ s₂ => wpAny (model X.prog X.w) X.A (setFlight e none) (fun _ s₃ =>
    wpAny (model X.prog X.w) X.A (handleBy e X.env [.ExceptHandler (some (.Name x np)) (some n) (b₀ :: suite) pos']) (SP X pins D) X.xe s₃) X.xe s₂) X.xe s₁) (fun u s' air => ?_) PassesOwn.looking).run [] s σ H D (I.toTry _) h) (fun f s1 q => ?_) (fun e s1 q => q)
  · obtain ⟨a, B, sI, pins', σ', H', cls, d, rfl, JT, nb, up, sky, na, os, ag, hw⟩ := air
    have J : Inv X pins σ' H' sI := JT.ofTry ok
    obtain ⟨ours, go⟩ := hw J.len
    rw [stk] at sky
    show wpAny (model X.prog X.w) X.A (noteFrame (.ref a) X.env) _ _ _
    refine Sky.land Zc.steady frames frm sky fun hA flA upA => ?_
    have JA : Inv X pins σ' H' { s' with heap := hA } := J.landed nb flA.1 (up.trans upA) os ag
    obtain ⟨oA, vsA, eA, zA, dA⟩ := flA.there
    -- the exception's object is no frame, and it is new
    have noFrame : a ∉ frs (X.env :: X.outer) := fun hm => by
      obtain ⟨_, o', e', hnf⟩ := flA.2.2.1.mem hm
      rw [eA] at e'
      cases e'
      exact hnf _ dA
    have nL : a ≠ X.env.locals := fun z => noFrame (List.mem_filterMap.mpr ⟨X.env, List.mem_cons_self, by rw [frm, z]⟩)
    have nF : a ∉ X.fs := fun hm => by
      obtain ⟨e, he, q⟩ := List.mem_filterMap.mp hm
      exact noFrame (List.mem_filterMap.mpr ⟨e, List.mem_cons_of_mem _ he, q⟩)
    have nB : B.get? a = none := flA.2.1
    have ground : ∀ b o, sI.heap.get? b = some o → b ≠ a := fun b o e z => by
      rw [z] at e
      have k := nb a o e (by rw [stk]; exact noFrame)
      rw [nB] at k
      cases k
    have fresh : X.s_0.heap.get? a = none := by
      cases e : X.s_0.heap.get? a with
      | none => rfl
      | some o =>
        obtain ⟨o', e'⟩ := J.base.there a o e (by rw [noex]; simp)
        exact absurd rfl (ground a o' e')
    have apart : ∀ p ∈ X.pn ++ pins, p.1 ≠ a := fun p hp => ground p.1 p.2 (J.pin p hp).1
    refine wpAny_handleBy_cons (codeAny_handlers_test ?_) (by intro q; cases q)
    have LT : PySem.W.Looks (model X.prog X.w) hA (typeOf (.ref a)) cls := fun A Q E s k q => wpAny_typeOf_ref (k _ _ eA) (by rw [zA.1]; exact q)
    have LM := PySem.W.exm_one (M := model X.prog X.w) JA.kIn LT ours
    have SA := JA.suite eA dA na nL nF
    have look : ∀ {Q : Value → Shared → Prop} {E : Value → Shared → Prop}, Q c { s' with heap := hA } → wpAny (model X.prog X.w) (X.A.mark (some (.ref a))) (eval (.Name x np) X.env) Q E { s' with heap := hA } := fun {Q E} q => by
      rcases nm with ⟨g1, g2, g3 | ⟨g3, g4, g5⟩⟩
      · exact ld_glob (X := X.suite a ((a, oA) :: (X.pn ++ pins))) SA g1 g3 q g2
      · exact ld_blt (X := X.suite a ((a, oA) :: (X.pn ++ pins))) SA g1 g3 g4 q g5 g2
    refine look (LM.here ?_)
    refine codeAny_handlers_suite_as ?_
    refine HandSPX.lands_againZ flA fun hB flB upB => ?_
    have JB : Inv X pins σ' H' { s' with heap := hB } := J.landed nb flB.1 ((up.trans upA).trans upB) os ag
    obtain ⟨oB, vsB, eB, zB, dB⟩ := flB.there
    refine store_ok (X := X.suite a ((a, oB) :: (X.pn ++ pins))) (v := .ref a) (JB.suite eB dB na nL nF) hN hi (.inl loc) rfl (fun s5 S5 => ?_) (.inr loc)
    refine wpAny_mono ((hsu a oB cls d (X.pn ++ pins) zB ⟨_, dB⟩).run [] s5 _ H' _ S5 (go a na)) (fun f s6 q => ?_) (fun _ _ z => False.elim z)
    cases f with
    | next =>
      obtain ⟨σ6, H6, S6, q6⟩ := q
      have held : Inv X ((a, oB) :: pins) σ6 H6 s6 := ⟨ok, S6.os, S6.bare, S6.base, S6.loc, S6.cell, S6.free, S6.freeC, fun p hp => by
        refine S6.pin p (List.mem_append_left _ ?_)
        show p ∈ (a, oB) :: (X.pn ++ pins)
        rcases List.mem_append.mp hp with h | h
        · exact List.mem_cons_of_mem _ (List.mem_append_left _ h)
        · rcases List.mem_cons.mp h with h | h
          · rw [h]; exact List.mem_cons_self
          · exact List.mem_cons_of_mem _ (List.mem_append_right _ h), S6.hok, S6.len⟩
      refine gone_ok held hN hi loc fun s7 I7 => ?_
      exact ⟨_, _, promote I7 zB ⟨_, dB⟩ fresh apart, q6 (I7.pin (a, oB) (List.mem_append_right _ List.mem_cons_self)).2.1⟩
    | brk =>
      obtain ⟨_, _, _, z⟩ := q
      exact z.elim
    | cont =>
      obtain ⟨_, _, _, z⟩ := q
      exact z.elim
    | ret u =>
      obtain ⟨_, _, _, _, _, z⟩ := q
      exact z.elim
  · cases f with
    | next =>
      obtain ⟨σ1, H1, I1, q1⟩ := q
      exact wpAny_execs_nil ⟨σ1, H1, I1.ofTry ok, q1⟩
    | brk =>
      obtain ⟨σ1, H1, I1, q1⟩ := q
      exact ⟨σ1, H1, I1.ofTry ok, q1⟩
    | cont =>
      obtain ⟨σ1, H1, I1, q1⟩ := q
      exact ⟨σ1, H1, I1.ofTry ok, q1⟩
    | ret u =>
      obtain ⟨v1, σ1, H1, I1, r1, q1⟩ := q
      exact ⟨v1, σ1, H1, I1.ofTry ok, r1, q1⟩
end
end Lw
namespace Lw
open PySem PySem.Spec PyProof.Rows L2

section
variable {X : Cx} {pins : List (Addr × Obj)} {σ : L2.St} {H : Hp} {s : Shared}
theorem held_at {a : Addr} {cls : Value} {d : Option Addr} (I : Inv X pins σ H s) (h : H a = some (ExO a cls d)) : ∃ o vs, s.heap.get? a = some o ∧ o.cls = cls ∧ o.dict = d ∧ o.data = .fields vs := by
  obtain ⟨⟨o, h1, h2, vs, h3⟩, _⟩ := (show ObjOk X.prog X.w H s.heap a (ExO a cls d) from I.hok a _ h)
  exact ⟨o, vs, h1, h2.1, h2.2, h3⟩
/-- the exception as an instance, its attributes known -/
theorem held_inst {a C dd : Addr} {fs : List (Str × V)} (I : Inv X pins σ H s) (h : H a = some (ExO a (.ref C) (some dd))) (hd : H dd = some (.xd fs)) : ∃ o od, PySem.W.InstAt s.heap a o C (some od) ∧ ∀ f v, fs.lookup f = some v → ∃ u, PySem.W.lookIn f od = some (some u) ∧ RelV v u := by
  obtain ⟨o, vs, h1, h2, h3, h4⟩ := held_at I h
  obtain ⟨mA, hns, hr⟩ := (show ObjOk X.prog X.w H s.heap dd (.xd fs) from I.hok dd _ hd)
  obtain ⟨od, ho, hl⟩ := lookIn_ns hns
  refine ⟨o, od, ⟨h1, h2, by unfold PySem.W.notCls; rw [h4] <;> rfl, by rw [h3]; exact ho⟩, fun f v e => ?_⟩
  obtain ⟨u, hu, ru⟩ := RelO.some_of (v := v) (o := mA f) (by rw [← e]; exact hr f)
  exact ⟨u, by rw [hl, hu], ru⟩
/-- e.f of an exception that is held -/
def tHeld (C : Addr) (f : Str) (te : TE) : TE := fun σ H Q => te σ H fun x H1 => ∃ (a dd : Addr) (fs : List (Str × V)) (v : V), x = .ref a ∧ H1 a = some (ExO a (.ref C) (some dd)) ∧ H1 dd = some (.xd fs) ∧ fs.lookup f = some v ∧ Q v H1
theorem pe_held {C : Addr} {e : Expr} {te : TE} {pos : Pos} {f : Str} (T : XfC X.K C) (hno : PySem.W.findIn X.K (.ref C) f = some none) (he : PE X e te) (hb : attributeBase e f X.env (eval e X.env) = eval e X.env := by rfl) : PE X (.Attribute e f pos) (tHeld C f te) := by
  refine ⟨fun pins s σ H Q I q => attr_of hb (thn (he.run pins s σ H _ I q) fun u s1 got => ?_)⟩
  obtain ⟨x, H1, I1, rx, a, dd, fs, v, rfl, ha, hd, hl, q⟩ := got
  obtain rfl : u = Value.ref a := rx
  obtain ⟨o, od, J, fld⟩ := held_inst I1 ha hd
  obtain ⟨u, hu, ru⟩ := fld f v hl
  exact HandSPX.exc_get I1.kIn J T.ga T.gg T.exC (PySem.W.findObj_own T.hdC hno rfl hu) (handed_of ru) ⟨v, H1, I1.tok _, ru, q⟩
end
end Lw
namespace Lw.Hx
open PySem PySem.Spec PySem.Calls PyProof.Rows PySem.W

/-! ### isinstance of an exception that has attributes -/
/-- what isinstance asks of the exception's class -/
structure XCls (K : Frag) (D : Addr) : Prop where
  ga : findIn K (.ref D) "__getattribute__" = some (some (.builtin "BaseException.__getattribute__"))
  gt : findIn K (.ref D) "__getattr__" = some none
  sub : subIn K (.ref D) (.type "BaseException") = some true
  dct : hasDictIn K D = true
  ca : findIn K (.ref D) "__class__" = some (some (.builtin "object.__class__"))
  cn : specialIn K (.builtin "object.__class__") "__get__" = some (some (.builtin "getset_descriptor.__get__"))
  ct : takesIn K (.builtin "object.__class__") = some true
  cm : mroIn K D (.type "object") = some true
section
variable {prog : Program} {w : World} {A : Around} {E : Value → Shared → Prop} {s : Shared} {K : Frag} {x D : Addr} {ox : Obj} {od : Option Obj}
theorem finds (c : XCls K D) : findObj K D od "__class__" = some (.bind (.builtin "getset_descriptor.__get__") (.builtin "object.__class__")) := by
  obtain ⟨cd, hc, _⟩ := any_some c.dct
  unfold findObj
  rw [hc, Option.bind_some, c.ca, Option.bind_some]
  simp only [c.cn, c.ct, Option.bind_some]
theorem class_of (c : XCls K D) {Q : Option Value → Shared → Prop} (X : K.In s.heap) (I : InstAt s.heap x ox D od) (h : Q (some (.ref D)) { s with toks := s.toks + 1 }) : wpAny (model prog w) A (getAttr? (.ref x) "__class__") Q E s := by
  have found := finds (od := od) c
  obtain ⟨hp, gs, dr, tk, os⟩ := s
  have kind := I.type (M := model prog w)
  have asks := looks_findIn (M := model prog w) X c.ga
  have more := looks_findIn (M := model prog w) X c.gt
  have seen := looks_find (M := model prog w) X I found
  have under : Looks (model prog w) hp (isInstance (.ref x) (.type "BaseException")) true := kind.andThen (looks_subIn X c.sub)
  have n2 : (Value.builtin "BaseException.__getattribute__" == Value.builtin "object.__getattribute__") = false := by decide +kernel
  have n1 : (onTheHeap (Value.ref D) && Value.builtin "BaseException.__getattribute__" == Value.builtin "object.__getattribute__") = false := by rw [n2]; rfl
  unfold getAttr? getAttrBy? getAttrBy
  refine wpAny_bind (wpAny_mkText (wpAny_bind (wpAny_attempt (wpAny_holding (wpAny_bind (kind.at (wpAny_bind (asks.at ?_))))))))
  show wpAny _ _ (ite ((onTheHeap (Value.ref D) && Value.builtin "BaseException.__getattribute__" == Value.builtin "object.__getattribute__") = true) _ _) _ _ _
  rw [n1, if_neg (by decide)]
  unfold getAttrByItsOwn hookBefore
  refine wpAny_bind ?_
  rw [if_pos (show onTheHeap (.ref D) = true from rfl)]
  refine more.at (wpAny_bind (wpAny_attempt (wpAny_holding ?_)))
  unfold callGetattribute
  rw [if_neg (show ¬ (false && onTheHeap (Value.builtin "BaseException.__getattribute__")) = true from by decide)]
  unfold boundAndCalled
  rw [PySem.F.excAttr_ValueError.ga.bind (.ref x)]
  refine wpAny_bind (wpAny_pure ?_)
  show wpAny _ _ (call (.builtin "BaseException.__getattribute__") [.ref x, .str "__class__" tk]) _ _ _
  refine wpAny_call (codeAny_call_builtin PySem.F.excAttr_ValueError.ga.plain PySem.F.entry_bexc_ga ?_)
  refine @check_slot (model prog w) _ _ ⟨hp, gs, dr, tk + 1, os⟩ "BaseException.__getattribute__" "BaseException" "__getattribute__" (.ref x) [.str "__class__" tk] [] _ (by decide +kernel) (by decide +kernel) under (PySem.F.args_bexc_ga (.ref x) (.str "__class__" tk)) ?_
  unfold Builtin.«object.__getattribute__»
  refine wpAny_bind (wpAny_of_eq (a := ((Value.ref x : Value), [Value.str "__class__" tk])) (by first | rfl | (simp only [slotArgs] <;> rfl)) ?_)
  refine wpAny_bind (wpAny_pure (wpAny_bind (kind.at (wpAny_bind (seen.at ?_)))))
  show wpAny _ _ (holding [Value.builtin "object.__class__"] (call (.builtin "getset_descriptor.__get__") [.builtin "object.__class__", .ref x, .ref D]) >>= ret) _ _ _
  refine wpAny_bind (wpAny_holding (wpAny_call (class_get (s := ⟨hp, gs, dr, tk + 1, os⟩) X I c.cm ?_)))
  refine wpAny_pure ?_
  show wpAny _ _ (handedOut (.ref D)) _ _ _
  rw [handedOut_of (v := .ref D) rfl]
  first
    | exact wpAny_pure (wpAny_pure h)
    | exact wpAny_pure h
    | exact wpAny_pure (wpAny_bind (wpAny_pure (wpAny_pure h)))
theorem no_list (c : XCls K D) : ∃ o cd, K.lookup D = some o ∧ o.data = .cls cd := by
  obtain ⟨cd, hc, _⟩ := any_some c.dct
  unfold clsIn at hc
  split at hc
  · rename_i c' d' cd' sl' ho
    exact ⟨_, _, ho, rfl⟩
  · cases hc
theorem kitx_held (c : XCls K D) : KitX K (.ref x) (.ref D) (fun h => InstAt h x ox D od) where
  ty := fun _ _ _ I => I.type
  it := fun _ _ X _ => by
    obtain ⟨o, cd, ho, hd⟩ := no_list c
    intro A' Q' E' s' k q
    unfold isType loadHead
    refine wpAny_bind (wpAny_loadPart (k _ _ (X _ _ ho)) ?_)
    rw [hd]
    exact wpAny_pure q
  ne := fun h tp dd its n sl X htp => by
    refine Bool.eq_false_iff.mpr fun q => ?_
    have e : D = tp := Value.ref.inj (beq_iff_eq.mp q)
    obtain ⟨o, cd, ho, hd⟩ := no_list c
    have z := X _ _ ho
    rw [e, htp] at z
    cases z
    cases hd
  ca := fun X I k => class_of c X I k
end
end Lw.Hx
namespace Lw
open PySem PySem.Spec PyProof.Rows L2

/-- a value's kind: an exception's that is held, too -/
inductive TyW (K : PySem.W.Frag) (H : Hp) : V → Value → Prop where
  | z {v : V} {t : Value} (h : TyZ K H v t) : TyW K H v t
  | held {a D dd : Addr} {fs : List (Str × V)} (e : H a = some (ExO a (.ref D) (some dd))) (hd : H dd = some (.xd fs)) (c : Hx.XCls K D) : TyW K H (.ref a) (.ref D)
def rIsw (K : PySem.W.Frag) : List V → Hp → VK → Prop := fun xs H Q => ∃ (x c : V) (t u : Value) (b : Bool), xs = [x, c] ∧ ClsV c u ∧ TyW K H x t ∧ PySem.W.kitOne K t u = some b ∧ Q (.bl b) H
theorem call_isw {X : Cx} : CallR X (.builtin "isinstance") (rIsw X.K) := by
  intro pins s σ H xs us Q I r h
  obtain ⟨x, c, t, u, b, rfl, k, ty, e, q⟩ := h
  cases ty with
  | z ty => exact call_isz pins s σ H _ us Q I r ⟨x, c, t, u, b, rfl, k, ty, e, q⟩
  | @held a D dd fs ea hd cl =>
    obtain ⟨w1, w2, rfl, r1, r2⟩ := vals2 r
    obtain rfl := k.eq r2
    obtain rfl : w1 = Value.ref a := r1
    obtain ⟨o, od, J, _⟩ := held_inst I ea hd
    exact PySem.W.kia_one (Hx.kitx_held cl) I.kIn J e (fun z => by cases z) fun tk => ⟨.bl b, H, I.tok tk, rfl, q⟩
end Lw
namespace Lw
open PySem PySem.Spec PyProof.Rows L2
end Lw
namespace Lw.Xk
open PySem PySem.HandSPX PySem.Builtin
/-! ### own exceptions made by keywords -/
section
variable {prog : Program} {w : World} {A : Around} {E : Value → Shared → Prop} {R : Result → Shared → Prop} {h : Heap} {g : Array GenState} {d : Drawn} {t : Nat} {os : OsState}
variable {nm q : Str} {C N : Addr} {bs bm bmB : List Value} {hdct : Bool} {sn : List Str} {sub : List Value} {ab : Bool} {col : Option Bool} {dd : Option Addr} {k0 k1 k2 k3 k5 : Option Value} {B newId initId : String}
theorem check_new_kw (F : ExcBaseFacts B newId initId bmB) (hT : ∀ X : String, bm.contains (.type X) = bmB.contains (.type X)) {kw : List (Str × Value)} {Q : Unit → Shared → Prop}
    (hC : h.get? C = some (excClassObj nm q C N bs bm hdct sn sub ab col dd k0 k1 k2 k3 k5 newId)) (hq : Q () ⟨h, g, d, t, os⟩) : wpAny (model prog w) A (checkBuiltinCall newId ⟨[.ref C], kw⟩) Q E ⟨h, g, d, t, os⟩ := by
  have has : (Value.ref C :: bm).contains (.type B) = true := by rw [List.contains_cons, hT, F.hasB, Bool.or_true]
  have star := F.noStar
  simp only [checkBuiltinCall, F.newKind, F.newSplit, F.newRow]
  repeat (first | refine wpAny_loadPart_at hC ?_ | (refine wpAny_isSubtype_exc hC ?_; rw [has]) | refine wpAny_staticBase_exc hC ?_ | refine wpAny_madeBy_exc hC ?_ | simp only [bne_self_eq_false, Bool.false_eq_true, if_false] | wp_step)
  exact hq
theorem new_kw (F : ExcBaseFacts B newId initId bmB) (hT : ∀ X : String, bm.contains (.type X) = bmB.contains (.type X)) {kw : List (Str × Value)}
    (hC : h.get? C = some (excClassObj nm q C N bs bm hdct sn sub ab col dd k0 k1 k2 k3 k5 newId))
    (hq : R (.ok (.ret (.ref (h.objs.size + 1)))) ⟨(h.push (W.kdv_tup [])).push (HandSPX.excO C h.objs.size), g, d, t, os⟩) :
    codeAny (model prog w) A (.builtin newId ⟨[.ref C], kw⟩) R ⟨h, g, d, t, os⟩ := by
  have ends := F.ends
  have c1 : (Value.ref C :: bm).contains (.type B) = true := by rw [List.contains_cons, hT, F.hasB, Bool.or_true]
  have c2 : (Value.ref C :: bm).contains (.type "AttributeError") = false := by rw [List.contains_cons, hT, F.noAttr]; rfl
  have c3 : (Value.ref C :: bm).contains (.type "NameError") = false := by rw [List.contains_cons, hT, F.noName]; rfl
  refine codeAny_builtinAt F.entry ?_
  unfold Builtin.«BaseException.__new__»
  refine wpAt_bind ?_
  show wpAt _ _ _ (stack >>= _) _ _ _
  refine wpAt_bind (wpAt_stack fun p below => wpAt_of_wpAny ?_)
  wp_walk
  refine wpAt_of_wpAny ?_
  rw [F.owner]
  repeat (first | with_reducible refine wpAny_madeHere_exc F.canon hC ?_ | with_reducible refine wpAny_loadPart_at hC ?_ | (with_reducible refine wpAny_isSubtype_exc hC ?_; first | rw [c1] | rw [c2] | rw [c3]) | wp_step)
  show R _ _
  rw [Heap.size_push]
  exact hq
theorem type_call_kw (F : ExcBaseFacts B newId initId bmB) (hT : ∀ X : String, bm.contains (.type X) = bmB.contains (.type X)) {kw : List (Str × Value)} {fI : Addr} {Q : Fin → Shared → Prop}
    (hC : h.get? C = some (excClassObj nm q C N bs bm hdct sn sub ab col dd k0 k1 k2 k3 k5 newId))
    (hi : W.Looks (model prog w) h (typeLookup (.ref C) "__init__") (some (.ref fI))) (hb : ∀ self, W.Looks (model prog w) h (bindSpecial (.ref fI) self) (.ref fI, [self]))
    (hq : codeAny (model prog w) A (.call (.ref fI) ⟨[.ref (h.objs.size + 1)], kw⟩)
      (fun r s' => match r with | .ok (.ret v) => v = .none ∧ Q (.done (.ret (.ref (h.objs.size + 1)))) s' | .ok _ => False | .error e => E e s')
      ⟨(h.push (W.kdv_tup [])).push (HandSPX.excO C h.objs.size), g, d, t, os⟩) :
    wpAny (model prog w) A (Builtin.«type.__call__» ⟨[.ref C], kw⟩) Q E ⟨h, g, d, t, os⟩ := by
  repeat (first | with_reducible refine wpAny_loadPart_at hC ?_ | with_reducible refine wpAny_madeBy_exc hC ?_ | wp_step)
  refine codeAny_call_builtin_code (Code.quiet_builtin _ F.quiet) (check_new_kw F hT hC ?_)
  refine new_kw F hT hC ?_
  show wpAny _ _ _ _ _ _
  have k : ∀ b o, h.get? b = some o → ((h.push (W.kdv_tup [])).push (HandSPX.excO C h.objs.size)).get? b = some o := fun b o e => Heap.get?_push_of_some _ (Heap.get?_push_of_some _ e)
  have hC2 := k _ _ hC
  have got : ((h.push (W.kdv_tup [])).push (HandSPX.excO C h.objs.size)).get? (h.objs.size + 1) = some (HandSPX.excO C h.objs.size) := by heap_get
  have own : (Value.ref C :: bm).contains (.ref C) = true := by simp
  have i1 := hi.keeps k
  have b1 := (hb (.ref (h.objs.size + 1))).keeps k
  unfold isInstance
  repeat (first | with_reducible refine wpAny_loadPart_at got ?_ | (with_reducible refine wpAny_isSubtype_exc hC2 ?_; rw [own]) | wp_step)
  show wpAny _ _ (typeLookup (.ref C) _) _ _ _
  refine i1.at ?_
  refine wpAny_holding (wpAny_bind (b1.at ?_))
  refine wpAny_bind (wpAny_call (codeAny_mono hq fun r s' z => ?_))
  rcases r with e | (v | _ | _ | _) <;> first | exact z | exact z.elim | skip
  obtain ⟨rfl, z⟩ := z
  first
    | exact wpAny_pure (wpAny_pure z)
    | (wp_walk; exact z)
theorem call_kw (F : ExcBaseFacts B newId initId bmB) (hT : ∀ X : String, bm.contains (.type X) = bmB.contains (.type X)) {kw : List (Str × Value)} {fI : Addr}
    (hC : h.get? C = some (excClassObj nm q C N bs bm hdct sn sub ab col dd k0 k1 k2 k3 k5 newId))
    (hi : W.Looks (model prog w) h (typeLookup (.ref C) "__init__") (some (.ref fI))) (hb : ∀ self, W.Looks (model prog w) h (bindSpecial (.ref fI) self) (.ref fI, [self]))
    (hq : codeAny (model prog w) (A.under (.builtin "type.__call__" ⟨[.ref C], kw⟩)) (.call (.ref fI) ⟨[.ref (h.objs.size + 1)], kw⟩) (W.InitBack (h.objs.size + 1) R)
      ⟨(h.push (W.kdv_tup [])).push (excO C h.objs.size), g, d, t, os⟩) :
    codeAny (model prog w) A (.call (.ref C) ⟨[], kw⟩) R ⟨h, g, d, t, os⟩ := by
  have f1 := tc_lookup
  have f2 := tc_bind (.ref C)
  have ty : (⟨h, g, d, t, os⟩ : Shared).TypeIs (.ref C) "type" := ⟨_, hC, rfl⟩
  refine codeAny_of_tree ?_
  show wpAny _ _ (callAny (.ref C) _) _ _ _
  repeat (any_goals (first | assumption | with_reducible refine wpAny_loadPart_at hC ?_ | wp_step))
  refine ⟨rfl, ?_⟩
  refine codeAny_call_builtin_at (Code.quiet_builtin _ (by decide +kernel)) entry_typeCall (wpAny_check_type_call_sub hC (type_call_kw F hT hC hi hb ?_))
  refine codeAny_mono hq fun r s' z => ?_
  rcases r with e | (v | _ | _ | _) <;> exact z
end
end Lw.Xk
namespace Lw
open PySem PySem.Spec PyProof.Rows L2
open LamX
section
variable {X : Cx} {CX : CXT} {k : Nat} {fI C : Addr} {fd : FuncData} {ps ks : List Str} {sp : Sp} {ds : List Value} {dvs : List V} {x : Str} {p pos : Pos} {e : Expr} {es : List Expr} {kws : List Keyword} {ta tkw : TA} {gU : List Value → List Value → List Value} {gV : List V → List V → List V}
/-- an own exception as a value: what __init__ promises of the new object -/
def tExV (C : Addr) (sp : Sp) (dvs : List V) (ta : TA) : TE := fun σ H Q => ta σ H fun vs H1 => vs.length ≤ 1000 ∧ ∀ a, H1 a = none → sp (.ref a :: (vs ++ dvs)) (upd H1 a (exo a C none)) (fun v H2 => v = .non ∧ Q (.ref a) H2) (fun _ _ _ => False)
theorem pe_oexV (T : OexC X.K C) (iC : PySem.W.findIn X.K (.ref C) "__init__" = some (some (.ref fI))) (tI : PySem.W.typeIn X.K (.ref fI) = some (.type "function"))
    (F1 : FnOk X.prog X.w X.K X.mg X.base CX k fI fd ps sp) (hr : Room (k + 1) X.A) (hb : Binds X.K fd ps ds) (hd : Vals dvs ds) (hx : Passes CX X (fun _ _ _ => False)) (hg : Gl X x) (hm : X.mg x = some (.ref C)) (ha : PA X (e :: es) ta)
    (hdb : (x == ("__debug__" : Str)) = false := by decide) (he : starEach (e :: es) X.env = (false, eval e X.env) :: starEach es X.env := by rfl) (hpl : (backTo pos (starEach es X.env)).any (·.1) = false := by rfl) :
    PE X (.Call (.Name x p) (e :: es) [] pos) (tExV C sp dvs ta) := by
  refine ⟨fun pins s σ H Q I h => ?_⟩
  obtain ⟨nm, q, N, bs, bm, sn, sub, ab, col, dd, k0, k1, k2, k3, k5, hC, hbm⟩ := T.cls
  refine wpAny_Call_Name_kw (ld_glob I hg hm ?_ hdb)
  refine PySem.W.callWith_K (h₀ := X.base) I.ok.mod.kin T.kC (thn (ha.run pos pins s σ H _ I h) fun us s1 ⟨vs, H1, I1, r1, hz, q1⟩ => ⟨I1.kIn, ?_⟩) he hpl
  show wpAny _ _ (call (.ref C) us) _ _ _
  obtain ⟨hp, g, dr, tk, os⟩ := s1
  have lo : hp.objs.size ≤ hp.objs.size + 1 := Nat.le_succ _
  have hq := q1 (hp.objs.size + 1) (I1.hok.fresh lo)
  have kk : ∀ b o, hp.get? b = some o → ((hp.push (PySem.W.kdv_tup us)).push (PySem.HandSPX.excO C hp.objs.size)).get? b = some o := fun b o e => Heap.get?_push_of_some _ (Heap.get?_push_of_some _ e)
  have at_ : ((hp.push (PySem.W.kdv_tup us)).push (PySem.HandSPX.excO C hp.objs.size)).get? (hp.objs.size + 1) = some (PySem.HandSPX.excO C hp.objs.size) := by heap_get
  have I2 := I1.laid (t' := tk) (a := hp.objs.size + 1) (o := exo (hp.objs.size + 1) C none) (h' := (hp.push (PySem.W.kdv_tup us)).push (PySem.HandSPX.excO C hp.objs.size)) kk lo (exo_ok at_)
  have r2 : Vals (V.ref (hp.objs.size + 1) :: (vs ++ dvs)) (Value.ref (hp.objs.size + 1) :: (us ++ ds)) := .cons rfl (r1.append hd)
  have hl : (Value.ref (hp.objs.size + 1) :: us ++ ds).length = ps.length := (r2.length.symm.trans (F1.len _ _ _ _ hq))
  have hus : us.length ≤ sizeLine := by
    rw [← Paired.length r1, sizeLine_eq]
    omega
  refine wpAny_call (PySem.HandSPX.call_own F.excBase_ValueError (fun Y => PySem.HandSPX.refsVE_contains Y bm hbm) (I1.kIn _ _ hC) (PySem.W.looks_findIn I1.kIn iC) (fun self => PySem.W.bind_fn I1.kIn self tI) hus
    (codeAny_mono (F1.run _ X.stack _ _ ⟨Value.ref (hp.objs.size + 1) :: us, []⟩ (Value.ref (hp.objs.size + 1) :: (us ++ ds)) _ _ (fun _ _ _ => False) (hr.make C us []) (I2.env0.make C us []) (hb _ (Value.ref (hp.objs.size + 1) :: us) I2.kIn hl) r2 hq) fun r s' hq' => ?_))
  match r, hq' with
  | .error er, hq' => exact hx pins σ _ _ er s' I2 hq'
  | .ok (.ret u), hq' =>
    obtain ⟨v, H', I3, rv, ev, q3⟩ := I2.after hq'
    subst ev
    exact ⟨rv, ⟨V.ref (hp.objs.size + 1), H', I3, rfl, q3⟩⟩
  | .ok .next, hq' => exact hq'.elim
  | .ok .brk, hq' => exact hq'.elim
  | .ok .cont, hq' => exact hq'.elim
/-- .. by keywords alone -/
def tExK (C : Addr) (n : Nat) (sp : Sp) (gV : List V → List V → List V) (tkw : TA) : TE := fun σ H Q => tkw σ H fun zs H1 => zs.length = n ∧ ∀ a, H1 a = none → sp (gV [.ref a] zs) (upd H1 a (exo a C none)) (fun v H2 => v = .non ∧ Q (.ref a) H2) (fun _ _ _ => False)
theorem pe_oexK (T : OexC X.K C) (iC : PySem.W.findIn X.K (.ref C) "__init__" = some (some (.ref fI))) (tI : PySem.W.typeIn X.K (.ref fI) = some (.type "function"))
    (F1 : FnOk X.prog X.w X.K X.mg X.base CX k fI fd ps sp) (hr : Room (k + 1) X.A) (hb : KBn X.K fd ps 1 ks gU gV) (hx : Passes CX X (fun _ _ _ => False)) (hg : Gl X x) (hm : X.mg x = some (.ref C)) (hkw : PK X kws tkw)
    (hall : (backToKw pos (keywordEach kws X.env)).all (·.1.isSome) = true := by rfl) (hks : (backToKw pos (keywordEach kws X.env)).filterMap (·.1) = ks := by rfl) (hdb : (x == ("__debug__" : Str)) = false := by decide)
    (hpl : ((backTo pos (starEach [] X.env)).any (·.1) || (backToKw pos (keywordEach kws X.env)).any (·.1.isNone)) = false := by rfl) :
    PE X (.Call (.Name x p) [] kws pos) (tExK C ks.length sp gV tkw) := by
  refine ⟨fun pins s σ H Q I h => ?_⟩
  obtain ⟨nm, q, N, bs, bm, sn, sub, ab, col, dd, k0, k1, k2, k3, k5, hC, hbm⟩ := T.cls
  refine wpAny_Call_Name_kw (ld_glob I hg hm ?_ hdb)
  refine PySem.W.callWith_KW0 (h₀ := X.base) I.ok.mod.kin T.kC hall ?_ hpl
  refine thn (hkw.run pos pins s σ H _ I h) fun ws s1 ⟨zs, H1, I1, rz, hz, q1⟩ => ⟨I1.kIn, ?_⟩
  rw [hks]
  obtain ⟨hp, g, dr, tk, os⟩ := s1
  have lo : hp.objs.size ≤ hp.objs.size + 1 := Nat.le_succ _
  have hq := q1 (hp.objs.size + 1) (I1.hok.fresh lo)
  have kk : ∀ b o, hp.get? b = some o → ((hp.push (PySem.W.kdv_tup [])).push (PySem.HandSPX.excO C hp.objs.size)).get? b = some o := fun b o e => Heap.get?_push_of_some _ (Heap.get?_push_of_some _ e)
  have at_ : ((hp.push (PySem.W.kdv_tup [])).push (PySem.HandSPX.excO C hp.objs.size)).get? (hp.objs.size + 1) = some (PySem.HandSPX.excO C hp.objs.size) := by heap_get
  have I2 := I1.laid (t' := tk) (a := hp.objs.size + 1) (o := exo (hp.objs.size + 1) C none) (h' := (hp.push (PySem.W.kdv_tup [])).push (PySem.HandSPX.excO C hp.objs.size)) kk lo (exo_ok at_)
  have r2 := hb.rel (vs := [V.ref (hp.objs.size + 1)]) (us := [Value.ref (hp.objs.size + 1)]) (.cons rfl .nil) rz
  refine wpAny_call (Xk.call_kw F.excBase_ValueError (fun Y => PySem.HandSPX.refsVE_contains Y bm hbm) (I1.kIn _ _ hC) (PySem.W.looks_findIn I1.kIn iC) (fun self => PySem.W.bind_fn I1.kIn self tI)
    (codeAny_mono (F1.run _ X.stack _ _ ⟨[Value.ref (hp.objs.size + 1)], ks.zip ws⟩ (gU [Value.ref (hp.objs.size + 1)] ws) _ _ (fun _ _ _ => False) (hr.make C [] (ks.zip ws)) (I2.env0.make C [] (ks.zip ws)) (hb.to _ [Value.ref (hp.objs.size + 1)] ws I2.kIn rfl (rz.length.symm.trans hz)) r2 hq) fun r s' hq' => ?_))
  match r, hq' with
  | .error er, hq' => exact hx pins σ _ _ er s' I2 hq'
  | .ok (.ret u), hq' =>
    obtain ⟨v, H', I3, rv, ev, q3⟩ := I2.after hq'
    subst ev
    exact ⟨rv, ⟨V.ref (hp.objs.size + 1), H', I3, rfl, q3⟩⟩
  | .ok .next, hq' => exact hq'.elim
  | .ok .brk, hq' => exact hq'.elim
  | .ok .cont, hq' => exact hq'.elim
end
end Lw
namespace Lw
open PySem PySem.Spec PyProof.Rows L2

open LamX
/-! ### lambdas without captured names, with parameters: made here, called anywhere -/
/-- the object at f is the lambda of this text -/
def LamN (q : Str) (params : Arguments) (body : Expr) (scope : Scope) (f c' : Addr) : HO := .ext fun h => ∃ pm ctv : Value, h.get? f = some (PySem.W.kla_obj "<lambda>" q params body scope [] pm c' ctv)
theorem lamN_ne {q : Str} {params : Arguments} {body : Expr} {scope : Scope} {f c' : Addr} (ps : Array Value) : LamN q params body scope f c' ≠ .tbl ps := fun z => by
  unfold LamN at z
  cases z
/-- what its call does -/
structure LamF (P : Program) (w : World) (K : PySem.W.Frag) (mg : Str → Option Value) (base : Heap) (k : Nat) (ps : List Str) (sp : Sp) (q : Str) (params : Arguments) (body : Expr) (scope : Scope) (f c' : Addr) : Prop where
  S : FnScope ps ps scope
  bind : ∀ (pm cv ctv : Value) (us : List Value), us.length = ps.length → bindArgs (PySem.W.kla_fn "<lambda>" q params body scope [] pm cv ctv) ⟨us, []⟩ = pure (ps.zip us)
  len : ∀ vs H Q E, sp vs H Q E → vs.length = ps.length
  run : ∀ (A : Around) (out : List Env) (s : Shared) (H : Hp) (vs : List V) (Q : VK), Room k (A.deeper (envOfC q scope s.heap.objs.size f (.ref c'))) → sp vs H Q C8.E0 →
    ∃ te, PE (cxOf C8.CX0 P w K mg base ps q scope f (.ref c') A out s H C8.E0) body te ∧ te (start ps vs) H Q
def LamAt (P : Program) (w : World) (K : PySem.W.Frag) (mg : Str → Option Value) (base : Heap) (k : Nat) (ps : List Str) (sp : Sp) (H : Hp) (f : Addr) : Prop := ∃ (q : Str) (params : Arguments) (body : Expr) (scope : Scope) (c' : Addr),
  H f = some (LamN q params body scope f c') ∧ H c' = some (CodeO c' q) ∧ LamF P w K mg base k ps sp q params body scope f c'
theorem LamAt.extn {P : Program} {w : World} {K : PySem.W.Frag} {mg : Str → Option Value} {base : Heap} {k : Nat} {ps : List Str} {sp : Sp} {H H' : Hp} {f : Addr} (h : LamAt P w K mg base k ps sp H f) (e : ExtN H H') : LamAt P w K mg base k ps sp H' f := by
  obtain ⟨q, params, body, scope, c', h1, h2, a⟩ := h
  exact ⟨q, params, body, scope, c', e _ _ h1 lamN_ne, e _ _ h2 codeO_ne, a⟩
section
variable {X : Cx} {pins : List (Addr × Obj)} {σ : L2.St} {H : Hp} {s : Shared} {k : Nat} {ps : List Str} {sp : Sp}
theorem run_lam {f : Addr} {us : List Value} {vs : List V} {Q : VK} (L : LamAt X.prog X.w X.K X.mg X.base k ps sp H f) (hr : Room (k + 1) X.A) (I : Inv X pins σ H s) (r : Vals vs us) (q : sp vs H Q C8.E0) :
    wpAny (model X.prog X.w) X.A (call (.ref f) us) (EP X pins σ Q) X.xe s := by
  obtain ⟨qn, params, body, scope, c', hf, hc, F⟩ := L
  obtain ⟨⟨pm, ctv, of1⟩, _, _⟩ := I.hok f _ hf
  obtain ⟨⟨oc, vc, t', hoc, hdc, hvc⟩, _, _⟩ := I.hok c' _ hc
  have hl : us.length = ps.length := r.length.symm.trans (F.len _ _ _ _ q)
  have kinds : ∀ y ∈ ps.zip us, scope.names.lookup y.1 = some .local ∨ (scope.names.lookup y.1 = some .cell ∧ ((cellsFrom (s.heap.objs.size + 1) scope.names []).lookup y.1).isSome = true) := fun ⟨m, v⟩ hy => by
    rcases F.S.par m (List.of_mem_zip hy).1 with z | z
    · exact .inl z
    · exact .inr ⟨z, PySem.W.cellsFrom_some _ _ _ (.inl z)⟩
  have rc : codeAny (model X.prog X.w) X.A (.call (.ref f) ⟨us, []⟩) (CR C8.CX0 X.stack X.prog X.w H s Q C8.E0) s := by
    refine PySem.W.kla_callFunE hr.depth of1 rfl F.S.co F.S.gen rfl ⟨c', oc, vc, t', rfl, hoc, hdc, hvc⟩ ?_
    rw [F.bind _ _ _ us hl]
    refine wpAny_pure (wpAny_newFunctionEnv_cells F.S.kind kinds fun env he s1 cll => ?_)
    subst he
    refine ⟨I.nolimit.keeps cll.toInCall.keep, ?_⟩
    obtain ⟨te, ht, hq⟩ := F.run X.A X.stack s H vs Q (hr.deeper _) q
    have I0 := inv_start (CX := C8.CX0) (A := X.A) (E := C8.E0) F.S hr.hd I.env0 (F.len _ _ _ _ q) r cll
    refine PySem.W.kla_codeExpr (wpAny_mono (ht.run [] s1 (start ps vs) H _ I0 hq) (fun v s' hs => ?_) fun e s' hs => hs)
    obtain ⟨v', H', J, rv, z⟩ := hs
    exact ⟨v', H', J.os, J.bare, J.base, J.hok, rv, z⟩
  refine wpAny_call (codeAny_mono rc fun r s' hq => ?_)
  match r, hq with
  | .error e, hq => exact hq.elim
  | .ok (.ret u), hq => exact I.after hq
  | .ok .next, hq => exact hq.elim
  | .ok .brk, hq => exact hq.elim
  | .ok .cont, hq => exact hq.elim
/-- e(a, ..), e any expression that gives such a lambda -/
theorem pe_lamcallN {fe a : Expr} {es : List Expr} {pos : Pos} {tf : TE} {ta : TA} (hr : Room (k + 1) X.A) (hf : PE X fe tf) (ha : PA X (a :: es) ta)
    (ht : eval (.Call fe (a :: es) [] pos) X.env = (do callWith pos (← eval fe X.env) [] (backTo pos (starEach (a :: es) X.env)) (backToKw pos (keywordEach [] X.env))) := by rfl)
    (he : starEach (a :: es) X.env = (false, eval a X.env) :: starEach es X.env := by rfl) (hpl : (backTo pos (starEach es X.env)).any (·.1) = false := by rfl) :
    PE X (.Call fe (a :: es) [] pos) (fun σ H Q => tf σ H fun x H1 => ∃ (f : Addr) (ps : List Str) (sp : Sp), x = .ref f ∧ LamAt X.prog X.w X.K X.mg X.base k ps sp H1 f ∧ ta σ H1 fun vs H2 => LamAt X.prog X.w X.K X.mg X.base k ps sp H2 f ∧ sp vs H2 Q C8.E0) := by
  refine ⟨fun pins s σ H Q I h => ?_⟩
  refine Call_ (thn (hf.run pins s σ H _ I h) fun u s1 ⟨x, H1, I1, r1, f, ps, sp, ex, l1, q⟩ => ?_) ht
  subst ex
  obtain rfl : u = Value.ref f := r1
  have fnAt : ∀ {H' : Hp} {t : Shared}, Inv X pins σ H' t → LamAt X.prog X.w X.K X.mg X.base k ps sp H' f → PySem.W.FnAt f t.heap := fun {H' t} J L => by
    obtain ⟨qn, params, body, scope, c', hf, _, _⟩ := L
    obtain ⟨⟨pm, ctv, e⟩, _, _⟩ := J.hok f _ hf
    exact ⟨_, _, _, _, e⟩
  refine PySem.W.callWith_F (fnAt I1 l1) (thn (ha.run pos pins s1 σ H1 _ I1 q) fun us s2 ⟨vs, H2, I2, r2, l2, q2⟩ => ⟨fnAt I2 l2, ?_⟩) he hpl
  exact run_lam l2 hr I2 r2 q2
def tLamN (P : Program) (w : World) (K : PySem.W.Frag) (mg : Str → Option Value) (base : Heap) (k : Nat) (ps : List Str) (sp : Sp) (T : List (Addr × Str)) : TE := fun _ H Q => Tabs T H ∧ ∀ (f : Addr) (H1 : Hp), ExtN H H1 → Tabs T H1 → H f = none → LamAt P w K mg base k ps sp H1 f → Q (.ref f) H1
theorem lay_lamN {h' : Heap} {t' : Nat} {q : Str} {params : Arguments} {body : Expr} {scope : Scope} {c' : Addr} {pm ctv : Value} (I : Inv X pins σ H { s with heap := h', toks := t' }) :
    Inv X pins σ (upd H h'.objs.size (LamN q params body scope h'.objs.size c')) { s with heap := h'.push (PySem.W.kla_obj "<lambda>" q params body scope [] pm c' ctv), toks := t' } := by
  refine I.laid (h' := h'.push _) (t' := t') (fun b u e => Heap.get?_push_of_some _ e) (Nat.le_refl _) ?_
  have g : (h'.push (PySem.W.kla_obj "<lambda>" q params body scope [] pm c' ctv)).get? h'.objs.size = some (PySem.W.kla_obj "<lambda>" q params body scope [] pm c' ctv) := Heap.get?_push_size _ rfl
  refine ⟨⟨pm, ctv, g⟩, ⟨_, g⟩, ?_⟩
  rintro h1 h2 ⟨pm, ctv, e⟩ st
  exact ⟨pm, ctv, st _ e⟩
theorem pe_lamN {T : List (Addr × Str)} {c B : Addr} {params : Arguments} {body : Expr} {scope : Scope} {pos : Pos} (TB : TabB X.base X.mg c B) (hcode : X.env.code = .ref c)
    (hm : (B, X.env.qual ++ "<lambda>") ∈ T) (hu : ∀ p ∈ T, p.1 = B → p.2 = X.env.qual ++ "<lambda>") (hdef : defaultsOf params X.env = ([], [])) (nofree : ∀ y ∈ scope.names, y.2 ≠ .free) (nocl : cloFrom X.env.cells scope.names [] = [])
    (act : ∀ f c', LamF X.prog X.w X.K X.mg X.base k ps sp (X.env.qual ++ "<lambda>") params body scope f c') : PE X (.Lambda params body scope pos) (tLamN X.prog X.w X.K X.mg X.base k ps sp T) := by
  refine ⟨fun pins s σ H Q I h => ?_⟩
  obtain ⟨hT, h⟩ := h
  obtain ⟨pt, hB, trip, amg⟩ := hT _ hm
  refine PySem.W.kla_eval hdef ?_
  have hat : s.heap.get? B = some { cls := .none, data := .fields pt } := I.hok B _ hB
  have blt := TB.bm.keeps I.bk
  have hdc := TB.code.keeps I.bk
  have glb := I.mod.glob.keeps I.bk
  have cl := closure_ok (scope := scope) (env := X.env) (fun y hy e => absurd e (nofree y hy))
  rw [nocl] at cl
  have tell : ∀ {H1 : Hp} {f c' : Addr} {s' : Shared}, Inv X pins σ (upd H1 f (LamN (X.env.qual ++ "<lambda>") params body scope f c')) s' → ExtN H H1 → Tabs T H1 → H1 f = none → H f = none → H1 c' = some (CodeO c' (X.env.qual ++ "<lambda>")) →
      EP X pins σ Q (.ref f) s' := fun {H1 f c' s'} I1 eN T1 n1 n0 hc => by
    have sm := same_new (o := LamN (X.env.qual ++ "<lambda>") params body scope f c') n1
    exact ⟨.ref f, _, I1, rfl, h f _ (fun b o e n => sm _ _ (eN b o e n)) (T1.ext sm) n0 ⟨_, params, body, scope, c', upd_same, sm _ _ hc, act f c'⟩⟩
  rcases hc : codeAmong pos pt.toList with _ | cv
  · refine PySem.W.kla_makeFunction (mg := X.mg) (c := c) (P := B) (ps := pt) cl I.ok.glob glb hcode hdc hat trip hc TB.gP blt ?_
    intro c2 ctv h' tk hx hge hlt hrec htb
    obtain ⟨c3, oc, vs, t', e3, g1, g2, g3⟩ := hrec
    cases e3
    have nC : H c2 = none := I.hok.fresh hge
    have I0 := inv_table (t' := tk) (more := #[rawInt pos.line, rawInt pos.col, .ref c2]) (h' := h') I hB hx htb hge ⟨oc, vs, t', g1, g2, g3⟩
    have stays : ExtN H (upd (upd H B (.tbl (pt ++ #[rawInt pos.line, rawInt pos.col, .ref c2]))) c2 (CodeO c2 (X.env.qual ++ "<lambda>"))) := by
      intro b o e n
      rw [upd_ne (ne_of_none e nC)]
      by_cases hb : b = B
      · subst hb
        rw [hB] at e
        exact absurd (Option.some.inj e).symm (n pt)
      · rw [upd_ne hb]; exact e
    have fresh : H h'.objs.size = none := I.hok.fresh (Nat.le_trans hge (Nat.le_of_lt hlt))
    refine tell (lay_lamN (t' := tk) (c' := c2) (ctv := ctv) I0) stays ?_ ?_ fresh upd_same
    · intro p hp
      by_cases hb : p.1 = B
      · rw [hu p hp hb, hb]
        refine ⟨pt ++ #[rawInt pos.line, rawInt pos.col, .ref c2], ?_, ?_, ?_⟩
        · rw [upd_ne (ne_of_none hB nC), upd_same]
        · rw [show (pt ++ #[rawInt pos.line, rawInt pos.col, .ref c2]).toList = pt.toList ++ [rawInt pos.line, rawInt pos.col, .ref c2] by simp]
          exact PySem.TriplesOk_snoc _ _ _ _ trip
        · intro p' cv' hcv
          rw [show (pt ++ #[rawInt pos.line, rawInt pos.col, .ref c2]).toList = pt.toList ++ [rawInt pos.line, rawInt pos.col, .ref c2] by simp] at hcv
          rcases among_app _ trip hcv with z | z
          · obtain ⟨c0, a1, a2⟩ := amg p' cv' z
            exact ⟨c0, a1, stays _ _ a2 codeO_ne⟩
          · exact ⟨c2, z, upd_same⟩
      · obtain ⟨qs, a1, a2, a3⟩ := hT p hp
        refine ⟨qs, ?_, a2, ?_⟩
        · rw [upd_ne (ne_of_none a1 nC), upd_ne hb]; exact a1
        · intro p' cv' hcv
          obtain ⟨c0, b1, b2⟩ := a3 p' cv' hcv
          exact ⟨c0, b1, stays _ _ b2 codeO_ne⟩
    · have n1 : h'.objs.size ≠ c2 := Nat.ne_of_gt hlt
      have n2 : h'.objs.size ≠ B := Nat.ne_of_gt (Nat.lt_of_lt_of_le (Heap.lt_size hat) (Nat.le_trans hge (Nat.le_of_lt hlt)))
      rw [upd_ne n1, upd_ne n2]
      exact fresh
  · obtain ⟨c2, e, hco⟩ := amg pos cv hc
    subst e
    refine PySem.W.kla_makeFunctionHit (mg := X.mg) (c := c) (P := B) (ps := pt) cl I.ok.glob glb hcode hdc hat trip hc blt ?_
    intro ctv h' tk hx hsz
    have I0 : Inv X pins σ H { s with heap := h', toks := tk } := I.kept hx
    exact tell (lay_lamN (t' := tk) (c' := c2) (ctv := ctv) I0) (ExtN.refl H) hT (I.hok.fresh hsz) (I.hok.fresh hsz) hco
end
end Lw
namespace Lw
open PySem PySem.Spec PyProof.Rows L2

open LamX
/-! ### exceptions that are held as values -/
/-- an exception of the class D at e, its attributes -/
def ExAt (e D : Addr) (fs : List (Str × V)) (H : Hp) : Prop := (∃ dx, H e = some (exo e D (some dx)) ∧ H dx = some (exd dx fs)) ∨ (fs = [] ∧ H e = some (exo e D none))
theorem exd_tbl {e : Addr} {fs : List (Str × V)} {ps : Array Value} : exd e fs ≠ .tbl ps := fun z => by
  unfold exd at z
  cases z
theorem ExAt.extn {e D : Addr} {fs : List (Str × V)} {H H' : Hp} (h : ExAt e D fs H) (x : ExtN H H') : ExAt e D fs H' := by
  rcases h with ⟨dx, h1, h2⟩ | ⟨h0, h1⟩
  · exact .inl ⟨dx, x _ _ h1 fun _ => exo_tbl, x _ _ h2 fun _ => exd_tbl⟩
  · exact .inr ⟨h0, x _ _ h1 fun _ => exo_tbl⟩
section
variable {X : Cx} {pins : List (Addr × Obj)} {σ : L2.St} {H : Hp} {s : Shared}
theorem exat_inst {a C : Addr} {fs : List (Str × V)} (I : Inv X pins σ H s) (h : ExAt a C fs H) : ∃ o od, PySem.W.InstAt s.heap a o C od ∧ ∀ f v, fs.lookup f = some v → ∃ ob u, od = some ob ∧ PySem.W.lookIn f ob = some (some u) ∧ RelV v u := by
  rcases h with ⟨dx, h1, h2⟩ | ⟨h0, h1⟩
  · obtain ⟨t1, e1⟩ := exo_at I.hok h1
    obtain ⟨mA, hns, hr⟩ := exd_at I.hok h2
    obtain ⟨od, ho, hl⟩ := lookIn_ns hns
    refine ⟨_, some od, ⟨e1, rfl, rfl, ho⟩, fun f v e => ?_⟩
    obtain ⟨u, hu, ru⟩ := RelO.some_of (v := v) (o := mA f) (by rw [← e]; exact hr f)
    exact ⟨od, u, rfl, by rw [hl, hu], ru⟩
  · obtain ⟨t1, e1⟩ := exo_at I.hok h1
    refine ⟨_, none, ⟨e1, rfl, rfl, trivial⟩, fun f v e => ?_⟩
    rw [h0] at e
    cases e
/-- e.f of a held exception -/
def tXat (C : Addr) (f : Str) (te : TE) : TE := fun σ H Q => te σ H fun x H1 => ∃ (a : Addr) (fs : List (Str × V)) (v : V), x = .ref a ∧ ExAt a C fs H1 ∧ fs.lookup f = some v ∧ Q v H1
theorem pe_xat {C : Addr} {e : Expr} {te : TE} {pos : Pos} {f : Str} (T : XfC X.K C) (hno : PySem.W.findIn X.K (.ref C) f = some none) (he : PE X e te) (hb : attributeBase e f X.env (eval e X.env) = eval e X.env := by rfl) : PE X (.Attribute e f pos) (tXat C f te) := by
  refine ⟨fun pins s σ H Q I q => attr_of hb (thn (he.run pins s σ H _ I q) fun u s1 got => ?_)⟩
  obtain ⟨x, H1, I1, rx, a, fs, v, rfl, ha, hl, q⟩ := got
  obtain rfl : u = Value.ref a := rx
  obtain ⟨o, od, J, fld⟩ := exat_inst I1 ha
  obtain ⟨ob, u, rfl, hu, ru⟩ := fld f v hl
  exact HandSPX.exc_get I1.kIn J T.ga T.gg T.exC (PySem.W.findObj_own T.hdC hno rfl hu) (handed_of ru) ⟨v, H1, I1.tok _, ru, q⟩
/-- isinstance of a held exception -/
def rIsX (K : PySem.W.Frag) : List V → Hp → VK → Prop := fun xs H Q => ∃ (a D : Addr) (fs : List (Str × V)) (c : V) (cv : Value) (b : Bool), xs = [.ref a, c] ∧ ClsV c cv ∧ ExAt a D fs H ∧ Hx.XCls K D ∧ PySem.W.kitOne K (.ref D) cv = some b ∧ Q (.bl b) H
theorem call_isX : CallR X (.builtin "isinstance") (rIsX X.K) := by
  intro pins s σ H xs us Q I r h
  obtain ⟨a, D, fs, c, cv, b, rfl, k, ha, cl, e, q⟩ := h
  obtain ⟨w1, w2, rfl, r1, r2⟩ := vals2 r
  obtain rfl := k.eq r2
  obtain rfl : w1 = Value.ref a := r1
  obtain ⟨o, od, J, _⟩ := exat_inst I ha
  exact PySem.W.kia_one (Hx.kitx_held cl) I.kIn J e (fun z => by cases z) fun tk => ⟨.bl b, H, I.tok tk, rfl, q⟩
end
/-- what an __init__ that keeps its one argument promises -/
def spE1 (C : Addr) (f : Str) : Sp := fun vs H Q _ => ∃ (a : Addr) (v : V), vs = [.ref a, v] ∧ H a = some (exo a C none) ∧ ∀ dx, H dx = none → dx ≠ a → Q .non (upd (upd H dx (exd dx [(f, v)])) a (exo a C (some dx)))
/-- .. its two arguments -/
def spE2 (C : Addr) (f1 f2 : Str) : Sp := fun vs H Q _ => ∃ (a : Addr) (v1 v2 : V), vs = [.ref a, v1, v2] ∧ H a = some (exo a C none) ∧ ∀ dx, H dx = none → dx ≠ a → ∀ fs, fs.lookup f1 = some v1 → fs.lookup f2 = some v2 → Q .non (upd (upd H dx (exd dx fs)) a (exo a C (some dx)))
theorem mk1 {C : Addr} {f : Str} {v : V} {H : Hp} {Q : VK} {E : XK} (k : ∀ a H', Same H H' → H a = none → ExAt a C [(f, v)] H' → Q (.ref a) H') (a : Addr) (na : H a = none) : spE1 C f [.ref a, v] (upd H a (exo a C none)) (fun z H2 => z = .non ∧ Q (.ref a) H2) E := by
  refine ⟨a, v, rfl, upd_same, fun dx h1 h2 => ⟨rfl, k a _ (fun b o hb => ?_) na (.inl ⟨dx, upd_same, ?_⟩)⟩⟩
  · have n1 : b ≠ a := fun z => by rw [z, na] at hb; cases hb
    have n2 : b ≠ dx := fun z => by
      rw [z] at hb
      rw [upd_ne h2] at h1
      rw [h1] at hb
      cases hb
    rw [upd_ne n1, upd_ne n2, upd_ne n1]
    exact hb
  · rw [upd_ne h2]
    exact upd_same
theorem mk2 {C : Addr} {f1 f2 : Str} {v1 v2 : V} {H : Hp} {Q : VK} {E : XK} (k : ∀ a fs H', Same H H' → H a = none → fs.lookup f1 = some v1 → fs.lookup f2 = some v2 → ExAt a C fs H' → Q (.ref a) H') (a : Addr) (na : H a = none) : spE2 C f1 f2 [.ref a, v1, v2] (upd H a (exo a C none)) (fun z H2 => z = .non ∧ Q (.ref a) H2) E := by
  refine ⟨a, v1, v2, rfl, upd_same, fun dx h1 h2 fs e1 e2 => ⟨rfl, k a fs _ (fun b o hb => ?_) na e1 e2 (.inl ⟨dx, upd_same, ?_⟩)⟩⟩
  · have n1 : b ≠ a := fun z => by rw [z, na] at hb; cases hb
    have n2 : b ≠ dx := fun z => by
      rw [z] at hb
      rw [upd_ne h2] at h1
      rw [h1] at hb
      cases hb
    rw [upd_ne n1, upd_ne n2, upd_ne n1]
    exact hb
  · rw [upd_ne h2]
    exact upd_same
end Lw
namespace Lw
open PySem PySem.Spec PyProof.Rows L2

open LamX
section
variable {X : Cx} {es : List Expr} {t : TA} {pos : Pos}
/-- [..], the new list is not sys.modules -/
def tLstS (t : TA) : TE := fun σ H Q => t σ H fun xs H1 => xs.length ≤ sizeLine ∧ ∀ p, H1 p = none → p ≠ sysModules → Q (.ref p) (upd H1 p (.lst xs))
theorem pe_lstS (h : PA X es t) : PE X (.List es pos) (tLstS t) := by
  refine ⟨fun pins s σ H Q I hq => wpAny_List_spliced (thn (h.run pos pins s σ H _ I hq) fun us s1 ⟨xs, H1, I1, r, z, q⟩ => ⟨by rw [← r.length]; exact z, ?_⟩)⟩
  refine ⟨.ref s1.heap.objs.size, upd H1 s1.heap.objs.size (.lst xs), I1.laid (t' := s1.toks) (fun b u e => Heap.get?_push_of_some _ e) (Nat.le_refl _) ⟨z, us, 0, r, Heap.get?_push_size _ rfl⟩, rfl, q _ (I1.hok.fresh (Nat.le_refl _)) ?_⟩
  exact Nat.ne_of_gt I1.big
/-- an own exception class without an __init__, no argument -/
theorem pe_exc0 {C : Addr} {bmB : List Value} {B newId initId : String} {x : Str} {p pos : Pos} (F : ExcBaseFacts B newId initId bmB) (q : PySem.W.excIn X.K C bmB newId = true) (gC : X.mg x = some (.ref C)) (kC : PySem.W.keepIn X.K (.ref C) = true) (hg : Gl X x) (hdb : (x == ("__debug__" : Str)) = false := by decide) :
    PE X (.Call (.Name x p) [] [] pos) (fun _ H Q => ∀ a, H a = none → Q (.ref a) (upd H a (exo a C none))) := by
  refine ⟨fun pins s σ H Q I h => ?_⟩
  refine wpAny_Call_Name_kw (ld_glob I hg gC ?_ hdb)
  refine PySem.W.callWith_K0 I.kIn kC ?_
  obtain ⟨bm, N, nm, qn, bs, hdct, sn, sub, ab, col, dd, k0, k1, k2, k3, k5, mN, hC, hN, hni, T⟩ := exc_obj I.kIn q
  refine wpAny_call_exc_subT F T hC hN hni (fun h' a hm => ?_) (by show 0 ≤ sizeLine; exact Nat.zero_le _)
  have hn : H a = none := I.hok.gone hm.new
  obtain ⟨t, ht, _, _⟩ := hm.there
  exact ⟨.ref a, upd H a (exo a C none), I.laidN hm.keeps hm.new hn (exo_ok ht), rfl, h a hn⟩
end
/-! ### the drawn values, as data -/
inductive Fl : V → PyData → Prop where
  | non : Fl .non .none
  | bl (b : Bool) : Fl (.bl b) (.bool b)
  | int (i : Int) : Fl (.int i) (.int i)
  | str (z : Str) : Fl (.str z) (.str z)
inductive FlAll : List V → List PyData → Prop where
  | nil : FlAll [] []
  | cons {v : V} {vs : List V} {d : PyData} {ds : List PyData} : Fl v d → FlAll vs ds → FlAll (v :: vs) (d :: ds)
inductive Vr (H : Hp) : V → PyData → Prop where
  | fl {v : V} {d : PyData} (h : Fl v d) : Vr H v d
  | tup {a : Addr} {vs : List V} {ds : List PyData} (h : H a = some (.tup vs)) (f : FlAll vs ds) : Vr H (.ref a) (.tuple ds)
  | lst {a : Addr} {vs : List V} {ds : List PyData} (h : H a = some (.lst vs)) (n : a ≠ sysModules) (f : FlAll vs ds) : Vr H (.ref a) (.list ds)
  | d0 {a : Addr} (h : H a = some (.dK [])) : Vr H (.ref a) (.dict [])
  | d1 {a : Addr} (h : H a = some (.dK [(.inr "a", .str "b")])) : Vr H (.ref a) (.dict [(.str "a", .str "b")])
inductive VrAll (H : Hp) : List V → List PyData → Prop where
  | nil : VrAll H [] []
  | cons {v : V} {vs : List V} {d : PyData} {ds : List PyData} : Vr H v d → VrAll H vs ds → VrAll H (v :: vs) (d :: ds)
theorem Vr.move {H H' : Hp} {v : V} {d : PyData} (h : Vr H v d) (k : ∀ a o, v = .ref a → H a = some o → (∀ ps, o ≠ .tbl ps) → H' a = some o) : Vr H' v d := by
  cases h with
  | fl h => exact .fl h
  | tup h f => exact .tup (k _ _ rfl h fun ps z => by cases z) f
  | lst h n f => exact .lst (k _ _ rfl h fun ps z => by cases z) n f
  | d0 h => exact .d0 (k _ _ rfl h fun ps z => by cases z)
  | d1 h => exact .d1 (k _ _ rfl h fun ps z => by cases z)
theorem Vr.extn {H H' : Hp} {v : V} {d : PyData} (h : Vr H v d) (e : ExtN H H') : Vr H' v d := h.move fun a o _ ha n => e a o ha n
theorem VrAll.extn {H H' : Hp} (e : ExtN H H') : ∀ {vs : List V} {ds : List PyData}, VrAll H vs ds → VrAll H' vs ds
  | _, _, .nil => .nil
  | _, _, .cons a r => .cons (a.extn e) (r.extn e)
theorem strOf {x : Str} {v : Value} (h : Value.isStrOf x v = true) : ∃ t, v = .str x t := by
  rcases keyIs_shape (k := .inr x) (v := v) h with ⟨i, t, e, _⟩ | ⟨y, t, e, ev⟩
  · cases e
  · cases e
    exact ⟨t, ev⟩
section
variable {X : Cx} {pins : List (Addr × Obj)} {σ : L2.St} {H : Hp} {s : Shared}
theorem Fl.reads {v : V} {d : PyData} {u : Value} (h : Fl v d) (r : RelV v u) : Reads s.heap u d [] := by
  cases h with
  | non => cases (show u = Value.none from r); exact .none
  | bl b => cases (show u = Value.bool b from r); exact .bool b
  | int i => obtain ⟨t, rfl⟩ := (show ∃ t, u = Value.int i t from r); exact .int i t
  | str z => obtain ⟨t, rfl⟩ := (show ∃ t, u = Value.str z t from r); exact .str z t
theorem FlAll.reads : ∀ {vs : List V} {ds : List PyData} {us : List Value}, FlAll vs ds → Vals vs us → ReadsAll s.heap us ds []
  | _, _, _, .nil, .nil => .nil
  | _, _, _, .cons h t, .cons r rs => .cons (h.reads r) (t.reads rs)
theorem Vr.reads {v : V} {d : PyData} {u : Value} (I : Inv X pins σ H s) (h : Vr H v d) (r : RelV v u) : ∃ as, Reads s.heap u d as ∧ sysModules ∉ as := by
  cases h with
  | fl h => exact ⟨[], h.reads r, by simp⟩
  | @tup a vs ds h f =>
    cases (show u = Value.ref a from r)
    obtain ⟨_, its, rv, o, h1, h2, n, h3⟩ := (show ObjOk X.prog X.w H s.heap a (.tup vs) from I.hok a _ h)
    exact ⟨[], .tuple h1 h2 h3 (by simpa using f.reads rv), by simp⟩
  | @lst a vs ds h n f =>
    cases (show u = Value.ref a from r)
    obtain ⟨_, its, m, rv, h1⟩ := (show ObjOk X.prog X.w H s.heap a (.lst vs) from I.hok a _ h)
    exact ⟨[a], .list (as := []) h1 rfl rfl (by simpa using f.reads rv), by simpa using Ne.symm n⟩
  | @d0 a h =>
    cases (show u = Value.ref a from r)
    obtain ⟨_, hm, vs, kv, o, es, ep, ho, hx, hd, _, pr, _⟩ := dk_of I.hok h
    have e0 : vs = [] := by cases kv; rfl
    subst e0
    have e1 : es.toList = [] := by
      generalize es.toList = l at pr
      cases pr
      rfl
    refine ⟨[a], Reads.dict (as := []) (bs := []) ho hx.1 hd (by rw [e1]; exact .nil) (by rw [e1]; exact .nil), fun z => ?_⟩
    rw [List.mem_singleton] at z
    rw [← z] at hm
    simp at hm
  | @d1 a h =>
    cases (show u = Value.ref a from r)
    obtain ⟨_, hm, vs, kv, o, es, ep, ho, hx, hd, _, pr, _⟩ := dk_of I.hok h
    cases kv with
    | @cons q1 q2 _ _ hq r0 =>
      cases r0
      obtain ⟨k2, v2⟩ := q2
      obtain ⟨e1, e2⟩ := hq
      have e1 : (.inr "a" : Key) = k2 := e1
      subst e1
      obtain ⟨tv, rfl⟩ := (show ∃ t, v2 = Value.str "b" t from e2)
      have keys : ReadsAll s.heap (es.toList.map (·.key)) [.str "a"] [] ∧ ReadsAll s.heap (es.toList.map (·.val)) [.str "b"] [] := by
        generalize es.toList = l at pr
        generalize hv2 : Value.str "b" tv = v2 at pr
        cases pr with
        | cons he hr =>
          cases hr
          rename_i e0 _ nil0
          cases nil0
          have he : keyIs (.inr "a") e0.key = true := he
          obtain ⟨t, ek⟩ := strOf he
          refine ⟨?_, ?_⟩
          · show ReadsAll s.heap [e0.key] [.str "a"] []
            rw [ek]
            exact .cons (.str _ t) .nil
          · show ReadsAll s.heap [e0.val] [.str "b"] []
            rw [show e0.val = _ from hv2.symm]
            exact .cons (.str _ tv) .nil
      refine ⟨[a], Reads.dict (as := []) (bs := []) ho hx.1 hd keys.1 keys.2, fun z => ?_⟩
      rw [List.mem_singleton] at z
      rw [← z] at hm
      simp at hm
theorem VrAll.reads (I : Inv X pins σ H s) : ∀ {vs : List V} {ds : List PyData} {us : List Value}, VrAll H vs ds → Vals vs us → ∃ as, ReadsAll s.heap us ds as ∧ sysModules ∉ as
  | _, _, _, .nil, .nil => ⟨[], .nil, by simp⟩
  | _, _, _, .cons h t, .cons r rs => by
    obtain ⟨as, h1, h2⟩ := Vr.reads I h r
    obtain ⟨bs, h3, h4⟩ := VrAll.reads I t rs
    exact ⟨as ++ bs, .cons h1 h3, fun z => (List.mem_append.mp z).elim h2 h4⟩
/-- repr of a list of such values -/
def rRpV (_ : PySem.W.Frag) : List V → Hp → VK → Prop := fun xs H Q => ∃ (l : Addr) (vs : List V) (ds : List PyData), xs = [.ref l] ∧ l ≠ sysModules ∧ H l = some (.lst vs) ∧ VrAll H vs ds ∧ (PyData.list ds).showable = true ∧ (PyData.list ds).depth ≤ 100 ∧ (PyData.list ds).shown.length ≤ sizeLine ∧ Q (.str (PyData.list ds).shown) H
theorem call_reprV (hG : X.A.guards = some []) (hr : Room 0 X.A) : CallR X (.builtin "repr") (rRpV X.K) := by
  intro pins s σ H xs us Q I r h
  obtain ⟨l, vs, ds, rfl, nl, hl, hv, h1, h2, h3, q⟩ := h
  obtain ⟨u, rfl, ru⟩ := vals1 r
  cases (show u = Value.ref l from ru)
  obtain ⟨_, its, m, rv, e1⟩ := (show ObjOk X.prog X.w H s.heap l (.lst vs) from I.hok l _ hl)
  obtain ⟨as, ra, na⟩ := VrAll.reads I hv rv
  have rd : Reads s.heap (.ref l) (.list ds) (l :: as) := .list e1 rfl rfl (by simpa using ra)
  have hun := hr.un
  exact repr_of_reads' rd h1 (fun _ z => (List.mem_cons.mp z).elim (fun w => nl w.symm) na) hG (by omega) (fun _ _ e => e) (fun h' u' tk kp => ⟨.str (PyData.list ds).shown, H, I.kept kp, ⟨u', rfl⟩, q⟩) h3
end
/-- a drawn value is short and may be shown -/
def Gd (d : PyData) : Prop := d.showable = true ∧ d.depth ≤ 3 ∧ d.shown.length ≤ 100
theorem gd_list : ∀ {ds : List PyData}, (∀ d ∈ ds, Gd d) → ds.length ≤ 2 → (PyData.list ds).showable = true ∧ (PyData.list ds).depth ≤ 100 ∧ (PyData.list ds).shown.length ≤ sizeLine := by
  intro ds h hl
  match ds, h, hl with
  | [], _, _ => exact ⟨by decide +kernel, by decide +kernel, by decide +kernel⟩
  | [a], h, _ =>
    obtain ⟨a1, a2, a3⟩ := h a (by simp)
    refine ⟨by simp [PyData.showable, PyData.showableAll, a1], by simp only [PyData.depth, PyData.depthAll]; omega, Nat.le_trans (listText_len_le [a.shown]) ?_⟩
    simp only [List.map_cons, List.map_nil, List.sum_cons, List.sum_nil, List.length_cons, List.length_nil]
    rw [sizeLine_eq]
    omega
  | [a, b], h, _ =>
    obtain ⟨a1, a2, a3⟩ := h a (by simp)
    obtain ⟨b1, b2, b3⟩ := h b (by simp)
    refine ⟨by simp [PyData.showable, PyData.showableAll, a1, b1], by simp only [PyData.depth, PyData.depthAll]; omega, Nat.le_trans (listText_len_le [a.shown, b.shown]) ?_⟩
    simp only [List.map_cons, List.map_nil, List.sum_cons, List.sum_nil, List.length_cons, List.length_nil]
    rw [sizeLine_eq]
    omega
end Lw
namespace Lw
open PySem PySem.Spec PyProof.Rows L2

/-! ### own operators: + - * // % and the sign, of instances of one class and of a built-in value beside -/
section
variable {X : Cx} {C : Addr} {k j : Nat} {sp : Sp} {pins : List (Addr × Obj)} {σ : L2.St} {H : Hp} {s : Shared}
theorem ins_at {a dx : Addr} {fs : List (Str × V)} (I : Inv X pins σ H s) (h : H a = some (.ins C dx fs)) : ∃ ox od, PySem.W.InstAt s.heap a ox C (some od) := by
  obtain ⟨mA, O, _⟩ := ins_get I.hok h
  obtain ⟨od, J, _⟩ := O.look
  exact ⟨_, od, J⟩
/-- a method of the class, called with an instance and another value -/
theorem run_two {m : Str} {us : List Value} {vs : List V} {Q : VK} (M : C8.Met X.prog X.w X.K X.mg X.base k C m sp []) (hr : Room j X.A) (hk : k ≤ j) (I : Inv X pins σ H s) (r : Vals vs us) (q : sp vs H Q C8.E0) :
    ∃ g : Addr, Meth X.K C m g ∧ wpAny (model X.prog X.w) X.A (call (.ref g) us) (PySem.W.CmpBack (EP X pins σ Q)) X.xe s := by
  obtain ⟨g, fd, ps, ds, hC, hm, F, b, d⟩ := M.ex
  have q' : sp (vs ++ []) H Q C8.E0 := by rw [List.append_nil]; exact q
  refine ⟨g, hm, wpAny_mono (run_fn F (hr.mono hk) b d C8.pass0 I r q') (fun w s' z => ?_) fun _ _ x => x⟩
  obtain ⟨z', H', I', rz, qz⟩ := z
  exact SlX.cmpback rz ⟨z', H', I', rz, qz⟩
def rSame (C : Addr) (sp : Sp) : R2 := fun x y H Q => ∃ a dx fs b dy gs, x = .ref a ∧ y = .ref b ∧ H a = some (.ins C dx fs) ∧ H b = some (.ins C dy gs) ∧ sp [x, y] H Q C8.E0
theorem op_same {op : Operator} (M : C8.Met X.prog X.w X.K X.mg X.base k C (PySem.dunder op.info.2) sp []) (hc : PySem.W.selfFirst X.K C = true) (hr : Room j X.A) (hk : k ≤ j) : OpR X (binaryOp op) (rSame C sp) := by
  intro pins s σ H x y v u Q I rx ry h
  obtain ⟨a, dx, fs, b, dy, gs, rfl, rfl, ha, hb, q⟩ := h
  cases (show v = Value.ref a from rx)
  cases (show u = Value.ref b from ry)
  obtain ⟨_, _, J⟩ := ins_at I ha
  obtain ⟨_, _, J'⟩ := ins_at I hb
  obtain ⟨g, hm, w⟩ := run_two (us := [.ref a, .ref b]) (vs := [.ref a, .ref b]) M hr hk I (.cons rfl (.cons rfl .nil)) q
  obtain ⟨m, hF⟩ := I.fr
  exact PySem.W.binop_K hF I.ok.mod.kin J J'.type hc hm.at_ hm.fn w
/-- what the operator asks of the class and of a built-in type beside it -/
structure Beside (K : PySem.W.Frag) (C : Addr) (op : Operator) (T : String) : Prop where
  first : PySem.W.selfFirst K C = true
  back : ∃ rc, PySem.W.findIn K (.ref C) (dunderR op.info.2) = some rc ∧ (rc = none ∨ ∃ g : Addr, rc = some (.ref g))
  ahead : ∃ fo, PySem.W.findIn K (.type T) (PySem.dunder op.info.2) = some fo
  behind : ∃ ro, PySem.W.findIn K (.type T) (dunderR op.info.2) = some ro
  sub : PySem.W.subIn K (.type T) (.ref C) = some false
/-- a built-in value's kind, as typeOf tells it -/
inductive Kind : V → String → Prop where
  | int (i : Int) : Kind (.int i) "int"
  | bl (b : Bool) : Kind (.bl b) "bool"
  | non : Kind .non "NoneType"
  | str (z : Str) : Kind (.str z) "str"
theorem Kind.type {y : V} {T : String} {u : Value} (h : Kind y T) (r : RelV y u) : typeOf u = pure (.type T) := by
  cases h with
  | int i => obtain ⟨t, e⟩ := (show ∃ t, u = Value.int i t from r); subst e; rfl
  | bl b => cases (show u = Value.bool b from r); rfl
  | non => cases (show u = Value.none from r); rfl
  | str z => obtain ⟨t, e⟩ := (show ∃ t, u = Value.str z t from r); subst e; rfl
def rBeside (K : PySem.W.Frag) (C : Addr) (op : Operator) (sp : Sp) : R2 := fun x y H Q => ∃ a dx fs T, x = .ref a ∧ H a = some (.ins C dx fs) ∧ Kind y T ∧ Beside K C op T ∧ sp [x, y] H Q C8.E0
theorem op_beside {op : Operator} (M : C8.Met X.prog X.w X.K X.mg X.base k C (PySem.dunder op.info.2) sp []) (hr : Room j X.A) (hk : k ≤ j) : OpR X (binaryOp op) (rBeside X.K C op sp) := by
  intro pins s σ H x y v u Q I rx ry h
  obtain ⟨a, dx, fs, T, rfl, ha, hT, hB, q⟩ := h
  cases (show v = Value.ref a from rx)
  obtain ⟨_, _, J⟩ := ins_at I ha
  obtain ⟨g, hm, w⟩ := run_two (us := [.ref a, u]) (vs := [.ref a, y]) M hr hk I (.cons rfl (.cons ry .nil)) q
  obtain ⟨m, hF⟩ := I.fr
  obtain ⟨rc, r1, r2⟩ := hB.back
  obtain ⟨fo, f1⟩ := hB.ahead
  obtain ⟨ro, o1⟩ := hB.behind
  exact PySem.W.ksp_binT hF I.ok.mod.kin J (hT.type ry) hB.first hm.at_ hm.fn r1 r2 f1 o1 hB.sub w
def rSign (C : Addr) (sp : Sp) : V → Hp → VK → Prop := fun x H Q => ∃ a dx fs, x = .ref a ∧ H a = some (.ins C dx fs) ∧ sp [x] H Q C8.E0
theorem un_sign (M : C8.Met X.prog X.w X.K X.mg X.base k C "__neg__" sp []) (hr : Room j X.A) (hk : k ≤ j) : UnR X (unaryOp .USub) (rSign C sp) := by
  intro pins s σ H x v Q I rx h
  obtain ⟨a, dx, fs, rfl, ha, q⟩ := h
  cases (show v = Value.ref a from rx)
  obtain ⟨_, _, J⟩ := ins_at I ha
  obtain ⟨g, fd, ps, ds, hC, hm, F, b, d⟩ := M.ex
  obtain ⟨m, hF⟩ := I.fr
  have q' : sp ([V.ref a] ++ []) H Q C8.E0 := q
  exact PySem.W.ksp_neg hF I.ok.mod.kin J hm.at_ hm.fn (run_fn (us := [.ref a]) (vs := [.ref a]) F (hr.mono hk) b d C8.pass0 I (.cons rfl .nil) q')
end
end Lw
namespace Lw.Ow
open PySem PySem.Spec PyProof.Rows PySem.W PySem.Calls

/-! ### own operators, the instance on the right -/
section
variable {prog : Program} {w : World} {A : Around} {E : Value → Shared → Prop} {s : Shared} {K : Frag} {x C f g : Addr} {ox : Obj} {od : Option Obj}
theorem right_bare {op : Operator} {a : Value} {T : String} {Q : Value → Shared → Prop} (X : K.In s.heap) (I : InstAt s.heap x ox C od) (ht : Looks (model prog w) s.heap (typeOf a) (.type T)) (hc : selfFirst K C = true) (hs : findIn K (.ref C) (PySem.dunder op.info.2) = some (some (.ref f))) (hr : findIn K (.ref C) (dunderR op.info.2) = some (some (.ref g)))
    (hg : isFn K (.ref g) = true) (hL : fillsNumberSlot (.type T) op.info.2 = pure false) (h : wpAny (model prog w) A (call (.ref g) [.ref x, a]) (PySem.W.CmpBack Q) E s) : wpAny (model prog w) A (binaryOp op a (.ref x)) Q E s := by
  obtain ⟨cd, rest, hcd, hm⟩ := ksp_first hc
  rcases hi : op.info with ⟨sym, nm⟩
  rw [hi] at hs hr hL
  dsimp only at hs hr hL
  have one := ksp_try X I hr hg h
  obtain ⟨hh, gg, d, tt, os⟩ := s
  have L2 : Looks (model prog w) hh (typeOf (.ref x)) (.ref C) := I.type
  have L3 : Looks (model prog w) hh (fillsNumberSlot (.ref C) nm) true := fills_K X hcd hm hs
  have hne : (Value.type T == Value.ref C) = false := Bool.eq_false_iff.mpr fun q => by cases beq_iff_eq.mp q
  simp only [binaryOp, hi]
  refine wpAny_holding (wpAny_bind ?_)
  unfold binaryOp1
  refine wpAny_bind (ht.at (wpAny_bind (L2.at (wpAny_bind (wpAny_of_eq hL ?_)))))
  simp only [hne, Bool.false_eq_true, if_false]
  refine wpAny_bind (L3.at ?_)
  simp only [Bool.false_and, Bool.false_eq_true, if_false, pure_bind, Bool.not_false, Bool.and_true, if_true]
  refine wpAny_bind (wpAny_mono one (fun r s' hr' => ?_) fun _ _ e => e)
  obtain ⟨v, rfl, hq⟩ := hr'
  exact wpAny_bind (wpAny_rule (wpAny_pure (wpAny_pure hq)))
theorem right_number {op : Operator} {a : Value} {T id : String} {Q : Value → Shared → Prop} (X : K.In s.heap) (I : InstAt s.heap x ox C od) (ht : typeOf a = pure (.type T)) (hT : s.TypeIs a T) (hc : selfFirst K C = true) (hs : findIn K (.ref C) (PySem.dunder op.info.2) = some (some (.ref f))) (hr : findIn K (.ref C) (dunderR op.info.2) = some (some (.ref g)))
    (hg : isFn K (.ref g) = true) (hL : fillsNumberSlot (.type T) op.info.2 = pure true) (hsub : subIn K (.ref C) (.type T) = some false) (sl : Slot T (PySem.dunder op.info.2) id) (hd : ∀ Q' : Value → Shared → Prop, Q' .notImplemented s → wpAny (model prog w) A (call (.builtin id) [a, .ref x]) Q' E s)
    (h : wpAny (model prog w) A (call (.ref g) [.ref x, a]) (PySem.W.CmpBack Q) E s) : wpAny (model prog w) A (binaryOp op a (.ref x)) Q E s := by
  obtain ⟨cd, rest, hcd, hm⟩ := ksp_first hc
  rcases hi : op.info with ⟨sym, nm⟩
  rw [hi] at hs hr hL sl
  dsimp only at hs hr hL sl
  have one := ksp_try X I hr hg h
  have two := wpAny_tryMethod_declines (Q := fun r s' => r = none ∧ s' = s) hT sl (hd _ ⟨rfl, rfl, rfl⟩)
  obtain ⟨hh, gg, d, tt, os⟩ := s
  have L2 : Looks (model prog w) hh (typeOf (.ref x)) (.ref C) := I.type
  have L3 : Looks (model prog w) hh (fillsNumberSlot (.ref C) nm) true := fills_K X hcd hm hs
  have L4 : Looks (model prog w) hh (isSubtype (.ref C) (.type T)) false := looks_subIn X hsub
  have hpy : numberSlotInPython (.type T) nm = pure false := rfl
  have hne : (Value.type T == Value.ref C) = false := Bool.eq_false_iff.mpr fun q => by cases beq_iff_eq.mp q
  simp only [binaryOp, hi]
  refine wpAny_holding (wpAny_bind ?_)
  unfold binaryOp1
  refine wpAny_bind (wpAny_of_eq ht (wpAny_bind (L2.at (wpAny_bind (wpAny_of_eq hL ?_)))))
  simp only [hne, Bool.false_eq_true, if_false]
  refine wpAny_bind (L3.at ?_)
  simp only [Bool.and_self, if_true]
  refine wpAny_bind (L4.at ?_)
  simp only [Bool.false_eq_true, if_false, pure_bind, Bool.not_false, Bool.and_self, if_true, hpy]
  refine wpAny_bind (wpAny_mono two (fun r s' z => ?_) fun _ _ e => e)
  obtain ⟨rfl, rfl⟩ := z
  refine wpAny_bind (wpAny_mono one (fun r s' hr' => ?_) fun _ _ e => e)
  obtain ⟨v, rfl, hq⟩ := hr'
  exact wpAny_bind (wpAny_rule (wpAny_pure (wpAny_pure hq)))
end
end Lw.Ow
namespace Lw.Ow
open PySem PySem.Spec PyProof.Rows

section
variable {prog : Program} {w : World} {A : Around} {E : Value → Shared → Prop} {s : Shared}
theorem binary_no {nm : String} {f : Int → Int → Sem Fin} {i : Int} {t : Tok} {x : Addr} {o : Obj} {Q : Value → Shared → Prop} (ho : s.heap.get? x = some o) (hp : o.data = .plain) (h : Q .notImplemented s) :
    wpAny (model prog w) A (Builtin.Int.intBinary nm f false ⟨[.int i t, .ref x], []⟩) (fun fin s' => ∃ v, fin = .done (.ret v) ∧ Q v s') E s := by
  unfold Builtin.Int.intBinary
  refine wpAny_bind (wpAny_of_eq (a := (Value.int i t, [Value.ref x])) rfl ?_)
  refine wpAny_bind (wpAny_of_eq (a := i) rfl ?_)
  refine wpAny_bind ?_
  show wpAny _ _ (load x >>= fun ob => match ob.data with | .prim (.int i _) => pure (some i) | _ => pure none) _ _ _
  refine wpAny_bind (wpAny_load ho ?_)
  rw [hp]
  exact wpAny_pure (wpAny_bind (wpAny_rule (wpAny_pure ⟨_, rfl, h⟩)))
theorem no_add {i : Int} {t : Tok} {x : Addr} {o : Obj} {Q : Value → Shared → Prop} (ho : s.heap.get? x = some o) (hp : o.data = .plain) (h : Q .notImplemented s) : wpAny (model prog w) A (call (.builtin "int.__add__") [.int i t, .ref x]) Q E s :=
  wpAny_call_entry F.slot_int_add (typeIs_int s i t) F.entry_int_add (binary_no ho hp h) (F.args_int_add_2 _ _)
theorem no_sub {i : Int} {t : Tok} {x : Addr} {o : Obj} {Q : Value → Shared → Prop} (ho : s.heap.get? x = some o) (hp : o.data = .plain) (h : Q .notImplemented s) : wpAny (model prog w) A (call (.builtin "int.__sub__") [.int i t, .ref x]) Q E s :=
  wpAny_call_entry F.slot_int_sub (typeIs_int s i t) F.entry_int_sub (binary_no ho hp h) (F.args_int_sub_2 _ _)
theorem no_mul {i : Int} {t : Tok} {x : Addr} {o : Obj} {Q : Value → Shared → Prop} (ho : s.heap.get? x = some o) (hp : o.data = .plain) (h : Q .notImplemented s) : wpAny (model prog w) A (call (.builtin "int.__mul__") [.int i t, .ref x]) Q E s :=
  wpAny_call_entry F.slot_int_mul (typeIs_int s i t) F.entry_int_mul (binary_no ho hp h) (F.args_int_mul_2 _ _)
theorem no_mod {i : Int} {t : Tok} {x : Addr} {o : Obj} {Q : Value → Shared → Prop} (ho : s.heap.get? x = some o) (hp : o.data = .plain) (h : Q .notImplemented s) : wpAny (model prog w) A (call (.builtin "int.__mod__") [.int i t, .ref x]) Q E s :=
  wpAny_call_entry F.slot_int_mod (typeIs_int s i t) F.entry_int_mod (binary_no ho hp h) (F.args_int_mod_2 _ _)
theorem no_floordiv {i : Int} {t : Tok} {x : Addr} {o : Obj} {Q : Value → Shared → Prop} (ho : s.heap.get? x = some o) (hp : o.data = .plain) (h : Q .notImplemented s) : wpAny (model prog w) A (call (.builtin "int.__floordiv__") [.int i t, .ref x]) Q E s := by
  refine wpAny_call_entry F.slot_int_floordiv (typeIs_int s i t) F.entry_int_floordiv ?_ (F.args_int_floordiv_2 _ _)
  unfold Builtin.«int.__floordiv__»
  refine wpAny_bind ?_
  unfold Builtin.exactOperandsForPylong
  rw [if_pos (by rfl)]
  dsimp only
  refine wpAny_bind (wpAny_of_eq (a := some i) rfl ?_)
  refine wpAny_bind ?_
  show wpAny _ _ (load x >>= fun ob => match ob.data with | .prim (.int i _) => pure (some i) | _ => pure none) _ _ _
  refine wpAny_bind (wpAny_load ho ?_)
  rw [hp]
  exact wpAny_pure (wpAny_pure (binary_no ho hp h))
end

end Lw.Ow
namespace Lw
open PySem PySem.Spec PyProof.Rows L2
section
variable {X : Cx} {C f : Addr} {k j : Nat} {sp : Sp}
def rRight (C : Addr) (P : V → Prop) (sp : Sp) : R2 := fun x y H Q => ∃ a dx fs, P x ∧ y = .ref a ∧ H a = some (.ins C dx fs) ∧ sp [y, x] H Q C8.E0
theorem ins_plain {pins : List (Addr × Obj)} {σ : L2.St} {H : Hp} {s : Shared} {a dx : Addr} {fs : List (Str × V)} (I : Inv X pins σ H s) (h : H a = some (.ins C dx fs)) : ∃ ox od, PySem.W.InstAt s.heap a ox C (some od) ∧ s.heap.get? a = some ox ∧ ox.data = .plain := by
  obtain ⟨mA, O, _⟩ := ins_get I.hok h
  obtain ⟨od, J, _⟩ := O.look
  exact ⟨_, od, J, J.at_, rfl⟩
/-- an int beside an instance on the right -/
theorem op_rightI {op : Operator} {id : String} (M : C8.Met X.prog X.w X.K X.mg X.base k C (dunderR op.info.2) sp []) (hc : PySem.W.selfFirst X.K C = true) (hs : PySem.W.findIn X.K (.ref C) (PySem.dunder op.info.2) = some (some (.ref f))) (hL : fillsNumberSlot (.type "int") op.info.2 = pure true)
    (hsub : PySem.W.subIn X.K (.ref C) (.type "int") = some false) (sl : Slot "int" (PySem.dunder op.info.2) id) (hd : ∀ {A : Around} {E : Value → Shared → Prop} {s : Shared} {i : Int} {t : Tok} {x : Addr} {o : Obj} {Q' : Value → Shared → Prop}, s.heap.get? x = some o → o.data = .plain → Q' .notImplemented s → wpAny (model X.prog X.w) A (call (.builtin id) [.int i t, .ref x]) Q' E s)
    (hr : Room j X.A) (hk : k ≤ j) : OpR X (binaryOp op) (rRight C (fun x => ∃ i, x = .int i) sp) := by
  intro pins s σ H x y v u Q I rx ry h
  obtain ⟨a, dx, fs, ⟨i, rfl⟩, rfl, ha, q⟩ := h
  cases (show u = Value.ref a from ry)
  obtain ⟨t, rfl⟩ := (show ∃ t, v = Value.int i t from rx)
  obtain ⟨ox, od, J, hx, hp⟩ := ins_plain I ha
  obtain ⟨g, hm, w⟩ := run_two (us := [.ref a, .int i t]) (vs := [.ref a, .int i]) M hr hk I (.cons rfl (.cons ⟨t, rfl⟩ .nil)) q
  exact Ow.right_number I.kIn J rfl (typeIs_int s i t) hc hs hm.at_ hm.fn hL hsub sl (fun Q' z => hd hx hp z) w
/-- a value whose type has no number slot for the operator -/
theorem op_rightB {op : Operator} {T : String} (M : C8.Met X.prog X.w X.K X.mg X.base k C (dunderR op.info.2) sp []) (hc : PySem.W.selfFirst X.K C = true) (hs : PySem.W.findIn X.K (.ref C) (PySem.dunder op.info.2) = some (some (.ref f))) (hL : fillsNumberSlot (.type T) op.info.2 = pure false)
    (hr : Room j X.A) (hk : k ≤ j) : OpR X (binaryOp op) (rRight C (fun x => Kind x T) sp) := by
  intro pins s σ H x y v u Q I rx ry h
  obtain ⟨a, dx, fs, hT, rfl, ha, q⟩ := h
  cases (show u = Value.ref a from ry)
  obtain ⟨ox, od, J, hx, hp⟩ := ins_plain I ha
  obtain ⟨g, hm, w⟩ := run_two (us := [.ref a, v]) (vs := [.ref a, x]) M hr hk I (.cons rfl (.cons rx .nil)) q
  exact Ow.right_bare I.kIn J (PySem.W.Looks.of_pure (hT.type rx)) hc hs hm.at_ hm.fn hL w
end
end Lw
namespace Lw.Ow
open PySem PySem.Spec PyProof.Rows PySem.W PySem.Calls

/-! ### x op= y of instances whose class has no operator of that kind -/
section
variable {prog : Program} {w : World} {A : Around} {E : Value → Shared → Prop} {s : Shared} {K : Frag} {x C f g : Addr} {ox : Obj} {od : Option Obj}
/-- the operator's first half tells a value -/
def Told (Q : Value → Shared → Prop) (r : Option Value) (s' : Shared) : Prop := ∃ v, r = some v ∧ Q v s'
theorem half_same {nm : String} {b : Value} {Q : Value → Shared → Prop} (X : K.In s.heap) (I : InstAt s.heap x ox C od) (hb : Looks (model prog w) s.heap (typeOf b) (.ref C)) (hc : selfFirst K C = true) (hs : findIn K (.ref C) (PySem.dunder nm) = some (some (.ref f))) (hf : isFn K (.ref f) = true)
    (h : wpAny (model prog w) A (call (.ref f) [.ref x, b]) (PySem.W.CmpBack Q) E s) : wpAny (model prog w) A (binaryOp1 nm (.ref x) b) (Told Q) E s := by
  obtain ⟨cd, rest, hcd, hm⟩ := ksp_first hc
  have one := ksp_try X I hs hf h
  obtain ⟨hh, gg, d, tt, os⟩ := s
  have L1 : Looks (model prog w) hh (typeOf (.ref x)) (.ref C) := I.type
  have L2 : Looks (model prog w) hh (typeOf b) (.ref C) := hb
  have L3 : Looks (model prog w) hh (fillsNumberSlot (.ref C) nm) true := fills_K X hcd hm hs
  unfold binaryOp1
  refine wpAny_bind (L1.at (wpAny_bind (L2.at (wpAny_bind (L3.at ?_)))))
  simp only [beq_self_eq_true, if_true]
  refine wpAny_bind (wpAny_pure ?_)
  simp only [Bool.and_false, Bool.false_and, Bool.false_eq_true, if_false, if_true, pure_bind]
  refine wpAny_bind (wpAny_mono one (fun r s' z => ?_) fun _ _ e => e)
  obtain ⟨v, rfl, hq⟩ := z
  exact wpAny_pure ⟨v, rfl, hq⟩
/-- no class above has the operator of that kind -/
theorem bare_inplace {nm : String} {add : Bool} {cd : ClassData} {h : Heap} {M : Model} (X : K.In h) (hc : clsIn K C = some cd) (hm : cd.mro = [.ref C, .type "object"]) (h1 : findIn K (.ref C) (dunderI nm) = some none) (h2 : findIn K (.type "object") (dunderI nm) = some none) : Looks M h (fillsInplaceSlot (.ref C) nm add) false := by
  intro A Q E s k q
  have Lm : Looks M h (mroOf (.ref C)) cd.mro := (looks_clsIn X hc).andThen (f := fun cd => pure cd.mro) .now
  have Lm2 := Lm.keeps k
  obtain ⟨hh, gg, d, tt, os⟩ := s
  have X2 : K.In hh := X.keeps k
  have L1 : Looks M hh (typeLookup (.ref C) (dunderI nm)) none := looks_findIn X2 h1
  have L2 : Looks M hh (typeLookup (.type "object") (dunderI nm)) none := looks_findIn X2 h2
  unfold fillsInplaceSlot
  refine wpAny_bind (Lm2.at ?_)
  rw [hm, List.anyM_cons]
  refine wpAny_bind (wpAny_bind (L1.at ?_))
  refine wpAny_pure ?_
  rw [List.anyM_cons]
  refine wpAny_bind (wpAny_bind (L2.at ?_))
  refine wpAny_pure ?_
  rw [List.anyM_nil]
  exact wpAny_pure q
theorem inplace_of {op : Operator} {b : Value} {cd : ClassData} {Q : Value → Shared → Prop} (X : K.In s.heap) (I : InstAt s.heap x ox C od) (hc : clsIn K C = some cd) (hm : cd.mro = [.ref C, .type "object"]) (h1 : findIn K (.ref C) (dunderI op.info.2) = some none) (h2 : findIn K (.type "object") (dunderI op.info.2) = some none)
    (h : wpAny (model prog w) A (binaryOp1 op.info.2 (.ref x) b) (Told Q) E s) : wpAny (model prog w) A (inplaceOp op (.ref x) b) Q E s := by
  have L1 : Looks (model prog w) s.heap (typeOf (.ref x)) (.ref C) := I.type
  have L2 : Looks (model prog w) s.heap (fillsInplaceSlot (.ref C) op.info.2 (op == .Add)) false := bare_inplace X hc hm h1 h2
  unfold inplaceOp
  refine wpAny_holding ?_
  refine wpAny_bind (L1.here (wpAny_bind (L2.here ?_)))
  simp only [Bool.false_eq_true, if_false, pure_bind]
  refine wpAny_bind (wpAny_mono h (fun r s' z => ?_) fun _ _ e => e)
  obtain ⟨v, rfl, hq⟩ := z
  exact wpAny_pure hq
end
end Lw.Ow
namespace Lw.Ow
open PySem PySem.Spec PyProof.Rows PySem.W PySem.Calls

section
variable {prog : Program} {w : World} {A : Around} {E : Value → Shared → Prop} {s : Shared} {K : Frag} {x C f g : Addr} {ox : Obj} {od : Option Obj}
theorem half_left {nm : String} {b : Value} {T : String} {fo ro rc : Option Value} {Q : Value → Shared → Prop} (X : K.In s.heap) (I : InstAt s.heap x ox C od) (hb : Looks (model prog w) s.heap (typeOf b) (.type T)) (hc : selfFirst K C = true) (hs : findIn K (.ref C) (PySem.dunder nm) = some (some (.ref f))) (hf : isFn K (.ref f) = true)
    (hr : findIn K (.ref C) (dunderR nm) = some rc) (hp : rc = none ∨ ∃ g : Addr, rc = some (.ref g)) (h1 : findIn K (.type T) (PySem.dunder nm) = some fo) (h2 : findIn K (.type T) (dunderR nm) = some ro) (hsub : subIn K (.type T) (.ref C) = some false)
    (h : wpAny (model prog w) A (call (.ref f) [.ref x, b]) (PySem.W.CmpBack Q) E s) : wpAny (model prog w) A (binaryOp1 nm (.ref x) b) (Told Q) E s := by
  obtain ⟨cd, rest, hcd, hm⟩ := ksp_first hc
  have one := ksp_try X I hs hf h
  obtain ⟨hh, gg, d, tt, os⟩ := s
  have L1 : Looks (model prog w) hh (typeOf (.ref x)) (.ref C) := I.type
  have L3 : Looks (model prog w) hh (fillsNumberSlot (.ref C) nm) true := fills_K X hcd hm hs
  have L4 : Looks (model prog w) hh (fillsNumberSlot (.type T) nm) ((fo.isSome && !isSeqSlot fo) || (ro.isSome && !isSeqSlot ro)) := ksp_fillsT X h1 h2
  have L5 : Looks (model prog w) hh (isSubtype (.type T) (.ref C)) false := looks_subIn X hsub
  have L6 : Looks (model prog w) hh (numberSlotInPython (.ref C) nm) true := ksp_inPy X hs hr hp
  have L7 : Looks (model prog w) hh (numberSlotInPython (.type T) nm) false := Looks.of_pure rfl
  have L8 : Looks (model prog w) hh (typeLookup (.type T) (dunderR nm)) ro := looks_findIn X h2
  have hne : (Value.ref C == Value.type T) = false := Bool.eq_false_iff.mpr fun q => by cases beq_iff_eq.mp q
  have done : ∀ {r : Option Value} {s' : Shared}, (∃ v, r = some v ∧ Q v s') → ∃ v, r = some v ∧ Told Q r s' := fun ⟨v, e, q⟩ => ⟨v, e, v, e, q⟩
  generalize ((fo.isSome && !isSeqSlot fo) || (ro.isSome && !isSeqSlot ro)) = right at L4
  unfold binaryOp1
  refine wpAny_bind (L1.at (wpAny_bind (hb.at (wpAny_bind (L3.at ?_)))))
  simp only [hne, Bool.false_eq_true, if_false]
  refine wpAny_bind (L4.at ?_)
  cases right with
  | false =>
    simp only [Bool.and_false, Bool.false_and, Bool.false_eq_true, if_false, if_true, pure_bind]
    refine wpAny_bind (wpAny_mono one (fun r s' z => ?_) fun _ _ e => e)
    obtain ⟨v, rfl, hq⟩ := z
    exact wpAny_pure ⟨v, rfl, hq⟩
  | true =>
    simp only [Bool.and_self, if_true]
    refine wpAny_bind (L5.at ?_)
    simp only [Bool.false_eq_true, if_false, if_true, Bool.not_false, Bool.and_self]
    refine wpAny_bind (L6.at ?_)
    simp only [if_true]
    refine wpAny_bind (L7.at ?_)
    simp only [Bool.not_false, if_true]
    refine wpAny_bind (L8.at ?_)
    refine wpAny_bind (wpAny_mono one (fun r s' z => ?_) fun _ _ e => e)
    obtain ⟨v, rfl, hq⟩ := z
    exact wpAny_pure ⟨v, rfl, hq⟩
theorem half_number {nm : String} {a : Value} {T id : String} {Q : Value → Shared → Prop} (X : K.In s.heap) (I : InstAt s.heap x ox C od) (ht : typeOf a = pure (.type T)) (hT : s.TypeIs a T) (hc : selfFirst K C = true) (hs : findIn K (.ref C) (PySem.dunder nm) = some (some (.ref f))) (hr : findIn K (.ref C) (dunderR nm) = some (some (.ref g)))
    (hg : isFn K (.ref g) = true) (hL : fillsNumberSlot (.type T) nm = pure true) (hsub : subIn K (.ref C) (.type T) = some false) (sl : Slot T (PySem.dunder nm) id) (hd : ∀ Q' : Value → Shared → Prop, Q' .notImplemented s → wpAny (model prog w) A (call (.builtin id) [a, .ref x]) Q' E s)
    (h : wpAny (model prog w) A (call (.ref g) [.ref x, a]) (PySem.W.CmpBack Q) E s) : wpAny (model prog w) A (binaryOp1 nm a (.ref x)) (Told Q) E s := by
  obtain ⟨cd, rest, hcd, hm⟩ := ksp_first hc
  have one := ksp_try X I hr hg h
  have two := wpAny_tryMethod_declines (Q := fun r s' => r = none ∧ s' = s) hT sl (hd _ ⟨rfl, rfl, rfl⟩)
  obtain ⟨hh, gg, d, tt, os⟩ := s
  have L2 : Looks (model prog w) hh (typeOf (.ref x)) (.ref C) := I.type
  have L3 : Looks (model prog w) hh (fillsNumberSlot (.ref C) nm) true := fills_K X hcd hm hs
  have L4 : Looks (model prog w) hh (isSubtype (.ref C) (.type T)) false := looks_subIn X hsub
  have hpy : numberSlotInPython (.type T) nm = pure false := rfl
  have hne : (Value.type T == Value.ref C) = false := Bool.eq_false_iff.mpr fun q => by cases beq_iff_eq.mp q
  unfold binaryOp1
  refine wpAny_bind (wpAny_of_eq ht (wpAny_bind (L2.at (wpAny_bind (wpAny_of_eq hL ?_)))))
  simp only [hne, Bool.false_eq_true, if_false]
  refine wpAny_bind (L3.at ?_)
  simp only [Bool.and_self, if_true]
  refine wpAny_bind (L4.at ?_)
  simp only [Bool.false_eq_true, if_false, pure_bind, Bool.not_false, Bool.and_self, if_true, hpy]
  refine wpAny_bind (wpAny_mono two (fun r s' z => ?_) fun _ _ e => e)
  obtain ⟨rfl, rfl⟩ := z
  refine wpAny_bind (wpAny_mono one (fun r s' z => ?_) fun _ _ e => e)
  obtain ⟨v, rfl, hq⟩ := z
  exact wpAny_bind (wpAny_rule (wpAny_pure ⟨v, rfl, hq⟩))
end
end Lw.Ow
namespace Lw
open PySem PySem.Spec PyProof.Rows L2

/-- a class right below object that has no operator of the kind op= -/
structure NoInplace (K : PySem.W.Frag) (C : Addr) (op : Operator) : Prop where
  mro : ∃ cd, PySem.W.clsIn K C = some cd ∧ cd.mro = [.ref C, .type "object"]
  own : PySem.W.findIn K (.ref C) (dunderI op.info.2) = some none
  obj : PySem.W.findIn K (.type "object") (dunderI op.info.2) = some none
section
variable {X : Cx} {C f : Addr} {k j : Nat} {sp : Sp}
theorem iop_same {op : Operator} (M : C8.Met X.prog X.w X.K X.mg X.base k C (PySem.dunder op.info.2) sp []) (hc : PySem.W.selfFirst X.K C = true) (ni : NoInplace X.K C op) (hr : Room j X.A) (hk : k ≤ j) : OpR X (inplaceOp op) (rSame C sp) := by
  intro pins s σ H x y v u Q I rx ry h
  obtain ⟨a, dx, fs, b, dy, gs, rfl, rfl, ha, hb, q⟩ := h
  cases (show v = Value.ref a from rx)
  cases (show u = Value.ref b from ry)
  obtain ⟨_, _, J⟩ := ins_at I ha
  obtain ⟨_, _, J'⟩ := ins_at I hb
  obtain ⟨g, hm, w⟩ := run_two (us := [.ref a, .ref b]) (vs := [.ref a, .ref b]) M hr hk I (.cons rfl (.cons rfl .nil)) q
  obtain ⟨cd, h1, h2⟩ := ni.mro
  exact Ow.inplace_of I.kIn J h1 h2 ni.own ni.obj (Ow.half_same I.kIn J J'.type hc hm.at_ hm.fn w)
theorem iop_beside {op : Operator} (M : C8.Met X.prog X.w X.K X.mg X.base k C (PySem.dunder op.info.2) sp []) (ni : NoInplace X.K C op) (hr : Room j X.A) (hk : k ≤ j) : OpR X (inplaceOp op) (rBeside X.K C op sp) := by
  intro pins s σ H x y v u Q I rx ry h
  obtain ⟨a, dx, fs, T, rfl, ha, hT, hB, q⟩ := h
  cases (show v = Value.ref a from rx)
  obtain ⟨_, _, J⟩ := ins_at I ha
  obtain ⟨g, hm, w⟩ := run_two (us := [.ref a, u]) (vs := [.ref a, y]) M hr hk I (.cons rfl (.cons ry .nil)) q
  obtain ⟨cd, h1, h2⟩ := ni.mro
  obtain ⟨rc, r1, r2⟩ := hB.back
  obtain ⟨fo, f1⟩ := hB.ahead
  obtain ⟨ro, o1⟩ := hB.behind
  exact Ow.inplace_of I.kIn J h1 h2 ni.own ni.obj (Ow.half_left I.kIn J (PySem.W.Looks.of_pure (hT.type ry)) hB.first hm.at_ hm.fn r1 r2 f1 o1 hB.sub w)
/-- i op= x, i an int, x an instance -/
theorem iop_rightI {op : Operator} {id : String} (M : C8.Met X.prog X.w X.K X.mg X.base k C (dunderR op.info.2) sp []) (hc : PySem.W.selfFirst X.K C = true) (hs : PySem.W.findIn X.K (.ref C) (PySem.dunder op.info.2) = some (some (.ref f))) (hL : fillsNumberSlot (.type "int") op.info.2 = pure true) (hI : fillsInplaceSlot (.type "int") op.info.2 (op == .Add) = pure false)
    (hsub : PySem.W.subIn X.K (.ref C) (.type "int") = some false) (sl : Slot "int" (PySem.dunder op.info.2) id) (hd : ∀ {A : Around} {E : Value → Shared → Prop} {s : Shared} {i : Int} {t : Tok} {x : Addr} {o : Obj} {Q' : Value → Shared → Prop}, s.heap.get? x = some o → o.data = .plain → Q' .notImplemented s → wpAny (model X.prog X.w) A (call (.builtin id) [.int i t, .ref x]) Q' E s)
    (hr : Room j X.A) (hk : k ≤ j) : OpR X (inplaceOp op) (rRight C (fun x => ∃ i, x = .int i) sp) := by
  intro pins s σ H x y v u Q I rx ry h
  obtain ⟨a, dx, fs, ⟨i, rfl⟩, rfl, ha, q⟩ := h
  cases (show u = Value.ref a from ry)
  obtain ⟨t, rfl⟩ := (show ∃ t, v = Value.int i t from rx)
  obtain ⟨ox, od, J, hx, hp⟩ := ins_plain I ha
  obtain ⟨g, hm, w⟩ := run_two (us := [.ref a, .int i t]) (vs := [.ref a, .int i]) M hr hk I (.cons rfl (.cons ⟨t, rfl⟩ .nil)) q
  have half := Ow.half_number I.kIn J rfl (typeIs_int s i t) hc hs hm.at_ hm.fn hL hsub sl (fun Q' z => hd hx hp z) w
  unfold inplaceOp
  refine wpAny_holding ?_
  refine wpAny_bind (wpAny_of_eq (a := Value.type "int") rfl (wpAny_bind (wpAny_of_eq hI ?_)))
  simp only [Bool.false_eq_true, if_false, pure_bind]
  refine wpAny_bind (wpAny_mono half (fun r s' z => ?_) fun _ _ e => e)
  obtain ⟨v, rfl, hq⟩ := z
  exact wpAny_pure hq
theorem int_no_inplace : fillsInplaceSlot (.type "int") "add" true = pure false ∧ fillsInplaceSlot (.type "int") "sub" false = pure false ∧ fillsInplaceSlot (.type "int") "mul" false = pure false := by
  refine ⟨?_, ?_, ?_⟩ <;> · simp only [fillsInplaceSlot, typeLookup_type]; rfl
end
end Lw
namespace Lw
open PySem PySem.Spec PyProof.Rows L2

/-! ### the same operators, their methods may raise -/
/-- a method of the class that may raise what E tells -/
structure MetX (P : Program) (w : World) (K : PySem.W.Frag) (mg : Str → Option Value) (base : Heap) (k : Nat) (C : Addr) (m : Str) (sp : Sp) : Prop where
  ex : ∃ (g : Addr) (fd : FuncData) (ps : List Str), Meth K C m g ∧ FnOk P w K mg base (L2.CX P w) k g fd ps sp ∧ Binds K fd ps []
section
variable {X : Cx} {C f : Addr} {k j : Nat} {sp : Sp} {E : XK} {pins : List (Addr × Obj)} {σ : L2.St} {H : Hp} {s : Shared}
theorem run_met {m : Str} {us : List Value} {vs : List V} {Q : VK} (M : MetX X.prog X.w X.K X.mg X.base k C m sp) (hx : Passes (L2.CX X.prog X.w) X E) (hr : Room j X.A) (hk : k ≤ j) (I : Inv X pins σ H s) (r : Vals vs us) (q : sp vs H Q E) :
    ∃ g : Addr, Meth X.K C m g ∧ wpAny (model X.prog X.w) X.A (call (.ref g) us) (PySem.W.CmpBack (EP X pins σ Q)) X.xe s ∧ wpAny (model X.prog X.w) X.A (call (.ref g) us) (EP X pins σ Q) X.xe s := by
  obtain ⟨g, fd, ps, hm, F, b⟩ := M.ex
  have q' : sp (vs ++ []) H Q E := by rw [List.append_nil]; exact q
  have ran := run_fn F (hr.mono hk) b .nil hx I r q'
  refine ⟨g, hm, wpAny_mono ran (fun w s' z => ?_) (fun _ _ x => x), ran⟩
  obtain ⟨z', H', I', rz, qz⟩ := z
  exact SlX.cmpback rz ⟨z', H', I', rz, qz⟩
def rSameX (C : Addr) (sp : Sp) (E : XK) : R2 := fun x y H Q => ∃ a dx fs b dy gs, x = .ref a ∧ y = .ref b ∧ H a = some (.ins C dx fs) ∧ H b = some (.ins C dy gs) ∧ sp [x, y] H Q E
theorem op_sameX {op : Operator} (M : MetX X.prog X.w X.K X.mg X.base k C (PySem.dunder op.info.2) sp) (hx : Passes (L2.CX X.prog X.w) X E) (hc : PySem.W.selfFirst X.K C = true) (hr : Room j X.A) (hk : k ≤ j) : OpR X (binaryOp op) (rSameX C sp E) := by
  intro pins s σ H x y v u Q I rx ry h
  obtain ⟨a, dx, fs, b, dy, gs, rfl, rfl, ha, hb, q⟩ := h
  cases (show v = Value.ref a from rx)
  cases (show u = Value.ref b from ry)
  obtain ⟨_, _, J⟩ := ins_at I ha
  obtain ⟨_, _, J'⟩ := ins_at I hb
  obtain ⟨g, hm, w, _⟩ := run_met (us := [.ref a, .ref b]) (vs := [.ref a, .ref b]) M hx hr hk I (.cons rfl (.cons rfl .nil)) q
  obtain ⟨m, hF⟩ := I.fr
  exact PySem.W.binop_K hF I.ok.mod.kin J J'.type hc hm.at_ hm.fn w
def rBesideX (K : PySem.W.Frag) (C : Addr) (op : Operator) (sp : Sp) (E : XK) : R2 := fun x y H Q => ∃ a dx fs T, x = .ref a ∧ H a = some (.ins C dx fs) ∧ Kind y T ∧ Beside K C op T ∧ sp [x, y] H Q E
theorem op_besideX {op : Operator} (M : MetX X.prog X.w X.K X.mg X.base k C (PySem.dunder op.info.2) sp) (hx : Passes (L2.CX X.prog X.w) X E) (hr : Room j X.A) (hk : k ≤ j) : OpR X (binaryOp op) (rBesideX X.K C op sp E) := by
  intro pins s σ H x y v u Q I rx ry h
  obtain ⟨a, dx, fs, T, rfl, ha, hT, hB, q⟩ := h
  cases (show v = Value.ref a from rx)
  obtain ⟨_, _, J⟩ := ins_at I ha
  obtain ⟨g, hm, w, _⟩ := run_met (us := [.ref a, u]) (vs := [.ref a, y]) M hx hr hk I (.cons rfl (.cons ry .nil)) q
  obtain ⟨m, hF⟩ := I.fr
  obtain ⟨rc, r1, r2⟩ := hB.back
  obtain ⟨fo, f1⟩ := hB.ahead
  obtain ⟨ro, o1⟩ := hB.behind
  exact PySem.W.ksp_binT hF I.ok.mod.kin J (hT.type ry) hB.first hm.at_ hm.fn r1 r2 f1 o1 hB.sub w
def rSignX (C : Addr) (sp : Sp) (E : XK) : V → Hp → VK → Prop := fun x H Q => ∃ a dx fs, x = .ref a ∧ H a = some (.ins C dx fs) ∧ sp [x] H Q E
theorem un_signX (M : MetX X.prog X.w X.K X.mg X.base k C "__neg__" sp) (hx : Passes (L2.CX X.prog X.w) X E) (hr : Room j X.A) (hk : k ≤ j) : UnR X (unaryOp .USub) (rSignX C sp E) := by
  intro pins s σ H x v Q I rx h
  obtain ⟨a, dx, fs, rfl, ha, q⟩ := h
  cases (show v = Value.ref a from rx)
  obtain ⟨_, _, J⟩ := ins_at I ha
  obtain ⟨g, hm, _, w⟩ := run_met (us := [.ref a]) (vs := [.ref a]) M hx hr hk I (.cons rfl .nil) q
  obtain ⟨m, hF⟩ := I.fr
  exact PySem.W.ksp_neg hF I.ok.mod.kin J hm.at_ hm.fn w
end
end Lw
namespace Lw
open PySem PySem.Spec PyProof.Rows L2
open LamX
section
variable {X : Cx} {C f : Addr} {k j : Nat} {sp : Sp} {E : XK} {pins : List (Addr × Obj)} {σ : L2.St} {H : Hp} {s : Shared}
theorem run_metA {A : Around} {m : Str} {us : List Value} {vs : List V} {Q : VK} (M : MetX X.prog X.w X.K X.mg X.base k C m sp) (hx : Passes (L2.CX X.prog X.w) X E) (hr : Room k A) (e0 : Env0 X.prog X.w X.K X.mg X.base A X.stack s H) (I : Inv X pins σ H s) (r : Vals vs us) (q : sp vs H Q E) :
    ∃ g : Addr, Meth X.K C m g ∧ wpAny (model X.prog X.w) A (call (.ref g) us) (EP X pins σ Q) X.xe s := by
  obtain ⟨g, fd, ps, hm, F, b⟩ := M.ex
  have l : us.length = ps.length := r.length.symm.trans (F.len _ _ _ _ q)
  have b' := b s us I.kIn (by rw [List.append_nil]; exact l)
  rw [List.append_nil] at b'
  refine ⟨g, hm, wpAny_call (codeAny_mono (F.run A X.stack s H ⟨us, []⟩ us vs Q E hr e0 b' r q) fun r s' hq => ?_)⟩
  cases r with
  | error e => exact hx pins σ H s e s' I hq
  | ok fl =>
    cases fl with
    | ret u => exact I.after hq
    | next => exact False.elim hq
    | brk => exact False.elim hq
    | cont => exact False.elim hq
end
end Lw
namespace Lw.Ow
open PySem PySem.Spec PyProof.Rows PySem.W PySem.Calls
theorem sl_obj_ne : Slot "object" "__ne__" "object.__ne__" :=
  .of (owner := "object") (n := "__ne__") (by rw [typeLookup_type, builtinLookup_eq_fast]; kernel_rfl) (by decide +kernel) (by decide +kernel) (by decide +kernel)
    (by first | exact .inl (by decide +kernel) | exact .inr (by decide +kernel)) (by rw [isSubtype_type]; kernel_rfl)
section
variable {prog : Program} {w : World} {A : Around} {E : Value → Shared → Prop} {s : Shared} {K : Frag} {x C f : Addr} {ox : Obj} {od : Option Obj}
theorem ifBound_S {M : Model} {name : Str} {id : String} {args : List Value} {Q : Option Value → Shared → Prop} (X : K.In s.heap) (I : InstAt s.heap x ox C od) (hs : findIn K (.ref C) name = some (some (.builtin id))) (hb : ∀ self, bindSpecial (.builtin id) self = pure (.builtin id, [self]))
    (h : wpAny M A (call (.builtin id) (.ref x :: args)) (fun v => Q (some v)) E s) : wpAny M A (callSpecialIfBound? (.ref x) name args) Q E s := by
  simp only [callSpecialIfBound?, bindSpecialIfBound?]
  refine wpAny_holding (wpAny_bind (wpAny_bind (wpAny_bind (I.type.here ((looks_findIn X hs).here ?_)))))
  refine wpAny_bind (wpAny_askSetting (wpAny_ite ?_))
  have fin : wpAny M A (call (.builtin id) ([.ref x] ++ args) >>= fun v => pure (some v)) Q E s := wpAny_bind (wpAny_mono h (fun v s' h' => wpAny_pure h') fun _ _ h' => h')
  split
  · exact wpAny_bind ((Looks.of_pure (hb _)).here (wpAny_pure (by exact fin)))
  · exact wpAny_tryCatch (wpAny_bind ((Looks.of_pure (hb _)).here (wpAny_pure (by exact fin))))
theorem try_ne {b : Value} {Q : Value → Shared → Prop} (hu : A.in1.units < cLine) (X : K.In s.heap) (I : InstAt s.heap x ox C od) (hm : mroIn K C (.type "object") = some true) (hn : findIn K (.ref C) "__ne__" = some (some (.builtin "object.__ne__"))) (he : findIn K (.ref C) "__eq__" = some (some (.ref f))) (hf : isFn K (.ref f) = true)
    (h : wpAny (model prog w) A.in1 (call (.ref f) [.ref x, b]) (fun v s' => ∃ c, v = .bool c ∧ Q (.bool (!c)) s') E s) : wpAny (model prog w) A (tryCompare (.ref x) "__ne__" b) (fun r s' => ∃ v, r = some v ∧ Q v s') E s := by
  unfold tryCompare
  refine wpAny_bind (ifBound_S X I hn sl_obj_ne.bind (wpAny_call (codeAny_call_builtin sl_obj_ne.plain F.cmpEntry_ne (check_slot (i := "object.__ne__") (owner := "object") (n := "__ne__") F.cmpKind_ne F.cmpSplit_ne (I.type.andThen (looks_mroIn X hm)) (F.cmpArgs_ne _ _) ?_))))
  unfold Builtin.«object.__ne__»
  refine wpAny_bind (wpAny_of_eq (a := (Value.ref x, [b])) rfl ?_)
  refine wpAny_bind (m := cRoomFor _ _) (wpAny_cRoomFor hu ?_)
  refine wpAny_bind (m := callSpecialIfBound? (.ref x) (Str.ofString "__eq__") _) (ifBound_K X I he hf (wpAny_mono h (fun r s' hq => ?_) fun _ _ y => y))
  obtain ⟨c, rfl, q⟩ := hq
  refine wpAny_bind (m := truthy (.bool c)) (wpAny_truthy_bool ?_)
  first | exact wpAny_pure (wpAny_pure ⟨_, rfl, q⟩) | exact wpAny_pure ⟨_, rfl, q⟩ | exact ⟨_, rfl, wpAny_pure ⟨_, rfl, q⟩⟩
theorem cmp_ne {b tb : Value} {Q : Value → Shared → Prop} (hu : A.units < cLine) (X : K.In s.heap) (I : InstAt s.heap x ox C od) (hb : Looks (model prog w) s.heap (typeOf b) tb) (hn : notFirst K C tb = true)
    (one : wpAny (model prog w) A (tryCompare (.ref x) "__ne__" b) (fun r s' => ∃ v, r = some v ∧ Q v s') E s) : wpAny (model prog w) A (richCompare .NotEq (.ref x) b) Q E s := by
  unfold richCompare
  simp only [oneThing_ref]
  refine wpAny_holding (wpAny_bind (wpAny_cRoomFor hu ?_))
  refine wpAny_bind (I.type.here (wpAny_bind (hb.here ?_)))
  split
  · rename_i q
    have e : subIn K tb (.ref C) = some false := by
      rcases Bool.or_eq_true_iff.mp hn with e | e
      · rw [beq_iff_eq.mp e] at q; simp at q
      · exact beq_iff_eq.mp e
    refine wpAny_bind ((looks_subIn X e).here ?_)
    simp only [Bool.false_eq_true, if_false]
    refine wpAny_bind (wpAny_mono one (fun r s' z => ?_) fun _ _ e => e)
    obtain ⟨v, rfl, hq⟩ := z
    exact wpAny_pure hq
  · refine wpAny_bind (wpAny_pure ?_)
    simp only [Bool.false_eq_true, if_false]
    refine wpAny_bind (wpAny_mono one (fun r s' z => ?_) fun _ _ e => e)
    obtain ⟨v, rfl, hq⟩ := z
    exact wpAny_pure hq
end
section
variable {prog : Program} {w : World} {A : Around} {E : Value → Shared → Prop} {s : Shared} {K : Frag} {x C f : Addr} {ox : Obj} {od : Option Obj}
theorem truthy_own {M : Model} {Q : Bool → Shared → Prop} (X : K.In s.heap) (I : InstAt s.heap x ox C od) (hs : findIn K (.ref C) "__bool__" = some (some (.ref f))) (hf : isFn K (.ref f) = true)
    (h : wpAny M A (call (.ref f) [.ref x]) (fun v s' => ∃ c, v = .bool c ∧ Q c s') E s) : wpAny M A (truthy (.ref x)) Q E s := by
  unfold truthy
  refine wpAny_bind (m := callSpecial? (.ref x) (Str.ofString "__bool__")) (special_fn X I hs (beq_iff_eq.mp hf) (wpAny_mono h (fun r s' hr => ?_) fun _ _ y => y))
  obtain ⟨c, rfl, q⟩ := hr
  exact wpAny_pure q
theorem bool_own {Q : Value → Shared → Prop} (X : K.In s.heap) (I : InstAt s.heap x ox C od) (hs : findIn K (.ref C) "__bool__" = some (some (.ref f))) (hf : isFn K (.ref f) = true)
    (h : wpAny (model prog w) A.in1.in1 (call (.ref f) [.ref x]) (fun v s' => ∃ c, v = .bool c ∧ Q (.bool c) s') E s) : wpAny (model prog w) A (call (.type "bool") [.ref x]) Q E s := by
  refine callType_codes (T := "bool") (Bi := Builtin.«object.__init__») (Q₁ := fun r s₁ => ∃ c, r = Value.bool c ∧ Q r s₁) PySem.F.called_bool (PySem.F.typeCall_bool_1 _) PySem.F.entry_object_init ?_ ?_
  · refine codeAny_of_tree ?_
    show wpAny _ A.in1.in1 (do checkBuiltinCall "bool.__new__" ⟨[.type "bool", .ref x], []⟩; again (.builtin "bool.__new__" ⟨[.type "bool", .ref x], []⟩)) _ _ s
    refine wpAny_bind (wpAny_of_eq (PySem.F.newCall_bool_1 _) (wpAny_pure ⟨plainId_quiet (by decide +kernel) _, codeAny_builtin PySem.F.entry_bool_new ?_⟩))
    rw [Around.under_plainId (by decide +kernel) _]
    unfold Builtin.«bool.__new__»
    refine wpAny_bind (wpAny_of_eq (a := true) rfl ?_)
    refine PySem.W.KFB.if_not rfl ?_
    refine wpAny_bind (wpAny_of_eq (a := true) PySem.F.conv_sub_bool ?_)
    refine PySem.W.KFB.if_not rfl ?_
    refine wpAny_bind (wpAny_of_eq (a := [Value.ref x]) rfl ?_)
    refine wpAny_bind (truthy_own X I hs hf (wpAny_mono h (fun r s₁ hr => ?_) fun _ _ y => y))
    obtain ⟨c, rfl, hq⟩ := hr
    exact ⟨c, rfl, wpAny_pure ⟨c, rfl, hq⟩⟩
  · rintro obj s₁ ⟨c, rfl, hq⟩
    exact ⟨rfl, PySem.F.args_object_init_2 _ _, object_init_meets PySem.F.called_bool.init.lookup PySem.F.called_bool.made (by decide) prog w A.in1 _ s₁ ⟨rfl, rfl, hq⟩⟩
theorem cmp_eq {b tb : Value} {Q : Value → Shared → Prop} (hu : A.units < cLine) (X : K.In s.heap) (I : InstAt s.heap x ox C od) (hb : Looks (model prog w) s.heap (typeOf b) tb) (hn : notFirst K C tb = true)
    (one : wpAny (model prog w) A (tryCompare (.ref x) "__eq__" b) (fun r s' => ∃ v, r = some v ∧ Q v s') E s) : wpAny (model prog w) A (richCompare .Eq (.ref x) b) Q E s := by
  unfold richCompare
  simp only [oneThing_ref]
  refine wpAny_holding (wpAny_bind (wpAny_cRoomFor hu ?_))
  refine wpAny_bind (I.type.here (wpAny_bind (hb.here ?_)))
  split
  · rename_i q
    have e : subIn K tb (.ref C) = some false := by
      rcases Bool.or_eq_true_iff.mp hn with e | e
      · rw [beq_iff_eq.mp e] at q; simp at q
      · exact beq_iff_eq.mp e
    refine wpAny_bind ((looks_subIn X e).here ?_)
    simp only [Bool.false_eq_true, if_false]
    refine wpAny_bind (wpAny_mono one (fun r s' z => ?_) fun _ _ e => e)
    obtain ⟨v, rfl, hq⟩ := z
    exact wpAny_pure hq
  · refine wpAny_bind (wpAny_pure ?_)
    simp only [Bool.false_eq_true, if_false]
    refine wpAny_bind (wpAny_mono one (fun r s' z => ?_) fun _ _ e => e)
    obtain ⟨v, rfl, hq⟩ := z
    exact wpAny_pure hq
theorem try_ownE {nm : Str} {b : Value} {Q : Value → Shared → Prop} (X : K.In s.heap) (I : InstAt s.heap x ox C od) (hs : findIn K (.ref C) nm = some (some (.ref f))) (hf : isFn K (.ref f) = true) (h : wpAny (model prog w) A (call (.ref f) [.ref x, b]) (PySem.W.CmpBack Q) E s) :
    wpAny (model prog w) A (tryCompare (.ref x) nm b) (fun r s' => ∃ v, r = some v ∧ Q v s') E s := by
  unfold tryCompare
  refine wpAny_bind (ifBound_K X I hs hf (wpAny_mono h (fun v s' hv => ?_) fun _ _ e => e))
  cases v <;> first | exact hv.elim | exact wpAny_pure ⟨_, rfl, hv⟩
end
end Lw.Ow
/-! ### bool(x) of an instance without __bool__ and __len__; rich comparison by the left one's own == -/
namespace Lw.Ow
open PySem PySem.Spec PyProof.Rows PySem.W PySem.Calls
section
variable {prog : Program} {w : World} {A : Around} {E : Value → Shared → Prop} {s : Shared} {K : Frag} {x C f : Addr} {ox : Obj} {od : Option Obj}
theorem bool_any {Q : Value → Shared → Prop} (ht : ∀ Q' : Bool → Shared → Prop, (∀ b s', Q (.bool b) s' → Q' b s') → wpAny (model prog w) A.in1.in1 (truthy (.ref x)) Q' E s) : wpAny (model prog w) A (call (.type "bool") [.ref x]) Q E s := by
  refine callType_codes (T := "bool") (Bi := Builtin.«object.__init__») (Q₁ := fun r s₁ => ∃ c, r = Value.bool c ∧ Q r s₁) PySem.F.called_bool (PySem.F.typeCall_bool_1 _) PySem.F.entry_object_init ?_ ?_
  · refine codeAny_of_tree ?_
    show wpAny _ A.in1.in1 (do checkBuiltinCall "bool.__new__" ⟨[.type "bool", .ref x], []⟩; again (.builtin "bool.__new__" ⟨[.type "bool", .ref x], []⟩)) _ _ s
    refine wpAny_bind (wpAny_of_eq (PySem.F.newCall_bool_1 _) (wpAny_pure ⟨plainId_quiet (by decide +kernel) _, codeAny_builtin PySem.F.entry_bool_new ?_⟩))
    rw [Around.under_plainId (by decide +kernel) _]
    unfold Builtin.«bool.__new__»
    refine wpAny_bind (wpAny_of_eq (a := true) rfl ?_)
    refine PySem.W.KFB.if_not rfl ?_
    refine wpAny_bind (wpAny_of_eq (a := true) PySem.F.conv_sub_bool ?_)
    refine PySem.W.KFB.if_not rfl ?_
    refine wpAny_bind (wpAny_of_eq (a := [Value.ref x]) rfl ?_)
    exact wpAny_bind (ht _ fun b s' hb => wpAny_pure ⟨b, rfl, hb⟩)
  · rintro obj s₁ ⟨c, rfl, hq⟩
    exact ⟨rfl, PySem.F.args_object_init_2 _ _, object_init_meets PySem.F.called_bool.init.lookup PySem.F.called_bool.made (by decide) prog w A.in1 _ s₁ ⟨rfl, rfl, hq⟩⟩
theorem truthy_none {M : Model} {Q : Bool → Shared → Prop} (X : K.In s.heap) (I : InstAt s.heap x ox C od) (hs : findIn K (.ref C) "__bool__" = some none) (hl : findIn K (.ref C) "__len__" = some none) (h : Q true s) : wpAny M A (truthy (.ref x)) Q E s := by
  unfold truthy
  refine wpAny_bind (m := callSpecial? (.ref x) (Str.ofString "__bool__")) (wpAny_bind (wpAny_bind (I.type.here ((looks_findIn X hs).here (wpAny_pure ?_)))))
  refine wpAny_bind (wpAny_bind (I.type.here ((looks_findIn X hl).here ?_)))
  exact wpAny_pure h
end
end Lw.Ow
namespace Lw
open PySem PySem.Spec PyProof.Rows L2 LamX
/-! ### papers: own classes that keep their fields -/
/-- the fields F have the values vs -/
inductive FA (fs : List (Str × V)) : List Str → List V → Prop where
  | nil : FA fs [] []
  | cons {f : Str} {F : List Str} {v : V} {vs : List V} (h : fs.lookup f = some v) (r : FA fs F vs) : FA fs (f :: F) (v :: vs)
theorem FA.len {fs : List (Str × V)} : ∀ {F : List Str} {vs : List V}, FA fs F vs → F.length = vs.length
  | _, _, .nil => rfl
  | _, _, .cons _ r => by rw [List.length_cons, List.length_cons, r.len]
theorem FA.at_ {fs : List (Str × V)} : ∀ {F : List Str} {vs : List V} {i : Nat} {f : Str}, FA fs F vs → F[i]? = some f → ∃ v, vs[i]? = some v ∧ fs.lookup f = some v
  | _, _, 0, _, .cons h _, e => by cases e; exact ⟨_, rfl, h⟩
  | _, _, i + 1, _, .cons _ r, e => r.at_ (i := i) e
def putsF : List Str → List V → List (Str × V) → List (Str × V)
  | f :: F, v :: vs, fs => putsF F vs (putF f v fs)
  | _, _, fs => fs
theorem puts_no {f : Str} : ∀ (F : List Str) (vs : List V) (fs : List (Str × V)), f ∉ F → (putsF F vs fs).lookup f = fs.lookup f
  | [], _, _, _ => rfl
  | _ :: _, [], _, _ => rfl
  | g :: F, v :: vs, fs, h => by
    unfold putsF
    rw [puts_no F vs _ (fun z => h (List.mem_cons_of_mem _ z)), lookup_putF, if_neg (fun z => h (by rw [z]; exact List.mem_cons_self))]
theorem fa_puts : ∀ (F : List Str) (vs : List V) (fs : List (Str × V)), F.Nodup → F.length = vs.length → FA (putsF F vs fs) F vs
  | [], [], _, _, _ => .nil
  | [], _ :: _, _, _, e => by simp at e
  | _ :: _, [], _, _, e => by simp at e
  | f :: F, v :: vs, fs, nd, e => by
    obtain ⟨n1, n2⟩ := List.nodup_cons.mp nd
    refine .cons ?_ (fa_puts F vs _ n2 (by simpa using e))
    show (putsF F vs (putF f v fs)).lookup f = some v
    rw [puts_no F vs _ n1, lookup_putF, if_pos rfl]
/-- __init__: the fields are kept -/
def spPI (C : Addr) (F : List Str) : Sp := fun vs H Q _ => ∃ (a dx : Addr) (xs : List V), vs = .ref a :: xs ∧ xs.length = F.length ∧ H a = some (.ins C dx []) ∧ ∀ fs, FA fs F xs → Q .non (upd H a (.ins C dx fs))
/-- a class of papers -/
structure PapC (K : PySem.W.Frag) (mg : Str → Option Value) (n : Str) (C : Addr) (F : List Str) : Prop where
  cl : Cls K C
  no : ∀ f ∈ F, PySem.W.findIn K (.ref C) f = some none
  I : C8.InsC K C
  hm : mg n = some (.ref C)
/-- what making gives -/
def Made (C : Addr) (F : List Str) (xs : List V) (H : Hp) (Q : VK) : Prop := ∀ a dx fs H', Same H H' → H a = none → H' a = some (.ins C dx fs) → FA fs F xs → Q (.ref a) H'
theorem mk_in {C : Addr} {F : List Str} {xs : List V} {H : Hp} {Q : VK} {E : XK} (l : xs.length = F.length) (k : Made C F xs H Q) (x dx : Addr) (hx : H x = none) (hdx : H dx = none) (ne : dx ≠ x) :
    spPI C F (.ref x :: xs) (upd (upd H dx (.own x)) x (.ins C dx [])) (fun v H2 => v = .non ∧ Q (.ref x) H2) E := by
  refine ⟨x, dx, xs, rfl, l, upd_same, fun fs fa => ⟨rfl, ?_⟩⟩
  rw [upd_upd]
  have s1 := same_new (o := HO.own x) hdx
  have s2 : Same (upd H dx (.own x)) (upd (upd H dx (.own x)) x (.ins C dx fs)) := same_new (by rw [upd_ne ne.symm]; exact hx)
  exact k x dx fs _ (s1.trans s2) hx upd_same fa
/-! ### == of fields -/
def rEqV (K : PySem.W.Frag) : R2 := fun x y H Q => rEqD K x y H Q ∨ rEqDA x y H Q
def EqB (K : PySem.W.Frag) (H : Hp) (v u : V) (b : Bool) : Prop := ∀ Q : VK, Q (.bl b) H → rEqV K v u H Q
inductive FEq (K : PySem.W.Frag) (H : Hp) (fs gs : List (Str × V)) : List Str → Bool → Prop where
  | last {f : Str} {v u : V} {b : Bool} (h1 : fs.lookup f = some v) (h2 : gs.lookup f = some u) (e : EqB K H v u b) : FEq K H fs gs [f] b
  | more {f g : Str} {F : List Str} {v u : V} {b : Bool} (h1 : fs.lookup f = some v) (h2 : gs.lookup f = some u) (e : EqB K H v u true) (r : FEq K H fs gs (g :: F) b) : FEq K H fs gs (f :: g :: F) b
  | stop {f g : Str} {F : List Str} {v u : V} (h1 : fs.lookup f = some v) (h2 : gs.lookup f = some u) (e : EqB K H v u false) : FEq K H fs gs (f :: g :: F) false
def tChain (K : PySem.W.Frag) : List Str → TE
  | [] => tC .non
  | [f] => tOp (rEqV K) (tFld K (tVar 0) f) (tFld K (tVar 1) f)
  | f :: g :: r => tAndV (tOp (rEqV K) (tFld K (tVar 0) f) (tFld K (tVar 1) f)) (tChain K (g :: r))
theorem chain_ok {K : PySem.W.Frag} {C a b dx dy : Addr} {fs gs : List (Str × V)} {H : Hp} {Q : VK} (cl : Cls K C) (ha : H a = some (.ins C dx fs)) (hb : H b = some (.ins C dy gs)) :
    ∀ {F : List Str} {c : Bool}, (∀ f ∈ F, PySem.W.findIn K (.ref C) f = some none) → FEq K H fs gs F c → Q (.bl c) H → tChain K F [some (.ref a), some (.ref b)] H Q
  | _, _, no, .last h1 h2 e, k => ⟨_, rfl, a, C, dx, fs, _, rfl, ha, cl, no _ List.mem_cons_self, h1, _, rfl, b, C, dy, gs, _, rfl, hb, cl, no _ List.mem_cons_self, h2, e Q k⟩
  | _, _, no, .more h1 h2 e r, k => ⟨_, rfl, a, C, dx, fs, _, rfl, ha, cl, no _ List.mem_cons_self, h1, _, rfl, b, C, dy, gs, _, rfl, hb, cl, no _ List.mem_cons_self, h2, e _ ⟨true, rfl, chain_ok cl ha hb (fun f hf => no f (List.mem_cons_of_mem _ hf)) r k⟩⟩
  | _, _, no, .stop h1 h2 e, k => ⟨_, rfl, a, C, dx, fs, _, rfl, ha, cl, no _ List.mem_cons_self, h1, _, rfl, b, C, dy, gs, _, rfl, hb, cl, no _ List.mem_cons_self, h2, e _ ⟨false, rfl, k⟩⟩
section
variable {X : Cx} {es : List Expr}
theorem op_eqV (hu : X.A.units + 64 < cLine) : OpR X (compareOp .Eq) (rEqV X.K) := fun pins s σ H x y v u Q I rx ry h => h.elim (op_eqD hu pins s σ H x y v u Q I rx ry) (op_eq_dictA (by omega) pins s σ H x y v u Q I rx ry)
end
/-- __eq__ -/
def spPE (K : PySem.W.Frag) (C : Addr) (F : List Str) : Sp := fun vs H Q _ => ∃ (a dx : Addr) (fs : List (Str × V)) (y : V), vs = [.ref a, y] ∧ H a = some (.ins C dx fs) ∧
  ((∃ t, TyZ K H y t ∧ PySem.W.kitOne K t (.ref C) = some false ∧ Q (.bl false) H) ∨ ∃ (b dy : Addr) (gs : List (Str × V)) (c : Bool), y = .ref b ∧ H b = some (.ins C dy gs) ∧ FEq K H fs gs F c ∧ Q (.bl c) H)
theorem eq_end {K : PySem.W.Frag} {mg : Str → Option Value} {n : Str} {C a dx : Addr} {F : List Str} {fs : List (Str × V)} {y : V} {H : Hp} {Q : VK} (Z : PapC K mg n C F) (ha : H a = some (.ins C dx fs))
    (h : (∃ t, TyZ K H y t ∧ PySem.W.kitOne K t (.ref C) = some false ∧ Q (.bl false) H) ∨ ∃ (b dy : Addr) (gs : List (Str × V)) (c : Bool), y = .ref b ∧ H b = some (.ins C dy gs) ∧ FEq K H fs gs F c ∧ Q (.bl c) H) :
    tAndV (tCB (rIsz K) (tCons (tVar 1) (tCons (tC (.ref C)) tNil))) (tChain K F) [some (.ref a), some y] H Q := by
  rcases h with ⟨t, ty, kt, k⟩ | ⟨b, dy, gs, c, rfl, hb, e, k⟩
  · exact ⟨_, rfl, _, .ref C, t, .ref C, false, rfl, .own C, ty, kt, false, rfl, k⟩
  · have ty : TyZ K H (.ref b) (.ref C) := .x (.base (.ins hb Z.I.cl Z.I.ha Z.I.hn Z.I.htk Z.I.hm))
    exact ⟨_, rfl, _, .ref C, .ref C, .ref C, true, rfl, .own C, ty, Z.I.me, true, rfl, chain_ok Z.cl ha hb Z.no e k⟩
/-- a def of Denial: it is false -/
def spNo : Sp := fun vs H Q _ => ∃ a : Addr, vs = [.ref a] ∧ Q (.bl false) H
section
variable {X : Cx} {C f : Addr} {k j : Nat} {sp : Sp} {E : XK} {pins : List (Addr × Obj)} {σ : L2.St} {H : Hp} {s : Shared}
/-- x == y by the left one's own ==, y a list or an instance whose class is not below -/
def rEqP (P : Program) (w : World) (K : PySem.W.Frag) (mg : Str → Option Value) (base : Heap) (k : Nat) (E : XK) : R2 := fun x y H Q => ∃ (C a dx : Addr) (fs : List (Str × V)) (sp : Sp), x = .ref a ∧ H a = some (.ins C dx fs) ∧ MetX P w K mg base k C "__eq__" sp ∧
  ((∃ (C2 b dy : Addr) (gs : List (Str × V)), y = .ref b ∧ H b = some (.ins C2 dy gs) ∧ (C2 = C ∨ PySem.W.subIn K (.ref C2) (.ref C) = some false)) ∨ ∃ (b : Addr) (xs : List V), y = .ref b ∧ H b = some (.lst xs) ∧ PySem.W.subIn K (.type "list") (.ref C) = some false) ∧ sp [x, y] H Q E
theorem op_eqP (hx : Passes (L2.CX X.prog X.w) X E) (hr : Room j X.A) (hk : k ≤ j) : OpR X (compareOp .Eq) (rEqP X.prog X.w X.K X.mg X.base k E) := by
  intro pins s σ H x y v u Q I rx ry h
  obtain ⟨C, a, dx, fs, sp, rfl, ha, M, hy, q⟩ := h
  cases (show v = Value.ref a from rx)
  obtain ⟨_, _, J⟩ := ins_at I ha
  obtain ⟨g, hm, w, _⟩ := run_met (us := [.ref a, u]) (vs := [.ref a, y]) M hx hr hk I (.cons rfl (.cons ry .nil)) q
  rcases hy with ⟨C2, b, dy, gs, rfl, hb, hs⟩ | ⟨b, xs, rfl, hb, hs⟩
  · cases (show u = Value.ref b from ry)
    obtain ⟨_, _, J'⟩ := ins_at I hb
    refine Ow.cmp_eq hr.units0 I.kIn J J'.type ?_ (Ow.try_ownE I.kIn J hm.at_ hm.fn w)
    rcases hs with rfl | hs
    · simp [PySem.W.notFirst]
    · unfold PySem.W.notFirst
      rw [hs]; simp
  · obtain ⟨W, Z, p, _⟩ := kit_of I ry (TyX.base (.lst hb))
    refine Ow.cmp_eq hr.units0 I.kIn J (Z.ty _ _ I.kIn p) ?_ (Ow.try_ownE I.kIn J hm.at_ hm.fn w)
    unfold PySem.W.notFirst
    rw [hs]; simp
/-- bool(x) of a paper -/
def rBoolP (P : Program) (w : World) (K : PySem.W.Frag) (mg : Str → Option Value) (base : Heap) (k : Nat) (E : XK) : List V → Hp → VK → Prop := fun xs H Q => ∃ (C a dx : Addr) (fs : List (Str × V)), xs = [V.ref a] ∧ H a = some (.ins C dx fs) ∧
  ((PySem.W.findIn K (.ref C) "__bool__" = some none ∧ PySem.W.findIn K (.ref C) "__len__" = some none ∧ Q (.bl true) H) ∨ ∃ sp : Sp, MetX P w K mg base k C "__bool__" sp ∧ sp [.ref a] H (fun z H' => ∃ c, z = .bl c ∧ Q z H') E)
theorem call_boolP (hx : Passes (L2.CX X.prog X.w) X E) (hr : Room j X.A) (hk : k + 2 ≤ j) : CallR X (.type "bool") (rBoolP X.prog X.w X.K X.mg X.base k E) := by
  intro pins s σ H xs us Q I r h
  obtain ⟨C, a, dx, fs, rfl, ha, h⟩ := h
  obtain ⟨u, rfl, ru⟩ := r.one
  cases (show u = Value.ref a from ru)
  obtain ⟨_, _, J⟩ := ins_at I ha
  rcases h with ⟨h1, h2, q⟩ | ⟨sp, M, q⟩
  · exact Ow.bool_any fun Q' hq => Ow.truthy_none I.kIn J h1 h2 (hq _ _ ⟨.bl true, H, I, rfl, q⟩)
  · have hr2 : Room k X.A.in1.in1 := (show Room (k + 1) X.A.in1 from Room.in1 (hr.mono hk)).in1
    obtain ⟨g, hm, w⟩ := run_metA (us := [.ref a]) (vs := [.ref a]) M hx hr2 I.env0.in1.in1 I (.cons rfl .nil) q
    refine Ow.bool_own I.kIn J hm.at_ hm.fn (wpAny_mono w (fun v s' z => ?_) fun _ _ x => x)
    obtain ⟨z', H', I', rz, c, rfl, qz⟩ := z
    cases (show v = Value.bool c from rz)
    exact ⟨c, rfl, .bl c, H', I', rfl, qz⟩
end
end Lw
namespace Lw
open PySem PySem.Spec PyProof.Rows L2
open LamX
theorem putF_len (f : Str) (v : V) : ∀ fs : List (Str × V), (putF f v fs).length ≤ fs.length + 1
  | [] => Nat.le_refl _
  | (g, x) :: r => by
    unfold putF
    split
    · simp
    · have := putF_len f v r
      rw [List.length_cons, List.length_cons]
      omega
theorem puts_len : ∀ (F : List Str) (vs : List V) (fs : List (Str × V)), (putsF F vs fs).length ≤ fs.length + F.length
  | [], _, _ => Nat.le_refl _
  | _ :: _, [], _ => Nat.le_add_right _ _
  | f :: F, v :: vs, fs => by
    refine Nat.le_trans (puts_len F vs (putF f v fs)) ?_
    have := putF_len f v fs
    rw [List.length_cons]
    omega
section
variable {P : Program} {w : World} {K : PySem.W.Frag} {mg : Str → Option Value} {base : Heap}
abbrev sNo : Stmt := inClass (top 2) 0
theorem scNo : FnScope ["self"] ["self"] (C8.fnScope sNo) := C8.fnScope_by (by decide +kernel)
theorem fn_no {f : Addr} {fd : FuncData} (F : C8.Fun K "__bool__" "Denial.__bool__" sNo f fd) : FnOk P w K mg base (L2.CX P w) 1 f fd ["self"] spNo := by
  obtain ⟨oc, od, dV, kV, doc, pm, an, cdv, ct, osl, rfl, lk, hcd⟩ := F.ex
  refine fn_of lk hcd scNo (fun vs H Q E h => ?_) fun A outer s H vs Q E hr h => ?_
  · obtain ⟨a, rfl, _⟩ := h
    rfl
  · obtain ⟨a, rfl, k⟩ := h
    exact ⟨_, pss_one (ps_ret pe_bl), k⟩
abbrev sIFewest : Stmt := inClass (top 4) 0
theorem scIFewest : FnScope ["self", "chunks"] ["self", "chunks"] (C8.fnScope sIFewest) := C8.fnScope_by (by decide +kernel)
theorem fn_iFewest {C f : Addr} {fd : FuncData} (F : C8.Fun K "__init__" "Fewest.__init__" sIFewest f fd) (Z : PapC K mg "Fewest" C ["chunks"]) : FnOk P w K mg base C8.CX0 1 f fd ["self", "chunks"] (spPI C ["chunks"]) := by
  refine C8.fn0 F scIFewest (fun vs H Q E h => ?_) (fun cdv A outer st H vs Q E hr h => ?_)
  · obtain ⟨a, dx, xs, rfl, hl, _⟩ := h
    rw [List.length_cons, hl]; rfl
  · obtain ⟨a, dx, xs, rfl, hl, ha, k⟩ := h
    match xs, hl with
    | [v1], _ =>
    refine ⟨_, (pss_one (ps_fld (pv 0) (pv 1) rfl)), ?_⟩
    refine ⟨_, rfl, _, rfl, a, C, dx, [], rfl, ha, Z.cl, Z.no _ (by simp), ?_, ?_⟩
    · show 0 < 1000; decide
    exact k _ (fa_puts ["chunks"] [v1] [] (by decide) rfl)
abbrev sEFewest : Stmt := inClass (top 4) 1
theorem scEFewest : FnScope ["self", "other"] ["self", "other"] (C8.fnScope sEFewest) := C8.fnScope_by (by decide +kernel)
theorem fn_eFewest {C f : Addr} {fd : FuncData} (F : C8.Fun K "__eq__" "Fewest.__eq__" sEFewest f fd) (Z : PapC K mg "Fewest" C ["chunks"]) (hi : mg "isinstance" = none) : FnOk P w K mg base (L2.CX P w) 2 f fd ["self", "other"] (spPE K C ["chunks"]) := by
  obtain ⟨oc, od, dV, kV, doc, pm, an, cdv, ct, osl, rfl, lk, hcd⟩ := F.ex
  refine fn_of lk hcd scEFewest (fun vs H Q E h => ?_) fun A outer s H vs Q E hr h => ?_
  · obtain ⟨a, dx, fs, y, rfl, _⟩ := h
    rfl
  · obtain ⟨a, dx, fs, y, rfl, ha, h⟩ := h
    refine ⟨_, (pss_one (ps_ret (pe_and (pe_callB call_isz (by rfl) hi (by decide +kernel) (pa_cons (pv 1) (pa_cons (pe_glob (v := .ref C) (by rfl) Z.hm rfl) pa_nil))) (pe_one (pe_cmpR (op_eqV hr.units) (pe_fld (pv 0) rfl) (pe_fld (pv 1) rfl) (nomark _)))))), ?_⟩
    exact eq_end Z ha h
abbrev sINoList : Stmt := inClass (top 5) 0
theorem scINoList : FnScope ["self", "rests"] ["self", "rests"] (C8.fnScope sINoList) := C8.fnScope_by (by decide +kernel)
theorem fn_iNoList {C f : Addr} {fd : FuncData} (F : C8.Fun K "__init__" "NoList.__init__" sINoList f fd) (Z : PapC K mg "NoList" C ["rests"]) : FnOk P w K mg base C8.CX0 1 f fd ["self", "rests"] (spPI C ["rests"]) := by
  refine C8.fn0 F scINoList (fun vs H Q E h => ?_) (fun cdv A outer st H vs Q E hr h => ?_)
  · obtain ⟨a, dx, xs, rfl, hl, _⟩ := h
    rw [List.length_cons, hl]; rfl
  · obtain ⟨a, dx, xs, rfl, hl, ha, k⟩ := h
    match xs, hl with
    | [v1], _ =>
    refine ⟨_, (pss_one (ps_fld (pv 0) (pv 1) rfl)), ?_⟩
    refine ⟨_, rfl, _, rfl, a, C, dx, [], rfl, ha, Z.cl, Z.no _ (by simp), ?_, ?_⟩
    · show 0 < 1000; decide
    exact k _ (fa_puts ["rests"] [v1] [] (by decide) rfl)
abbrev sENoList : Stmt := inClass (top 5) 1
theorem scENoList : FnScope ["self", "other"] ["self", "other"] (C8.fnScope sENoList) := C8.fnScope_by (by decide +kernel)
theorem fn_eNoList {C f : Addr} {fd : FuncData} (F : C8.Fun K "__eq__" "NoList.__eq__" sENoList f fd) (Z : PapC K mg "NoList" C ["rests"]) (hi : mg "isinstance" = none) : FnOk P w K mg base (L2.CX P w) 2 f fd ["self", "other"] (spPE K C ["rests"]) := by
  obtain ⟨oc, od, dV, kV, doc, pm, an, cdv, ct, osl, rfl, lk, hcd⟩ := F.ex
  refine fn_of lk hcd scENoList (fun vs H Q E h => ?_) fun A outer s H vs Q E hr h => ?_
  · obtain ⟨a, dx, fs, y, rfl, _⟩ := h
    rfl
  · obtain ⟨a, dx, fs, y, rfl, ha, h⟩ := h
    refine ⟨_, (pss_one (ps_ret (pe_and (pe_callB call_isz (by rfl) hi (by decide +kernel) (pa_cons (pv 1) (pa_cons (pe_glob (v := .ref C) (by rfl) Z.hm rfl) pa_nil))) (pe_one (pe_cmpR (op_eqV hr.units) (pe_fld (pv 0) rfl) (pe_fld (pv 1) rfl) (nomark _)))))), ?_⟩
    exact eq_end Z ha h
abbrev sIGreatest : Stmt := inClass (top 6) 0
theorem scIGreatest : FnScope ["self", "total", "chunks"] ["self", "total", "chunks"] (C8.fnScope sIGreatest) := C8.fnScope_by (by decide +kernel)
theorem fn_iGreatest {C f : Addr} {fd : FuncData} (F : C8.Fun K "__init__" "Greatest.__init__" sIGreatest f fd) (Z : PapC K mg "Greatest" C ["total", "chunks"]) : FnOk P w K mg base C8.CX0 1 f fd ["self", "total", "chunks"] (spPI C ["total", "chunks"]) := by
  refine C8.fn0 F scIGreatest (fun vs H Q E h => ?_) (fun cdv A outer st H vs Q E hr h => ?_)
  · obtain ⟨a, dx, xs, rfl, hl, _⟩ := h
    rw [List.length_cons, hl]; rfl
  · obtain ⟨a, dx, xs, rfl, hl, ha, k⟩ := h
    match xs, hl with
    | [v1, v2], _ =>
    refine ⟨_, (pss_cons (ps_fld (pv 0) (pv 1) rfl) (pss_one (ps_fld (pv 0) (pv 2) rfl))), ?_⟩
    refine ⟨_, rfl, _, rfl, a, C, dx, [], rfl, ha, Z.cl, Z.no _ (by simp), ?_, ?_⟩
    · show 0 < 1000; decide
    refine ⟨_, rfl, _, rfl, a, C, dx, _, rfl, upd_same, Z.cl, Z.no _ (by simp), ?_, ?_⟩
    · exact Nat.lt_of_le_of_lt (puts_len ["total"] [v1] []) (by decide)
    rw [upd_upd]
    exact k _ (fa_puts ["total", "chunks"] [v1, v2] [] (by decide) rfl)
abbrev sEGreatest : Stmt := inClass (top 6) 1
theorem scEGreatest : FnScope ["self", "other"] ["self", "other"] (C8.fnScope sEGreatest) := C8.fnScope_by (by decide +kernel)
theorem fn_eGreatest {C f : Addr} {fd : FuncData} (F : C8.Fun K "__eq__" "Greatest.__eq__" sEGreatest f fd) (Z : PapC K mg "Greatest" C ["total", "chunks"]) (hi : mg "isinstance" = none) : FnOk P w K mg base (L2.CX P w) 2 f fd ["self", "other"] (spPE K C ["total", "chunks"]) := by
  obtain ⟨oc, od, dV, kV, doc, pm, an, cdv, ct, osl, rfl, lk, hcd⟩ := F.ex
  refine fn_of lk hcd scEGreatest (fun vs H Q E h => ?_) fun A outer s H vs Q E hr h => ?_
  · obtain ⟨a, dx, fs, y, rfl, _⟩ := h
    rfl
  · obtain ⟨a, dx, fs, y, rfl, ha, h⟩ := h
    refine ⟨_, (pss_one (ps_ret (pe_and (pe_callB call_isz (by rfl) hi (by decide +kernel) (pa_cons (pv 1) (pa_cons (pe_glob (v := .ref C) (by rfl) Z.hm rfl) pa_nil))) (pe_and (pe_cmpR (op_eqV hr.units) (pe_fld (pv 0) rfl) (pe_fld (pv 1) rfl) (nomark _)) (pe_one (pe_cmpR (op_eqV hr.units) (pe_fld (pv 0) rfl) (pe_fld (pv 1) rfl) (nomark _))))))), ?_⟩
    exact eq_end Z ha h
abbrev sILeast : Stmt := inClass (top 7) 0
theorem scILeast : FnScope ["self", "limit", "chunks", "below"] ["self", "limit", "chunks", "below"] (C8.fnScope sILeast) := C8.fnScope_by (by decide +kernel)
theorem fn_iLeast {C f : Addr} {fd : FuncData} (F : C8.Fun K "__init__" "Least.__init__" sILeast f fd) (Z : PapC K mg "Least" C ["limit", "chunks", "below"]) : FnOk P w K mg base C8.CX0 1 f fd ["self", "limit", "chunks", "below"] (spPI C ["limit", "chunks", "below"]) := by
  refine C8.fn0 F scILeast (fun vs H Q E h => ?_) (fun cdv A outer st H vs Q E hr h => ?_)
  · obtain ⟨a, dx, xs, rfl, hl, _⟩ := h
    rw [List.length_cons, hl]; rfl
  · obtain ⟨a, dx, xs, rfl, hl, ha, k⟩ := h
    match xs, hl with
    | [v1, v2, v3], _ =>
    refine ⟨_, (pss_cons (ps_fld (pv 0) (pv 1) rfl) (pss_cons (ps_fld (pv 0) (pv 2) rfl) (pss_one (ps_fld (pv 0) (pv 3) rfl)))), ?_⟩
    refine ⟨_, rfl, _, rfl, a, C, dx, [], rfl, ha, Z.cl, Z.no _ (by simp), ?_, ?_⟩
    · show 0 < 1000; decide
    refine ⟨_, rfl, _, rfl, a, C, dx, _, rfl, upd_same, Z.cl, Z.no _ (by simp), ?_, ?_⟩
    · exact Nat.lt_of_le_of_lt (puts_len ["limit"] [v1] []) (by decide)
    refine ⟨_, rfl, _, rfl, a, C, dx, _, rfl, upd_same, Z.cl, Z.no _ (by simp), ?_, ?_⟩
    · exact Nat.lt_of_le_of_lt (puts_len ["limit", "chunks"] [v1, v2] []) (by decide)
    rw [upd_upd, upd_upd]
    exact k _ (fa_puts ["limit", "chunks", "below"] [v1, v2, v3] [] (by decide) rfl)
abbrev sELeast : Stmt := inClass (top 7) 1
theorem scELeast : FnScope ["self", "other"] ["self", "other"] (C8.fnScope sELeast) := C8.fnScope_by (by decide +kernel)
theorem fn_eLeast {C f : Addr} {fd : FuncData} (F : C8.Fun K "__eq__" "Least.__eq__" sELeast f fd) (Z : PapC K mg "Least" C ["limit", "chunks", "below"]) (hi : mg "isinstance" = none) : FnOk P w K mg base (L2.CX P w) 2 f fd ["self", "other"] (spPE K C ["limit", "chunks", "below"]) := by
  obtain ⟨oc, od, dV, kV, doc, pm, an, cdv, ct, osl, rfl, lk, hcd⟩ := F.ex
  refine fn_of lk hcd scELeast (fun vs H Q E h => ?_) fun A outer s H vs Q E hr h => ?_
  · obtain ⟨a, dx, fs, y, rfl, _⟩ := h
    rfl
  · obtain ⟨a, dx, fs, y, rfl, ha, h⟩ := h
    refine ⟨_, (pss_one (ps_ret (pe_and (pe_callB call_isz (by rfl) hi (by decide +kernel) (pa_cons (pv 1) (pa_cons (pe_glob (v := .ref C) (by rfl) Z.hm rfl) pa_nil))) (pe_and (pe_cmpR (op_eqV hr.units) (pe_fld (pv 0) rfl) (pe_fld (pv 1) rfl) (nomark _)) (pe_and (pe_cmpR (op_eqV hr.units) (pe_fld (pv 0) rfl) (pe_fld (pv 1) rfl) (nomark _)) (pe_one (pe_cmpR (op_eqV hr.units) (pe_fld (pv 0) rfl) (pe_fld (pv 1) rfl) (nomark _)))))))), ?_⟩
    exact eq_end Z ha h
abbrev sIBatchBound : Stmt := inClass (top 9) 0
theorem scIBatchBound : FnScope ["self", "late", "rest", "spot"] ["self", "late", "rest", "spot"] (C8.fnScope sIBatchBound) := C8.fnScope_by (by decide +kernel)
theorem fn_iBatchBound {C f : Addr} {fd : FuncData} (F : C8.Fun K "__init__" "BatchBound.__init__" sIBatchBound f fd) (Z : PapC K mg "BatchBound" C ["late", "rest", "spot"]) : FnOk P w K mg base C8.CX0 1 f fd ["self", "late", "rest", "spot"] (spPI C ["late", "rest", "spot"]) := by
  refine C8.fn0 F scIBatchBound (fun vs H Q E h => ?_) (fun cdv A outer st H vs Q E hr h => ?_)
  · obtain ⟨a, dx, xs, rfl, hl, _⟩ := h
    rw [List.length_cons, hl]; rfl
  · obtain ⟨a, dx, xs, rfl, hl, ha, k⟩ := h
    match xs, hl with
    | [v1, v2, v3], _ =>
    refine ⟨_, (pss_cons (ps_fld (pv 0) (pv 1) rfl) (pss_cons (ps_fld (pv 0) (pv 2) rfl) (pss_one (ps_fld (pv 0) (pv 3) rfl)))), ?_⟩
    refine ⟨_, rfl, _, rfl, a, C, dx, [], rfl, ha, Z.cl, Z.no _ (by simp), ?_, ?_⟩
    · show 0 < 1000; decide
    refine ⟨_, rfl, _, rfl, a, C, dx, _, rfl, upd_same, Z.cl, Z.no _ (by simp), ?_, ?_⟩
    · exact Nat.lt_of_le_of_lt (puts_len ["late"] [v1] []) (by decide)
    refine ⟨_, rfl, _, rfl, a, C, dx, _, rfl, upd_same, Z.cl, Z.no _ (by simp), ?_, ?_⟩
    · exact Nat.lt_of_le_of_lt (puts_len ["late", "rest"] [v1, v2] []) (by decide)
    rw [upd_upd, upd_upd]
    exact k _ (fa_puts ["late", "rest", "spot"] [v1, v2, v3] [] (by decide) rfl)
abbrev sEBatchBound : Stmt := inClass (top 9) 1
theorem scEBatchBound : FnScope ["self", "other"] ["self", "other"] (C8.fnScope sEBatchBound) := C8.fnScope_by (by decide +kernel)
theorem fn_eBatchBound {C f : Addr} {fd : FuncData} (F : C8.Fun K "__eq__" "BatchBound.__eq__" sEBatchBound f fd) (Z : PapC K mg "BatchBound" C ["late", "rest", "spot"]) (hi : mg "isinstance" = none) : FnOk P w K mg base (L2.CX P w) 2 f fd ["self", "other"] (spPE K C ["late", "rest", "spot"]) := by
  obtain ⟨oc, od, dV, kV, doc, pm, an, cdv, ct, osl, rfl, lk, hcd⟩ := F.ex
  refine fn_of lk hcd scEBatchBound (fun vs H Q E h => ?_) fun A outer s H vs Q E hr h => ?_
  · obtain ⟨a, dx, fs, y, rfl, _⟩ := h
    rfl
  · obtain ⟨a, dx, fs, y, rfl, ha, h⟩ := h
    refine ⟨_, (pss_one (ps_ret (pe_and (pe_callB call_isz (by rfl) hi (by decide +kernel) (pa_cons (pv 1) (pa_cons (pe_glob (v := .ref C) (by rfl) Z.hm rfl) pa_nil))) (pe_and (pe_cmpR (op_eqV hr.units) (pe_fld (pv 0) rfl) (pe_fld (pv 1) rfl) (nomark _)) (pe_and (pe_cmpR (op_eqV hr.units) (pe_fld (pv 0) rfl) (pe_fld (pv 1) rfl) (nomark _)) (pe_one (pe_cmpR (op_eqV hr.units) (pe_fld (pv 0) rfl) (pe_fld (pv 1) rfl) (nomark _)))))))), ?_⟩
    exact eq_end Z ha h
abbrev sIBatchEndless : Stmt := inClass (top 10) 0
theorem scIBatchEndless : FnScope ["self", "spot", "rise"] ["self", "spot", "rise"] (C8.fnScope sIBatchEndless) := C8.fnScope_by (by decide +kernel)
theorem fn_iBatchEndless {C f : Addr} {fd : FuncData} (F : C8.Fun K "__init__" "BatchEndless.__init__" sIBatchEndless f fd) (Z : PapC K mg "BatchEndless" C ["spot", "rise"]) : FnOk P w K mg base C8.CX0 1 f fd ["self", "spot", "rise"] (spPI C ["spot", "rise"]) := by
  refine C8.fn0 F scIBatchEndless (fun vs H Q E h => ?_) (fun cdv A outer st H vs Q E hr h => ?_)
  · obtain ⟨a, dx, xs, rfl, hl, _⟩ := h
    rw [List.length_cons, hl]; rfl
  · obtain ⟨a, dx, xs, rfl, hl, ha, k⟩ := h
    match xs, hl with
    | [v1, v2], _ =>
    refine ⟨_, (pss_cons (ps_fld (pv 0) (pv 1) rfl) (pss_one (ps_fld (pv 0) (pv 2) rfl))), ?_⟩
    refine ⟨_, rfl, _, rfl, a, C, dx, [], rfl, ha, Z.cl, Z.no _ (by simp), ?_, ?_⟩
    · show 0 < 1000; decide
    refine ⟨_, rfl, _, rfl, a, C, dx, _, rfl, upd_same, Z.cl, Z.no _ (by simp), ?_, ?_⟩
    · exact Nat.lt_of_le_of_lt (puts_len ["spot"] [v1] []) (by decide)
    rw [upd_upd]
    exact k _ (fa_puts ["spot", "rise"] [v1, v2] [] (by decide) rfl)
abbrev sEBatchEndless : Stmt := inClass (top 10) 1
theorem scEBatchEndless : FnScope ["self", "other"] ["self", "other"] (C8.fnScope sEBatchEndless) := C8.fnScope_by (by decide +kernel)
theorem fn_eBatchEndless {C f : Addr} {fd : FuncData} (F : C8.Fun K "__eq__" "BatchEndless.__eq__" sEBatchEndless f fd) (Z : PapC K mg "BatchEndless" C ["spot", "rise"]) (hi : mg "isinstance" = none) : FnOk P w K mg base (L2.CX P w) 2 f fd ["self", "other"] (spPE K C ["spot", "rise"]) := by
  obtain ⟨oc, od, dV, kV, doc, pm, an, cdv, ct, osl, rfl, lk, hcd⟩ := F.ex
  refine fn_of lk hcd scEBatchEndless (fun vs H Q E h => ?_) fun A outer s H vs Q E hr h => ?_
  · obtain ⟨a, dx, fs, y, rfl, _⟩ := h
    rfl
  · obtain ⟨a, dx, fs, y, rfl, ha, h⟩ := h
    refine ⟨_, (pss_one (ps_ret (pe_and (pe_callB call_isz (by rfl) hi (by decide +kernel) (pa_cons (pv 1) (pa_cons (pe_glob (v := .ref C) (by rfl) Z.hm rfl) pa_nil))) (pe_and (pe_cmpR (op_eqV hr.units) (pe_fld (pv 0) rfl) (pe_fld (pv 1) rfl) (nomark _)) (pe_one (pe_cmpR (op_eqV hr.units) (pe_fld (pv 0) rfl) (pe_fld (pv 1) rfl) (nomark _))))))), ?_⟩
    exact eq_end Z ha h
abbrev sINeverLess : Stmt := inClass (top 12) 0
theorem scINeverLess : FnScope ["self", "begins"] ["self", "begins"] (C8.fnScope sINeverLess) := C8.fnScope_by (by decide +kernel)
theorem fn_iNeverLess {C f : Addr} {fd : FuncData} (F : C8.Fun K "__init__" "NeverLess.__init__" sINeverLess f fd) (Z : PapC K mg "NeverLess" C ["begins"]) : FnOk P w K mg base C8.CX0 1 f fd ["self", "begins"] (spPI C ["begins"]) := by
  refine C8.fn0 F scINeverLess (fun vs H Q E h => ?_) (fun cdv A outer st H vs Q E hr h => ?_)
  · obtain ⟨a, dx, xs, rfl, hl, _⟩ := h
    rw [List.length_cons, hl]; rfl
  · obtain ⟨a, dx, xs, rfl, hl, ha, k⟩ := h
    match xs, hl with
    | [v1], _ =>
    refine ⟨_, (pss_one (ps_fld (pv 0) (pv 1) rfl)), ?_⟩
    refine ⟨_, rfl, _, rfl, a, C, dx, [], rfl, ha, Z.cl, Z.no _ (by simp), ?_, ?_⟩
    · show 0 < 1000; decide
    exact k _ (fa_puts ["begins"] [v1] [] (by decide) rfl)
abbrev sENeverLess : Stmt := inClass (top 12) 1
theorem scENeverLess : FnScope ["self", "other"] ["self", "other"] (C8.fnScope sENeverLess) := C8.fnScope_by (by decide +kernel)
theorem fn_eNeverLess {C f : Addr} {fd : FuncData} (F : C8.Fun K "__eq__" "NeverLess.__eq__" sENeverLess f fd) (Z : PapC K mg "NeverLess" C ["begins"]) (hi : mg "isinstance" = none) : FnOk P w K mg base (L2.CX P w) 2 f fd ["self", "other"] (spPE K C ["begins"]) := by
  obtain ⟨oc, od, dV, kV, doc, pm, an, cdv, ct, osl, rfl, lk, hcd⟩ := F.ex
  refine fn_of lk hcd scENeverLess (fun vs H Q E h => ?_) fun A outer s H vs Q E hr h => ?_
  · obtain ⟨a, dx, fs, y, rfl, _⟩ := h
    rfl
  · obtain ⟨a, dx, fs, y, rfl, ha, h⟩ := h
    refine ⟨_, (pss_one (ps_ret (pe_and (pe_callB call_isz (by rfl) hi (by decide +kernel) (pa_cons (pv 1) (pa_cons (pe_glob (v := .ref C) (by rfl) Z.hm rfl) pa_nil))) (pe_one (pe_cmpR (op_eqV hr.units) (pe_fld (pv 0) rfl) (pe_fld (pv 1) rfl) (nomark _)))))), ?_⟩
    exact eq_end Z ha h
abbrev sISteady : Stmt := inClass (top 13) 0
theorem scISteady : FnScope ["self", "begins"] ["self", "begins"] (C8.fnScope sISteady) := C8.fnScope_by (by decide +kernel)
theorem fn_iSteady {C f : Addr} {fd : FuncData} (F : C8.Fun K "__init__" "Steady.__init__" sISteady f fd) (Z : PapC K mg "Steady" C ["begins"]) : FnOk P w K mg base C8.CX0 1 f fd ["self", "begins"] (spPI C ["begins"]) := by
  refine C8.fn0 F scISteady (fun vs H Q E h => ?_) (fun cdv A outer st H vs Q E hr h => ?_)
  · obtain ⟨a, dx, xs, rfl, hl, _⟩ := h
    rw [List.length_cons, hl]; rfl
  · obtain ⟨a, dx, xs, rfl, hl, ha, k⟩ := h
    match xs, hl with
    | [v1], _ =>
    refine ⟨_, (pss_one (ps_fld (pv 0) (pv 1) rfl)), ?_⟩
    refine ⟨_, rfl, _, rfl, a, C, dx, [], rfl, ha, Z.cl, Z.no _ (by simp), ?_, ?_⟩
    · show 0 < 1000; decide
    exact k _ (fa_puts ["begins"] [v1] [] (by decide) rfl)
abbrev sESteady : Stmt := inClass (top 13) 1
theorem scESteady : FnScope ["self", "other"] ["self", "other"] (C8.fnScope sESteady) := C8.fnScope_by (by decide +kernel)
theorem fn_eSteady {C f : Addr} {fd : FuncData} (F : C8.Fun K "__eq__" "Steady.__eq__" sESteady f fd) (Z : PapC K mg "Steady" C ["begins"]) (hi : mg "isinstance" = none) : FnOk P w K mg base (L2.CX P w) 2 f fd ["self", "other"] (spPE K C ["begins"]) := by
  obtain ⟨oc, od, dV, kV, doc, pm, an, cdv, ct, osl, rfl, lk, hcd⟩ := F.ex
  refine fn_of lk hcd scESteady (fun vs H Q E h => ?_) fun A outer s H vs Q E hr h => ?_
  · obtain ⟨a, dx, fs, y, rfl, _⟩ := h
    rfl
  · obtain ⟨a, dx, fs, y, rfl, ha, h⟩ := h
    refine ⟨_, (pss_one (ps_ret (pe_and (pe_callB call_isz (by rfl) hi (by decide +kernel) (pa_cons (pv 1) (pa_cons (pe_glob (v := .ref C) (by rfl) Z.hm rfl) pa_nil))) (pe_one (pe_cmpR (op_eqV hr.units) (pe_fld (pv 0) rfl) (pe_fld (pv 1) rfl) (nomark _)))))), ?_⟩
    exact eq_end Z ha h
abbrev sISame : Stmt := inClass (top 14) 0
theorem scISame : FnScope ["self", "first", "last"] ["self", "first", "last"] (C8.fnScope sISame) := C8.fnScope_by (by decide +kernel)
theorem fn_iSame {C f : Addr} {fd : FuncData} (F : C8.Fun K "__init__" "Same.__init__" sISame f fd) (Z : PapC K mg "Same" C ["first", "last"]) : FnOk P w K mg base C8.CX0 1 f fd ["self", "first", "last"] (spPI C ["first", "last"]) := by
  refine C8.fn0 F scISame (fun vs H Q E h => ?_) (fun cdv A outer st H vs Q E hr h => ?_)
  · obtain ⟨a, dx, xs, rfl, hl, _⟩ := h
    rw [List.length_cons, hl]; rfl
  · obtain ⟨a, dx, xs, rfl, hl, ha, k⟩ := h
    match xs, hl with
    | [v1, v2], _ =>
    refine ⟨_, (pss_cons (ps_fld (pv 0) (pv 1) rfl) (pss_one (ps_fld (pv 0) (pv 2) rfl))), ?_⟩
    refine ⟨_, rfl, _, rfl, a, C, dx, [], rfl, ha, Z.cl, Z.no _ (by simp), ?_, ?_⟩
    · show 0 < 1000; decide
    refine ⟨_, rfl, _, rfl, a, C, dx, _, rfl, upd_same, Z.cl, Z.no _ (by simp), ?_, ?_⟩
    · exact Nat.lt_of_le_of_lt (puts_len ["first"] [v1] []) (by decide)
    rw [upd_upd]
    exact k _ (fa_puts ["first", "last"] [v1, v2] [] (by decide) rfl)
abbrev sESame : Stmt := inClass (top 14) 1
theorem scESame : FnScope ["self", "other"] ["self", "other"] (C8.fnScope sESame) := C8.fnScope_by (by decide +kernel)
theorem fn_eSame {C f : Addr} {fd : FuncData} (F : C8.Fun K "__eq__" "Same.__eq__" sESame f fd) (Z : PapC K mg "Same" C ["first", "last"]) (hi : mg "isinstance" = none) : FnOk P w K mg base (L2.CX P w) 2 f fd ["self", "other"] (spPE K C ["first", "last"]) := by
  obtain ⟨oc, od, dV, kV, doc, pm, an, cdv, ct, osl, rfl, lk, hcd⟩ := F.ex
  refine fn_of lk hcd scESame (fun vs H Q E h => ?_) fun A outer s H vs Q E hr h => ?_
  · obtain ⟨a, dx, fs, y, rfl, _⟩ := h
    rfl
  · obtain ⟨a, dx, fs, y, rfl, ha, h⟩ := h
    refine ⟨_, (pss_one (ps_ret (pe_and (pe_callB call_isz (by rfl) hi (by decide +kernel) (pa_cons (pv 1) (pa_cons (pe_glob (v := .ref C) (by rfl) Z.hm rfl) pa_nil))) (pe_and (pe_cmpR (op_eqV hr.units) (pe_fld (pv 0) rfl) (pe_fld (pv 1) rfl) (nomark _)) (pe_one (pe_cmpR (op_eqV hr.units) (pe_fld (pv 0) rfl) (pe_fld (pv 1) rfl) (nomark _))))))), ?_⟩
    exact eq_end Z ha h
abbrev sISurely : Stmt := inClass (top 15) 0
theorem scISurely : FnScope ["self", "never", "steady"] ["self", "never", "steady"] (C8.fnScope sISurely) := C8.fnScope_by (by decide +kernel)
theorem fn_iSurely {C f : Addr} {fd : FuncData} (F : C8.Fun K "__init__" "Surely.__init__" sISurely f fd) (Z : PapC K mg "Surely" C ["never", "steady"]) : FnOk P w K mg base C8.CX0 1 f fd ["self", "never", "steady"] (spPI C ["never", "steady"]) := by
  refine C8.fn0 F scISurely (fun vs H Q E h => ?_) (fun cdv A outer st H vs Q E hr h => ?_)
  · obtain ⟨a, dx, xs, rfl, hl, _⟩ := h
    rw [List.length_cons, hl]; rfl
  · obtain ⟨a, dx, xs, rfl, hl, ha, k⟩ := h
    match xs, hl with
    | [v1, v2], _ =>
    refine ⟨_, (pss_cons (ps_fld (pv 0) (pv 1) rfl) (pss_one (ps_fld (pv 0) (pv 2) rfl))), ?_⟩
    refine ⟨_, rfl, _, rfl, a, C, dx, [], rfl, ha, Z.cl, Z.no _ (by simp), ?_, ?_⟩
    · show 0 < 1000; decide
    refine ⟨_, rfl, _, rfl, a, C, dx, _, rfl, upd_same, Z.cl, Z.no _ (by simp), ?_, ?_⟩
    · exact Nat.lt_of_le_of_lt (puts_len ["never"] [v1] []) (by decide)
    rw [upd_upd]
    exact k _ (fa_puts ["never", "steady"] [v1, v2] [] (by decide) rfl)
abbrev sESurely : Stmt := inClass (top 15) 1
theorem scESurely : FnScope ["self", "other"] ["self", "other"] (C8.fnScope sESurely) := C8.fnScope_by (by decide +kernel)
theorem fn_eSurely {C f : Addr} {fd : FuncData} (F : C8.Fun K "__eq__" "Surely.__eq__" sESurely f fd) (Z : PapC K mg "Surely" C ["never", "steady"]) (hi : mg "isinstance" = none) : FnOk P w K mg base (L2.CX P w) 2 f fd ["self", "other"] (spPE K C ["never", "steady"]) := by
  obtain ⟨oc, od, dV, kV, doc, pm, an, cdv, ct, osl, rfl, lk, hcd⟩ := F.ex
  refine fn_of lk hcd scESurely (fun vs H Q E h => ?_) fun A outer s H vs Q E hr h => ?_
  · obtain ⟨a, dx, fs, y, rfl, _⟩ := h
    rfl
  · obtain ⟨a, dx, fs, y, rfl, ha, h⟩ := h
    refine ⟨_, (pss_one (ps_ret (pe_and (pe_callB call_isz (by rfl) hi (by decide +kernel) (pa_cons (pv 1) (pa_cons (pe_glob (v := .ref C) (by rfl) Z.hm rfl) pa_nil))) (pe_and (pe_cmpR (op_eqV hr.units) (pe_fld (pv 0) rfl) (pe_fld (pv 1) rfl) (nomark _)) (pe_one (pe_cmpR (op_eqV hr.units) (pe_fld (pv 0) rfl) (pe_fld (pv 1) rfl) (nomark _))))))), ?_⟩
    exact eq_end Z ha h
abbrev sILess : Stmt := inClass (top 16) 0
theorem scILess : FnScope ["self", "rest"] ["self", "rest"] (C8.fnScope sILess) := C8.fnScope_by (by decide +kernel)
theorem fn_iLess {C f : Addr} {fd : FuncData} (F : C8.Fun K "__init__" "Less.__init__" sILess f fd) (Z : PapC K mg "Less" C ["rest"]) : FnOk P w K mg base C8.CX0 1 f fd ["self", "rest"] (spPI C ["rest"]) := by
  refine C8.fn0 F scILess (fun vs H Q E h => ?_) (fun cdv A outer st H vs Q E hr h => ?_)
  · obtain ⟨a, dx, xs, rfl, hl, _⟩ := h
    rw [List.length_cons, hl]; rfl
  · obtain ⟨a, dx, xs, rfl, hl, ha, k⟩ := h
    match xs, hl with
    | [v1], _ =>
    refine ⟨_, (pss_one (ps_fld (pv 0) (pv 1) rfl)), ?_⟩
    refine ⟨_, rfl, _, rfl, a, C, dx, [], rfl, ha, Z.cl, Z.no _ (by simp), ?_, ?_⟩
    · show 0 < 1000; decide
    exact k _ (fa_puts ["rest"] [v1] [] (by decide) rfl)
abbrev sELess : Stmt := inClass (top 16) 1
theorem scELess : FnScope ["self", "other"] ["self", "other"] (C8.fnScope sELess) := C8.fnScope_by (by decide +kernel)
theorem fn_eLess {C f : Addr} {fd : FuncData} (F : C8.Fun K "__eq__" "Less.__eq__" sELess f fd) (Z : PapC K mg "Less" C ["rest"]) (hi : mg "isinstance" = none) : FnOk P w K mg base (L2.CX P w) 2 f fd ["self", "other"] (spPE K C ["rest"]) := by
  obtain ⟨oc, od, dV, kV, doc, pm, an, cdv, ct, osl, rfl, lk, hcd⟩ := F.ex
  refine fn_of lk hcd scELess (fun vs H Q E h => ?_) fun A outer s H vs Q E hr h => ?_
  · obtain ⟨a, dx, fs, y, rfl, _⟩ := h
    rfl
  · obtain ⟨a, dx, fs, y, rfl, ha, h⟩ := h
    refine ⟨_, (pss_one (ps_ret (pe_and (pe_callB call_isz (by rfl) hi (by decide +kernel) (pa_cons (pv 1) (pa_cons (pe_glob (v := .ref C) (by rfl) Z.hm rfl) pa_nil))) (pe_one (pe_cmpR (op_eqV hr.units) (pe_fld (pv 0) rfl) (pe_fld (pv 1) rfl) (nomark _)))))), ?_⟩
    exact eq_end Z ha h
abbrev sIJump : Stmt := inClass (top 17) 0
theorem scIJump : FnScope ["self", "rest"] ["self", "rest"] (C8.fnScope sIJump) := C8.fnScope_by (by decide +kernel)
theorem fn_iJump {C f : Addr} {fd : FuncData} (F : C8.Fun K "__init__" "Jump.__init__" sIJump f fd) (Z : PapC K mg "Jump" C ["rest"]) : FnOk P w K mg base C8.CX0 1 f fd ["self", "rest"] (spPI C ["rest"]) := by
  refine C8.fn0 F scIJump (fun vs H Q E h => ?_) (fun cdv A outer st H vs Q E hr h => ?_)
  · obtain ⟨a, dx, xs, rfl, hl, _⟩ := h
    rw [List.length_cons, hl]; rfl
  · obtain ⟨a, dx, xs, rfl, hl, ha, k⟩ := h
    match xs, hl with
    | [v1], _ =>
    refine ⟨_, (pss_one (ps_fld (pv 0) (pv 1) rfl)), ?_⟩
    refine ⟨_, rfl, _, rfl, a, C, dx, [], rfl, ha, Z.cl, Z.no _ (by simp), ?_, ?_⟩
    · show 0 < 1000; decide
    exact k _ (fa_puts ["rest"] [v1] [] (by decide) rfl)
abbrev sEJump : Stmt := inClass (top 17) 1
theorem scEJump : FnScope ["self", "other"] ["self", "other"] (C8.fnScope sEJump) := C8.fnScope_by (by decide +kernel)
theorem fn_eJump {C f : Addr} {fd : FuncData} (F : C8.Fun K "__eq__" "Jump.__eq__" sEJump f fd) (Z : PapC K mg "Jump" C ["rest"]) (hi : mg "isinstance" = none) : FnOk P w K mg base (L2.CX P w) 2 f fd ["self", "other"] (spPE K C ["rest"]) := by
  obtain ⟨oc, od, dV, kV, doc, pm, an, cdv, ct, osl, rfl, lk, hcd⟩ := F.ex
  refine fn_of lk hcd scEJump (fun vs H Q E h => ?_) fun A outer s H vs Q E hr h => ?_
  · obtain ⟨a, dx, fs, y, rfl, _⟩ := h
    rfl
  · obtain ⟨a, dx, fs, y, rfl, ha, h⟩ := h
    refine ⟨_, (pss_one (ps_ret (pe_and (pe_callB call_isz (by rfl) hi (by decide +kernel) (pa_cons (pv 1) (pa_cons (pe_glob (v := .ref C) (by rfl) Z.hm rfl) pa_nil))) (pe_one (pe_cmpR (op_eqV hr.units) (pe_fld (pv 0) rfl) (pe_fld (pv 1) rfl) (nomark _)))))), ?_⟩
    exact eq_end Z ha h
abbrev sIOther : Stmt := inClass (top 18) 0
theorem scIOther : FnScope ["self", "rest"] ["self", "rest"] (C8.fnScope sIOther) := C8.fnScope_by (by decide +kernel)
theorem fn_iOther {C f : Addr} {fd : FuncData} (F : C8.Fun K "__init__" "Other.__init__" sIOther f fd) (Z : PapC K mg "Other" C ["rest"]) : FnOk P w K mg base C8.CX0 1 f fd ["self", "rest"] (spPI C ["rest"]) := by
  refine C8.fn0 F scIOther (fun vs H Q E h => ?_) (fun cdv A outer st H vs Q E hr h => ?_)
  · obtain ⟨a, dx, xs, rfl, hl, _⟩ := h
    rw [List.length_cons, hl]; rfl
  · obtain ⟨a, dx, xs, rfl, hl, ha, k⟩ := h
    match xs, hl with
    | [v1], _ =>
    refine ⟨_, (pss_one (ps_fld (pv 0) (pv 1) rfl)), ?_⟩
    refine ⟨_, rfl, _, rfl, a, C, dx, [], rfl, ha, Z.cl, Z.no _ (by simp), ?_, ?_⟩
    · show 0 < 1000; decide
    exact k _ (fa_puts ["rest"] [v1] [] (by decide) rfl)
abbrev sEOther : Stmt := inClass (top 18) 1
theorem scEOther : FnScope ["self", "other"] ["self", "other"] (C8.fnScope sEOther) := C8.fnScope_by (by decide +kernel)
theorem fn_eOther {C f : Addr} {fd : FuncData} (F : C8.Fun K "__eq__" "Other.__eq__" sEOther f fd) (Z : PapC K mg "Other" C ["rest"]) (hi : mg "isinstance" = none) : FnOk P w K mg base (L2.CX P w) 2 f fd ["self", "other"] (spPE K C ["rest"]) := by
  obtain ⟨oc, od, dV, kV, doc, pm, an, cdv, ct, osl, rfl, lk, hcd⟩ := F.ex
  refine fn_of lk hcd scEOther (fun vs H Q E h => ?_) fun A outer s H vs Q E hr h => ?_
  · obtain ⟨a, dx, fs, y, rfl, _⟩ := h
    rfl
  · obtain ⟨a, dx, fs, y, rfl, ha, h⟩ := h
    refine ⟨_, (pss_one (ps_ret (pe_and (pe_callB call_isz (by rfl) hi (by decide +kernel) (pa_cons (pv 1) (pa_cons (pe_glob (v := .ref C) (by rfl) Z.hm rfl) pa_nil))) (pe_one (pe_cmpR (op_eqV hr.units) (pe_fld (pv 0) rfl) (pe_fld (pv 1) rfl) (nomark _)))))), ?_⟩
    exact eq_end Z ha h
abbrev sICounter : Stmt := inClass (top 19) 0
theorem scICounter : FnScope ["self", "total", "counts"] ["self", "total", "counts"] (C8.fnScope sICounter) := C8.fnScope_by (by decide +kernel)
theorem fn_iCounter {C f : Addr} {fd : FuncData} (F : C8.Fun K "__init__" "Counter.__init__" sICounter f fd) (Z : PapC K mg "Counter" C ["total", "counts"]) : FnOk P w K mg base C8.CX0 1 f fd ["self", "total", "counts"] (spPI C ["total", "counts"]) := by
  refine C8.fn0 F scICounter (fun vs H Q E h => ?_) (fun cdv A outer st H vs Q E hr h => ?_)
  · obtain ⟨a, dx, xs, rfl, hl, _⟩ := h
    rw [List.length_cons, hl]; rfl
  · obtain ⟨a, dx, xs, rfl, hl, ha, k⟩ := h
    match xs, hl with
    | [v1, v2], _ =>
    refine ⟨_, (pss_cons (ps_fld (pv 0) (pv 1) rfl) (pss_one (ps_fld (pv 0) (pv 2) rfl))), ?_⟩
    refine ⟨_, rfl, _, rfl, a, C, dx, [], rfl, ha, Z.cl, Z.no _ (by simp), ?_, ?_⟩
    · show 0 < 1000; decide
    refine ⟨_, rfl, _, rfl, a, C, dx, _, rfl, upd_same, Z.cl, Z.no _ (by simp), ?_, ?_⟩
    · exact Nat.lt_of_le_of_lt (puts_len ["total"] [v1] []) (by decide)
    rw [upd_upd]
    exact k _ (fa_puts ["total", "counts"] [v1, v2] [] (by decide) rfl)
abbrev sECounter : Stmt := inClass (top 19) 1
theorem scECounter : FnScope ["self", "other"] ["self", "other"] (C8.fnScope sECounter) := C8.fnScope_by (by decide +kernel)
theorem fn_eCounter {C f : Addr} {fd : FuncData} (F : C8.Fun K "__eq__" "Counter.__eq__" sECounter f fd) (Z : PapC K mg "Counter" C ["total", "counts"]) (hi : mg "isinstance" = none) : FnOk P w K mg base (L2.CX P w) 2 f fd ["self", "other"] (spPE K C ["total", "counts"]) := by
  obtain ⟨oc, od, dV, kV, doc, pm, an, cdv, ct, osl, rfl, lk, hcd⟩ := F.ex
  refine fn_of lk hcd scECounter (fun vs H Q E h => ?_) fun A outer s H vs Q E hr h => ?_
  · obtain ⟨a, dx, fs, y, rfl, _⟩ := h
    rfl
  · obtain ⟨a, dx, fs, y, rfl, ha, h⟩ := h
    refine ⟨_, (pss_one (ps_ret (pe_and (pe_callB call_isz (by rfl) hi (by decide +kernel) (pa_cons (pv 1) (pa_cons (pe_glob (v := .ref C) (by rfl) Z.hm rfl) pa_nil))) (pe_and (pe_cmpR (op_eqV hr.units) (pe_fld (pv 0) rfl) (pe_fld (pv 1) rfl) (nomark _)) (pe_one (pe_cmpR (op_eqV hr.units) (pe_fld (pv 0) rfl) (pe_fld (pv 1) rfl) (nomark _))))))), ?_⟩
    exact eq_end Z ha h
abbrev sIUndecided : Stmt := inClass (top 20) 0
theorem scIUndecided : FnScope ["self", "upto"] ["self", "upto"] (C8.fnScope sIUndecided) := C8.fnScope_by (by decide +kernel)
theorem fn_iUndecided {C f : Addr} {fd : FuncData} (F : C8.Fun K "__init__" "Undecided.__init__" sIUndecided f fd) (Z : PapC K mg "Undecided" C ["upto"]) : FnOk P w K mg base C8.CX0 1 f fd ["self", "upto"] (spPI C ["upto"]) := by
  refine C8.fn0 F scIUndecided (fun vs H Q E h => ?_) (fun cdv A outer st H vs Q E hr h => ?_)
  · obtain ⟨a, dx, xs, rfl, hl, _⟩ := h
    rw [List.length_cons, hl]; rfl
  · obtain ⟨a, dx, xs, rfl, hl, ha, k⟩ := h
    match xs, hl with
    | [v1], _ =>
    refine ⟨_, (pss_one (ps_fld (pv 0) (pv 1) rfl)), ?_⟩
    refine ⟨_, rfl, _, rfl, a, C, dx, [], rfl, ha, Z.cl, Z.no _ (by simp), ?_, ?_⟩
    · show 0 < 1000; decide
    exact k _ (fa_puts ["upto"] [v1] [] (by decide) rfl)
abbrev sEUndecided : Stmt := inClass (top 20) 1
theorem scEUndecided : FnScope ["self", "other"] ["self", "other"] (C8.fnScope sEUndecided) := C8.fnScope_by (by decide +kernel)
theorem fn_eUndecided {C f : Addr} {fd : FuncData} (F : C8.Fun K "__eq__" "Undecided.__eq__" sEUndecided f fd) (Z : PapC K mg "Undecided" C ["upto"]) (hi : mg "isinstance" = none) : FnOk P w K mg base (L2.CX P w) 2 f fd ["self", "other"] (spPE K C ["upto"]) := by
  obtain ⟨oc, od, dV, kV, doc, pm, an, cdv, ct, osl, rfl, lk, hcd⟩ := F.ex
  refine fn_of lk hcd scEUndecided (fun vs H Q E h => ?_) fun A outer s H vs Q E hr h => ?_
  · obtain ⟨a, dx, fs, y, rfl, _⟩ := h
    rfl
  · obtain ⟨a, dx, fs, y, rfl, ha, h⟩ := h
    refine ⟨_, (pss_one (ps_ret (pe_and (pe_callB call_isz (by rfl) hi (by decide +kernel) (pa_cons (pv 1) (pa_cons (pe_glob (v := .ref C) (by rfl) Z.hm rfl) pa_nil))) (pe_one (pe_cmpR (op_eqV hr.units) (pe_fld (pv 0) rfl) (pe_fld (pv 1) rfl) (nomark _)))))), ?_⟩
    exact eq_end Z ha h
abbrev sIBound : Stmt := inClass (top 22) 0
theorem scIBound : FnScope ["self", "late", "rest"] ["self", "late", "rest"] (C8.fnScope sIBound) := C8.fnScope_by (by decide +kernel)
theorem fn_iBound {C f : Addr} {fd : FuncData} (F : C8.Fun K "__init__" "Bound.__init__" sIBound f fd) (Z : PapC K mg "Bound" C ["late", "rest"]) : FnOk P w K mg base C8.CX0 1 f fd ["self", "late", "rest"] (spPI C ["late", "rest"]) := by
  refine C8.fn0 F scIBound (fun vs H Q E h => ?_) (fun cdv A outer st H vs Q E hr h => ?_)
  · obtain ⟨a, dx, xs, rfl, hl, _⟩ := h
    rw [List.length_cons, hl]; rfl
  · obtain ⟨a, dx, xs, rfl, hl, ha, k⟩ := h
    match xs, hl with
    | [v1, v2], _ =>
    refine ⟨_, (pss_cons (ps_fld (pv 0) (pv 1) rfl) (pss_one (ps_fld (pv 0) (pv 2) rfl))), ?_⟩
    refine ⟨_, rfl, _, rfl, a, C, dx, [], rfl, ha, Z.cl, Z.no _ (by simp), ?_, ?_⟩
    · show 0 < 1000; decide
    refine ⟨_, rfl, _, rfl, a, C, dx, _, rfl, upd_same, Z.cl, Z.no _ (by simp), ?_, ?_⟩
    · exact Nat.lt_of_le_of_lt (puts_len ["late"] [v1] []) (by decide)
    rw [upd_upd]
    exact k _ (fa_puts ["late", "rest"] [v1, v2] [] (by decide) rfl)
abbrev sEBound : Stmt := inClass (top 22) 1
theorem scEBound : FnScope ["self", "other"] ["self", "other"] (C8.fnScope sEBound) := C8.fnScope_by (by decide +kernel)
theorem fn_eBound {C f : Addr} {fd : FuncData} (F : C8.Fun K "__eq__" "Bound.__eq__" sEBound f fd) (Z : PapC K mg "Bound" C ["late", "rest"]) (hi : mg "isinstance" = none) : FnOk P w K mg base (L2.CX P w) 2 f fd ["self", "other"] (spPE K C ["late", "rest"]) := by
  obtain ⟨oc, od, dV, kV, doc, pm, an, cdv, ct, osl, rfl, lk, hcd⟩ := F.ex
  refine fn_of lk hcd scEBound (fun vs H Q E h => ?_) fun A outer s H vs Q E hr h => ?_
  · obtain ⟨a, dx, fs, y, rfl, _⟩ := h
    rfl
  · obtain ⟨a, dx, fs, y, rfl, ha, h⟩ := h
    refine ⟨_, (pss_one (ps_ret (pe_and (pe_callB call_isz (by rfl) hi (by decide +kernel) (pa_cons (pv 1) (pa_cons (pe_glob (v := .ref C) (by rfl) Z.hm rfl) pa_nil))) (pe_and (pe_cmpR (op_eqV hr.units) (pe_fld (pv 0) rfl) (pe_fld (pv 1) rfl) (nomark _)) (pe_one (pe_cmpR (op_eqV hr.units) (pe_fld (pv 0) rfl) (pe_fld (pv 1) rfl) (nomark _))))))), ?_⟩
    exact eq_end Z ha h
abbrev sIEndless : Stmt := inClass (top 23) 0
theorem scIEndless : FnScope ["self", "residue", "begin"] ["self", "residue", "begin"] (C8.fnScope sIEndless) := C8.fnScope_by (by decide +kernel)
theorem fn_iEndless {C f : Addr} {fd : FuncData} (F : C8.Fun K "__init__" "Endless.__init__" sIEndless f fd) (Z : PapC K mg "Endless" C ["residue", "begin"]) : FnOk P w K mg base C8.CX0 1 f fd ["self", "residue", "begin"] (spPI C ["residue", "begin"]) := by
  refine C8.fn0 F scIEndless (fun vs H Q E h => ?_) (fun cdv A outer st H vs Q E hr h => ?_)
  · obtain ⟨a, dx, xs, rfl, hl, _⟩ := h
    rw [List.length_cons, hl]; rfl
  · obtain ⟨a, dx, xs, rfl, hl, ha, k⟩ := h
    match xs, hl with
    | [v1, v2], _ =>
    refine ⟨_, (pss_cons (ps_fld (pv 0) (pv 1) rfl) (pss_one (ps_fld (pv 0) (pv 2) rfl))), ?_⟩
    refine ⟨_, rfl, _, rfl, a, C, dx, [], rfl, ha, Z.cl, Z.no _ (by simp), ?_, ?_⟩
    · show 0 < 1000; decide
    refine ⟨_, rfl, _, rfl, a, C, dx, _, rfl, upd_same, Z.cl, Z.no _ (by simp), ?_, ?_⟩
    · exact Nat.lt_of_le_of_lt (puts_len ["residue"] [v1] []) (by decide)
    rw [upd_upd]
    exact k _ (fa_puts ["residue", "begin"] [v1, v2] [] (by decide) rfl)
abbrev sEEndless : Stmt := inClass (top 23) 1
theorem scEEndless : FnScope ["self", "other"] ["self", "other"] (C8.fnScope sEEndless) := C8.fnScope_by (by decide +kernel)
theorem fn_eEndless {C f : Addr} {fd : FuncData} (F : C8.Fun K "__eq__" "Endless.__eq__" sEEndless f fd) (Z : PapC K mg "Endless" C ["residue", "begin"]) (hi : mg "isinstance" = none) : FnOk P w K mg base (L2.CX P w) 2 f fd ["self", "other"] (spPE K C ["residue", "begin"]) := by
  obtain ⟨oc, od, dV, kV, doc, pm, an, cdv, ct, osl, rfl, lk, hcd⟩ := F.ex
  refine fn_of lk hcd scEEndless (fun vs H Q E h => ?_) fun A outer s H vs Q E hr h => ?_
  · obtain ⟨a, dx, fs, y, rfl, _⟩ := h
    rfl
  · obtain ⟨a, dx, fs, y, rfl, ha, h⟩ := h
    refine ⟨_, (pss_one (ps_ret (pe_and (pe_callB call_isz (by rfl) hi (by decide +kernel) (pa_cons (pv 1) (pa_cons (pe_glob (v := .ref C) (by rfl) Z.hm rfl) pa_nil))) (pe_and (pe_cmpR (op_eqV hr.units) (pe_fld (pv 0) rfl) (pe_fld (pv 1) rfl) (nomark _)) (pe_one (pe_cmpR (op_eqV hr.units) (pe_fld (pv 0) rfl) (pe_fld (pv 1) rfl) (nomark _))))))), ?_⟩
    exact eq_end Z ha h
abbrev sIWithin : Stmt := inClass (top 24) 0
theorem scIWithin : FnScope ["self", "table"] ["self", "table"] (C8.fnScope sIWithin) := C8.fnScope_by (by decide +kernel)
theorem fn_iWithin {C f : Addr} {fd : FuncData} (F : C8.Fun K "__init__" "Within.__init__" sIWithin f fd) (Z : PapC K mg "Within" C ["table"]) : FnOk P w K mg base C8.CX0 1 f fd ["self", "table"] (spPI C ["table"]) := by
  refine C8.fn0 F scIWithin (fun vs H Q E h => ?_) (fun cdv A outer st H vs Q E hr h => ?_)
  · obtain ⟨a, dx, xs, rfl, hl, _⟩ := h
    rw [List.length_cons, hl]; rfl
  · obtain ⟨a, dx, xs, rfl, hl, ha, k⟩ := h
    match xs, hl with
    | [v1], _ =>
    refine ⟨_, (pss_one (ps_fld (pv 0) (pv 1) rfl)), ?_⟩
    refine ⟨_, rfl, _, rfl, a, C, dx, [], rfl, ha, Z.cl, Z.no _ (by simp), ?_, ?_⟩
    · show 0 < 1000; decide
    exact k _ (fa_puts ["table"] [v1] [] (by decide) rfl)
abbrev sEWithin : Stmt := inClass (top 24) 1
theorem scEWithin : FnScope ["self", "other"] ["self", "other"] (C8.fnScope sEWithin) := C8.fnScope_by (by decide +kernel)
theorem fn_eWithin {C f : Addr} {fd : FuncData} (F : C8.Fun K "__eq__" "Within.__eq__" sEWithin f fd) (Z : PapC K mg "Within" C ["table"]) (hi : mg "isinstance" = none) : FnOk P w K mg base (L2.CX P w) 2 f fd ["self", "other"] (spPE K C ["table"]) := by
  obtain ⟨oc, od, dV, kV, doc, pm, an, cdv, ct, osl, rfl, lk, hcd⟩ := F.ex
  refine fn_of lk hcd scEWithin (fun vs H Q E h => ?_) fun A outer s H vs Q E hr h => ?_
  · obtain ⟨a, dx, fs, y, rfl, _⟩ := h
    rfl
  · obtain ⟨a, dx, fs, y, rfl, ha, h⟩ := h
    refine ⟨_, (pss_one (ps_ret (pe_and (pe_callB call_isz (by rfl) hi (by decide +kernel) (pa_cons (pv 1) (pa_cons (pe_glob (v := .ref C) (by rfl) Z.hm rfl) pa_nil))) (pe_one (pe_cmpR (op_eqV hr.units) (pe_fld (pv 0) rfl) (pe_fld (pv 1) rfl) (nomark _)))))), ?_⟩
    exact eq_end Z ha h
abbrev sIBeyond : Stmt := inClass (top 25) 0
theorem scIBeyond : FnScope ["self", "rest", "late"] ["self", "rest", "late"] (C8.fnScope sIBeyond) := C8.fnScope_by (by decide +kernel)
theorem fn_iBeyond {C f : Addr} {fd : FuncData} (F : C8.Fun K "__init__" "Beyond.__init__" sIBeyond f fd) (Z : PapC K mg "Beyond" C ["rest", "late"]) : FnOk P w K mg base C8.CX0 1 f fd ["self", "rest", "late"] (spPI C ["rest", "late"]) := by
  refine C8.fn0 F scIBeyond (fun vs H Q E h => ?_) (fun cdv A outer st H vs Q E hr h => ?_)
  · obtain ⟨a, dx, xs, rfl, hl, _⟩ := h
    rw [List.length_cons, hl]; rfl
  · obtain ⟨a, dx, xs, rfl, hl, ha, k⟩ := h
    match xs, hl with
    | [v1, v2], _ =>
    refine ⟨_, (pss_cons (ps_fld (pv 0) (pv 1) rfl) (pss_one (ps_fld (pv 0) (pv 2) rfl))), ?_⟩
    refine ⟨_, rfl, _, rfl, a, C, dx, [], rfl, ha, Z.cl, Z.no _ (by simp), ?_, ?_⟩
    · show 0 < 1000; decide
    refine ⟨_, rfl, _, rfl, a, C, dx, _, rfl, upd_same, Z.cl, Z.no _ (by simp), ?_, ?_⟩
    · exact Nat.lt_of_le_of_lt (puts_len ["rest"] [v1] []) (by decide)
    rw [upd_upd]
    exact k _ (fa_puts ["rest", "late"] [v1, v2] [] (by decide) rfl)
abbrev sEBeyond : Stmt := inClass (top 25) 1
theorem scEBeyond : FnScope ["self", "other"] ["self", "other"] (C8.fnScope sEBeyond) := C8.fnScope_by (by decide +kernel)
theorem fn_eBeyond {C f : Addr} {fd : FuncData} (F : C8.Fun K "__eq__" "Beyond.__eq__" sEBeyond f fd) (Z : PapC K mg "Beyond" C ["rest", "late"]) (hi : mg "isinstance" = none) : FnOk P w K mg base (L2.CX P w) 2 f fd ["self", "other"] (spPE K C ["rest", "late"]) := by
  obtain ⟨oc, od, dV, kV, doc, pm, an, cdv, ct, osl, rfl, lk, hcd⟩ := F.ex
  refine fn_of lk hcd scEBeyond (fun vs H Q E h => ?_) fun A outer s H vs Q E hr h => ?_
  · obtain ⟨a, dx, fs, y, rfl, _⟩ := h
    rfl
  · obtain ⟨a, dx, fs, y, rfl, ha, h⟩ := h
    refine ⟨_, (pss_one (ps_ret (pe_and (pe_callB call_isz (by rfl) hi (by decide +kernel) (pa_cons (pv 1) (pa_cons (pe_glob (v := .ref C) (by rfl) Z.hm rfl) pa_nil))) (pe_and (pe_cmpR (op_eqV hr.units) (pe_fld (pv 0) rfl) (pe_fld (pv 1) rfl) (nomark _)) (pe_one (pe_cmpR (op_eqV hr.units) (pe_fld (pv 0) rfl) (pe_fld (pv 1) rfl) (nomark _))))))), ?_⟩
    exact eq_end Z ha h
abbrev sILatest : Stmt := inClass (top 27) 0
theorem scILatest : FnScope ["self", "late", "at", "world"] ["self", "late", "at", "world"] (C8.fnScope sILatest) := C8.fnScope_by (by decide +kernel)
theorem fn_iLatest {C f : Addr} {fd : FuncData} (F : C8.Fun K "__init__" "Latest.__init__" sILatest f fd) (Z : PapC K mg "Latest" C ["late", "at", "world"]) : FnOk P w K mg base C8.CX0 1 f fd ["self", "late", "at", "world"] (spPI C ["late", "at", "world"]) := by
  refine C8.fn0 F scILatest (fun vs H Q E h => ?_) (fun cdv A outer st H vs Q E hr h => ?_)
  · obtain ⟨a, dx, xs, rfl, hl, _⟩ := h
    rw [List.length_cons, hl]; rfl
  · obtain ⟨a, dx, xs, rfl, hl, ha, k⟩ := h
    match xs, hl with
    | [v1, v2, v3], _ =>
    refine ⟨_, (pss_cons (ps_fld (pv 0) (pv 1) rfl) (pss_cons (ps_fld (pv 0) (pv 2) rfl) (pss_one (ps_fld (pv 0) (pv 3) rfl)))), ?_⟩
    refine ⟨_, rfl, _, rfl, a, C, dx, [], rfl, ha, Z.cl, Z.no _ (by simp), ?_, ?_⟩
    · show 0 < 1000; decide
    refine ⟨_, rfl, _, rfl, a, C, dx, _, rfl, upd_same, Z.cl, Z.no _ (by simp), ?_, ?_⟩
    · exact Nat.lt_of_le_of_lt (puts_len ["late"] [v1] []) (by decide)
    refine ⟨_, rfl, _, rfl, a, C, dx, _, rfl, upd_same, Z.cl, Z.no _ (by simp), ?_, ?_⟩
    · exact Nat.lt_of_le_of_lt (puts_len ["late", "at"] [v1, v2] []) (by decide)
    rw [upd_upd, upd_upd]
    exact k _ (fa_puts ["late", "at", "world"] [v1, v2, v3] [] (by decide) rfl)
abbrev sELatest : Stmt := inClass (top 27) 1
theorem scELatest : FnScope ["self", "other"] ["self", "other"] (C8.fnScope sELatest) := C8.fnScope_by (by decide +kernel)
theorem fn_eLatest {C f : Addr} {fd : FuncData} (F : C8.Fun K "__eq__" "Latest.__eq__" sELatest f fd) (Z : PapC K mg "Latest" C ["late", "at", "world"]) (hi : mg "isinstance" = none) : FnOk P w K mg base (L2.CX P w) 2 f fd ["self", "other"] (spPE K C ["late", "at", "world"]) := by
  obtain ⟨oc, od, dV, kV, doc, pm, an, cdv, ct, osl, rfl, lk, hcd⟩ := F.ex
  refine fn_of lk hcd scELatest (fun vs H Q E h => ?_) fun A outer s H vs Q E hr h => ?_
  · obtain ⟨a, dx, fs, y, rfl, _⟩ := h
    rfl
  · obtain ⟨a, dx, fs, y, rfl, ha, h⟩ := h
    refine ⟨_, (pss_one (ps_ret (pe_and (pe_callB call_isz (by rfl) hi (by decide +kernel) (pa_cons (pv 1) (pa_cons (pe_glob (v := .ref C) (by rfl) Z.hm rfl) pa_nil))) (pe_and (pe_cmpR (op_eqV hr.units) (pe_fld (pv 0) rfl) (pe_fld (pv 1) rfl) (nomark _)) (pe_and (pe_cmpR (op_eqV hr.units) (pe_fld (pv 0) rfl) (pe_fld (pv 1) rfl) (nomark _)) (pe_one (pe_cmpR (op_eqV hr.units) (pe_fld (pv 0) rfl) (pe_fld (pv 1) rfl) (nomark _)))))))), ?_⟩
    exact eq_end Z ha h
abbrev sITaking : Stmt := inClass (top 29) 0
theorem scITaking : FnScope ["self", "worker", "at", "begun", "ended"] ["self", "worker", "at", "begun", "ended"] (C8.fnScope sITaking) := C8.fnScope_by (by decide +kernel)
theorem fn_iTaking {C f : Addr} {fd : FuncData} (F : C8.Fun K "__init__" "Taking.__init__" sITaking f fd) (Z : PapC K mg "Taking" C ["worker", "at", "begun", "ended"]) : FnOk P w K mg base C8.CX0 1 f fd ["self", "worker", "at", "begun", "ended"] (spPI C ["worker", "at", "begun", "ended"]) := by
  refine C8.fn0 F scITaking (fun vs H Q E h => ?_) (fun cdv A outer st H vs Q E hr h => ?_)
  · obtain ⟨a, dx, xs, rfl, hl, _⟩ := h
    rw [List.length_cons, hl]; rfl
  · obtain ⟨a, dx, xs, rfl, hl, ha, k⟩ := h
    match xs, hl with
    | [v1, v2, v3, v4], _ =>
    refine ⟨_, (pss_cons (ps_fld (pv 0) (pv 1) rfl) (pss_cons (ps_fld (pv 0) (pv 2) rfl) (pss_cons (ps_fld (pv 0) (pv 3) rfl) (pss_one (ps_fld (pv 0) (pv 4) rfl))))), ?_⟩
    refine ⟨_, rfl, _, rfl, a, C, dx, [], rfl, ha, Z.cl, Z.no _ (by simp), ?_, ?_⟩
    · show 0 < 1000; decide
    refine ⟨_, rfl, _, rfl, a, C, dx, _, rfl, upd_same, Z.cl, Z.no _ (by simp), ?_, ?_⟩
    · exact Nat.lt_of_le_of_lt (puts_len ["worker"] [v1] []) (by decide)
    refine ⟨_, rfl, _, rfl, a, C, dx, _, rfl, upd_same, Z.cl, Z.no _ (by simp), ?_, ?_⟩
    · exact Nat.lt_of_le_of_lt (puts_len ["worker", "at"] [v1, v2] []) (by decide)
    refine ⟨_, rfl, _, rfl, a, C, dx, _, rfl, upd_same, Z.cl, Z.no _ (by simp), ?_, ?_⟩
    · exact Nat.lt_of_le_of_lt (puts_len ["worker", "at", "begun"] [v1, v2, v3] []) (by decide)
    rw [upd_upd, upd_upd, upd_upd]
    exact k _ (fa_puts ["worker", "at", "begun", "ended"] [v1, v2, v3, v4] [] (by decide) rfl)
abbrev sETaking : Stmt := inClass (top 29) 1
theorem scETaking : FnScope ["self", "other"] ["self", "other"] (C8.fnScope sETaking) := C8.fnScope_by (by decide +kernel)
theorem fn_eTaking {C f : Addr} {fd : FuncData} (F : C8.Fun K "__eq__" "Taking.__eq__" sETaking f fd) (Z : PapC K mg "Taking" C ["worker", "at", "begun", "ended"]) (hi : mg "isinstance" = none) : FnOk P w K mg base (L2.CX P w) 2 f fd ["self", "other"] (spPE K C ["worker", "at", "begun", "ended"]) := by
  obtain ⟨oc, od, dV, kV, doc, pm, an, cdv, ct, osl, rfl, lk, hcd⟩ := F.ex
  refine fn_of lk hcd scETaking (fun vs H Q E h => ?_) fun A outer s H vs Q E hr h => ?_
  · obtain ⟨a, dx, fs, y, rfl, _⟩ := h
    rfl
  · obtain ⟨a, dx, fs, y, rfl, ha, h⟩ := h
    refine ⟨_, (pss_one (ps_ret (pe_and (pe_callB call_isz (by rfl) hi (by decide +kernel) (pa_cons (pv 1) (pa_cons (pe_glob (v := .ref C) (by rfl) Z.hm rfl) pa_nil))) (pe_and (pe_cmpR (op_eqV hr.units) (pe_fld (pv 0) rfl) (pe_fld (pv 1) rfl) (nomark _)) (pe_and (pe_cmpR (op_eqV hr.units) (pe_fld (pv 0) rfl) (pe_fld (pv 1) rfl) (nomark _)) (pe_and (pe_cmpR (op_eqV hr.units) (pe_fld (pv 0) rfl) (pe_fld (pv 1) rfl) (nomark _)) (pe_one (pe_cmpR (op_eqV hr.units) (pe_fld (pv 0) rfl) (pe_fld (pv 1) rfl) (nomark _))))))))), ?_⟩
    exact eq_end Z ha h
abbrev sIFits : Stmt := inClass (top 31) 0
theorem scIFits : FnScope ["self", "world"] ["self", "world"] (C8.fnScope sIFits) := C8.fnScope_by (by decide +kernel)
theorem fn_iFits {C f : Addr} {fd : FuncData} (F : C8.Fun K "__init__" "Fits.__init__" sIFits f fd) (Z : PapC K mg "Fits" C ["world"]) : FnOk P w K mg base C8.CX0 1 f fd ["self", "world"] (spPI C ["world"]) := by
  refine C8.fn0 F scIFits (fun vs H Q E h => ?_) (fun cdv A outer st H vs Q E hr h => ?_)
  · obtain ⟨a, dx, xs, rfl, hl, _⟩ := h
    rw [List.length_cons, hl]; rfl
  · obtain ⟨a, dx, xs, rfl, hl, ha, k⟩ := h
    match xs, hl with
    | [v1], _ =>
    refine ⟨_, (pss_one (ps_fld (pv 0) (pv 1) rfl)), ?_⟩
    refine ⟨_, rfl, _, rfl, a, C, dx, [], rfl, ha, Z.cl, Z.no _ (by simp), ?_, ?_⟩
    · show 0 < 1000; decide
    exact k _ (fa_puts ["world"] [v1] [] (by decide) rfl)
abbrev sEFits : Stmt := inClass (top 31) 1
theorem scEFits : FnScope ["self", "other"] ["self", "other"] (C8.fnScope sEFits) := C8.fnScope_by (by decide +kernel)
theorem fn_eFits {C f : Addr} {fd : FuncData} (F : C8.Fun K "__eq__" "Fits.__eq__" sEFits f fd) (Z : PapC K mg "Fits" C ["world"]) (hi : mg "isinstance" = none) : FnOk P w K mg base (L2.CX P w) 2 f fd ["self", "other"] (spPE K C ["world"]) := by
  obtain ⟨oc, od, dV, kV, doc, pm, an, cdv, ct, osl, rfl, lk, hcd⟩ := F.ex
  refine fn_of lk hcd scEFits (fun vs H Q E h => ?_) fun A outer s H vs Q E hr h => ?_
  · obtain ⟨a, dx, fs, y, rfl, _⟩ := h
    rfl
  · obtain ⟨a, dx, fs, y, rfl, ha, h⟩ := h
    refine ⟨_, (pss_one (ps_ret (pe_and (pe_callB call_isz (by rfl) hi (by decide +kernel) (pa_cons (pv 1) (pa_cons (pe_glob (v := .ref C) (by rfl) Z.hm rfl) pa_nil))) (pe_one (pe_cmpR (op_eqV hr.units) (pe_fld (pv 0) rfl) (pe_fld (pv 1) rfl) (nomark _)))))), ?_⟩
    exact eq_end Z ha h
abbrev sIMisfit : Stmt := inClass (top 32) 0
theorem scIMisfit : FnScope ["self", "at", "why"] ["self", "at", "why"] (C8.fnScope sIMisfit) := C8.fnScope_by (by decide +kernel)
theorem fn_iMisfit {C f : Addr} {fd : FuncData} (F : C8.Fun K "__init__" "Misfit.__init__" sIMisfit f fd) (Z : PapC K mg "Misfit" C ["at", "why"]) : FnOk P w K mg base C8.CX0 1 f fd ["self", "at", "why"] (spPI C ["at", "why"]) := by
  refine C8.fn0 F scIMisfit (fun vs H Q E h => ?_) (fun cdv A outer st H vs Q E hr h => ?_)
  · obtain ⟨a, dx, xs, rfl, hl, _⟩ := h
    rw [List.length_cons, hl]; rfl
  · obtain ⟨a, dx, xs, rfl, hl, ha, k⟩ := h
    match xs, hl with
    | [v1, v2], _ =>
    refine ⟨_, (pss_cons (ps_fld (pv 0) (pv 1) rfl) (pss_one (ps_fld (pv 0) (pv 2) rfl))), ?_⟩
    refine ⟨_, rfl, _, rfl, a, C, dx, [], rfl, ha, Z.cl, Z.no _ (by simp), ?_, ?_⟩
    · show 0 < 1000; decide
    refine ⟨_, rfl, _, rfl, a, C, dx, _, rfl, upd_same, Z.cl, Z.no _ (by simp), ?_, ?_⟩
    · exact Nat.lt_of_le_of_lt (puts_len ["at"] [v1] []) (by decide)
    rw [upd_upd]
    exact k _ (fa_puts ["at", "why"] [v1, v2] [] (by decide) rfl)
abbrev sEMisfit : Stmt := inClass (top 32) 1
theorem scEMisfit : FnScope ["self", "other"] ["self", "other"] (C8.fnScope sEMisfit) := C8.fnScope_by (by decide +kernel)
theorem fn_eMisfit {C f : Addr} {fd : FuncData} (F : C8.Fun K "__eq__" "Misfit.__eq__" sEMisfit f fd) (Z : PapC K mg "Misfit" C ["at", "why"]) (hi : mg "isinstance" = none) : FnOk P w K mg base (L2.CX P w) 2 f fd ["self", "other"] (spPE K C ["at", "why"]) := by
  obtain ⟨oc, od, dV, kV, doc, pm, an, cdv, ct, osl, rfl, lk, hcd⟩ := F.ex
  refine fn_of lk hcd scEMisfit (fun vs H Q E h => ?_) fun A outer s H vs Q E hr h => ?_
  · obtain ⟨a, dx, fs, y, rfl, _⟩ := h
    rfl
  · obtain ⟨a, dx, fs, y, rfl, ha, h⟩ := h
    refine ⟨_, (pss_one (ps_ret (pe_and (pe_callB call_isz (by rfl) hi (by decide +kernel) (pa_cons (pv 1) (pa_cons (pe_glob (v := .ref C) (by rfl) Z.hm rfl) pa_nil))) (pe_and (pe_cmpR (op_eqV hr.units) (pe_fld (pv 0) rfl) (pe_fld (pv 1) rfl) (nomark _)) (pe_one (pe_cmpR (op_eqV hr.units) (pe_fld (pv 0) rfl) (pe_fld (pv 1) rfl) (nomark _))))))), ?_⟩
    exact eq_end Z ha h
abbrev sIRing : Stmt := inClass (top 33) 0
theorem scIRing : FnScope ["self", "workers"] ["self", "workers"] (C8.fnScope sIRing) := C8.fnScope_by (by decide +kernel)
theorem fn_iRing {C f : Addr} {fd : FuncData} (F : C8.Fun K "__init__" "Ring.__init__" sIRing f fd) (Z : PapC K mg "Ring" C ["workers"]) : FnOk P w K mg base C8.CX0 1 f fd ["self", "workers"] (spPI C ["workers"]) := by
  refine C8.fn0 F scIRing (fun vs H Q E h => ?_) (fun cdv A outer st H vs Q E hr h => ?_)
  · obtain ⟨a, dx, xs, rfl, hl, _⟩ := h
    rw [List.length_cons, hl]; rfl
  · obtain ⟨a, dx, xs, rfl, hl, ha, k⟩ := h
    match xs, hl with
    | [v1], _ =>
    refine ⟨_, (pss_one (ps_fld (pv 0) (pv 1) rfl)), ?_⟩
    refine ⟨_, rfl, _, rfl, a, C, dx, [], rfl, ha, Z.cl, Z.no _ (by simp), ?_, ?_⟩
    · show 0 < 1000; decide
    exact k _ (fa_puts ["workers"] [v1] [] (by decide) rfl)
abbrev sERing : Stmt := inClass (top 33) 1
theorem scERing : FnScope ["self", "other"] ["self", "other"] (C8.fnScope sERing) := C8.fnScope_by (by decide +kernel)
theorem fn_eRing {C f : Addr} {fd : FuncData} (F : C8.Fun K "__eq__" "Ring.__eq__" sERing f fd) (Z : PapC K mg "Ring" C ["workers"]) (hi : mg "isinstance" = none) : FnOk P w K mg base (L2.CX P w) 2 f fd ["self", "other"] (spPE K C ["workers"]) := by
  obtain ⟨oc, od, dV, kV, doc, pm, an, cdv, ct, osl, rfl, lk, hcd⟩ := F.ex
  refine fn_of lk hcd scERing (fun vs H Q E h => ?_) fun A outer s H vs Q E hr h => ?_
  · obtain ⟨a, dx, fs, y, rfl, _⟩ := h
    rfl
  · obtain ⟨a, dx, fs, y, rfl, ha, h⟩ := h
    refine ⟨_, (pss_one (ps_ret (pe_and (pe_callB call_isz (by rfl) hi (by decide +kernel) (pa_cons (pv 1) (pa_cons (pe_glob (v := .ref C) (by rfl) Z.hm rfl) pa_nil))) (pe_one (pe_cmpR (op_eqV hr.units) (pe_fld (pv 0) rfl) (pe_fld (pv 1) rfl) (nomark _)))))), ?_⟩
    exact eq_end Z ha h
abbrev sICame : Stmt := inClass (top 34) 0
theorem scICame : FnScope ["self", "least", "most"] ["self", "least", "most"] (C8.fnScope sICame) := C8.fnScope_by (by decide +kernel)
theorem fn_iCame {C f : Addr} {fd : FuncData} (F : C8.Fun K "__init__" "Came.__init__" sICame f fd) (Z : PapC K mg "Came" C ["least", "most"]) : FnOk P w K mg base C8.CX0 1 f fd ["self", "least", "most"] (spPI C ["least", "most"]) := by
  refine C8.fn0 F scICame (fun vs H Q E h => ?_) (fun cdv A outer st H vs Q E hr h => ?_)
  · obtain ⟨a, dx, xs, rfl, hl, _⟩ := h
    rw [List.length_cons, hl]; rfl
  · obtain ⟨a, dx, xs, rfl, hl, ha, k⟩ := h
    match xs, hl with
    | [v1, v2], _ =>
    refine ⟨_, (pss_cons (ps_fld (pv 0) (pv 1) rfl) (pss_one (ps_fld (pv 0) (pv 2) rfl))), ?_⟩
    refine ⟨_, rfl, _, rfl, a, C, dx, [], rfl, ha, Z.cl, Z.no _ (by simp), ?_, ?_⟩
    · show 0 < 1000; decide
    refine ⟨_, rfl, _, rfl, a, C, dx, _, rfl, upd_same, Z.cl, Z.no _ (by simp), ?_, ?_⟩
    · exact Nat.lt_of_le_of_lt (puts_len ["least"] [v1] []) (by decide)
    rw [upd_upd]
    exact k _ (fa_puts ["least", "most"] [v1, v2] [] (by decide) rfl)
abbrev sECame : Stmt := inClass (top 34) 1
theorem scECame : FnScope ["self", "other"] ["self", "other"] (C8.fnScope sECame) := C8.fnScope_by (by decide +kernel)
theorem fn_eCame {C f : Addr} {fd : FuncData} (F : C8.Fun K "__eq__" "Came.__eq__" sECame f fd) (Z : PapC K mg "Came" C ["least", "most"]) (hi : mg "isinstance" = none) : FnOk P w K mg base (L2.CX P w) 2 f fd ["self", "other"] (spPE K C ["least", "most"]) := by
  obtain ⟨oc, od, dV, kV, doc, pm, an, cdv, ct, osl, rfl, lk, hcd⟩ := F.ex
  refine fn_of lk hcd scECame (fun vs H Q E h => ?_) fun A outer s H vs Q E hr h => ?_
  · obtain ⟨a, dx, fs, y, rfl, _⟩ := h
    rfl
  · obtain ⟨a, dx, fs, y, rfl, ha, h⟩ := h
    refine ⟨_, (pss_one (ps_ret (pe_and (pe_callB call_isz (by rfl) hi (by decide +kernel) (pa_cons (pv 1) (pa_cons (pe_glob (v := .ref C) (by rfl) Z.hm rfl) pa_nil))) (pe_and (pe_cmpR (op_eqV hr.units) (pe_fld (pv 0) rfl) (pe_fld (pv 1) rfl) (nomark _)) (pe_one (pe_cmpR (op_eqV hr.units) (pe_fld (pv 0) rfl) (pe_fld (pv 1) rfl) (nomark _))))))), ?_⟩
    exact eq_end Z ha h
abbrev sIBestOrder : Stmt := inClass (top 36) 0
theorem scIBestOrder : FnScope ["self", "names", "late", "last"] ["self", "names", "late", "last"] (C8.fnScope sIBestOrder) := C8.fnScope_by (by decide +kernel)
theorem fn_iBestOrder {C f : Addr} {fd : FuncData} (F : C8.Fun K "__init__" "BestOrder.__init__" sIBestOrder f fd) (Z : PapC K mg "BestOrder" C ["names", "late", "last"]) : FnOk P w K mg base C8.CX0 1 f fd ["self", "names", "late", "last"] (spPI C ["names", "late", "last"]) := by
  refine C8.fn0 F scIBestOrder (fun vs H Q E h => ?_) (fun cdv A outer st H vs Q E hr h => ?_)
  · obtain ⟨a, dx, xs, rfl, hl, _⟩ := h
    rw [List.length_cons, hl]; rfl
  · obtain ⟨a, dx, xs, rfl, hl, ha, k⟩ := h
    match xs, hl with
    | [v1, v2, v3], _ =>
    refine ⟨_, (pss_cons (ps_fld (pv 0) (pv 1) rfl) (pss_cons (ps_fld (pv 0) (pv 2) rfl) (pss_one (ps_fld (pv 0) (pv 3) rfl)))), ?_⟩
    refine ⟨_, rfl, _, rfl, a, C, dx, [], rfl, ha, Z.cl, Z.no _ (by simp), ?_, ?_⟩
    · show 0 < 1000; decide
    refine ⟨_, rfl, _, rfl, a, C, dx, _, rfl, upd_same, Z.cl, Z.no _ (by simp), ?_, ?_⟩
    · exact Nat.lt_of_le_of_lt (puts_len ["names"] [v1] []) (by decide)
    refine ⟨_, rfl, _, rfl, a, C, dx, _, rfl, upd_same, Z.cl, Z.no _ (by simp), ?_, ?_⟩
    · exact Nat.lt_of_le_of_lt (puts_len ["names", "late"] [v1, v2] []) (by decide)
    rw [upd_upd, upd_upd]
    exact k _ (fa_puts ["names", "late", "last"] [v1, v2, v3] [] (by decide) rfl)
abbrev sEBestOrder : Stmt := inClass (top 36) 1
theorem scEBestOrder : FnScope ["self", "other"] ["self", "other"] (C8.fnScope sEBestOrder) := C8.fnScope_by (by decide +kernel)
theorem fn_eBestOrder {C f : Addr} {fd : FuncData} (F : C8.Fun K "__eq__" "BestOrder.__eq__" sEBestOrder f fd) (Z : PapC K mg "BestOrder" C ["names", "late", "last"]) (hi : mg "isinstance" = none) : FnOk P w K mg base (L2.CX P w) 2 f fd ["self", "other"] (spPE K C ["names", "late", "last"]) := by
  obtain ⟨oc, od, dV, kV, doc, pm, an, cdv, ct, osl, rfl, lk, hcd⟩ := F.ex
  refine fn_of lk hcd scEBestOrder (fun vs H Q E h => ?_) fun A outer s H vs Q E hr h => ?_
  · obtain ⟨a, dx, fs, y, rfl, _⟩ := h
    rfl
  · obtain ⟨a, dx, fs, y, rfl, ha, h⟩ := h
    refine ⟨_, (pss_one (ps_ret (pe_and (pe_callB call_isz (by rfl) hi (by decide +kernel) (pa_cons (pv 1) (pa_cons (pe_glob (v := .ref C) (by rfl) Z.hm rfl) pa_nil))) (pe_and (pe_cmpR (op_eqV hr.units) (pe_fld (pv 0) rfl) (pe_fld (pv 1) rfl) (nomark _)) (pe_and (pe_cmpR (op_eqV hr.units) (pe_fld (pv 0) rfl) (pe_fld (pv 1) rfl) (nomark _)) (pe_one (pe_cmpR (op_eqV hr.units) (pe_fld (pv 0) rfl) (pe_fld (pv 1) rfl) (nomark _)))))))), ?_⟩
    exact eq_end Z ha h
abbrev sIPoolTaking : Stmt := inClass (top 38) 0
theorem scIPoolTaking : FnScope ["self", "loop", "worker", "many", "begun", "ended"] ["self", "loop", "worker", "many", "begun", "ended"] (C8.fnScope sIPoolTaking) := C8.fnScope_by (by decide +kernel)
theorem fn_iPoolTaking {C f : Addr} {fd : FuncData} (F : C8.Fun K "__init__" "PoolTaking.__init__" sIPoolTaking f fd) (Z : PapC K mg "PoolTaking" C ["loop", "worker", "many", "begun", "ended"]) : FnOk P w K mg base C8.CX0 1 f fd ["self", "loop", "worker", "many", "begun", "ended"] (spPI C ["loop", "worker", "many", "begun", "ended"]) := by
  refine C8.fn0 F scIPoolTaking (fun vs H Q E h => ?_) (fun cdv A outer st H vs Q E hr h => ?_)
  · obtain ⟨a, dx, xs, rfl, hl, _⟩ := h
    rw [List.length_cons, hl]; rfl
  · obtain ⟨a, dx, xs, rfl, hl, ha, k⟩ := h
    match xs, hl with
    | [v1, v2, v3, v4, v5], _ =>
    refine ⟨_, (pss_cons (ps_fld (pv 0) (pv 1) rfl) (pss_cons (ps_fld (pv 0) (pv 2) rfl) (pss_cons (ps_fld (pv 0) (pv 3) rfl) (pss_cons (ps_fld (pv 0) (pv 4) rfl) (pss_one (ps_fld (pv 0) (pv 5) rfl)))))), ?_⟩
    refine ⟨_, rfl, _, rfl, a, C, dx, [], rfl, ha, Z.cl, Z.no _ (by simp), ?_, ?_⟩
    · show 0 < 1000; decide
    refine ⟨_, rfl, _, rfl, a, C, dx, _, rfl, upd_same, Z.cl, Z.no _ (by simp), ?_, ?_⟩
    · exact Nat.lt_of_le_of_lt (puts_len ["loop"] [v1] []) (by decide)
    refine ⟨_, rfl, _, rfl, a, C, dx, _, rfl, upd_same, Z.cl, Z.no _ (by simp), ?_, ?_⟩
    · exact Nat.lt_of_le_of_lt (puts_len ["loop", "worker"] [v1, v2] []) (by decide)
    refine ⟨_, rfl, _, rfl, a, C, dx, _, rfl, upd_same, Z.cl, Z.no _ (by simp), ?_, ?_⟩
    · exact Nat.lt_of_le_of_lt (puts_len ["loop", "worker", "many"] [v1, v2, v3] []) (by decide)
    refine ⟨_, rfl, _, rfl, a, C, dx, _, rfl, upd_same, Z.cl, Z.no _ (by simp), ?_, ?_⟩
    · exact Nat.lt_of_le_of_lt (puts_len ["loop", "worker", "many", "begun"] [v1, v2, v3, v4] []) (by decide)
    rw [upd_upd, upd_upd, upd_upd, upd_upd]
    exact k _ (fa_puts ["loop", "worker", "many", "begun", "ended"] [v1, v2, v3, v4, v5] [] (by decide) rfl)
abbrev sEPoolTaking : Stmt := inClass (top 38) 1
theorem scEPoolTaking : FnScope ["self", "other"] ["self", "other"] (C8.fnScope sEPoolTaking) := C8.fnScope_by (by decide +kernel)
theorem fn_ePoolTaking {C f : Addr} {fd : FuncData} (F : C8.Fun K "__eq__" "PoolTaking.__eq__" sEPoolTaking f fd) (Z : PapC K mg "PoolTaking" C ["loop", "worker", "many", "begun", "ended"]) (hi : mg "isinstance" = none) : FnOk P w K mg base (L2.CX P w) 2 f fd ["self", "other"] (spPE K C ["loop", "worker", "many", "begun", "ended"]) := by
  obtain ⟨oc, od, dV, kV, doc, pm, an, cdv, ct, osl, rfl, lk, hcd⟩ := F.ex
  refine fn_of lk hcd scEPoolTaking (fun vs H Q E h => ?_) fun A outer s H vs Q E hr h => ?_
  · obtain ⟨a, dx, fs, y, rfl, _⟩ := h
    rfl
  · obtain ⟨a, dx, fs, y, rfl, ha, h⟩ := h
    refine ⟨_, (pss_one (ps_ret (pe_and (pe_callB call_isz (by rfl) hi (by decide +kernel) (pa_cons (pv 1) (pa_cons (pe_glob (v := .ref C) (by rfl) Z.hm rfl) pa_nil))) (pe_and (pe_cmpR (op_eqV hr.units) (pe_fld (pv 0) rfl) (pe_fld (pv 1) rfl) (nomark _)) (pe_and (pe_cmpR (op_eqV hr.units) (pe_fld (pv 0) rfl) (pe_fld (pv 1) rfl) (nomark _)) (pe_and (pe_cmpR (op_eqV hr.units) (pe_fld (pv 0) rfl) (pe_fld (pv 1) rfl) (nomark _)) (pe_and (pe_cmpR (op_eqV hr.units) (pe_fld (pv 0) rfl) (pe_fld (pv 1) rfl) (nomark _)) (pe_one (pe_cmpR (op_eqV hr.units) (pe_fld (pv 0) rfl) (pe_fld (pv 1) rfl) (nomark _)))))))))), ?_⟩
    exact eq_end Z ha h
end
end Lw
namespace Lw
open PySem PySem.Spec PyProof.Rows L2

open LamX
/-! ### a drawn value equals itself -/
def shp : PyData → Bool
  | .dict _ => true
  | d => SeqAt.shaped d
/-- a drawn value: short, it may be shown and compared -/
def Gz (d : PyData) : Prop := Gd d ∧ shp d = true
theorem fl_dp {K : PySem.W.Frag} {H : Hp} {v : V} {d : PyData} (h : Fl v d) : Dp K H v d := by
  cases h with
  | non => exact .non
  | bl b => exact .bl b
  | int i => exact .int i
  | str z => exact .str z
theorem flAll_dp {K : PySem.W.Frag} {H : Hp} : ∀ {vs : List V} {ds : List PyData}, FlAll vs ds → DpAll K H vs ds
  | _, _, .nil => .nil
  | _, _, .cons h r => .cons (fl_dp h) (flAll_dp r)
theorem eqb_dp {K : PySem.W.Frag} {H : Hp} {v : V} {d : PyData} (h : Dp K H v d) (s : SeqAt.shaped d = true) : EqB K H v v true := fun Q q =>
  .inl ⟨d, d, h, h, s, s, by rw [SeqAt.eqv_refl _ (SeqAt.canLay_of_shaped s)]; exact q⟩
theorem eqb_vr {K : PySem.W.Frag} {H : Hp} {v : V} {d : PyData} (h : Vr H v d) (s : shp d = true) : EqB K H v v true := by
  cases h with
  | fl h =>
    refine eqb_dp (fl_dp h) ?_
    cases h <;> exact s
  | tup h f => exact eqb_dp (.tup (SqT.of h) (flAll_dp f)) s
  | lst h n f => exact eqb_dp (.lst (SqL.of h) (flAll_dp f)) s
  | d0 h => exact fun Q q => .inr ⟨_, _, [], [], rfl, rfl, h, h, rfl, (fun p hp => by cases hp), q⟩
  | d1 h => exact fun Q q => .inr ⟨_, _, _, _, rfl, rfl, h, h, rfl, (fun p hp => by rw [List.mem_singleton.mp hp]; exact ⟨rfl, rfl⟩), q⟩
abbrev sVal : Stmt := top 43
def spVal : Sp := fun vs H Q _ => ∃ (p pl : Addr) (n : Nat), vs = [.ref p] ∧ Pen H p pl n ∧ n ≤ 900000 ∧ ∀ (v : V) (d : PyData) (H' : Hp), Vr H' v d → Gz d → v ≠ .ref p → Pen H' p pl (n + 1) → Kp p H H' → Q v H'
section
variable {P : Program} {w : World} {K : PySem.W.Frag} {mg : Str → Option Value} {base : Heap}
theorem scVal : FnScope ["_law_pen_here", "_law_some"] ["_law_pen_here"] (C8.fnScope sVal) := C8.fnScope_by (by decide +kernel)
theorem cal_val {f : Addr} {fd : FuncData} (F : C8.Def K mg "_law_value" sVal f fd) (b : Binds K fd ["_law_pen_here"] []) (D2 : C8.Cal P w K mg base 2 "_law_pick" (spPick K) []) : C8.Cal P w K mg base 3 "_law_value" spVal [] := by
  refine C8.cal0 F b .nil scVal (fun vs H Q E h => ?_) (fun cdv A outer st H vs Q E hr h => ?_)
  · obtain ⟨p, pl, n, rfl, _⟩ := h
    rfl
  · obtain ⟨p, pl, n, rfl, hp, hn, k⟩ := h
    refine ⟨_, (pss_cons (ps_set (i := 1) scVal.nd rfl (Or.inl rfl) (pe_lstS (pa_cons pe_non (pa_cons pe_bl (pa_cons pe_bl (pa_cons pe_int (pa_cons pe_int (pa_cons pe_int (pa_cons (pe_un un_neg pe_int) (pa_cons (pe_op op_pow pe_int pe_int) (pa_cons pe_str (pa_cons pe_str (pa_cons pe_str (pa_cons (pe_tup pa_nil) (pa_cons (pe_tup (pa_cons pe_str (pa_cons pe_int pa_nil))) (pa_cons (pe_lstS pa_nil) (pa_cons (pe_lstS (pa_cons pe_str pa_nil)) (pa_cons pe_dnewK (pa_cons (pe_disp (pps_cons pe_str pe_str pps_nil) (by rfl) (by rfl) (fun z => by cases z) (by decide)) (pa_cons pe_str pa_nil))))))))))))))))))))
  (pss_one (ps_ret (C8.pe_c D2 hr (by decide) (by rfl) (pa_cons (pv 0) (pa_cons (pv 1) pa_nil)))))), ?_⟩
    refine ⟨7, rfl, 10, 31, rfl, rfl, ⟨by decide, by decide, by decide⟩, (by show 0 ≤ sizeLine; decide), fun q1 f1 => ?_⟩
    have s1 := same_new (o := HO.tup []) f1
    have a1 : upd H q1 (HO.tup []) q1 = some (.tup []) := upd_same
    have n1 : q1 ≠ p := hp.ne_new f1
    generalize upd H q1 _ = H1 at s1 a1 ⊢
    have hp1 := hp.keep s1
    refine ⟨(by show 2 ≤ sizeLine; decide), fun q2 f2 => ?_⟩
    have s2 := same_new (o := HO.tup [V.str "a", V.int 1]) f2
    have a2 : upd H1 q2 (HO.tup [V.str "a", V.int 1]) q2 = some (.tup [V.str "a", V.int 1]) := upd_same
    have n2 : q2 ≠ p := hp1.ne_new f2
    generalize upd H1 q2 _ = H2 at s2 a2 ⊢
    have hp2 := hp1.keep s2
    refine ⟨(by show 0 ≤ sizeLine; decide), fun q3 f3 m3 => ?_⟩
    have s3 := same_new (o := HO.lst []) f3
    have a3 : upd H2 q3 (HO.lst []) q3 = some (.lst []) := upd_same
    have n3 : q3 ≠ p := hp2.ne_new f3
    generalize upd H2 q3 _ = H3 at s3 a3 ⊢
    have hp3 := hp2.keep s3
    refine ⟨(by show 1 ≤ sizeLine; decide), fun q4 f4 m4 => ?_⟩
    have s4 := same_new (o := HO.lst [V.str "e"]) f4
    have a4 : upd H3 q4 (HO.lst [V.str "e"]) q4 = some (.lst [V.str "e"]) := upd_same
    have n4 : q4 ≠ p := hp3.ne_new f4
    generalize upd H3 q4 _ = H4 at s4 a4 ⊢
    have hp4 := hp3.keep s4
    refine fun q5 f5 => ?_
    have s5 := same_new (o := HO.dK []) f5
    have a5 : upd H4 q5 (HO.dK []) q5 = some (.dK []) := upd_same
    have n5 : q5 ≠ p := hp4.ne_new f5
    generalize upd H4 q5 _ = H5 at s5 a5 ⊢
    have hp5 := hp4.keep s5
    refine fun q6 f6 => ⟨upd_same, [(.inr "a", .str "b")], rfl, (by decide), ?_⟩
    rw [upd_upd]
    have s6 := same_new (o := HO.dK (mergeK [] [(.inr "a", V.str "b")])) f6
    have a6 : upd H5 q6 (HO.dK (mergeK [] [(.inr "a", V.str "b")])) q6 = some (.dK [(.inr "a", V.str "b")]) := upd_same
    have n6 : q6 ≠ p := hp5.ne_new f6
    generalize upd H5 q6 _ = H6 at s6 a6 ⊢
    have hp6 := hp5.keep s6
    refine ⟨(by show 18 ≤ sizeLine; decide), fun l f7 _ => ?_⟩
    have s7 := same_new (o := HO.lst [V.non, V.bl true, V.bl false, V.int 0, V.int 1, V.int 7, V.int (-7), V.int (10 ^ Int.toNat 31), V.str "", V.str "a", V.str "late", V.ref q1, V.ref q2, V.ref q3, V.ref q4, V.ref q5, V.ref q6, V.str "w"]) f7
    have a7 : upd H6 l (HO.lst [V.non, V.bl true, V.bl false, V.int 0, V.int 1, V.int 7, V.int (-7), V.int (10 ^ Int.toNat 31), V.str "", V.str "a", V.str "late", V.ref q1, V.ref q2, V.ref q3, V.ref q4, V.ref q5, V.ref q6, V.str "w"]) l = some (.lst [V.non, V.bl true, V.bl false, V.int 0, V.int 1, V.int 7, V.int (-7), V.int (10 ^ Int.toNat 31), V.str "", V.str "a", V.str "late", V.ref q1, V.ref q2, V.ref q3, V.ref q4, V.ref q5, V.ref q6, V.str "w"]) := upd_same
    have nl := hp6.ne_new f7
    change gName 1 (V.ref l) _ (upd H6 l (HO.lst [V.non, V.bl true, V.bl false, V.int 0, V.int 1, V.int 7, V.int (-7), V.int (10 ^ Int.toNat 31), V.str "", V.str "a", V.str "late", V.ref q1, V.ref q2, V.ref q3, V.ref q4, V.ref q5, V.ref q6, V.str "w"])) _
    generalize upd H6 l _ = H7 at s7 a7 ⊢
    have hp7 := hp6.keep s7
    dsimp only [gName, tRet]
    refine ⟨_, rfl, _, rfl, p, pl, l, n, _, rfl, hp7, by omega, SqL.of a7, nl, (by show 0 < 18; decide), (by show 18 < 1000000; decide), fun j v H8 hj hp8 k8 => ?_⟩
    have far : ∀ b o, b ≠ p → H6 b = some o → H8 b = some o := fun b o hb e => k8 b o hb (s7 b o e)
    have kk : Kp p H H8 := fun b o hb e => far b o hb (s6 _ _ (s5 _ _ (s4 _ _ (s3 _ _ (s2 _ _ (s1 _ _ e))))))
    have hv := List.mem_of_getElem? hj
    simp only [List.mem_cons, List.not_mem_nil, or_false] at hv
    rcases hv with rfl | rfl | rfl | rfl | rfl | rfl | rfl | rfl | rfl | rfl | rfl | rfl | rfl | rfl | rfl | rfl | rfl | rfl
    · exact k _ .none H8 (.fl .non) ⟨⟨by decide +kernel, by decide +kernel, by decide +kernel⟩, by decide +kernel⟩ (by simp) hp8 kk
    · exact k _ (.bool true) H8 (.fl (.bl true)) ⟨⟨by decide +kernel, by decide +kernel, by decide +kernel⟩, by decide +kernel⟩ (by simp) hp8 kk
    · exact k _ (.bool false) H8 (.fl (.bl false)) ⟨⟨by decide +kernel, by decide +kernel, by decide +kernel⟩, by decide +kernel⟩ (by simp) hp8 kk
    · exact k _ (.int 0) H8 (.fl (.int 0)) ⟨⟨by decide +kernel, by decide +kernel, by decide +kernel⟩, by decide +kernel⟩ (by simp) hp8 kk
    · exact k _ (.int 1) H8 (.fl (.int 1)) ⟨⟨by decide +kernel, by decide +kernel, by decide +kernel⟩, by decide +kernel⟩ (by simp) hp8 kk
    · exact k _ (.int 7) H8 (.fl (.int 7)) ⟨⟨by decide +kernel, by decide +kernel, by decide +kernel⟩, by decide +kernel⟩ (by simp) hp8 kk
    · exact k _ (.int (-7)) H8 (.fl (.int (-7))) ⟨⟨by decide +kernel, by decide +kernel, by decide +kernel⟩, by decide +kernel⟩ (by simp) hp8 kk
    · exact k _ (.int (10 ^ Int.toNat 31)) H8 (.fl (.int _)) ⟨⟨by decide +kernel, by decide +kernel, by decide +kernel⟩, by decide +kernel⟩ (by simp) hp8 kk
    · exact k _ (.str "") H8 (.fl (.str _)) ⟨⟨by decide +kernel, by decide +kernel, by decide +kernel⟩, by decide +kernel⟩ (by simp) hp8 kk
    · exact k _ (.str "a") H8 (.fl (.str _)) ⟨⟨by decide +kernel, by decide +kernel, by decide +kernel⟩, by decide +kernel⟩ (by simp) hp8 kk
    · exact k _ (.str "late") H8 (.fl (.str _)) ⟨⟨by decide +kernel, by decide +kernel, by decide +kernel⟩, by decide +kernel⟩ (by simp) hp8 kk
    · exact k _ (.tuple []) H8 (.tup (far _ _ n1 (s6 _ _ (s5 _ _ (s4 _ _ (s3 _ _ (s2 _ _ a1)))))) .nil) ⟨⟨by decide +kernel, by decide +kernel, by decide +kernel⟩, by decide +kernel⟩ (fun e => n1 (V.ref.inj e)) hp8 kk
    · exact k _ (.tuple [.str "a", .int 1]) H8 (.tup (far _ _ n2 (s6 _ _ (s5 _ _ (s4 _ _ (s3 _ _ a2))))) (.cons (.str _) (.cons (.int _) .nil))) ⟨⟨by decide +kernel, by decide +kernel, by decide +kernel⟩, by decide +kernel⟩ (fun e => n2 (V.ref.inj e)) hp8 kk
    · exact k _ (.list []) H8 (.lst (far _ _ n3 (s6 _ _ (s5 _ _ (s4 _ _ a3)))) m3 .nil) ⟨⟨by decide +kernel, by decide +kernel, by decide +kernel⟩, by decide +kernel⟩ (fun e => n3 (V.ref.inj e)) hp8 kk
    · exact k _ (.list [.str "e"]) H8 (.lst (far _ _ n4 (s6 _ _ (s5 _ _ a4))) m4 (.cons (.str _) .nil)) ⟨⟨by decide +kernel, by decide +kernel, by decide +kernel⟩, by decide +kernel⟩ (fun e => n4 (V.ref.inj e)) hp8 kk
    · exact k _ (.dict []) H8 (.d0 (far _ _ n5 (s6 _ _ a5))) ⟨⟨by decide +kernel, by decide +kernel, by decide +kernel⟩, by decide +kernel⟩ (fun e => n5 (V.ref.inj e)) hp8 kk
    · exact k _ (.dict [(.str "a", .str "b")]) H8 (.d1 (far _ _ n6 a6)) ⟨⟨by decide +kernel, by decide +kernel, by decide +kernel⟩, by decide +kernel⟩ (fun e => n6 (V.ref.inj e)) hp8 kk
    · exact k _ (.str "w") H8 (.fl (.str _)) ⟨⟨by decide +kernel, by decide +kernel, by decide +kernel⟩, by decide +kernel⟩ (by simp) hp8 kk
end
end Lw
namespace Lw
open PySem PySem.Spec PyProof.Rows L2
open LamX
/-! ### making, telling -/
structure MkPos (P : Program) (w : World) (K : PySem.W.Frag) (mg : Str → Option Value) (base : Heap) (n : Str) (C : Addr) (F : List Str) : Prop where
  hm : mg n = some (.ref C)
  ex : ∃ (fI : Addr) (fd : FuncData), Mk K C fI ∧ FnOk P w K mg base C8.CX0 1 fI fd ("self" :: F) (spPI C F) ∧ Binds K fd ("self" :: F) []
structure MkKey (P : Program) (w : World) (K : PySem.W.Frag) (mg : Str → Option Value) (base : Heap) (n : Str) (C : Addr) (F : List Str) (m : Nat) (ks : List Str) (gV : List V → List V → List V) : Prop where
  hm : mg n = some (.ref C)
  ex : ∃ (fI : Addr) (fd : FuncData) (gU : List Value → List Value → List Value), Mk K C fI ∧ FnOk P w K mg base C8.CX0 1 fI fd ("self" :: F) (spPI C F) ∧ KBn K fd ("self" :: F) (m + 1) ks gU gV
section
variable {X : Cx} {n : Str} {C : Addr} {F : List Str} {p pos : Pos} {e : Expr} {es : List Expr} {t tk : TA} {j m : Nat} {ks : List Str} {gV : List V → List V → List V} {kws : List Keyword}
theorem pe_mkP (Z : MkPos X.prog X.w X.K X.mg X.base n C F) (hr : Room (j + 2) X.A) (hg : Gl X n) (ha : PA X (e :: es) t) (hdb : (n == ("__debug__" : Str)) = false := by decide) (he : starEach (e :: es) X.env = (false, eval e X.env) :: starEach es X.env := by rfl) (hpl : (backTo pos (starEach es X.env)).any (·.1) = false := by rfl) :
    PE X (.Call (.Name n p) (e :: es) [] pos) (tMake C (spPI C F) [] C8.E0 t) := by
  obtain ⟨fI, fd, M, FI, b⟩ := Z.ex
  exact pe_make M FI (hr.mono (by omega)) hg Z.hm b .nil C8.pass0 ha hdb he hpl
theorem pe_mkK0 (Z : MkKey X.prog X.w X.K X.mg X.base n C F 0 ks gV) (hr : Room (j + 2) X.A) (hg : Gl X n) (hkw : PK X kws tk)
    (hall : (backToKw pos (keywordEach kws X.env)).all (·.1.isSome) = true := by rfl) (hks : (backToKw pos (keywordEach kws X.env)).filterMap (·.1) = ks := by rfl) (hdb : (n == ("__debug__" : Str)) = false := by decide)
    (hpl : ((backTo pos (starEach [] X.env)).any (·.1) || (backToKw pos (keywordEach kws X.env)).any (·.1.isNone)) = false := by rfl) :
    PE X (.Call (.Name n p) [] kws pos) (tMakeK C 0 ks.length (spPI C F) gV C8.E0 tNil tk) := by
  obtain ⟨fI, fd, gU, M, FI, b⟩ := Z.ex
  exact pe_makeK0 M FI (hr.mono (by omega)) hg Z.hm b C8.pass0 hkw hall hks hdb hpl
theorem pe_mkK (Z : MkKey X.prog X.w X.K X.mg X.base n C F m ks gV) (hr : Room (j + 2) X.A) (hg : Gl X n) (ha : PA X (e :: es) t) (hkw : PK X kws tk)
    (hall : (backToKw pos (keywordEach kws X.env)).all (·.1.isSome) = true := by rfl) (hks : (backToKw pos (keywordEach kws X.env)).filterMap (·.1) = ks := by rfl) (hdb : (n == ("__debug__" : Str)) = false := by decide)
    (he : starEach (e :: es) X.env = (false, eval e X.env) :: starEach es X.env := by rfl) (hpl : ((backTo pos (starEach (e :: es) X.env)).any (·.1) || (backToKw pos (keywordEach kws X.env)).any (·.1.isNone)) = false := by rfl) :
    PE X (.Call (.Name n p) (e :: es) kws pos) (tMakeK C m ks.length (spPI C F) gV C8.E0 t tk) := by
  obtain ⟨fI, fd, gU, M, FI, b⟩ := Z.ex
  exact pe_makeK M FI (hr.mono (by omega)) hg Z.hm b C8.pass0 ha hkw hall hks hdb he hpl
end
/-! ### the lambdas that tell -/
abbrev lamSc (x : Str) : Scope := { kind := .function, names := [(x, .local)], isGenerator := false, isCoroutine := false, more := [] }
abbrev lamPa (x : Str) (p : Pos) : Arguments := { posonlyargs := [], args := [{ arg := x, annotation := none, pos := p }], vararg := none, kwonlyargs := [], kw_defaults := [], kwarg := none, defaults := [] }
abbrev xE : Str := "_law_told"
theorem scE : FnScope [xE] [xE] (lamSc xE) := C8.fnScope_by (by decide +kernel)
def spT (C : Addr) (G : List Str) : Sp := fun vs H Q _ => ∃ (a dx : Addr) (fs : List (Str × V)) (ws : List V), vs = [.ref a] ∧ H a = some (.ins C dx fs) ∧ FA fs G ws ∧ ∀ l H', Same H H' → l ≠ sysModules → H' l = some (.lst ws) → Q (.ref l) H'
section
variable {P : Program} {w : World} {K : PySem.W.Frag} {mg : Str → Option Value} {base : Heap} {q n : Str} {p0 p1 p2 p3 p4 p5 p6 p7 : Pos} {C fa c' : Addr} {f f1 f2 f3 : Str} {F : List Str}
theorem lf_T1 (Z : PapC K mg n C F) (h1 : f1 ∈ F) : LamF P w K mg base 0 [xE] (spT C [f1]) q (lamPa xE p0) (.List [.Attribute (.Name xE p1) f1 p2] p3) (lamSc xE) fa c' := by
  refine ⟨scE, fun pm cv ctv us hl => ?_, fun vs H Q E h => ?_, fun A out s H vs Q hr h => ?_⟩
  · match us, hl with | [_], _ => rfl
  · obtain ⟨a, dx, fs, ws, rfl, _⟩ := h; rfl
  · obtain ⟨a, dx, fs, ws, rfl, ha, fa, k⟩ := h
    cases fa with
    | cons l1 r =>
      cases r
      exact ⟨_, pe_lstS (pa_cons (pe_fld (pv 0) (by rfl)) pa_nil), _, rfl, a, C, dx, fs, _, rfl, ha, Z.cl, Z.no _ h1, l1, (by show 1 ≤ sizeLine; decide), fun l nl ne => k l _ (same_new nl) ne upd_same⟩
theorem lf_T2 (Z : PapC K mg n C F) (h1 : f1 ∈ F) (h2 : f2 ∈ F) : LamF P w K mg base 0 [xE] (spT C [f1, f2]) q (lamPa xE p0) (.List [.Attribute (.Name xE p1) f1 p2, .Attribute (.Name xE p4) f2 p5] p3) (lamSc xE) fa c' := by
  refine ⟨scE, fun pm cv ctv us hl => ?_, fun vs H Q E h => ?_, fun A out s H vs Q hr h => ?_⟩
  · match us, hl with | [_], _ => rfl
  · obtain ⟨a, dx, fs, ws, rfl, _⟩ := h; rfl
  · obtain ⟨a, dx, fs, ws, rfl, ha, fa, k⟩ := h
    cases fa with
    | cons l1 r =>
      cases r with
      | cons l2 r =>
        cases r
        exact ⟨_, pe_lstS (pa_cons (pe_fld (pv 0) (by rfl)) (pa_cons (pe_fld (pv 0) (by rfl)) pa_nil)), _, rfl, a, C, dx, fs, _, rfl, ha, Z.cl, Z.no _ h1, l1, _, rfl, a, C, dx, fs, _, rfl, ha, Z.cl, Z.no _ h2, l2, (by show 2 ≤ sizeLine; decide), fun l nl ne => k l _ (same_new nl) ne upd_same⟩
theorem lf_T3 (Z : PapC K mg n C F) (h1 : f1 ∈ F) (h2 : f2 ∈ F) (h3 : f3 ∈ F) : LamF P w K mg base 0 [xE] (spT C [f1, f2, f3]) q (lamPa xE p0) (.List [.Attribute (.Name xE p1) f1 p2, .Attribute (.Name xE p4) f2 p5, .Attribute (.Name xE p6) f3 p7] p3) (lamSc xE) fa c' := by
  refine ⟨scE, fun pm cv ctv us hl => ?_, fun vs H Q E h => ?_, fun A out s H vs Q hr h => ?_⟩
  · match us, hl with | [_], _ => rfl
  · obtain ⟨a, dx, fs, ws, rfl, _⟩ := h; rfl
  · obtain ⟨a, dx, fs, ws, rfl, ha, fa, k⟩ := h
    cases fa with
    | cons l1 r =>
      cases r with
      | cons l2 r =>
        cases r with
        | cons l3 r =>
          cases r
          exact ⟨_, pe_lstS (pa_cons (pe_fld (pv 0) (by rfl)) (pa_cons (pe_fld (pv 0) (by rfl)) (pa_cons (pe_fld (pv 0) (by rfl)) pa_nil))), _, rfl, a, C, dx, fs, _, rfl, ha, Z.cl, Z.no _ h1, l1, _, rfl, a, C, dx, fs, _, rfl, ha, Z.cl, Z.no _ h2, l2, _, rfl, a, C, dx, fs, _, rfl, ha, Z.cl, Z.no _ h3, l3, (by show 3 ≤ sizeLine; decide), fun l nl ne => k l _ (same_new nl) ne upd_same⟩
end
section
variable {X : Cx} {C f : Addr} {k j : Nat} {sp : Sp} {E : XK} {pins : List (Addr × Obj)} {σ : L2.St} {H : Hp} {s : Shared}
structure NeC (K : PySem.W.Frag) (C : Addr) : Prop where
  m : PySem.W.mroIn K C (.type "object") = some true
  n : PySem.W.findIn K (.ref C) "__ne__" = some (some (.builtin "object.__ne__"))
def Nb (Q : VK) : VK := fun v H => ∃ c, v = .bl c ∧ Q (.bl (!c)) H
def rNR (C : Addr) (sp : Sp) (E : XK) : R2 := fun x y H Q => ∃ a dx fs b dy gs, x = .ref a ∧ H a = some (.ins C dx fs) ∧ y = .ref b ∧ H b = some (.ins C dy gs) ∧ sp [x, y] H (Nb Q) E
theorem op_neR (nc : NeC X.K C) (M : MetX X.prog X.w X.K X.mg X.base k C "__eq__" sp) (hx : Passes (L2.CX X.prog X.w) X E) (hr : Room j X.A) (hk : k + 1 ≤ j) : OpR X (compareOp .NotEq) (rNR C sp E) := by
  intro pins s σ H x y v u Q I rx ry h
  obtain ⟨a, dx, fs, b, dy, gs, rfl, ha, rfl, hb, q⟩ := h
  cases (show v = Value.ref a from rx)
  cases (show u = Value.ref b from ry)
  obtain ⟨_, _, J⟩ := ins_at I ha
  obtain ⟨_, _, J'⟩ := ins_at I hb
  have hr1 : Room k X.A.in1 := Room.in1 (hr.mono hk)
  obtain ⟨g, hm, w⟩ := run_metA (us := [.ref a, .ref b]) (vs := [.ref a, .ref b]) M hx hr1 I.env0.in1 I (.cons rfl (.cons rfl .nil)) q
  refine Ow.cmp_ne hr.units0 I.kIn J J'.type (by simp [PySem.W.notFirst]) (Ow.try_ne hr1.units0 I.kIn J nc.m nc.n hm.at_ hm.fn (wpAny_mono w (fun v s' z => ?_) fun _ _ x => x))
  obtain ⟨z', H', I', rz, c, rfl, qz⟩ := z
  cases (show v = Value.bool c from rz)
  exact ⟨c, rfl, .bl (!c), H', I', rfl, qz⟩
end
def FL : Nat → List Str
  | 0 => ["chunks"]
  | 1 => ["rests"]
  | 2 => ["total", "chunks"]
  | 3 => ["limit", "chunks", "below"]
  | 4 => ["late", "rest", "spot"]
  | 5 => ["spot", "rise"]
  | 6 => ["begins"]
  | 7 => ["begins"]
  | 8 => ["first", "last"]
  | 9 => ["never", "steady"]
  | 10 => ["rest"]
  | 11 => ["rest"]
  | 12 => ["rest"]
  | 13 => ["total", "counts"]
  | 14 => ["upto"]
  | 15 => ["late", "rest"]
  | 16 => ["residue", "begin"]
  | 17 => ["table"]
  | 18 => ["rest", "late"]
  | 19 => ["late", "at", "world"]
  | 20 => ["worker", "at", "begun", "ended"]
  | 21 => ["world"]
  | 22 => ["at", "why"]
  | 23 => ["workers"]
  | 24 => ["least", "most"]
  | 25 => ["names", "late", "last"]
  | 26 => ["loop", "worker", "many", "begun", "ended"]
  | _ => []
def pm1 {α : Type} (zs : List α) : List α := match zs with
  | [z0] => [z0]
  | _ => zs
def gV1 {α : Type} (us zs : List α) : List α := us ++ pm1 zs
def pm4 {α : Type} (zs : List α) : List α := match zs with
  | [z0, z1, z2] => [z2, z1, z0]
  | _ => zs
def gV4 {α : Type} (us zs : List α) : List α := us ++ pm4 zs
def pm6 {α : Type} (zs : List α) : List α := match zs with
  | [z0, z1] => [z1, z0]
  | _ => zs
def gV6 {α : Type} (us zs : List α) : List α := us ++ pm6 zs
def pm8 {α : Type} (zs : List α) : List α := match zs with
  | [z0] => [z0]
  | _ => zs
def gV8 {α : Type} (us zs : List α) : List α := us ++ pm8 zs
def pm10 {α : Type} (zs : List α) : List α := match zs with
  | [z0] => [z0]
  | _ => zs
def gV10 {α : Type} (us zs : List α) : List α := us ++ pm10 zs
def pm13 {α : Type} (zs : List α) : List α := match zs with
  | [z0, z1] => [z1, z0]
  | _ => zs
def gV13 {α : Type} (us zs : List α) : List α := us ++ pm13 zs
def pm14 {α : Type} (zs : List α) : List α := match zs with
  | [z0] => [z0]
  | _ => zs
def gV14 {α : Type} (us zs : List α) : List α := us ++ pm14 zs
def pm18 {α : Type} (zs : List α) : List α := match zs with
  | [z0] => [z0]
  | _ => zs
def gV18 {α : Type} (us zs : List α) : List α := us ++ pm18 zs
def pm20 {α : Type} (zs : List α) : List α := match zs with
  | [z0, z1] => [z0, z1]
  | _ => zs
def gV20 {α : Type} (us zs : List α) : List α := us ++ pm20 zs
def pm22 {α : Type} (zs : List α) : List α := match zs with
  | [z0] => [z0]
  | _ => zs
def gV22 {α : Type} (us zs : List α) : List α := us ++ pm22 zs
def pm24 {α : Type} (zs : List α) : List α := match zs with
  | [z0] => [z0]
  | _ => zs
def gV24 {α : Type} (us zs : List α) : List α := us ++ pm24 zs
def pm27 {α : Type} (zs : List α) : List α := match zs with
  | [z0, z1, z2, z3] => [z3, z2, z1, z0]
  | _ => zs
def gV27 {α : Type} (us zs : List α) : List α := us ++ pm27 zs
def pm29 {α : Type} (zs : List α) : List α := match zs with
  | [z0, z1] => [z1, z0]
  | _ => zs
def gV29 {α : Type} (us zs : List α) : List α := us ++ pm29 zs
structure Paps (P : Program) (w : World) (K : PySem.W.Frag) (mg : Str → Option Value) (base : Heap) (D : Nat → Addr) (Pa De : Addr) : Prop where
  p0 : PapC K mg "Fewest" (D 0) ["chunks"]
  p1 : PapC K mg "NoList" (D 1) ["rests"]
  p2 : PapC K mg "Greatest" (D 2) ["total", "chunks"]
  p3 : PapC K mg "Least" (D 3) ["limit", "chunks", "below"]
  p4 : PapC K mg "BatchBound" (D 4) ["late", "rest", "spot"]
  p5 : PapC K mg "BatchEndless" (D 5) ["spot", "rise"]
  p6 : PapC K mg "NeverLess" (D 6) ["begins"]
  p7 : PapC K mg "Steady" (D 7) ["begins"]
  p8 : PapC K mg "Same" (D 8) ["first", "last"]
  p9 : PapC K mg "Surely" (D 9) ["never", "steady"]
  p10 : PapC K mg "Less" (D 10) ["rest"]
  p11 : PapC K mg "Jump" (D 11) ["rest"]
  p12 : PapC K mg "Other" (D 12) ["rest"]
  p13 : PapC K mg "Counter" (D 13) ["total", "counts"]
  p14 : PapC K mg "Undecided" (D 14) ["upto"]
  p15 : PapC K mg "Bound" (D 15) ["late", "rest"]
  p16 : PapC K mg "Endless" (D 16) ["residue", "begin"]
  p17 : PapC K mg "Within" (D 17) ["table"]
  p18 : PapC K mg "Beyond" (D 18) ["rest", "late"]
  p19 : PapC K mg "Latest" (D 19) ["late", "at", "world"]
  p20 : PapC K mg "Taking" (D 20) ["worker", "at", "begun", "ended"]
  p21 : PapC K mg "Fits" (D 21) ["world"]
  p22 : PapC K mg "Misfit" (D 22) ["at", "why"]
  p23 : PapC K mg "Ring" (D 23) ["workers"]
  p24 : PapC K mg "Came" (D 24) ["least", "most"]
  p25 : PapC K mg "BestOrder" (D 25) ["names", "late", "last"]
  p26 : PapC K mg "PoolTaking" (D 26) ["loop", "worker", "many", "begun", "ended"]
  r0 : MkPos P w K mg base "Fewest" (D 0) ["chunks"]
  r1 : MkKey P w K mg base "NoList" (D 1) ["rests"] 0 ["rests"] gV1
  r2 : MkPos P w K mg base "Greatest" (D 2) ["total", "chunks"]
  r3 : MkPos P w K mg base "Least" (D 3) ["limit", "chunks", "below"]
  r4 : MkKey P w K mg base "Least" (D 3) ["limit", "chunks", "below"] 0 ["below", "chunks", "limit"] gV4
  r5 : MkPos P w K mg base "Latest" (D 19) ["late", "at", "world"]
  r6 : MkKey P w K mg base "Bound" (D 15) ["late", "rest"] 0 ["rest", "late"] gV6
  r7 : MkPos P w K mg base "Endless" (D 16) ["residue", "begin"]
  r8 : MkKey P w K mg base "Within" (D 17) ["table"] 0 ["table"] gV8
  r9 : MkPos P w K mg base "Beyond" (D 18) ["rest", "late"]
  r10 : MkKey P w K mg base "NeverLess" (D 6) ["begins"] 0 ["begins"] gV10
  r11 : MkPos P w K mg base "Steady" (D 7) ["begins"]
  r12 : MkPos P w K mg base "Same" (D 8) ["first", "last"]
  r13 : MkKey P w K mg base "Surely" (D 9) ["never", "steady"] 0 ["steady", "never"] gV13
  r14 : MkKey P w K mg base "Less" (D 10) ["rest"] 0 ["rest"] gV14
  r15 : MkPos P w K mg base "Jump" (D 11) ["rest"]
  r16 : MkPos P w K mg base "Other" (D 12) ["rest"]
  r17 : MkPos P w K mg base "Counter" (D 13) ["total", "counts"]
  r18 : MkKey P w K mg base "Undecided" (D 14) ["upto"] 0 ["upto"] gV18
  r19 : MkPos P w K mg base "BatchBound" (D 4) ["late", "rest", "spot"]
  r20 : MkKey P w K mg base "BatchEndless" (D 5) ["spot", "rise"] 0 ["spot", "rise"] gV20
  r21 : MkPos P w K mg base "BestOrder" (D 25) ["names", "late", "last"]
  r22 : MkKey P w K mg base "Fits" (D 21) ["world"] 0 ["world"] gV22
  r23 : MkPos P w K mg base "Misfit" (D 22) ["at", "why"]
  r24 : MkKey P w K mg base "Ring" (D 23) ["workers"] 0 ["workers"] gV24
  r25 : MkPos P w K mg base "Came" (D 24) ["least", "most"]
  r26 : MkPos P w K mg base "Taking" (D 20) ["worker", "at", "begun", "ended"]
  r27 : MkKey P w K mg base "Taking" (D 20) ["worker", "at", "begun", "ended"] 0 ["ended", "begun", "at", "worker"] gV27
  r28 : MkPos P w K mg base "PoolTaking" (D 26) ["loop", "worker", "many", "begun", "ended"]
  r29 : MkKey P w K mg base "PoolTaking" (D 26) ["loop", "worker", "many", "begun", "ended"] 3 ["ended", "begun"] gV29
  xB : MkPos P w K mg base "Bound" (D 15) ["late", "rest"]
  xN : MkPos P w K mg base "NoList" (D 1) ["rests"]
  eq : ∀ n, n < 27 → MetX P w K mg base 2 (D n) "__eq__" (spPE K (D n) (FL n))
  I : ∀ n, n < 27 → C8.InsC K (D n)
  tf : ∀ n, n < 27 → fal n = false → PySem.W.findIn K (.ref (D n)) "__bool__" = some none ∧ PySem.W.findIn K (.ref (D n)) "__len__" = some none
  tt : ∀ n, n < 27 → fal n = true → MetX P w K mg base 1 (D n) "__bool__" spNo
  kP : ∀ n, n < 27 → PySem.W.kitOne K (.ref (D n)) (.ref Pa) = some true
  kD : ∀ n, n < 27 → PySem.W.kitOne K (.ref (D n)) (.ref De) = some (fal n)
  kL : ∀ n, n < 27 → PySem.W.kitOne K (.type "list") (.ref (D n)) = some false
  kN : ∀ i, i < 29 → i ≠ 3 → i ≠ 26 → i ≠ 28 → PySem.W.kitOne K (.ref (D (rc (i + 1)))) (.ref (D (rc i))) = some false ∧ PySem.W.subIn K (.ref (D (rc (i + 1)))) (.ref (D (rc i))) = some false
  kX : PySem.W.kitOne K (.ref (D 18)) (.ref (D 15)) = some false ∧ PySem.W.subIn K (.ref (D 18)) (.ref (D 15)) = some false
  neN : NeC K (D 1)
  neT : NeC K (D 20)
  hP : mg "Paper" = some (.ref Pa)
  hD : mg "Denial" = some (.ref De)

/-! ### the items that are made -/
def TellAt (P : Program) (w : World) (K : PySem.W.Frag) (mg : Str → Option Value) (base : Heap) (H : Hp) (tf e : Addr) (vs : List V) : Prop := ∃ (ps : List Str) (sp : Sp), LamAt P w K mg base 0 ps sp H tf ∧
  ∀ (H1 : Hp) (Q : VK), ExtN H H1 → (∀ l H2, Same H1 H2 → l ≠ sysModules → H2 l = some (.lst vs) → Q (.ref l) H2) → sp [.ref e] H1 Q C8.E0
/-- class, fields' values, truth -/
abbrev Row := Nat × List V × V
structure ItAt (P : Program) (w : World) (K : PySem.W.Frag) (mg : Str → Option Value) (base : Heap) (D : Nat → Addr) (H : Hp) (v : V) (r : Row) : Prop where
  ex : ∃ (t e tf dl dx : Addr) (fs : List (Str × V)) (vs : List V) (ds : List PyData), v = .ref t ∧ H t = some (.tup [.ref e, .ref tf, .ref dl, r.2.2]) ∧ H e = some (.ins (D r.1) dx fs) ∧ FA fs (FL r.1) r.2.1 ∧ (∀ x ∈ r.2.1, ∃ d, Vr H x d ∧ shp d = true) ∧ TellAt P w K mg base H tf e vs ∧
    H dl = some (.lst vs) ∧ dl ≠ sysModules ∧ VrAll H vs ds ∧ (∀ d ∈ ds, Gd d) ∧ ds.length ≤ 3
inductive ItAll (P : Program) (w : World) (K : PySem.W.Frag) (mg : Str → Option Value) (base : Heap) (D : Nat → Addr) (H : Hp) : List V → List Row → Prop where
  | nil : ItAll P w K mg base D H [] []
  | cons {v : V} {vs : List V} {r : Row} {rs : List Row} : ItAt P w K mg base D H v r → ItAll P w K mg base D H vs rs → ItAll P w K mg base D H (v :: vs) (r :: rs)
section
variable {P : Program} {w : World} {K : PySem.W.Frag} {mg : Str → Option Value} {base : Heap} {D : Nat → Addr}
theorem Same.extn {H H' : Hp} (s : Same H H') : ExtN H H' := fun b o e _ => s b o e
theorem ItAt.extn {H H' : Hp} {v : V} {r : Row} (h : ItAt P w K mg base D H v r) (x : ExtN H H') : ItAt P w K mg base D H' v r := by
  obtain ⟨t, e, tf, dl, dx, fs, vs, ds, h1, h2, h3, h4, h4', ⟨ps, sp, h5, h5'⟩, h6, h7, h8, h9, h10⟩ := h.ex
  exact ⟨t, e, tf, dl, dx, fs, vs, ds, h1, x _ _ h2 (fun _ z => by cases z), x _ _ h3 (fun _ z => by cases z), h4, fun y hy => (h4' y hy).imp fun d z => ⟨z.1.extn x, z.2⟩, ⟨ps, sp, h5.extn x, fun H1 Q y k => h5' H1 Q (x.trans y) k⟩, x _ _ h6 (fun _ z => by cases z), h7, h8.extn x, h9, h10⟩
theorem ItAll.extn {H H' : Hp} (x : ExtN H H') : ∀ {vs : List V} {rs : List Row}, ItAll P w K mg base D H vs rs → ItAll P w K mg base D H' vs rs
  | _, _, .nil => .nil
  | _, _, .cons a r => .cons (a.extn x) (r.extn x)
theorem ItAll.at_ {H : Hp} : ∀ {vs : List V} {rs : List Row} {i : Nat} {v : V}, ItAll P w K mg base D H vs rs → vs[i]? = some v → ∃ r, rs[i]? = some r ∧ ItAt P w K mg base D H v r
  | _, _, 0, _, .cons a _, e => by cases e; exact ⟨_, rfl, a⟩
  | _, _, i + 1, _, .cons _ r, e => r.at_ (i := i) e
abbrev tabM (B : Addr) : List (Addr × Str) := [(B, (("_law_made" : Str) ++ (".<locals>." : Str)) ++ ("<lambda>" : Str))]
/-- the three drawn values -/
structure D3 (H : Hp) (v1 v2 v3 : V) : Prop where
  ex : ∃ d1 d2 d3 : PyData, (Vr H v1 d1 ∧ Gz d1) ∧ (Vr H v2 d2 ∧ Gz d2) ∧ (Vr H v3 d3 ∧ Gz d3)
theorem D3.extn {H H' : Hp} {v1 v2 v3 : V} (h : D3 H v1 v2 v3) (x : ExtN H H') : D3 H' v1 v2 v3 := by
  obtain ⟨d1, d2, d3, ⟨a1, g1⟩, ⟨a2, g2⟩, ⟨a3, g3⟩⟩ := h.ex
  exact ⟨d1, d2, d3, ⟨a1.extn x, g1⟩, ⟨a2.extn x, g2⟩, ⟨a3.extn x, g3⟩⟩
/-- a value that stands in a row -/
def Rv (H : Hp) (v : V) : Prop := ∃ d, Vr H v d ∧ Gz d
theorem D3.a {H : Hp} {v1 v2 v3 : V} (h : D3 H v1 v2 v3) : Rv H v1 := by obtain ⟨d1, d2, d3, a, _⟩ := h.ex; exact ⟨_, a⟩
theorem D3.b {H : Hp} {v1 v2 v3 : V} (h : D3 H v1 v2 v3) : Rv H v2 := by obtain ⟨d1, d2, d3, _, a, _⟩ := h.ex; exact ⟨_, a⟩
theorem D3.c {H : Hp} {v1 v2 v3 : V} (h : D3 H v1 v2 v3) : Rv H v3 := by obtain ⟨d1, d2, d3, _, _, a⟩ := h.ex; exact ⟨_, a⟩
theorem rv_int {H : Hp} {i : Int} (h : Gz (.int i) := by exact ⟨⟨by decide +kernel, by decide +kernel, by decide +kernel⟩, by decide +kernel⟩) : Rv H (.int i) := ⟨_, .fl (.int i), h⟩
inductive RvA (H : Hp) : List V → Prop where
  | nil : RvA H []
  | cons {v : V} {vs : List V} : Rv H v → RvA H vs → RvA H (v :: vs)
theorem RvA.mem {H : Hp} : ∀ {vs : List V}, RvA H vs → ∀ x ∈ vs, ∃ d, Vr H x d ∧ shp d = true
  | _, .nil, x, hx => by cases hx
  | _, .cons h r, x, hx => by
    rcases List.mem_cons.mp hx with rfl | hx
    · exact h.imp fun d z => ⟨z.1, z.2.2⟩
    · exact r.mem x hx
theorem RvA.all {H : Hp} : ∀ {vs : List V}, RvA H vs → ∃ ds, VrAll H vs ds ∧ (∀ d ∈ ds, Gd d) ∧ ds.length = vs.length
  | _, .nil => ⟨[], .nil, (fun d h => nomatch h), rfl⟩
  | _, .cons h r => by
    obtain ⟨d, h1, h2⟩ := h
    obtain ⟨ds, r1, r2, r3⟩ := r.all
    exact ⟨d :: ds, .cons h1 r1, fun x hx => (List.mem_cons.mp hx).elim (fun e => by rw [e]; exact h2.1) (r2 x), by rw [List.length_cons, List.length_cons, r3]⟩
def VI (P : Program) (w : World) (K : PySem.W.Frag) (mg : Str → Option Value) (base : Heap) (D : Nat → Addr) (T : List (Addr × Str)) (v1 v2 v3 : V) (te : TE) (r : Row) : Prop :=
  ∀ (H1 : Hp) (Q : VK), Tabs T H1 → D3 H1 v1 v2 v3 → (∀ v H', ExtN H1 H' → Tabs T H' → ItAt P w K mg base D H' v r → Q v H') → te [some v1, some v2, some v3] H1 Q
def VIA (P : Program) (w : World) (K : PySem.W.Frag) (mg : Str → Option Value) (base : Heap) (D : Nat → Addr) (T : List (Addr × Str)) (v1 v2 v3 : V) (ta : TA) (rs : List Row) : Prop :=
  ∀ (H1 : Hp) (Q : List V → Hp → Prop), Tabs T H1 → D3 H1 v1 v2 v3 → (∀ vs H', ExtN H1 H' → Tabs T H' → ItAll P w K mg base D H' vs rs → vs.length = rs.length → Q vs H') → ta [some v1, some v2, some v3] H1 Q
variable {T : List (Addr × Str)} {v1 v2 v3 : V}
theorem VIA.nil : VIA P w K mg base D T v1 v2 v3 tNil [] := fun H1 Q t _ k => k _ H1 (ExtN.refl _) t .nil rfl
theorem VIA.cons {te : TE} {ta : TA} {r : Row} {rs : List Row} (h : VI P w K mg base D T v1 v2 v3 te r) (r' : VIA P w K mg base D T v1 v2 v3 ta rs) : VIA P w K mg base D T v1 v2 v3 (tCons te ta) (r :: rs) := fun H1 Q t a k =>
  h H1 _ t a fun v H2 x t2 it => r' H2 _ t2 (a.extn x) fun vs H3 x3 t3 its hl => k _ H3 (x.trans x3) t3 (.cons (it.extn x3) its) (by rw [List.length_cons, List.length_cons, hl])
/-- a row -/
theorem vi_row {c : Nat} {xs vs : List V} {tv : V} {tm : TE} {ta : TA} {G : List Str} (hmk : ∀ (H : Hp) (Q : VK), Made (D c) (FL c) xs H Q → tm [some v1, some v2, some v3] H Q) (hta : ∀ (H : Hp) (R : List V → Hp → Prop), R vs H → ta [some v1, some v2, some v3] H R)
    (hvs : vs.length ≤ 3) (hx : ∀ H, D3 H v1 v2 v3 → RvA H xs) (hv : ∀ H, D3 H v1 v2 v3 → RvA H vs) (hg : ∀ fs, FA fs (FL c) xs → FA fs G vs) :
    VI P w K mg base D T v1 v2 v3 (tTup (tCons tm (tCons (tLamN P w K mg base 0 [xE] (spT (D c) G) T) (tCons (tLstS ta) (tCons (tC tv) tNil))))) (c, xs, tv) := by
  intro H1 Q t d3 k
  refine hmk _ _ fun e dx fs H2 s2 _ he fa => ?_
  have t2 := t.ext s2
  have x2 := Same.extn s2
  refine ⟨t2, fun tf H3 x3 t3 n3 la => hta _ _ ⟨(by rw [sizeLine_eq]; omega), fun l nl ne => ⟨(by show 4 ≤ sizeLine; decide), fun p np => ?_⟩⟩⟩
  have s4 := same_new (o := HO.lst vs) nl
  have a4 : upd H3 l (HO.lst vs) l = some (.lst vs) := upd_same
  generalize upd H3 l (HO.lst vs) = H4 at s4 a4 np ⊢
  have s5 := same_new (o := HO.tup [.ref e, .ref tf, .ref l, tv]) np
  have a5 : upd H4 p (HO.tup [.ref e, .ref tf, .ref l, tv]) p = some (.tup [.ref e, .ref tf, .ref l, tv]) := upd_same
  show Q (.ref p) (upd H4 p (HO.tup [.ref e, .ref tf, .ref l, tv]))
  generalize upd H4 p (HO.tup [.ref e, .ref tf, .ref l, tv]) = H5 at s5 a5 ⊢
  have x5 : ExtN H3 H5 := (Same.extn s4).trans (Same.extn s5)
  have he3 := x3 _ _ he (fun _ z => by cases z)
  have he5 := x5 _ _ he3 (fun _ z => by cases z)
  have xx := (x2.trans x3).trans x5
  have d5 := d3.extn xx
  obtain ⟨ds, r1, r2, r3⟩ := (hv _ d5).all
  exact k _ _ xx ((t3.ext s4).ext s5) ⟨p, e, tf, l, dx, fs, vs, ds, rfl, a5, he5, fa, (hx _ d5).mem, ⟨[xE], _, la.extn x5, fun H6 R x6 kk => ⟨e, dx, fs, vs, rfl, x6 _ _ he5 (fun _ z => by cases z), hg _ fa, kk⟩⟩, s5 _ _ a4, ne, r1, r2, by omega⟩
end
end Lw
namespace Lw
open PySem PySem.Spec PyProof.Rows L2
open LamX
structure DefC (K : PySem.W.Frag) (mg : Str → Option Value) (x : Str) (st : Stmt) (f : Addr) (fd : FuncData) (c : Addr) : Prop where
  ex : ∃ (oc : Value) (od : Option Addr) (dV kV doc pm : Value) (an : Option Addr) (ct : Value) (osl : Array (Option Value)),
    fd = PySem.W.fnOf x x (C8.fnArgs st) (C8.fnBody st) (C8.fnScope st) dV kV doc pm an (.ref c) ct ∧ K.lookup f = some ⟨oc, od, .func fd, osl⟩ ∧ PySem.W.codeIn K (.ref c) x = true
  mgf : mg x = some (.ref f)
  kp : PySem.W.keepIn K (.ref f) = true
theorem calGC {P : Program} {w : World} {K : PySem.W.Frag} {mg : Str → Option Value} {base : Heap} {x : Str} {st : Stmt} {f c : Addr} {fd : FuncData} {N ps : List Str} {ds : List Value} {dvs : List V} {k : Nat} {sp : Sp} (F : DefC K mg x st f fd c) (b : Binds K fd ps ds) (d : Vals dvs ds) (S : FnScope N ps (C8.fnScope st)) (len : ∀ vs H Q E, sp vs H Q E → vs.length = ps.length)
    (body : ∀ (A : Around) (outer : List Env) (s : Shared) (H : Hp) (vs : List V) (Q : VK) (E : XK), (A.deeper (envOfC x (C8.fnScope st) s.heap.objs.size f (.ref c))).guards = some [] → Room k (A.deeper (envOfC x (C8.fnScope st) s.heap.objs.size f (.ref c))) → sp vs H Q E →
      ∃ t, PSs (cxOf C8.CX0 P w K mg base N x (C8.fnScope st) f (.ref c) A outer s H E).nox (C8.fnBody st) t ∧ t { nx := fun _ H' => Q .non H', rt := Q } (start N vs) H) : CalG P w K mg base (k + 1) x sp dvs := by
  refine ⟨f, fd, ps, ds, ⟨len, ?_⟩, F.mgf, F.kp, b, d⟩
  intro A outer s H args us vs Q E hg hr e0 hb r hs
  obtain ⟨oc, od, dV, kV, doc, pm, an, ct, osl, rfl, lk, hcd⟩ := F.ex
  refine LamX.run_ofS lk hcd S hr e0 hb r (len _ _ _ _ hs) fun hr' => ?_
  obtain ⟨t, h1, h2⟩ := body A outer s H vs Q E hg hr' hs
  exact ⟨t, h1.nox, h2⟩
theorem Tabs.put {T : List (Addr × Str)} {H : Hp} {l : Addr} {o : HO} {xs : List V} (t : Tabs T H) (hl : H l = some (.lst xs)) : Tabs T (upd H l o) := by
  intro q hq
  obtain ⟨ps, h1, h2, h3⟩ := t q hq
  refine ⟨ps, ?_, h2, fun pos cv hc => ?_⟩
  · rw [upd_ne (fun e => by rw [e, hl] at h1; cases h1)]; exact h1
  · obtain ⟨c, e1, e2⟩ := h3 pos cv hc
    refine ⟨c, e1, ?_⟩
    rw [upd_ne (fun e => by rw [e, hl] at e2; unfold CodeO at e2; cases e2)]; exact e2
theorem Tabs.kp {T : List (Addr × Str)} {p pl : Addr} {n : Nat} {H H' : Hp} (t : Tabs T H) (hp : Pen H p pl n) (k : Kp p H H') : Tabs T H' := by
  intro q hq
  obtain ⟨ps, h1, h2, h3⟩ := t q hq
  obtain ⟨xs, a, g, hh, _⟩ := hp
  refine ⟨ps, k _ _ (fun e => ?_) h1, h2, fun pos cv hc => ?_⟩
  · rw [e, hh.at_] at h1; cases h1
  · obtain ⟨c, e1, e2⟩ := h3 pos cv hc
    refine ⟨c, e1, k _ _ (fun e => ?_) e2⟩
    rw [e, hh.at_] at e2
    unfold CodeO at e2
    cases e2
theorem Pen.extn {H H' : Hp} {p l : Addr} {n : Nat} (h : Pen H p l n) (e : ExtN H H') : Pen H' p l n := by
  obtain ⟨xs, a, g, ⟨h1, h2, h3, h4, h5⟩, h6⟩ := h
  have nl : ∀ (ys : List V) ps, HO.lst ys ≠ .tbl ps := fun ys ps z => by cases z
  exact ⟨xs, a, g, ⟨e _ _ h1 (nl _), e _ _ h2 (nl _), h3, h4, h5⟩, h6⟩

abbrev sMade : Stmt := top 44
def rws (v1 v2 v3 : V) : List Row := [(0, [v1], .bl true), (1, [v1], .bl false), (2, [v1, v2], .bl true), (3, [v1, v2, v3], .bl true), (3, [v3, v2, v1], .bl true), (19, [v1, v2, v3], .bl true), (15, [v2, v1], .bl true), (16, [v1, v2], .bl false), (17, [v1], .bl true), (18, [v1, v2], .bl false), (6, [v1], .bl true), (7, [v1], .bl true), (8, [v1, v2], .bl true), (9, [v2, v1], .bl true), (10, [v1], .bl false), (11, [v1], .bl false), (12, [v1], .bl false), (13, [v1, v2], .bl false), (14, [v1], .bl false), (4, [v1, v2, .int 3], .bl true), (5, [v1, v2], .bl false), (25, [v1, v2, .int 3], .bl true), (21, [v1], .bl true), (22, [v1, v2], .bl false), (23, [v1], .bl false), (24, [v1, v2], .bl true), (20, [v1, v2, .int 3, .int 9], .bl true), (20, [.int 1, .int 3, v2, v1], .int 1), (26, [v1, v2, .int 3, .int 8, .int 9], .int 1), (26, [.int 1, .int 2, .int 3, v2, v1], .bl true)]
def spMade (P : Program) (w : World) (K : PySem.W.Frag) (mg : Str → Option Value) (base : Heap) (D : Nat → Addr) (T : List (Addr × Str)) : Sp := fun vs H Q _ => ∃ v1 v2 v3 : V, vs = [v1, v2, v3] ∧ D3 H v1 v2 v3 ∧ Tabs T H ∧
  ∀ (l : Addr) (xs : List V) (H' : Hp), ExtN H H' → Tabs T H' → H' l = some (.lst xs) → ItAll P w K mg base D H' xs (rws v1 v2 v3) → xs.length = 30 → Q (.ref l) H'
section
variable {P : Program} {w : World} {K : PySem.W.Frag} {mg : Str → Option Value} {base : Heap}
theorem lst_via {D : Nat → Addr} {T : List (Addr × Str)} {v1 v2 v3 : V} {ta : TA} {rs : List Row} {H : Hp} {Q : VK} (h : VIA P w K mg base D T v1 v2 v3 ta rs) (t : Tabs T H) (d3 : D3 H v1 v2 v3) (hl : rs.length ≤ 1000)
    (k : ∀ (l : Addr) (xs : List V) (H' : Hp), ExtN H H' → Tabs T H' → H' l = some (.lst xs) → ItAll P w K mg base D H' xs rs → xs.length = rs.length → Q (.ref l) H') : tLst ta [some v1, some v2, some v3] H Q :=
  h H _ t d3 fun vs H' x t' its hl' => ⟨by rw [hl']; exact Nat.le_trans hl (by decide), fun l nl => k l vs _ (x.trans (Same.extn (same_new nl))) (t'.ext (same_new nl)) upd_same (its.extn (Same.extn (same_new nl))) hl'⟩
theorem scMade : FnScope ["_law_first", "_law_second", "_law_third"] ["_law_first", "_law_second", "_law_third"] (C8.fnScope sMade) := C8.fnScope_by (by decide +kernel)
theorem cal_made {f c B Pa De : Addr} {D : Nat → Addr} {fd : FuncData} (F : DefC K mg "_law_made" sMade f fd c) (b : Binds K fd ["_law_first", "_law_second", "_law_third"] []) (TB : TabB base mg c B) (Z : Paps P w K mg base D Pa De) :
    CalG P w K mg base 4 "_law_made" (spMade P w K mg base D (tabM B)) [] := by
  have hu : ∀ p ∈ tabM B, p.1 = B → p.2 = (("_law_made" : Str) ++ (".<locals>." : Str)) ++ ("<lambda>" : Str) := by
    intro p hp e
    rw [List.mem_singleton.mp hp]
  refine calGC F b .nil scMade (fun vs H Q E h => ?_) (fun A outer st H vs Q E hG hr h => ?_)
  · obtain ⟨v1, v2, v3, rfl, _⟩ := h
    rfl
  · obtain ⟨v1, v2, v3, rfl, d3, t, k⟩ := h
    refine ⟨_, (pss_one (ps_ret (pe_lst (pa_cons (pe_tup (pa_cons (pe_mkP (j := 1) Z.r0 hr (by rfl) (pa_cons (pv 0) pa_nil)) (pa_cons (pe_lamN (k := 0) (ps := [xE]) (sp := spT (D 0) ["chunks"]) (T := tabM B) TB rfl (List.Mem.head _) hu rfl (by decide) rfl (fun _ _ => lf_T1 Z.p0 (by simp))) (pa_cons (pe_lstS (pa_cons (pv 0) pa_nil)) (pa_cons pe_bl pa_nil)))))
 (pa_cons (pe_tup (pa_cons (pe_mkK0 (j := 1) Z.r1 hr (by rfl) (pk_cons (pv 0) pk_nil)) (pa_cons (pe_lamN (k := 0) (ps := [xE]) (sp := spT (D 1) ["rests"]) (T := tabM B) TB rfl (List.Mem.head _) hu rfl (by decide) rfl (fun _ _ => lf_T1 Z.p1 (by simp))) (pa_cons (pe_lstS (pa_cons (pv 0) pa_nil)) (pa_cons pe_bl pa_nil)))))
 (pa_cons (pe_tup (pa_cons (pe_mkP (j := 1) Z.r2 hr (by rfl) (pa_cons (pv 0) (pa_cons (pv 1) pa_nil))) (pa_cons (pe_lamN (k := 0) (ps := [xE]) (sp := spT (D 2) ["total", "chunks"]) (T := tabM B) TB rfl (List.Mem.head _) hu rfl (by decide) rfl (fun _ _ => lf_T2 Z.p2 (by simp) (by simp))) (pa_cons (pe_lstS (pa_cons (pv 0) (pa_cons (pv 1) pa_nil))) (pa_cons pe_bl pa_nil)))))
 (pa_cons (pe_tup (pa_cons (pe_mkP (j := 1) Z.r3 hr (by rfl) (pa_cons (pv 0) (pa_cons (pv 1) (pa_cons (pv 2) pa_nil)))) (pa_cons (pe_lamN (k := 0) (ps := [xE]) (sp := spT (D 3) ["limit", "chunks", "below"]) (T := tabM B) TB rfl (List.Mem.head _) hu rfl (by decide) rfl (fun _ _ => lf_T3 Z.p3 (by simp) (by simp) (by simp))) (pa_cons (pe_lstS (pa_cons (pv 0) (pa_cons (pv 1) (pa_cons (pv 2) pa_nil)))) (pa_cons pe_bl pa_nil)))))
 (pa_cons (pe_tup (pa_cons (pe_mkK0 (j := 1) Z.r4 hr (by rfl) (pk_cons (pv 0) (pk_cons (pv 1) (pk_cons (pv 2) pk_nil)))) (pa_cons (pe_lamN (k := 0) (ps := [xE]) (sp := spT (D 3) ["limit", "below"]) (T := tabM B) TB rfl (List.Mem.head _) hu rfl (by decide) rfl (fun _ _ => lf_T2 Z.p3 (by simp) (by simp))) (pa_cons (pe_lstS (pa_cons (pv 2) (pa_cons (pv 0) pa_nil))) (pa_cons pe_bl pa_nil)))))
 (pa_cons (pe_tup (pa_cons (pe_mkP (j := 1) Z.r5 hr (by rfl) (pa_cons (pv 0) (pa_cons (pv 1) (pa_cons (pv 2) pa_nil)))) (pa_cons (pe_lamN (k := 0) (ps := [xE]) (sp := spT (D 19) ["late", "at", "world"]) (T := tabM B) TB rfl (List.Mem.head _) hu rfl (by decide) rfl (fun _ _ => lf_T3 Z.p19 (by simp) (by simp) (by simp))) (pa_cons (pe_lstS (pa_cons (pv 0) (pa_cons (pv 1) (pa_cons (pv 2) pa_nil)))) (pa_cons pe_bl pa_nil)))))
 (pa_cons (pe_tup (pa_cons (pe_mkK0 (j := 1) Z.r6 hr (by rfl) (pk_cons (pv 0) (pk_cons (pv 1) pk_nil))) (pa_cons (pe_lamN (k := 0) (ps := [xE]) (sp := spT (D 15) ["late", "rest"]) (T := tabM B) TB rfl (List.Mem.head _) hu rfl (by decide) rfl (fun _ _ => lf_T2 Z.p15 (by simp) (by simp))) (pa_cons (pe_lstS (pa_cons (pv 1) (pa_cons (pv 0) pa_nil))) (pa_cons pe_bl pa_nil)))))
 (pa_cons (pe_tup (pa_cons (pe_mkP (j := 1) Z.r7 hr (by rfl) (pa_cons (pv 0) (pa_cons (pv 1) pa_nil))) (pa_cons (pe_lamN (k := 0) (ps := [xE]) (sp := spT (D 16) ["residue", "begin"]) (T := tabM B) TB rfl (List.Mem.head _) hu rfl (by decide) rfl (fun _ _ => lf_T2 Z.p16 (by simp) (by simp))) (pa_cons (pe_lstS (pa_cons (pv 0) (pa_cons (pv 1) pa_nil))) (pa_cons pe_bl pa_nil)))))
 (pa_cons (pe_tup (pa_cons (pe_mkK0 (j := 1) Z.r8 hr (by rfl) (pk_cons (pv 0) pk_nil)) (pa_cons (pe_lamN (k := 0) (ps := [xE]) (sp := spT (D 17) ["table"]) (T := tabM B) TB rfl (List.Mem.head _) hu rfl (by decide) rfl (fun _ _ => lf_T1 Z.p17 (by simp))) (pa_cons (pe_lstS (pa_cons (pv 0) pa_nil)) (pa_cons pe_bl pa_nil)))))
 (pa_cons (pe_tup (pa_cons (pe_mkP (j := 1) Z.r9 hr (by rfl) (pa_cons (pv 0) (pa_cons (pv 1) pa_nil))) (pa_cons (pe_lamN (k := 0) (ps := [xE]) (sp := spT (D 18) ["rest", "late"]) (T := tabM B) TB rfl (List.Mem.head _) hu rfl (by decide) rfl (fun _ _ => lf_T2 Z.p18 (by simp) (by simp))) (pa_cons (pe_lstS (pa_cons (pv 0) (pa_cons (pv 1) pa_nil))) (pa_cons pe_bl pa_nil)))))
 (pa_cons (pe_tup (pa_cons (pe_mkK0 (j := 1) Z.r10 hr (by rfl) (pk_cons (pv 0) pk_nil)) (pa_cons (pe_lamN (k := 0) (ps := [xE]) (sp := spT (D 6) ["begins"]) (T := tabM B) TB rfl (List.Mem.head _) hu rfl (by decide) rfl (fun _ _ => lf_T1 Z.p6 (by simp))) (pa_cons (pe_lstS (pa_cons (pv 0) pa_nil)) (pa_cons pe_bl pa_nil)))))
 (pa_cons (pe_tup (pa_cons (pe_mkP (j := 1) Z.r11 hr (by rfl) (pa_cons (pv 0) pa_nil)) (pa_cons (pe_lamN (k := 0) (ps := [xE]) (sp := spT (D 7) ["begins"]) (T := tabM B) TB rfl (List.Mem.head _) hu rfl (by decide) rfl (fun _ _ => lf_T1 Z.p7 (by simp))) (pa_cons (pe_lstS (pa_cons (pv 0) pa_nil)) (pa_cons pe_bl pa_nil)))))
 (pa_cons (pe_tup (pa_cons (pe_mkP (j := 1) Z.r12 hr (by rfl) (pa_cons (pv 0) (pa_cons (pv 1) pa_nil))) (pa_cons (pe_lamN (k := 0) (ps := [xE]) (sp := spT (D 8) ["first", "last"]) (T := tabM B) TB rfl (List.Mem.head _) hu rfl (by decide) rfl (fun _ _ => lf_T2 Z.p8 (by simp) (by simp))) (pa_cons (pe_lstS (pa_cons (pv 0) (pa_cons (pv 1) pa_nil))) (pa_cons pe_bl pa_nil)))))
 (pa_cons (pe_tup (pa_cons (pe_mkK0 (j := 1) Z.r13 hr (by rfl) (pk_cons (pv 0) (pk_cons (pv 1) pk_nil))) (pa_cons (pe_lamN (k := 0) (ps := [xE]) (sp := spT (D 9) ["never", "steady"]) (T := tabM B) TB rfl (List.Mem.head _) hu rfl (by decide) rfl (fun _ _ => lf_T2 Z.p9 (by simp) (by simp))) (pa_cons (pe_lstS (pa_cons (pv 1) (pa_cons (pv 0) pa_nil))) (pa_cons pe_bl pa_nil)))))
 (pa_cons (pe_tup (pa_cons (pe_mkK0 (j := 1) Z.r14 hr (by rfl) (pk_cons (pv 0) pk_nil)) (pa_cons (pe_lamN (k := 0) (ps := [xE]) (sp := spT (D 10) ["rest"]) (T := tabM B) TB rfl (List.Mem.head _) hu rfl (by decide) rfl (fun _ _ => lf_T1 Z.p10 (by simp))) (pa_cons (pe_lstS (pa_cons (pv 0) pa_nil)) (pa_cons pe_bl pa_nil)))))
 (pa_cons (pe_tup (pa_cons (pe_mkP (j := 1) Z.r15 hr (by rfl) (pa_cons (pv 0) pa_nil)) (pa_cons (pe_lamN (k := 0) (ps := [xE]) (sp := spT (D 11) ["rest"]) (T := tabM B) TB rfl (List.Mem.head _) hu rfl (by decide) rfl (fun _ _ => lf_T1 Z.p11 (by simp))) (pa_cons (pe_lstS (pa_cons (pv 0) pa_nil)) (pa_cons pe_bl pa_nil)))))
 (pa_cons (pe_tup (pa_cons (pe_mkP (j := 1) Z.r16 hr (by rfl) (pa_cons (pv 0) pa_nil)) (pa_cons (pe_lamN (k := 0) (ps := [xE]) (sp := spT (D 12) ["rest"]) (T := tabM B) TB rfl (List.Mem.head _) hu rfl (by decide) rfl (fun _ _ => lf_T1 Z.p12 (by simp))) (pa_cons (pe_lstS (pa_cons (pv 0) pa_nil)) (pa_cons pe_bl pa_nil)))))
 (pa_cons (pe_tup (pa_cons (pe_mkP (j := 1) Z.r17 hr (by rfl) (pa_cons (pv 0) (pa_cons (pv 1) pa_nil))) (pa_cons (pe_lamN (k := 0) (ps := [xE]) (sp := spT (D 13) ["total", "counts"]) (T := tabM B) TB rfl (List.Mem.head _) hu rfl (by decide) rfl (fun _ _ => lf_T2 Z.p13 (by simp) (by simp))) (pa_cons (pe_lstS (pa_cons (pv 0) (pa_cons (pv 1) pa_nil))) (pa_cons pe_bl pa_nil)))))
 (pa_cons (pe_tup (pa_cons (pe_mkK0 (j := 1) Z.r18 hr (by rfl) (pk_cons (pv 0) pk_nil)) (pa_cons (pe_lamN (k := 0) (ps := [xE]) (sp := spT (D 14) ["upto"]) (T := tabM B) TB rfl (List.Mem.head _) hu rfl (by decide) rfl (fun _ _ => lf_T1 Z.p14 (by simp))) (pa_cons (pe_lstS (pa_cons (pv 0) pa_nil)) (pa_cons pe_bl pa_nil)))))
 (pa_cons (pe_tup (pa_cons (pe_mkP (j := 1) Z.r19 hr (by rfl) (pa_cons (pv 0) (pa_cons (pv 1) (pa_cons pe_int pa_nil)))) (pa_cons (pe_lamN (k := 0) (ps := [xE]) (sp := spT (D 4) ["late", "rest", "spot"]) (T := tabM B) TB rfl (List.Mem.head _) hu rfl (by decide) rfl (fun _ _ => lf_T3 Z.p4 (by simp) (by simp) (by simp))) (pa_cons (pe_lstS (pa_cons (pv 0) (pa_cons (pv 1) (pa_cons pe_int pa_nil)))) (pa_cons pe_bl pa_nil)))))
 (pa_cons (pe_tup (pa_cons (pe_mkK0 (j := 1) Z.r20 hr (by rfl) (pk_cons (pv 0) (pk_cons (pv 1) pk_nil))) (pa_cons (pe_lamN (k := 0) (ps := [xE]) (sp := spT (D 5) ["spot", "rise"]) (T := tabM B) TB rfl (List.Mem.head _) hu rfl (by decide) rfl (fun _ _ => lf_T2 Z.p5 (by simp) (by simp))) (pa_cons (pe_lstS (pa_cons (pv 0) (pa_cons (pv 1) pa_nil))) (pa_cons pe_bl pa_nil)))))
 (pa_cons (pe_tup (pa_cons (pe_mkP (j := 1) Z.r21 hr (by rfl) (pa_cons (pv 0) (pa_cons (pv 1) (pa_cons pe_int pa_nil)))) (pa_cons (pe_lamN (k := 0) (ps := [xE]) (sp := spT (D 25) ["names", "late", "last"]) (T := tabM B) TB rfl (List.Mem.head _) hu rfl (by decide) rfl (fun _ _ => lf_T3 Z.p25 (by simp) (by simp) (by simp))) (pa_cons (pe_lstS (pa_cons (pv 0) (pa_cons (pv 1) (pa_cons pe_int pa_nil)))) (pa_cons pe_bl pa_nil)))))
 (pa_cons (pe_tup (pa_cons (pe_mkK0 (j := 1) Z.r22 hr (by rfl) (pk_cons (pv 0) pk_nil)) (pa_cons (pe_lamN (k := 0) (ps := [xE]) (sp := spT (D 21) ["world"]) (T := tabM B) TB rfl (List.Mem.head _) hu rfl (by decide) rfl (fun _ _ => lf_T1 Z.p21 (by simp))) (pa_cons (pe_lstS (pa_cons (pv 0) pa_nil)) (pa_cons pe_bl pa_nil)))))
 (pa_cons (pe_tup (pa_cons (pe_mkP (j := 1) Z.r23 hr (by rfl) (pa_cons (pv 0) (pa_cons (pv 1) pa_nil))) (pa_cons (pe_lamN (k := 0) (ps := [xE]) (sp := spT (D 22) ["at", "why"]) (T := tabM B) TB rfl (List.Mem.head _) hu rfl (by decide) rfl (fun _ _ => lf_T2 Z.p22 (by simp) (by simp))) (pa_cons (pe_lstS (pa_cons (pv 0) (pa_cons (pv 1) pa_nil))) (pa_cons pe_bl pa_nil)))))
 (pa_cons (pe_tup (pa_cons (pe_mkK0 (j := 1) Z.r24 hr (by rfl) (pk_cons (pv 0) pk_nil)) (pa_cons (pe_lamN (k := 0) (ps := [xE]) (sp := spT (D 23) ["workers"]) (T := tabM B) TB rfl (List.Mem.head _) hu rfl (by decide) rfl (fun _ _ => lf_T1 Z.p23 (by simp))) (pa_cons (pe_lstS (pa_cons (pv 0) pa_nil)) (pa_cons pe_bl pa_nil)))))
 (pa_cons (pe_tup (pa_cons (pe_mkP (j := 1) Z.r25 hr (by rfl) (pa_cons (pv 0) (pa_cons (pv 1) pa_nil))) (pa_cons (pe_lamN (k := 0) (ps := [xE]) (sp := spT (D 24) ["least", "most"]) (T := tabM B) TB rfl (List.Mem.head _) hu rfl (by decide) rfl (fun _ _ => lf_T2 Z.p24 (by simp) (by simp))) (pa_cons (pe_lstS (pa_cons (pv 0) (pa_cons (pv 1) pa_nil))) (pa_cons pe_bl pa_nil)))))
 (pa_cons (pe_tup (pa_cons (pe_mkP (j := 1) Z.r26 hr (by rfl) (pa_cons (pv 0) (pa_cons (pv 1) (pa_cons pe_int (pa_cons pe_int pa_nil))))) (pa_cons (pe_lamN (k := 0) (ps := [xE]) (sp := spT (D 20) ["worker", "at", "begun"]) (T := tabM B) TB rfl (List.Mem.head _) hu rfl (by decide) rfl (fun _ _ => lf_T3 Z.p20 (by simp) (by simp) (by simp))) (pa_cons (pe_lstS (pa_cons (pv 0) (pa_cons (pv 1) (pa_cons pe_int pa_nil)))) (pa_cons pe_bl pa_nil)))))
 (pa_cons (pe_tup (pa_cons (pe_mkK0 (j := 1) Z.r27 hr (by rfl) (pk_cons (pv 0) (pk_cons (pv 1) (pk_cons pe_int (pk_cons pe_int pk_nil))))) (pa_cons (pe_lamN (k := 0) (ps := [xE]) (sp := spT (D 20) ["ended", "begun"]) (T := tabM B) TB rfl (List.Mem.head _) hu rfl (by decide) rfl (fun _ _ => lf_T2 Z.p20 (by simp) (by simp))) (pa_cons (pe_lstS (pa_cons (pv 0) (pa_cons (pv 1) pa_nil))) (pa_cons pe_int pa_nil)))))
 (pa_cons (pe_tup (pa_cons (pe_mkP (j := 1) Z.r28 hr (by rfl) (pa_cons (pv 0) (pa_cons (pv 1) (pa_cons pe_int (pa_cons pe_int (pa_cons pe_int pa_nil)))))) (pa_cons (pe_lamN (k := 0) (ps := [xE]) (sp := spT (D 26) ["loop", "worker", "many"]) (T := tabM B) TB rfl (List.Mem.head _) hu rfl (by decide) rfl (fun _ _ => lf_T3 Z.p26 (by simp) (by simp) (by simp))) (pa_cons (pe_lstS (pa_cons (pv 0) (pa_cons (pv 1) (pa_cons pe_int pa_nil)))) (pa_cons pe_int pa_nil)))))
 (pa_cons (pe_tup (pa_cons (pe_mkK (j := 1) Z.r29 hr (by rfl) (pa_cons pe_int (pa_cons pe_int (pa_cons pe_int pa_nil))) (pk_cons (pv 0) (pk_cons (pv 1) pk_nil))) (pa_cons (pe_lamN (k := 0) (ps := [xE]) (sp := spT (D 26) ["begun", "ended"]) (T := tabM B) TB rfl (List.Mem.head _) hu rfl (by decide) rfl (fun _ _ => lf_T2 Z.p26 (by simp) (by simp))) (pa_cons (pe_lstS (pa_cons (pv 1) (pa_cons (pv 0) pa_nil))) (pa_cons pe_bl pa_nil)))))
 pa_nil))))))))))))))))))))))))))))))))), ?_⟩
    dsimp only [tRet]
    change tLst _ [some v1, some v2, some v3] H Q
    refine lst_via (rs := rws v1 v2 v3) ?_ t d3 (by show 30 ≤ 1000; decide) k
    unfold rws
    exact (.cons (vi_row (c := 0) (xs := [v1]) (vs := [v1]) (tv := .bl true) (G := ["chunks"]) (fun H Q k => ⟨_, rfl, fun x dx hx hdx ne => mk_in (xs := [v1]) rfl k x dx hx hdx ne⟩) (fun H R h => ⟨_, rfl, h⟩) (Nat.le_of_ble_eq_true rfl) (fun H d => (.cons d.a .nil)) (fun H d => (.cons d.a .nil)) (fun fs h => match h with | .cons h0 .nil => .cons h0 .nil))
 (.cons (vi_row (c := 1) (xs := [v1]) (vs := [v1]) (tv := .bl false) (G := ["rests"]) (fun H Q k => ⟨_, rfl, rfl, rfl, fun x dx hx hdx ne => mk_in (xs := [v1]) rfl k x dx hx hdx ne⟩) (fun H R h => ⟨_, rfl, h⟩) (Nat.le_of_ble_eq_true rfl) (fun H d => (.cons d.a .nil)) (fun H d => (.cons d.a .nil)) (fun fs h => match h with | .cons h0 .nil => .cons h0 .nil))
 (.cons (vi_row (c := 2) (xs := [v1, v2]) (vs := [v1, v2]) (tv := .bl true) (G := ["total", "chunks"]) (fun H Q k => ⟨_, rfl, _, rfl, fun x dx hx hdx ne => mk_in (xs := [v1, v2]) rfl k x dx hx hdx ne⟩) (fun H R h => ⟨_, rfl, _, rfl, h⟩) (Nat.le_of_ble_eq_true rfl) (fun H d => (.cons d.a (.cons d.b .nil))) (fun H d => (.cons d.a (.cons d.b .nil))) (fun fs h => match h with | .cons h0 (.cons h1 .nil) => .cons h0 (.cons h1 .nil)))
 (.cons (vi_row (c := 3) (xs := [v1, v2, v3]) (vs := [v1, v2, v3]) (tv := .bl true) (G := ["limit", "chunks", "below"]) (fun H Q k => ⟨_, rfl, _, rfl, _, rfl, fun x dx hx hdx ne => mk_in (xs := [v1, v2, v3]) rfl k x dx hx hdx ne⟩) (fun H R h => ⟨_, rfl, _, rfl, _, rfl, h⟩) (Nat.le_of_ble_eq_true rfl) (fun H d => (.cons d.a (.cons d.b (.cons d.c .nil)))) (fun H d => (.cons d.a (.cons d.b (.cons d.c .nil)))) (fun fs h => match h with | .cons h0 (.cons h1 (.cons h2 .nil)) => .cons h0 (.cons h1 (.cons h2 .nil))))
 (.cons (vi_row (c := 3) (xs := [v3, v2, v1]) (vs := [v3, v1]) (tv := .bl true) (G := ["limit", "below"]) (fun H Q k => ⟨_, rfl, _, rfl, _, rfl, rfl, rfl, fun x dx hx hdx ne => mk_in (xs := [v3, v2, v1]) rfl k x dx hx hdx ne⟩) (fun H R h => ⟨_, rfl, _, rfl, h⟩) (Nat.le_of_ble_eq_true rfl) (fun H d => (.cons d.c (.cons d.b (.cons d.a .nil)))) (fun H d => (.cons d.c (.cons d.a .nil))) (fun fs h => match h with | .cons h0 (.cons h1 (.cons h2 .nil)) => .cons h0 (.cons h2 .nil)))
 (.cons (vi_row (c := 19) (xs := [v1, v2, v3]) (vs := [v1, v2, v3]) (tv := .bl true) (G := ["late", "at", "world"]) (fun H Q k => ⟨_, rfl, _, rfl, _, rfl, fun x dx hx hdx ne => mk_in (xs := [v1, v2, v3]) rfl k x dx hx hdx ne⟩) (fun H R h => ⟨_, rfl, _, rfl, _, rfl, h⟩) (Nat.le_of_ble_eq_true rfl) (fun H d => (.cons d.a (.cons d.b (.cons d.c .nil)))) (fun H d => (.cons d.a (.cons d.b (.cons d.c .nil)))) (fun fs h => match h with | .cons h0 (.cons h1 (.cons h2 .nil)) => .cons h0 (.cons h1 (.cons h2 .nil))))
 (.cons (vi_row (c := 15) (xs := [v2, v1]) (vs := [v2, v1]) (tv := .bl true) (G := ["late", "rest"]) (fun H Q k => ⟨_, rfl, _, rfl, rfl, rfl, fun x dx hx hdx ne => mk_in (xs := [v2, v1]) rfl k x dx hx hdx ne⟩) (fun H R h => ⟨_, rfl, _, rfl, h⟩) (Nat.le_of_ble_eq_true rfl) (fun H d => (.cons d.b (.cons d.a .nil))) (fun H d => (.cons d.b (.cons d.a .nil))) (fun fs h => match h with | .cons h0 (.cons h1 .nil) => .cons h0 (.cons h1 .nil)))
 (.cons (vi_row (c := 16) (xs := [v1, v2]) (vs := [v1, v2]) (tv := .bl false) (G := ["residue", "begin"]) (fun H Q k => ⟨_, rfl, _, rfl, fun x dx hx hdx ne => mk_in (xs := [v1, v2]) rfl k x dx hx hdx ne⟩) (fun H R h => ⟨_, rfl, _, rfl, h⟩) (Nat.le_of_ble_eq_true rfl) (fun H d => (.cons d.a (.cons d.b .nil))) (fun H d => (.cons d.a (.cons d.b .nil))) (fun fs h => match h with | .cons h0 (.cons h1 .nil) => .cons h0 (.cons h1 .nil)))
 (.cons (vi_row (c := 17) (xs := [v1]) (vs := [v1]) (tv := .bl true) (G := ["table"]) (fun H Q k => ⟨_, rfl, rfl, rfl, fun x dx hx hdx ne => mk_in (xs := [v1]) rfl k x dx hx hdx ne⟩) (fun H R h => ⟨_, rfl, h⟩) (Nat.le_of_ble_eq_true rfl) (fun H d => (.cons d.a .nil)) (fun H d => (.cons d.a .nil)) (fun fs h => match h with | .cons h0 .nil => .cons h0 .nil))
 (.cons (vi_row (c := 18) (xs := [v1, v2]) (vs := [v1, v2]) (tv := .bl false) (G := ["rest", "late"]) (fun H Q k => ⟨_, rfl, _, rfl, fun x dx hx hdx ne => mk_in (xs := [v1, v2]) rfl k x dx hx hdx ne⟩) (fun H R h => ⟨_, rfl, _, rfl, h⟩) (Nat.le_of_ble_eq_true rfl) (fun H d => (.cons d.a (.cons d.b .nil))) (fun H d => (.cons d.a (.cons d.b .nil))) (fun fs h => match h with | .cons h0 (.cons h1 .nil) => .cons h0 (.cons h1 .nil)))
 (.cons (vi_row (c := 6) (xs := [v1]) (vs := [v1]) (tv := .bl true) (G := ["begins"]) (fun H Q k => ⟨_, rfl, rfl, rfl, fun x dx hx hdx ne => mk_in (xs := [v1]) rfl k x dx hx hdx ne⟩) (fun H R h => ⟨_, rfl, h⟩) (Nat.le_of_ble_eq_true rfl) (fun H d => (.cons d.a .nil)) (fun H d => (.cons d.a .nil)) (fun fs h => match h with | .cons h0 .nil => .cons h0 .nil))
 (.cons (vi_row (c := 7) (xs := [v1]) (vs := [v1]) (tv := .bl true) (G := ["begins"]) (fun H Q k => ⟨_, rfl, fun x dx hx hdx ne => mk_in (xs := [v1]) rfl k x dx hx hdx ne⟩) (fun H R h => ⟨_, rfl, h⟩) (Nat.le_of_ble_eq_true rfl) (fun H d => (.cons d.a .nil)) (fun H d => (.cons d.a .nil)) (fun fs h => match h with | .cons h0 .nil => .cons h0 .nil))
 (.cons (vi_row (c := 8) (xs := [v1, v2]) (vs := [v1, v2]) (tv := .bl true) (G := ["first", "last"]) (fun H Q k => ⟨_, rfl, _, rfl, fun x dx hx hdx ne => mk_in (xs := [v1, v2]) rfl k x dx hx hdx ne⟩) (fun H R h => ⟨_, rfl, _, rfl, h⟩) (Nat.le_of_ble_eq_true rfl) (fun H d => (.cons d.a (.cons d.b .nil))) (fun H d => (.cons d.a (.cons d.b .nil))) (fun fs h => match h with | .cons h0 (.cons h1 .nil) => .cons h0 (.cons h1 .nil)))
 (.cons (vi_row (c := 9) (xs := [v2, v1]) (vs := [v2, v1]) (tv := .bl true) (G := ["never", "steady"]) (fun H Q k => ⟨_, rfl, _, rfl, rfl, rfl, fun x dx hx hdx ne => mk_in (xs := [v2, v1]) rfl k x dx hx hdx ne⟩) (fun H R h => ⟨_, rfl, _, rfl, h⟩) (Nat.le_of_ble_eq_true rfl) (fun H d => (.cons d.b (.cons d.a .nil))) (fun H d => (.cons d.b (.cons d.a .nil))) (fun fs h => match h with | .cons h0 (.cons h1 .nil) => .cons h0 (.cons h1 .nil)))
 (.cons (vi_row (c := 10) (xs := [v1]) (vs := [v1]) (tv := .bl false) (G := ["rest"]) (fun H Q k => ⟨_, rfl, rfl, rfl, fun x dx hx hdx ne => mk_in (xs := [v1]) rfl k x dx hx hdx ne⟩) (fun H R h => ⟨_, rfl, h⟩) (Nat.le_of_ble_eq_true rfl) (fun H d => (.cons d.a .nil)) (fun H d => (.cons d.a .nil)) (fun fs h => match h with | .cons h0 .nil => .cons h0 .nil))
 (.cons (vi_row (c := 11) (xs := [v1]) (vs := [v1]) (tv := .bl false) (G := ["rest"]) (fun H Q k => ⟨_, rfl, fun x dx hx hdx ne => mk_in (xs := [v1]) rfl k x dx hx hdx ne⟩) (fun H R h => ⟨_, rfl, h⟩) (Nat.le_of_ble_eq_true rfl) (fun H d => (.cons d.a .nil)) (fun H d => (.cons d.a .nil)) (fun fs h => match h with | .cons h0 .nil => .cons h0 .nil))
 (.cons (vi_row (c := 12) (xs := [v1]) (vs := [v1]) (tv := .bl false) (G := ["rest"]) (fun H Q k => ⟨_, rfl, fun x dx hx hdx ne => mk_in (xs := [v1]) rfl k x dx hx hdx ne⟩) (fun H R h => ⟨_, rfl, h⟩) (Nat.le_of_ble_eq_true rfl) (fun H d => (.cons d.a .nil)) (fun H d => (.cons d.a .nil)) (fun fs h => match h with | .cons h0 .nil => .cons h0 .nil))
 (.cons (vi_row (c := 13) (xs := [v1, v2]) (vs := [v1, v2]) (tv := .bl false) (G := ["total", "counts"]) (fun H Q k => ⟨_, rfl, _, rfl, fun x dx hx hdx ne => mk_in (xs := [v1, v2]) rfl k x dx hx hdx ne⟩) (fun H R h => ⟨_, rfl, _, rfl, h⟩) (Nat.le_of_ble_eq_true rfl) (fun H d => (.cons d.a (.cons d.b .nil))) (fun H d => (.cons d.a (.cons d.b .nil))) (fun fs h => match h with | .cons h0 (.cons h1 .nil) => .cons h0 (.cons h1 .nil)))
 (.cons (vi_row (c := 14) (xs := [v1]) (vs := [v1]) (tv := .bl false) (G := ["upto"]) (fun H Q k => ⟨_, rfl, rfl, rfl, fun x dx hx hdx ne => mk_in (xs := [v1]) rfl k x dx hx hdx ne⟩) (fun H R h => ⟨_, rfl, h⟩) (Nat.le_of_ble_eq_true rfl) (fun H d => (.cons d.a .nil)) (fun H d => (.cons d.a .nil)) (fun fs h => match h with | .cons h0 .nil => .cons h0 .nil))
 (.cons (vi_row (c := 4) (xs := [v1, v2, .int 3]) (vs := [v1, v2, .int 3]) (tv := .bl true) (G := ["late", "rest", "spot"]) (fun H Q k => ⟨_, rfl, _, rfl, fun x dx hx hdx ne => mk_in (xs := [v1, v2, .int 3]) rfl k x dx hx hdx ne⟩) (fun H R h => ⟨_, rfl, _, rfl, h⟩) (Nat.le_of_ble_eq_true rfl) (fun H d => (.cons d.a (.cons d.b (.cons rv_int .nil)))) (fun H d => (.cons d.a (.cons d.b (.cons rv_int .nil)))) (fun fs h => match h with | .cons h0 (.cons h1 (.cons h2 .nil)) => .cons h0 (.cons h1 (.cons h2 .nil))))
 (.cons (vi_row (c := 5) (xs := [v1, v2]) (vs := [v1, v2]) (tv := .bl false) (G := ["spot", "rise"]) (fun H Q k => ⟨_, rfl, _, rfl, rfl, rfl, fun x dx hx hdx ne => mk_in (xs := [v1, v2]) rfl k x dx hx hdx ne⟩) (fun H R h => ⟨_, rfl, _, rfl, h⟩) (Nat.le_of_ble_eq_true rfl) (fun H d => (.cons d.a (.cons d.b .nil))) (fun H d => (.cons d.a (.cons d.b .nil))) (fun fs h => match h with | .cons h0 (.cons h1 .nil) => .cons h0 (.cons h1 .nil)))
 (.cons (vi_row (c := 25) (xs := [v1, v2, .int 3]) (vs := [v1, v2, .int 3]) (tv := .bl true) (G := ["names", "late", "last"]) (fun H Q k => ⟨_, rfl, _, rfl, fun x dx hx hdx ne => mk_in (xs := [v1, v2, .int 3]) rfl k x dx hx hdx ne⟩) (fun H R h => ⟨_, rfl, _, rfl, h⟩) (Nat.le_of_ble_eq_true rfl) (fun H d => (.cons d.a (.cons d.b (.cons rv_int .nil)))) (fun H d => (.cons d.a (.cons d.b (.cons rv_int .nil)))) (fun fs h => match h with | .cons h0 (.cons h1 (.cons h2 .nil)) => .cons h0 (.cons h1 (.cons h2 .nil))))
 (.cons (vi_row (c := 21) (xs := [v1]) (vs := [v1]) (tv := .bl true) (G := ["world"]) (fun H Q k => ⟨_, rfl, rfl, rfl, fun x dx hx hdx ne => mk_in (xs := [v1]) rfl k x dx hx hdx ne⟩) (fun H R h => ⟨_, rfl, h⟩) (Nat.le_of_ble_eq_true rfl) (fun H d => (.cons d.a .nil)) (fun H d => (.cons d.a .nil)) (fun fs h => match h with | .cons h0 .nil => .cons h0 .nil))
 (.cons (vi_row (c := 22) (xs := [v1, v2]) (vs := [v1, v2]) (tv := .bl false) (G := ["at", "why"]) (fun H Q k => ⟨_, rfl, _, rfl, fun x dx hx hdx ne => mk_in (xs := [v1, v2]) rfl k x dx hx hdx ne⟩) (fun H R h => ⟨_, rfl, _, rfl, h⟩) (Nat.le_of_ble_eq_true rfl) (fun H d => (.cons d.a (.cons d.b .nil))) (fun H d => (.cons d.a (.cons d.b .nil))) (fun fs h => match h with | .cons h0 (.cons h1 .nil) => .cons h0 (.cons h1 .nil)))
 (.cons (vi_row (c := 23) (xs := [v1]) (vs := [v1]) (tv := .bl false) (G := ["workers"]) (fun H Q k => ⟨_, rfl, rfl, rfl, fun x dx hx hdx ne => mk_in (xs := [v1]) rfl k x dx hx hdx ne⟩) (fun H R h => ⟨_, rfl, h⟩) (Nat.le_of_ble_eq_true rfl) (fun H d => (.cons d.a .nil)) (fun H d => (.cons d.a .nil)) (fun fs h => match h with | .cons h0 .nil => .cons h0 .nil))
 (.cons (vi_row (c := 24) (xs := [v1, v2]) (vs := [v1, v2]) (tv := .bl true) (G := ["least", "most"]) (fun H Q k => ⟨_, rfl, _, rfl, fun x dx hx hdx ne => mk_in (xs := [v1, v2]) rfl k x dx hx hdx ne⟩) (fun H R h => ⟨_, rfl, _, rfl, h⟩) (Nat.le_of_ble_eq_true rfl) (fun H d => (.cons d.a (.cons d.b .nil))) (fun H d => (.cons d.a (.cons d.b .nil))) (fun fs h => match h with | .cons h0 (.cons h1 .nil) => .cons h0 (.cons h1 .nil)))
 (.cons (vi_row (c := 20) (xs := [v1, v2, .int 3, .int 9]) (vs := [v1, v2, .int 3]) (tv := .bl true) (G := ["worker", "at", "begun"]) (fun H Q k => ⟨_, rfl, _, rfl, fun x dx hx hdx ne => mk_in (xs := [v1, v2, .int 3, .int 9]) rfl k x dx hx hdx ne⟩) (fun H R h => ⟨_, rfl, _, rfl, h⟩) (Nat.le_of_ble_eq_true rfl) (fun H d => (.cons d.a (.cons d.b (.cons rv_int (.cons rv_int .nil))))) (fun H d => (.cons d.a (.cons d.b (.cons rv_int .nil)))) (fun fs h => match h with | .cons h0 (.cons h1 (.cons h2 (.cons h3 .nil))) => .cons h0 (.cons h1 (.cons h2 .nil))))
 (.cons (vi_row (c := 20) (xs := [.int 1, .int 3, v2, v1]) (vs := [v1, v2]) (tv := .int 1) (G := ["ended", "begun"]) (fun H Q k => ⟨_, rfl, _, rfl, rfl, rfl, fun x dx hx hdx ne => mk_in (xs := [.int 1, .int 3, v2, v1]) rfl k x dx hx hdx ne⟩) (fun H R h => ⟨_, rfl, _, rfl, h⟩) (Nat.le_of_ble_eq_true rfl) (fun H d => (.cons rv_int (.cons rv_int (.cons d.b (.cons d.a .nil))))) (fun H d => (.cons d.a (.cons d.b .nil))) (fun fs h => match h with | .cons h0 (.cons h1 (.cons h2 (.cons h3 .nil))) => .cons h3 (.cons h2 .nil)))
 (.cons (vi_row (c := 26) (xs := [v1, v2, .int 3, .int 8, .int 9]) (vs := [v1, v2, .int 3]) (tv := .int 1) (G := ["loop", "worker", "many"]) (fun H Q k => ⟨_, rfl, _, rfl, fun x dx hx hdx ne => mk_in (xs := [v1, v2, .int 3, .int 8, .int 9]) rfl k x dx hx hdx ne⟩) (fun H R h => ⟨_, rfl, _, rfl, h⟩) (Nat.le_of_ble_eq_true rfl) (fun H d => (.cons d.a (.cons d.b (.cons rv_int (.cons rv_int (.cons rv_int .nil)))))) (fun H d => (.cons d.a (.cons d.b (.cons rv_int .nil)))) (fun fs h => match h with | .cons h0 (.cons h1 (.cons h2 (.cons h3 (.cons h4 .nil)))) => .cons h0 (.cons h1 (.cons h2 .nil))))
 (.cons (vi_row (c := 26) (xs := [.int 1, .int 2, .int 3, v2, v1]) (vs := [v2, v1]) (tv := .bl true) (G := ["begun", "ended"]) (fun H Q k => ⟨_, rfl, _, rfl, rfl, rfl, fun x dx hx hdx ne => mk_in (xs := [.int 1, .int 2, .int 3, v2, v1]) rfl k x dx hx hdx ne⟩) (fun H R h => ⟨_, rfl, _, rfl, h⟩) (Nat.le_of_ble_eq_true rfl) (fun H d => (.cons rv_int (.cons rv_int (.cons rv_int (.cons d.b (.cons d.a .nil)))))) (fun H d => (.cons d.b (.cons d.a .nil))) (fun fs h => match h with | .cons h0 (.cons h1 (.cons h2 (.cons h3 (.cons h4 .nil)))) => .cons h3 (.cons h4 .nil)))
 .nil))))))))))))))))))))))))))))))
end
end Lw
namespace Lw
open PySem PySem.Spec PyProof.Rows L2
set_option pp.maxSteps 1500
open LamX
abbrev sLaw : Stmt := top 45
/-- a call of such a lambda, the parts of the context named -/
def tLCall (P : Program) (w : World) (K : PySem.W.Frag) (mg : Str → Option Value) (base : Heap) (k : Nat) (tf : TE) (ta : TA) : TE := fun σ H Q => tf σ H fun x H1 => ∃ (f : Addr) (ps : List Str) (sp : Sp), x = .ref f ∧ LamAt P w K mg base k ps sp H1 f ∧ ta σ H1 fun vs H2 => LamAt P w K mg base k ps sp H2 f ∧ sp vs H2 Q C8.E0
theorem pe_lamcallE {X : Cx} (P : Program) (w : World) (K : PySem.W.Frag) (mg : Str → Option Value) (base : Heap) {k : Nat} {fe a : Expr} {es : List Expr} {pos : Pos} {tf : TE} {ta : TA} (e1 : X.prog = P) (e2 : X.w = w) (e3 : X.K = K) (e4 : X.mg = mg) (e5 : X.base = base) (hr : Room (k + 1) X.A) (hf : PE X fe tf) (ha : PA X (a :: es) ta)
    (ht : eval (.Call fe (a :: es) [] pos) X.env = (do callWith pos (← eval fe X.env) [] (backTo pos (starEach (a :: es) X.env)) (backToKw pos (keywordEach [] X.env))) := by rfl)
    (he : starEach (a :: es) X.env = (false, eval a X.env) :: starEach es X.env := by rfl) (hpl : (backTo pos (starEach es X.env)).any (·.1) = false := by rfl) :
    PE X (.Call fe (a :: es) [] pos) (tLCall P w K mg base k tf ta) := by
  subst e1 e2 e3 e4 e5
  exact pe_lamcallN hr hf ha ht he hpl
theorem ix_tupK {X : Cx} (K : PySem.W.Frag) (e : X.K = K) : IxR X (rIxT K) := by
  subst e
  exact ix_tup
structure TxtP (mg : Str → Option Value) : Prop where
  n_isinstance : mg "isinstance" = none
  n_repr : mg "repr" = none
  n_bool : mg "bool" = none
  n_range : mg "range" = none
  n_len : mg "len" = none
theorem gd_list3 : ∀ {ds : List PyData}, (∀ d ∈ ds, Gd d) → ds.length ≤ 3 → (PyData.list ds).showable = true ∧ (PyData.list ds).depth ≤ 100 ∧ (PyData.list ds).shown.length ≤ sizeLine := by
  intro ds h hl
  by_cases h2 : ds.length ≤ 2
  · exact gd_list h h2
  · match ds, h, hl, h2 with
    | [], _, _, h2 => exact absurd (by decide) h2
    | [_], _, _, h2 => exact absurd (by show 1 ≤ 2; decide) h2
    | [_, _], _, _, h2 => exact absurd (by show 2 ≤ 2; decide) h2
    | [a, b, c], h, _, _ =>
      obtain ⟨a1, a2, a3⟩ := h a (by simp)
      obtain ⟨b1, b2, b3⟩ := h b (by simp)
      obtain ⟨c1, c2, c3⟩ := h c (by simp)
      refine ⟨by simp [PyData.showable, PyData.showableAll, a1, b1, c1], by simp only [PyData.depth, PyData.depthAll]; omega, Nat.le_trans (listText_len_le [a.shown, b.shown, c.shown]) ?_⟩
      simp only [List.map_cons, List.map_nil, List.sum_cons, List.sum_nil, List.length_cons, List.length_nil]
      rw [sizeLine_eq]
      omega
    | _ :: _ :: _ :: _ :: _, _, hl, _ => simp at hl
theorem rows_ok {v1 v2 v3 : V} : ∀ (i : Nat) (r : Row), (rws v1 v2 v3)[i]? = some r → r.1 < 27 ∧ r.1 = rc i ∧ (r.2.2 = .bl (!fal r.1) ∨ (r.2.2 = .int 1 ∧ fal r.1 = false)) ∧ FL r.1 ≠ []
  | 0, _, e => by cases e; exact ⟨Nat.le_of_ble_eq_true rfl, rfl, .inl rfl, List.cons_ne_nil _ _⟩
  | 1, _, e => by cases e; exact ⟨Nat.le_of_ble_eq_true rfl, rfl, .inl rfl, List.cons_ne_nil _ _⟩
  | 2, _, e => by cases e; exact ⟨Nat.le_of_ble_eq_true rfl, rfl, .inl rfl, List.cons_ne_nil _ _⟩
  | 3, _, e => by cases e; exact ⟨Nat.le_of_ble_eq_true rfl, rfl, .inl rfl, List.cons_ne_nil _ _⟩
  | 4, _, e => by cases e; exact ⟨Nat.le_of_ble_eq_true rfl, rfl, .inl rfl, List.cons_ne_nil _ _⟩
  | 5, _, e => by cases e; exact ⟨Nat.le_of_ble_eq_true rfl, rfl, .inl rfl, List.cons_ne_nil _ _⟩
  | 6, _, e => by cases e; exact ⟨Nat.le_of_ble_eq_true rfl, rfl, .inl rfl, List.cons_ne_nil _ _⟩
  | 7, _, e => by cases e; exact ⟨Nat.le_of_ble_eq_true rfl, rfl, .inl rfl, List.cons_ne_nil _ _⟩
  | 8, _, e => by cases e; exact ⟨Nat.le_of_ble_eq_true rfl, rfl, .inl rfl, List.cons_ne_nil _ _⟩
  | 9, _, e => by cases e; exact ⟨Nat.le_of_ble_eq_true rfl, rfl, .inl rfl, List.cons_ne_nil _ _⟩
  | 10, _, e => by cases e; exact ⟨Nat.le_of_ble_eq_true rfl, rfl, .inl rfl, List.cons_ne_nil _ _⟩
  | 11, _, e => by cases e; exact ⟨Nat.le_of_ble_eq_true rfl, rfl, .inl rfl, List.cons_ne_nil _ _⟩
  | 12, _, e => by cases e; exact ⟨Nat.le_of_ble_eq_true rfl, rfl, .inl rfl, List.cons_ne_nil _ _⟩
  | 13, _, e => by cases e; exact ⟨Nat.le_of_ble_eq_true rfl, rfl, .inl rfl, List.cons_ne_nil _ _⟩
  | 14, _, e => by cases e; exact ⟨Nat.le_of_ble_eq_true rfl, rfl, .inl rfl, List.cons_ne_nil _ _⟩
  | 15, _, e => by cases e; exact ⟨Nat.le_of_ble_eq_true rfl, rfl, .inl rfl, List.cons_ne_nil _ _⟩
  | 16, _, e => by cases e; exact ⟨Nat.le_of_ble_eq_true rfl, rfl, .inl rfl, List.cons_ne_nil _ _⟩
  | 17, _, e => by cases e; exact ⟨Nat.le_of_ble_eq_true rfl, rfl, .inl rfl, List.cons_ne_nil _ _⟩
  | 18, _, e => by cases e; exact ⟨Nat.le_of_ble_eq_true rfl, rfl, .inl rfl, List.cons_ne_nil _ _⟩
  | 19, _, e => by cases e; exact ⟨Nat.le_of_ble_eq_true rfl, rfl, .inl rfl, List.cons_ne_nil _ _⟩
  | 20, _, e => by cases e; exact ⟨Nat.le_of_ble_eq_true rfl, rfl, .inl rfl, List.cons_ne_nil _ _⟩
  | 21, _, e => by cases e; exact ⟨Nat.le_of_ble_eq_true rfl, rfl, .inl rfl, List.cons_ne_nil _ _⟩
  | 22, _, e => by cases e; exact ⟨Nat.le_of_ble_eq_true rfl, rfl, .inl rfl, List.cons_ne_nil _ _⟩
  | 23, _, e => by cases e; exact ⟨Nat.le_of_ble_eq_true rfl, rfl, .inl rfl, List.cons_ne_nil _ _⟩
  | 24, _, e => by cases e; exact ⟨Nat.le_of_ble_eq_true rfl, rfl, .inl rfl, List.cons_ne_nil _ _⟩
  | 25, _, e => by cases e; exact ⟨Nat.le_of_ble_eq_true rfl, rfl, .inl rfl, List.cons_ne_nil _ _⟩
  | 26, _, e => by cases e; exact ⟨Nat.le_of_ble_eq_true rfl, rfl, .inl rfl, List.cons_ne_nil _ _⟩
  | 27, _, e => by cases e; exact ⟨Nat.le_of_ble_eq_true rfl, rfl, .inr ⟨rfl, rfl⟩, List.cons_ne_nil _ _⟩
  | 28, _, e => by cases e; exact ⟨Nat.le_of_ble_eq_true rfl, rfl, .inr ⟨rfl, rfl⟩, List.cons_ne_nil _ _⟩
  | 29, _, e => by cases e; exact ⟨Nat.le_of_ble_eq_true rfl, rfl, .inl rfl, List.cons_ne_nil _ _⟩
  | i + 30, r, e => by
    have : (rws v1 v2 v3).length = 30 := rfl
    rw [List.getElem?_eq_none (by omega)] at e
    cases e
theorem truth_d {K : PySem.W.Frag} {H : Hp} {tv : V} {b : Bool} (h : tv = .bl (!b) ∨ (tv = .int 1 ∧ b = false)) : ∃ d, Dp K H tv d ∧ SeqAt.shaped d = true ∧ PyData.eqv (.bool (!b)) d = true ∧ PyData.eqv (.bool b) d = false := by
  rcases h with rfl | ⟨rfl, rfl⟩
  · exact ⟨.bool (!b), .bl _, by cases b <;> decide +kernel, by cases b <;> decide +kernel, by cases b <;> decide +kernel⟩
  · exact ⟨.int 1, .int 1, by decide +kernel, by decide +kernel, by decide +kernel⟩
theorem sh_bool (b : Bool) : SeqAt.shaped (.bool b) = true := by cases b <;> decide +kernel
theorem sub_list {K : PySem.W.Frag} {C : Addr} : PySem.W.subIn K (.type "list") (.ref C) = some false := by kernel_rfl
theorem feq_same {K : PySem.W.Frag} {H : Hp} {fs gs : List (Str × V)} : ∀ {F : List Str} {xs : List V}, FA fs F xs → FA gs F xs → (∀ x ∈ xs, EqB K H x x true) → F ≠ [] → FEq K H fs gs F true
  | _, _, .nil, _, _, n => absurd rfl n
  | _, _, .cons h .nil, .cons g .nil, e, _ => .last h g (e _ List.mem_cons_self)
  | _, _, .cons h (.cons h2 r), .cons g (.cons g2 r2), e, _ => .more h g (e _ List.mem_cons_self) (feq_same (.cons h2 r) (.cons g2 r2) (fun x hx => e x (List.mem_cons_of_mem _ hx)) (by simp))
theorem bool_step {P : Program} {w : World} {K : PySem.W.Frag} {mg : Str → Option Value} {base : Heap} {D : Nat → Addr} {Pa De e dx : Addr} {n : Nat} {fs : List (Str × V)} {H : Hp} {Q : VK} (Z : Paps P w K mg base D Pa De) (hn : n < 27) (he : H e = some (.ins (D n) dx fs)) (q : Q (.bl (!fal n)) H) : rBoolP P w K mg base 1 C8.E0 [.ref e] H Q := by
  refine ⟨D n, e, dx, fs, rfl, he, ?_⟩
  cases hf : fal n with
  | false =>
    obtain ⟨h1, h2⟩ := Z.tf n hn hf
    rw [hf] at q
    exact .inl ⟨h1, h2, q⟩
  | true =>
    rw [hf] at q
    exact .inr ⟨spNo, Z.tt n hn hf, e, rfl, false, rfl, q⟩
section
variable {P : Program} {w : World} {K : PySem.W.Frag} {mg : Str → Option Value} {base : Heap} {D : Nat → Addr} {Pa De e e' dx dx' : Addr} {n : Nat} {fs fs' : List (Str × V)} {xs : List V} {H : Hp} {Q : VK}
theorem eq_self (Z : Paps P w K mg base D Pa De) (hn : n < 27) (hF : FL n ≠ []) (he : H e = some (.ins (D n) dx fs)) (he' : H e' = some (.ins (D n) dx' fs')) (fa : FA fs (FL n) xs) (fa' : FA fs' (FL n) xs) (fx : ∀ x ∈ xs, ∃ d, Vr H x d ∧ shp d = true) (q : Q (.bl true) H) : rEqP P w K mg base 2 C8.E0 (.ref e) (.ref e') H Q :=
  ⟨D n, e, dx, fs, _, rfl, he, Z.eq n hn, .inl ⟨D n, e', dx', fs', rfl, he', .inl rfl⟩, e, dx, fs, _, rfl, he, .inr ⟨e', dx', fs', true, rfl, he', feq_same fa fa' (fun x hx => by obtain ⟨d, h1, h2⟩ := fx x hx; exact eqb_vr h1 h2) hF, q⟩⟩
theorem eq_list {l : Addr} {vs : List V} (Z : Paps P w K mg base D Pa De) (hn : n < 27) (he : H e = some (.ins (D n) dx fs)) (hl : H l = some (.lst vs)) (q : Q (.bl false) H) : rEqP P w K mg base 2 C8.E0 (.ref e) (.ref l) H Q :=
  ⟨D n, e, dx, fs, _, rfl, he, Z.eq n hn, .inr ⟨l, vs, rfl, hl, sub_list⟩, e, dx, fs, _, rfl, he, .inl ⟨.type "list", .x (.base (.lst hl)), Z.kL n hn, q⟩⟩
theorem eq_other {m : Nat} (Z : Paps P w K mg base D Pa De) (hn : n < 27) (hm : m < 27) (he : H e = some (.ins (D n) dx fs)) (he' : H e' = some (.ins (D m) dx' fs')) (h1 : PySem.W.kitOne K (.ref (D m)) (.ref (D n)) = some false) (h2 : PySem.W.subIn K (.ref (D m)) (.ref (D n)) = some false) (q : Q (.bl false) H) : rEqP P w K mg base 2 C8.E0 (.ref e) (.ref e') H Q :=
  have ic := Z.I m hm
  ⟨D n, e, dx, fs, _, rfl, he, Z.eq n hn, .inl ⟨D m, e', dx', fs', rfl, he', .inr h2⟩, e, dx, fs, _, rfl, he, .inl ⟨.ref (D m), .x (.base (.ins he' ic.cl ic.ha ic.hn ic.htk ic.hm)), h1, q⟩⟩
end
theorem iteT' {A B : Prop} {c : Bool} (hc : c = true) (h : A) : if c = true then A else B := by rw [if_pos hc]; exact h
theorem iteF' {A B : Prop} {c : Bool} (hc : c = false) (h : B) : if c = true then A else B := by rw [if_neg (by rw [hc]; exact Bool.false_ne_true)]; exact h
/-- those at whose places c holds -/
def selI (c : Nat → Bool) : Nat → List V → List V
  | _, [] => []
  | k, x :: r => if c k = true then x :: selI c (k + 1) r else selI c (k + 1) r
theorem selI_snoc (c : Nat → Bool) : ∀ (xs : List V) (k i : Nat) (x : V), xs[i]? = some x → selI c k (xs.take (i + 1)) = selI c k (xs.take i) ++ (if c (k + i) = true then [x] else [])
  | [], _, _, _, e => by cases e
  | y :: r, k, 0, x, e => by
    cases e
    show (if c k = true then y :: selI c (k + 1) (r.take 0) else selI c (k + 1) (r.take 0)) = [] ++ _
    rw [List.take_zero, Nat.add_zero]; rfl
  | y :: r, k, i + 1, x, e => by
    have ih := selI_snoc c r (k + 1) i x e
    rw [List.take_succ_cons, List.take_succ_cons]
    show (if c k = true then y :: selI c (k + 1) (r.take (i + 1)) else selI c (k + 1) (r.take (i + 1))) = (if c k = true then y :: selI c (k + 1) (r.take i) else selI c (k + 1) (r.take i)) ++ _
    rw [ih, show k + 1 + i = k + (i + 1) by omega]
    split <;> rfl
theorem selI_len (c : Nat → Bool) : ∀ (xs : List V) (k : Nat), (selI c k xs).length ≤ xs.length
  | [], _ => Nat.le_refl _
  | x :: r, k => by
    have ih := selI_len c r (k + 1)
    unfold selI
    rw [List.length_cons]
    split
    · rw [List.length_cons]; omega
    · omega
theorem lc_sel {K : PySem.W.Frag} {p : Addr} {xs : List V} {c : Nat → Bool} {g : TG} {tt : TT} {te : TE} {vs : List Nat} {σ : L2.St} {H1 : Hp} {D : Addr} {Qd : Hp → Prop} (hD : H1 D = none) (hp : H1 p = some (.lst xs)) (le : xs.length ≤ 6000)
    (hs : ∀ (i : Nat) (x : V) (H' : Hp) (Y : V → Hp → Prop) (N : Hp → Prop), xs[i]? = some x → Same H1 H' → (c i = true → Y x H') → (c i = false → N H') → g x (wipe σ vs) H' fun σ2 H2 => wipe σ2 vs = wipe σ vs ∧ tt σ2 H2 fun b H3 => if b = true then te σ2 H3 Y else N H3)
    (hd : ∀ H', Same H1 H' → H' D = some (.lst (selI c 0 xs)) → Qd H') :
    ∃ W : Nat → Nat → Hp → Prop, (∃ m, W 0 m (upd H1 D (.lst []))) ∧ ∀ i m H, W i m H →
      ((Itl K p).stop i H ∧ Qd H) ∨ ((Itl K p).go i H ∧ ∃ Nx : Hp → Prop, (∀ H', Nx H' → ∃ m', m' < m ∧ W (i + 1) m' H') ∧ ∀ x H', (Itl K p).yld i H x H' → g x (wipe σ vs) H' fun σ2 H2 => wipe σ2 vs = wipe σ vs ∧ tt σ2 H2 fun b H3 =>
        if b = true then te σ2 H3 fun y H4 => ∃ acc, H4 D = some (.lst acc) ∧ acc.length < sizeLine ∧ Nx (upd H4 D (.lst (acc ++ [y]))) else Nx H3) := by
  refine lc_list (K := K) (a := p) (xs := xs) (fun i H' => Same H1 H' ∧ H' D = some (.lst (selI c 0 (xs.take i)))) ⟨same_new hD, upd_same⟩ (fun i H' _ h => SqL.of (h.1 _ _ hp)) ?_ ?_
  · rintro i x H' hx ⟨s', hd'⟩
    have sn := selI_snoc c xs 0 i x hx
    rw [Nat.zero_add] at sn
    refine hs i x H' _ _ hx s' (fun ce => ?_) (fun ce => ?_)
    · refine ⟨_, hd', ?_, fun b o q => ?_, ?_⟩
      · have h1 := selI_len c (xs.take i) 0
        have h2 := List.length_take_le' i xs
        exact Nat.lt_of_le_of_lt (show _ ≤ 6000 by omega) (by decide)
      · rw [upd_ne (ne_of_none q hD)]
        exact s' _ _ q
      · rw [upd_same, sn, if_pos ce]
    · refine ⟨s', ?_⟩
      rw [hd', sn, if_neg (by rw [ce]; exact Bool.false_ne_true), List.append_nil]
  · rintro H7 ⟨s7, h7⟩
    refine hd H7 s7 ?_
    rw [h7, List.take_length]
def fst3 : Nat → Int
  | 0 => 3
  | 1 => 26
  | _ => 28
def cc3 (k : Nat) (j : Nat) : Bool := decide (V.int (0 + (k : Int)) = V.int (fst3 j))
theorem sel_no {k : Nat} {x y z : V} (h1 : k ≠ 3) (h2 : k ≠ 26) (h3 : k ≠ 28) : selI (cc3 k) 0 [x, y, z] = [] := by
  have c : ∀ m : Nat, k ≠ m → decide (V.int (0 + (k : Int)) = V.int (m : Int)) = false := fun m hm => decide_eq_false fun e => by
    have := V.int.inj e
    omega
  have c1 : cc3 k 0 = false := c 3 h1
  have c2 : cc3 k 1 = false := c 26 h2
  have c3 : cc3 k 2 = false := c 28 h3
  unfold selI selI selI selI
  rw [c1, c2, c3]; rfl
theorem mk_T {C : Addr} {F : List Str} {xs : List V} {σ : L2.St} {H : Hp} {Q : VK} {ta : TA} (hl : xs.length = F.length) (ht : ∀ R : List V → Hp → Prop, R xs H → ta σ H R) (k : Made C F xs H Q) : tMake C (spPI C F) [] C8.E0 ta σ H Q := by
  refine ht _ fun x dx hx hdx ne => ?_
  rw [List.append_nil]
  exact mk_in hl k x dx hx hdx ne
theorem mk_Tup {C : Addr} {F : List Str} {zs : List V} {σ : L2.St} {H : Hp} {Q : VK} {tb : TA} (ht : ∀ R : List V → Hp → Prop, R zs H → tb σ H R) (hl : 1 = F.length) (hz : zs.length ≤ sizeLine) (k : ∀ p, H p = none → Made C F [.ref p] (upd H p (.tup zs)) Q) : tMake C (spPI C F) [] C8.E0 (tCons (tTup tb) tNil) σ H Q :=
  ht _ ⟨hz, fun p hp x dx hx hdx ne => mk_in (xs := [.ref p]) hl (k p hp) x dx hx hdx ne⟩
theorem eqb_d {K : PySem.W.Frag} {H : Hp} {v u : V} {d e : PyData} {b : Bool} (h1 : Dp K H v d) (h2 : Dp K H u e) (s1 : SeqAt.shaped d = true) (s2 : SeqAt.shaped e = true) (h : PyData.eqv d e = b) : EqB K H v u b := fun Q q => .inl ⟨d, e, h1, h2, s1, s2, by rw [h]; exact q⟩
section
variable {P : Program} {w : World} {K : PySem.W.Frag} {mg : Str → Option Value} {base : Heap} {D : Nat → Addr} {Pa De e e' dx dx' : Addr} {n : Nat} {fs fs' : List (Str × V)} {xs : List V} {H : Hp} {Q : VK}
theorem eq_same {c : Bool} (Z : Paps P w K mg base D Pa De) (hn : n < 27) (he : H e = some (.ins (D n) dx fs)) (he' : H e' = some (.ins (D n) dx' fs')) (fe : FEq K H fs fs' (FL n) c) (q : Q (.bl c) H) : rEqP P w K mg base 2 C8.E0 (.ref e) (.ref e') H Q :=
  ⟨D n, e, dx, fs, _, rfl, he, Z.eq n hn, .inl ⟨D n, e', dx', fs', rfl, he', .inl rfl⟩, e, dx, fs, _, rfl, he, .inr ⟨e', dx', fs', c, rfl, he', fe, q⟩⟩
theorem ne_same {c : Bool} (he : H e = some (.ins (D n) dx fs)) (he' : H e' = some (.ins (D n) dx' fs')) (fe : FEq K H fs fs' (FL n) c) (q : Q (.bl (!c)) H) : rNR (D n) (spPE K (D n) (FL n)) C8.E0 (.ref e) (.ref e') H Q :=
  ⟨e, dx, fs, e', dx', fs', rfl, he, rfl, he', e, dx, fs, _, rfl, he, .inr ⟨e', dx', fs', c, rfl, he', fe, c, rfl, q⟩⟩
theorem fe1 {f : Str} {v u : V} {c : Bool} (a : FA fs [f] [v]) (b : FA fs' [f] [u]) (e : EqB K H v u c) : FEq K H fs fs' [f] c := by
  cases a with
  | cons h1 _ =>
    cases b with
    | cons h2 _ => exact .last h1 h2 e
theorem feS {f g : Str} {F : List Str} {v u : V} {vs us : List V} {c : Bool} (a : FA fs (f :: g :: F) (v :: vs)) (b : FA fs' (f :: g :: F) (u :: us)) (e : EqB K H v u true) (r : FA fs (g :: F) vs → FA fs' (g :: F) us → FEq K H fs fs' (g :: F) c) : FEq K H fs fs' (f :: g :: F) c := by
  cases a with
  | cons h1 r1 =>
    cases b with
    | cons h2 r2 => exact .more h1 h2 e (r r1 r2)
end
/-- what stands while the items are walked -/
structure Wd (P : Program) (w : World) (K : PySem.W.Frag) (mg : Str → Option Value) (base : Heap) (D : Nat → Addr) (B p pl : Addr) (n : Nat) (ml al : Addr) (v1 v2 v3 : V) (xs ys : List V) (H : Hp) : Prop where
  made : H ml = some (.lst xs)
  its : ItAll P w K mg base D H xs (rws v1 v2 v3)
  again : H al = some (.lst ys)
  itz : ItAll P w K mg base D H ys (rws v1 v2 v3)
  lx : xs.length = 30
  ly : ys.length = 30
  pen : Pen H p pl n
  tab : Tabs (tabM B) H
theorem Wd.same {P : Program} {w : World} {K : PySem.W.Frag} {mg : Str → Option Value} {base : Heap} {D : Nat → Addr} {B p pl : Addr} {n : Nat} {ml al : Addr} {v1 v2 v3 : V} {xs ys : List V} {H H' : Hp} (h : Wd P w K mg base D B p pl n ml al v1 v2 v3 xs ys H) (s : Same H H') : Wd P w K mg base D B p pl n ml al v1 v2 v3 xs ys H' :=
  ⟨s _ _ h.made, h.its.extn (Same.extn s), s _ _ h.again, h.itz.extn (Same.extn s), h.lx, h.ly, h.pen.keep s, h.tab.ext s⟩
def spLaw (K : PySem.W.Frag) (B : Addr) : Sp := fun vs H Q _ => ∃ (a : Addr) (ns : List Int), vs = [.ref a] ∧ SqL K H a (ns.map V.int) ∧ ns.length ≤ 63 ∧ Tabs (tabM B) H ∧ ∀ H', Q (.bl true) H'
section
variable {P : Program} {w : World} {K : PySem.W.Frag} {mg : Str → Option Value} {base : Heap} {D : Nat → Addr} {Pa De B : Addr}
theorem fnG {P : Program} {w : World} {K : PySem.W.Frag} {mg : Str → Option Value} {base : Heap} {x : Str} {st : Stmt} {f : Addr} {fd : FuncData} {N ps : List Str} {k : Nat} {sp : Sp} (F : C8.Fun K x x st f fd) (S : FnScope N ps (C8.fnScope st))
    (len : ∀ vs H Q E, sp vs H Q E → vs.length = ps.length)
    (body : ∀ (cdv : Value) (A : Around) (outer : List Env) (s : Shared) (H : Hp) (vs : List V) (Q : VK) (E : XK), (A.deeper (envOfC x (C8.fnScope st) s.heap.objs.size f cdv)).guards = some [] → Room k (A.deeper (envOfC x (C8.fnScope st) s.heap.objs.size f cdv)) → sp vs H Q E →
      ∃ t, PSs (cxOf C8.CX0 P w K mg base N x (C8.fnScope st) f cdv A outer s H E).nox (C8.fnBody st) t ∧ t { nx := fun _ H' => Q .non H', rt := Q } (start N vs) H) : FnG P w K mg base (k + 1) f fd ps sp := by
  refine ⟨len, ?_⟩
  intro A outer s H args us vs Q E hg hr e0 hb r hs
  obtain ⟨oc, od, dV, kV, doc, pm, an, cdv, ct, osl, rfl, lk, hcd⟩ := F.ex
  refine LamX.run_ofS lk hcd S hr e0 hb r (len _ _ _ _ hs) fun hr' => ?_
  obtain ⟨t, h1, h2⟩ := body cdv A outer s H vs Q E hg hr' hs
  exact ⟨t, h1.nox, h2⟩

theorem scLaw : FnScope ["_law_script", "_law_pen_here", "_law_lap", "_law_told_so", "_law_k", "_law_first", "_law_second", "_law_third", "_law_made_here", "_law_again", "_law_twins", "_law_paper_so", "_law_tell", "_law_due", "_law_is_true", "_law_pair"] ["_law_script"] (C8.fnScope sLaw) := C8.fnScope_by (by decide +kernel)
theorem fn_law {f : Addr} {fd : FuncData} (F : C8.Fun K "law" "law" sLaw f fd) (Z : Paps P w K mg base D Pa De) (T : TxtP mg) (D0 : C8.Cal P w K mg base 1 "_law_pen" (spPen K) []) (D5 : C8.Cal P w K mg base 3 "_law_value" spVal [])
    (DM : CalG P w K mg base 4 "_law_made" (spMade P w K mg base D (tabM B)) []) : FnG P w K mg base 6 f fd ["_law_script"] (spLaw K B) := by
  refine fnG F scLaw (fun vs H Q E h => ?_) (fun cdv A outer st H vs Q E hG hr h => ?_)
  · obtain ⟨a, ns, rfl, _⟩ := h
    rfl
  · obtain ⟨a, ns, rfl, hs, hl, ht, k⟩ := h
    refine ⟨_, (pss_cons (ps_set (i := 1) scLaw.nd rfl (Or.inl rfl) (C8.pe_c D0 hr (by decide) (by rfl) (pa_cons (pv 0) pa_nil)))
  (pss_cons (ps_for PassesOwn.never rfl (pi_range1 (by rfl) T.n_range (pa_cons pe_int pa_nil)) (pg_name (i := 2) scLaw.nd rfl (Or.inl rfl)) (pss_cons (ps_par3 (i := 5) (j := 6) (l := 7) rfl scLaw.nd rfl rfl rfl (by decide) (by decide) (by decide) rfl rfl rfl (pa_cons (C8.pe_c D5 hr (by decide) (by rfl) (pa_cons (pv 1) pa_nil)) (pa_cons (C8.pe_c D5 hr (by decide) (by rfl) (pa_cons (pv 1) pa_nil)) (pa_cons (C8.pe_c D5 hr (by decide) (by rfl) (pa_cons (pv 1) pa_nil)) pa_nil))) (by rfl))
  (pss_cons (ps_par (i := 8) (j := 9) rfl scLaw.nd rfl rfl (by decide) rfl rfl (pa_cons (pe_g DM hG hr (by decide) (by rfl) (pa_cons (pv 5) (pa_cons (pv 6) (pa_cons (pv 7) pa_nil)))) (pa_cons (pe_g DM hG hr (by decide) (by rfl) (pa_cons (pv 5) (pa_cons (pv 6) (pa_cons (pv 7) pa_nil)))) pa_nil)) (by rfl))
  (pss_cons (ps_for PassesOwn.never rfl (pi_range1 (by rfl) T.n_range (pa_cons (pe_callB call_len_seq (by rfl) T.n_len (by decide +kernel) (pa_cons (pv 8) pa_nil)) pa_nil)) (pg_name (i := 4) scLaw.nd rfl (Or.inr rfl)) (pss_cons (ps_asg (pe_ix ix_list (pv 8) (pv 4) (fun _ _ => rfl)) (pg_tup (by rfl) (pgs_cons (pg_name (i := 11) scLaw.nd rfl (Or.inl rfl)) (pgs_cons (pg_name (i := 12) scLaw.nd rfl (Or.inl rfl)) (pgs_cons (pg_name (i := 13) scLaw.nd rfl (Or.inl rfl)) (pgs_cons (pg_name (i := 14) scLaw.nd rfl (Or.inl rfl)) pgs_nil))))))
  (pss_cons (ps_if (PW.pt (pw_or (pt_cmpR op_ne (pe_callB (call_reprV hG (hr.mono (by decide))) (by rfl) T.n_repr (by decide +kernel) (pa_cons (pe_lamcallE P w K mg base (k := 0) rfl rfl rfl rfl rfl (hr.mono (by decide : 1 ≤ 5)) (pv 12) (pa_cons (pv 11) pa_nil)) pa_nil)) (pe_callB (call_reprV hG (hr.mono (by decide))) (by rfl) T.n_repr (by decide +kernel) (pa_cons (pv 13) pa_nil)) (nomark _)) (pw_or (pt_not (pt_val (pe_callB call_isz (by rfl) T.n_isinstance (by decide +kernel) (pa_cons (pv 11) (pa_cons (pe_glob (v := .ref Pa) (by rfl) Z.hP rfl) pa_nil))))) (pw_or1 (pt_cmpR (op_neD hr.units) (pe_callTy (call_boolP (k := 1) (E := C8.E0) (passes_call takes0 (fun _ _ _ _ z => z)) hr (by decide)) (by rfl) T.n_bool (by decide +kernel) (pa_cons (pv 11) pa_nil)) (pv 14) (nomark _)))))) (pss_one (ps_ret pe_bl)) pss_nil)
  (pss_one (ps_if (PW.pt (pw_or (pt_cmpR (op_eqD hr.units) (pe_callB call_isz (by rfl) T.n_isinstance (by decide +kernel) (pa_cons (pv 11) (pa_cons (pe_glob (v := .ref De) (by rfl) Z.hD rfl) pa_nil))) (pv 14) (nomark _)) (pw_or (pt_not (pt_cmpR (op_eqP (k := 2) (E := C8.E0) (passes_call takes0 (fun _ _ _ _ z => z)) hr (by decide)) (pv 11) (pe_ix ix_tup (pe_ix ix_list (pv 9) (pv 4) (fun _ _ => rfl)) pe_int (fun _ _ => rfl)) (nomark _))) (pw_or1 (pt_cmpR (op_eqP (k := 2) (E := C8.E0) (passes_call takes0 (fun _ _ _ _ z => z)) hr (by decide)) (pv 11) (pv 13) (nomark _)))))) (pss_one (ps_ret pe_bl)) pss_nil)))))
  (pss_one (ps_for PassesOwn.never rfl (pi_range2 (by rfl) T.n_range (pa_cons pe_int (pa_cons (pe_op op_sub (pe_callB call_len_seq (by rfl) T.n_len (by decide +kernel) (pa_cons (pv 8) pa_nil)) pe_int) pa_nil))) (pg_name (i := 4) scLaw.nd rfl (Or.inr rfl)) (pss_cons (ps_setLc (i := 10) (own := [("_law_pair", 15)]) (g := gName 15) rfl scLaw.nd rfl rfl (sw_true rfl rfl rfl (by decide +kernel)) (pi_list (pe_lst (pa_cons (pe_tup (pa_cons pe_int (pa_cons pe_int pa_nil))) (pa_cons (pe_tup (pa_cons pe_int (pa_cons pe_int pa_nil))) (pa_cons (pe_tup (pa_cons pe_int (pa_cons pe_int pa_nil))) pa_nil))))) (blkOk_by (own := [("_law_pair", 15)]) (N := ["_law_script", "_law_pen_here", "_law_lap", "_law_told_so", "_law_k", "_law_first", "_law_second", "_law_third", "_law_made_here", "_law_again", "_law_twins", "_law_paper_so", "_law_tell", "_law_due", "_law_is_true", "_law_pair"]) (sc := (C8.fnScope sLaw)) (by decide +kernel)) (fun _ _ _ _ _ => pg_name (i := 15) scLaw.nd rfl (Or.inl rfl)) (fun _ _ _ _ _ => pts_one (pt_cmpR op_eq (pv 4) (pe_ix (ix_tupK K rfl) (pv 15) pe_int (fun _ _ => rfl)) (nomark _))) (fun _ _ _ _ _ => (pv 15)))
  (pss_one (ps_if (PW.pt (pw_and (pt_cmpR (op_eqD hr.units) (pv 10) (pe_lst pa_nil) (nomark _)) (pw_and1 (pt_cmpR (op_eqP (k := 2) (E := C8.E0) (passes_call takes0 (fun _ _ _ _ z => z)) hr (by decide)) (pe_ix ix_tup (pe_ix ix_list (pv 8) (pv 4) (fun _ _ => rfl)) pe_int (fun _ _ => rfl)) (pe_ix ix_tup (pe_ix ix_list (pv 8) (pe_op op_add (pv 4) pe_int) (fun _ _ => rfl)) pe_int (fun _ _ => rfl)) (nomark _))))) (pss_one (ps_ret pe_bl)) pss_nil)))))))))
  (pss_cons (ps_set (i := 3) scLaw.nd rfl (Or.inl rfl) (pe_lst (pa_cons (pe_cmpR (op_eqP (k := 2) (E := C8.E0) (passes_call takes0 (fun _ _ _ _ z => z)) hr (by decide)) (pe_mkP (j := 3) Z.r0 hr (by rfl) (pa_cons pe_int pa_nil)) (pe_mkP (j := 3) Z.r0 hr (by rfl) (pa_cons pe_int pa_nil)) (nomark _)) (pa_cons (pe_cmpR (op_eqP (k := 2) (E := C8.E0) (passes_call takes0 (fun _ _ _ _ z => z)) hr (by decide)) (pe_mkP (j := 3) Z.r3 hr (by rfl) (pa_cons pe_int (pa_cons pe_int (pa_cons pe_int pa_nil)))) (pe_mkP (j := 3) Z.r3 hr (by rfl) (pa_cons pe_int (pa_cons pe_int (pa_cons pe_int pa_nil)))) (nomark _)) (pa_cons (pe_cmpR (op_eqP (k := 2) (E := C8.E0) (passes_call takes0 (fun _ _ _ _ z => z)) hr (by decide)) (pe_mkP (j := 3) Z.xB hr (by rfl) (pa_cons pe_int (pa_cons pe_int pa_nil))) (pe_mkP (j := 3) Z.r9 hr (by rfl) (pa_cons pe_int (pa_cons pe_int pa_nil))) (nomark _)) pa_nil)))))
  (pss_cons (ps_expr (pe_bm PySem.F.plainAttrs_list PySem.F.slot_list_append PySem.F.type_list_append mt_append (pv 3) (pa_cons (pe_cmpR (op_neR (E := C8.E0) Z.neN (Z.eq 1 (by decide)) (passes_call takes0 (fun _ _ _ _ z => z)) hr (by decide)) (pe_mkP (j := 3) Z.xN hr (by rfl) (pa_cons (pe_tup (pa_cons pe_int pa_nil)) pa_nil)) (pe_mkP (j := 3) Z.xN hr (by rfl) (pa_cons (pe_tup (pa_cons pe_int (pa_cons pe_int pa_nil))) pa_nil)) (nomark _)) pa_nil)))
  (pss_one (ps_ret (pe_and (pe_cmpR (op_eqD hr.units) (pv 3) (pe_lst (pa_cons pe_bl (pa_cons pe_bl (pa_cons pe_bl (pa_cons pe_bl pa_nil))))) (nomark _)) (pe_one (pe_cmpR (op_neR (E := C8.E0) Z.neT (Z.eq 20 (by decide)) (passes_call takes0 (fun _ _ _ _ z => z)) hr (by decide)) (pe_mkP (j := 3) Z.r26 hr (by rfl) (pa_cons pe_str (pa_cons pe_int (pa_cons pe_int (pa_cons pe_int pa_nil))))) (pe_mkP (j := 3) Z.r26 hr (by rfl) (pa_cons pe_str (pa_cons pe_int (pa_cons pe_int (pa_cons pe_int pa_nil))))) (nomark _)))))))))), ?_⟩
    refine ⟨_, rfl, a, ns, rfl, hs, hl, fun p pl H1 hp1 s1 _ => ?_⟩
    have ht1 := ht.ext s1
    refine ⟨_, rfl, by decide, by decide, for_range (fun i σ' H' => ∃ x2 x4 x5 x6 x7 x8 x9 x10 x11 x12 x13 x14, σ' = [some (V.ref a), some (V.ref p), x2, none, x4, x5, x6, x7, x8, x9, x10, x11, x12, x13, x14, none] ∧ Pen H' p pl (3 * i) ∧ Tabs (tabM B) H') ⟨_, _, _, _, _, _, _, _, _, _, _, _, rfl, hp1, ht1⟩ ?_ ?_⟩
    · rintro i σ1 H2 hi ⟨x2, x4, x5, x6, x7, x8, x9, x10, x11, x12, x13, x14, rfl, hp2, ht2⟩
      have hi4 : i < 4 := hi
      refine ⟨_, rfl, p, pl, 3 * i, rfl, hp2, by omega, fun v1 d1 H3 r1 g1 n1 hp3 k3 => ⟨_, rfl, p, pl, 3 * i + 1, rfl, hp3, by omega, fun v2 d2 H4 r2 g2 n2 hp4 k4 => ⟨_, rfl, p, pl, 3 * i + 2, rfl, hp4, by omega, fun v3 d3 H5 r3 g3 n3 hp5 k5 => ?_⟩⟩⟩
      have r1' : Vr H5 v1 d1 := (r1.move fun a o ev ha _ => k4 a o (fun z => n1 (by rw [ev, z])) ha).move fun a o ev ha _ => k5 a o (fun z => n1 (by rw [ev, z])) ha
      have r2' : Vr H5 v2 d2 := r2.move fun a o ev ha _ => k5 a o (fun z => n2 (by rw [ev, z])) ha
      have t5 := Lw.Tabs.kp (Lw.Tabs.kp (Lw.Tabs.kp ht2 hp2 k3) hp3 k4) hp4 k5
      have D5' : D3 H5 v1 v2 v3 := ⟨d1, d2, d3, ⟨r1', g1⟩, ⟨r2', g2⟩, ⟨r3, g3⟩⟩
      clear r1' r2' r1 r2 r3 k3 k4 k5 hp2 hp3 hp4 ht2 n1 n2 n3 g1 g2 g3
      refine ⟨_, _, _, rfl, ?_⟩
      dsimp only [tSeq]
      refine ⟨_, rfl, _, rfl, _, rfl, v1, v2, v3, rfl, D5', t5, fun l xs H6 e6 t6 hl6 its6 lx => ⟨_, rfl, _, rfl, _, rfl, v1, v2, v3, rfl, D5'.extn e6, t6, fun l2 ys H7 e7 t7 hl7 its7 ly => ?_⟩⟩
      have W7 : Wd P w K mg base D B p pl (3 * i + 3) l l2 v1 v2 v3 xs ys H7 := ⟨e7 _ _ hl6 (fun _ z => by cases z), its6.extn e7, hl7, its7, lx, ly, Lw.Pen.extn (Lw.Pen.extn hp5 e6) e7, t7⟩
      clear e6 e7 t6 t7 hl6 hl7 its6 its7 D5' t5 hp5
      refine ⟨_, _, rfl, ?_⟩
      dsimp only [tSeq]
      refine ⟨_, rfl, l, xs, rfl, .inl (SqL.of W7.made), ?_⟩
      rw [lx]
      refine ⟨_, rfl, by decide, by decide, for_range (n := 30) (fun _ σ' H' => ∃ y4 y10 y11 y12 y13 y14, σ' = [some (V.ref a), some (V.ref p), some (V.int (0 + (i : Int))), none, y4, some v1, some v2, some v3, some (V.ref l), some (V.ref l2), y10, y11, y12, y13, y14, none] ∧ Wd P w K mg base D B p pl (3 * i + 3) l l2 v1 v2 v3 xs ys H') ⟨_, _, _, _, _, _, rfl, W7⟩ ?_ ?_⟩
      · rintro i2 σ2 H2 hi2 ⟨y4, y10, y11, y12, y13, y14, rfl, W⟩
        obtain ⟨r, hr2, it⟩ := W.its.at_ (List.getElem?_eq_getElem (by rw [lx]; exact hi2))
        obtain ⟨r', hr3, it'⟩ := W.itz.at_ (List.getElem?_eq_getElem (by rw [ly]; exact hi2))
        have er : r' = r := by rw [hr2] at hr3; exact (Option.some.inj hr3).symm
        subst er
        obtain ⟨hn, _, hT, hF⟩ := rows_ok _ _ hr2
        obtain ⟨t, e, tf, dl, dx, fs, vs, ds, ev, ht, he, fa, fx, ⟨ps, sp, la, tell⟩, hd, nd, vr, gd, dl3⟩ := it.ex
        obtain ⟨t', e', tf', dl', dx', fs', vs', ds', ev', ht', he', fa', _⟩ := it'.ex
        obtain ⟨z1, z2, z3⟩ := gd_list3 gd dl3
        refine ⟨_, rfl, _, rfl, l, xs, (i2 : Int), .ref t, rfl, by rw [Int.zero_add], SqL.of W.made, atI_nat (by rw [List.getElem?_eq_getElem (by rw [lx]; exact hi2), ev]), ?_⟩
        refine ⟨t, _, rfl, SqT.of ht, rfl, _, _, rfl, _, _, rfl, _, _, rfl, _, _, rfl, rfl, ?_⟩
        dsimp only [tSeq]
        have ic := Z.I _ hn
        refine ⟨_, rfl, tf, ps, sp, rfl, la, _, rfl, la, tell H2 _ (ExtN.refl _) fun l3 H8 s8 ne8 e8 => ?_⟩
        have vr8 := vr.extn (Same.extn s8)
        have he8 := s8 _ _ he
        have ty8 : TyZ K H8 (.ref e) (.ref (D r'.1)) := .x (.base (.ins he8 ic.cl ic.ha ic.hn ic.htk ic.hm))
        refine ⟨l3, vs, ds, rfl, ne8, e8, vr8, z1, z2, z3, _, rfl, dl, vs, ds, rfl, nd, s8 _ _ hd, vr8, z1, z2, z3, rfl, _, rfl, ?_⟩
        rw [decide_eq_true rfl]
        refine iteF ?_
        refine ⟨_, rfl, _, .ref Pa, .ref (D r'.1), .ref Pa, true, rfl, .own Pa, ty8, Z.kP _ hn, _, rfl, iteF ?_⟩
        obtain ⟨dd, t1, t2, t3, t4⟩ := truth_d (K := K) (H := H8) hT
        refine ⟨_, rfl, ?_⟩
        dsimp only [tNil]
        refine bool_step Z hn he8 ?_
        refine ⟨_, rfl, .bool (!fal r'.1), dd, .bl _, t1, sh_bool _, t2, ?_⟩
        rw [t3]
        refine ⟨false, rfl, iteF ?_⟩
        dsimp only [tNext, tSeq]
        refine ⟨_, rfl, _, .ref De, .ref (D r'.1), .ref De, fal r'.1, rfl, .own De, ty8, Z.kD _ hn, _, rfl, .bool (fal r'.1), dd, .bl _, t1, sh_bool _, t2, ?_⟩
        rw [t4]
        refine ⟨false, rfl, iteF ?_⟩
        have fx8 : ∀ x ∈ r'.2.1, ∃ d, Vr H8 x d ∧ shp d = true := fun x hx => (fx x hx).imp fun d z => ⟨z.1.extn (Same.extn s8), z.2⟩
        refine ⟨_, rfl, _, rfl, _, rfl, l2, ys, (i2 : Int), .ref t', rfl, by rw [Int.zero_add], SqL.of (s8 _ _ W.again), atI_nat (by rw [List.getElem?_eq_getElem (by rw [ly]; exact hi2), ev']), t', _, 0, _, rfl, rfl, SqT.of (s8 _ _ ht'), atI_nat (j := 0) rfl, ?_⟩
        refine eq_self Z hn hF he8 (s8 _ _ he') fa fa' fx8 ?_
        refine ⟨true, rfl, iteF ?_⟩
        refine ⟨_, rfl, _, rfl, ?_⟩
        refine eq_list Z hn he8 (s8 _ _ hd) ?_
        refine ⟨false, rfl, iteF ?_⟩
        exact ⟨_, _, _, _, _, _, rfl, W.same s8⟩
      · rintro σ2 H2 ⟨y4, y10, y11, y12, y13, y14, rfl, W⟩
        dsimp only [tSeq]
        refine ⟨_, rfl, l, xs, rfl, .inl (SqL.of W.made), ?_⟩
        rw [W.lx]
        refine ⟨_, _, rfl, rfl, _, _, rfl, (by decide), for_range (lo := 0) (n := 29) (fun _ σ' H' => ∃ y4 y10 y11 y12 y13 y14, σ' = [some (V.ref a), some (V.ref p), some (V.int (0 + (i : Int))), none, y4, some v1, some v2, some v3, some (V.ref l), some (V.ref l2), y10, y11, y12, y13, y14, none] ∧ Wd P w K mg base D B p pl (3 * i + 3) l l2 v1 v2 v3 xs ys H') ⟨_, _, _, _, _, _, rfl, W⟩ ?_ ?_⟩
        · rintro i3 σ3 H3 hi3 ⟨u4, u10, u11, u12, u13, u14, rfl, U⟩
          refine ⟨(by show 2 ≤ sizeLine; decide), fun t1 f1 => ⟨(by show 2 ≤ sizeLine; decide), fun t2 f2 => ⟨(by show 2 ≤ sizeLine; decide), fun t3 f3 => ⟨(by show 3 ≤ sizeLine; decide), fun q fq => ?_⟩⟩⟩⟩
          have S1 := same_new (o := HO.tup [V.int 3, V.int 4]) f1
          have S2 := same_new (o := HO.tup [V.int 26, V.int 27]) f2
          have S3 := same_new (o := HO.tup [V.int 28, V.int 29]) f3
          have S4 := same_new (o := HO.lst [V.ref t1, V.ref t2, V.ref t3]) fq
          have e1 := S4 _ _ (S3 _ _ (S2 _ _ (upd_same (H := H3) (a := t1) (o := HO.tup [V.int 3, V.int 4]))))
          have e2 := S4 _ _ (S3 _ _ (upd_same (H := upd H3 t1 (HO.tup [V.int 3, V.int 4])) (a := t2) (o := HO.tup [V.int 26, V.int 27])))
          have e3 := S4 _ _ (upd_same (H := upd (upd H3 t1 (HO.tup [V.int 3, V.int 4])) t2 (HO.tup [V.int 26, V.int 27])) (a := t3) (o := HO.tup [V.int 28, V.int 29]))
          have eq := upd_same (H := upd (upd (upd H3 t1 (HO.tup [V.int 3, V.int 4])) t2 (HO.tup [V.int 26, V.int 27])) t3 (HO.tup [V.int 28, V.int 29])) (a := q) (o := HO.lst [V.ref t1, V.ref t2, V.ref t3])
          have U4 := U.same (((S1.trans S2).trans S3).trans S4)
          clear S1 S2 S3 S4 f1 f2 f3 fq U
          revert e1 e2 e3 eq U4
          generalize upd (upd (upd (upd H3 t1 _) t2 _) t3 _) q _ = H4
          intro e1 e2 e3 eq U4
          refine ⟨q, rfl, ⟨_, SqL.of eq⟩, fun Dd hDd => lc_sel (c := cc3 i3) hDd eq (by show 3 ≤ 6000; decide) (fun j x H' Y N hx s' y n => ?_) fun H5 s5 hD5 => ?_⟩
          · rcases j with _ | _ | _ | j
            · cases hx
              refine ⟨rfl, _, rfl, _, rfl, t1, _, 0, _, rfl, rfl, SqT.of (s' _ _ e1), atI_nat (j := 0) rfl, rfl, _, rfl, ?_⟩
              cases hc : cc3 i3 0 with
              | true => exact iteT' hc ⟨_, rfl, y hc⟩
              | false => exact iteF' hc (n hc)
            · cases hx
              refine ⟨rfl, _, rfl, _, rfl, t2, _, 0, _, rfl, rfl, SqT.of (s' _ _ e2), atI_nat (j := 0) rfl, rfl, _, rfl, ?_⟩
              cases hc : cc3 i3 1 with
              | true => exact iteT' hc ⟨_, rfl, y hc⟩
              | false => exact iteF' hc (n hc)
            · cases hx
              refine ⟨rfl, _, rfl, _, rfl, t3, _, 0, _, rfl, rfl, SqT.of (s' _ _ e3), atI_nat (j := 0) rfl, rfl, _, rfl, ?_⟩
              cases hc : cc3 i3 2 with
              | true => exact iteT' hc ⟨_, rfl, y hc⟩
              | false => exact iteF' hc (n hc)
            · cases hx
          have U5 := U4.same s5
          dsimp only [gName]
          by_cases hk : i3 = 3 ∨ i3 = 26 ∨ i3 = 28
          · rcases hk with rfl | rfl | rfl
            · have hs3 : selI (cc3 3) 0 [V.ref t1, V.ref t2, V.ref t3] = [V.ref t1] := rfl
              rw [hs3] at hD5
              refine ⟨_, rfl, (by show 0 ≤ sizeLine; decide), fun q5 f5 => ?_⟩
              have s6 := same_new (o := HO.lst []) f5
              refine ⟨.list [.tuple [.int 3, .int 4]], .list [], .lst (SqL.of (s6 _ _ hD5)) (.cons (.tup (SqT.of (s6 _ _ (s5 _ _ e1))) (.cons (.int 3) (.cons (.int 4) .nil))) .nil), .lst (SqL.of upd_same) .nil, (by decide +kernel), rfl, ?_⟩
              rw [show PyData.eqv (.list [.tuple [.int 3, .int 4]]) (.list []) = false by decide +kernel]
              refine ⟨false, rfl, ?_⟩
              exact ⟨_, _, _, _, _, _, rfl, U5.same s6⟩
            · have hs3 : selI (cc3 26) 0 [V.ref t1, V.ref t2, V.ref t3] = [V.ref t2] := rfl
              rw [hs3] at hD5
              refine ⟨_, rfl, (by show 0 ≤ sizeLine; decide), fun q5 f5 => ?_⟩
              have s6 := same_new (o := HO.lst []) f5
              refine ⟨.list [.tuple [.int 26, .int 27]], .list [], .lst (SqL.of (s6 _ _ hD5)) (.cons (.tup (SqT.of (s6 _ _ (s5 _ _ e2))) (.cons (.int 26) (.cons (.int 27) .nil))) .nil), .lst (SqL.of upd_same) .nil, (by decide +kernel), rfl, ?_⟩
              rw [show PyData.eqv (.list [.tuple [.int 26, .int 27]]) (.list []) = false by decide +kernel]
              refine ⟨false, rfl, ?_⟩
              exact ⟨_, _, _, _, _, _, rfl, U5.same s6⟩
            · have hs3 : selI (cc3 28) 0 [V.ref t1, V.ref t2, V.ref t3] = [V.ref t3] := rfl
              rw [hs3] at hD5
              refine ⟨_, rfl, (by show 0 ≤ sizeLine; decide), fun q5 f5 => ?_⟩
              have s6 := same_new (o := HO.lst []) f5
              refine ⟨.list [.tuple [.int 28, .int 29]], .list [], .lst (SqL.of (s6 _ _ hD5)) (.cons (.tup (SqT.of (s6 _ _ (s5 _ _ e3))) (.cons (.int 28) (.cons (.int 29) .nil))) .nil), .lst (SqL.of upd_same) .nil, (by decide +kernel), rfl, ?_⟩
              rw [show PyData.eqv (.list [.tuple [.int 28, .int 29]]) (.list []) = false by decide +kernel]
              refine ⟨false, rfl, ?_⟩
              exact ⟨_, _, _, _, _, _, rfl, U5.same s6⟩
          · have h1 : i3 ≠ 3 := fun z => hk (.inl z)
            have h2 : i3 ≠ 26 := fun z => hk (.inr (.inl z))
            have h3 : i3 ≠ 28 := fun z => hk (.inr (.inr z))
            rw [sel_no h1 h2 h3] at hD5
            refine ⟨_, rfl, (by show 0 ≤ sizeLine; decide), fun q5 f5 => ?_⟩
            have s6 := same_new (o := HO.lst []) f5
            refine ⟨.list [], .list [], .lst (SqL.of (s6 _ _ hD5)) .nil, .lst (SqL.of upd_same) .nil, rfl, rfl, ?_⟩
            rw [show PyData.eqv (.list []) (.list []) = true by decide +kernel]
            refine ⟨true, rfl, ?_⟩
            have U6 := U5.same s6
            have lt1 : i3 < xs.length := by rw [lx]; omega
            have lt2 : i3 + 1 < xs.length := by rw [lx]; omega
            obtain ⟨r, hr1, it⟩ := U6.its.at_ (List.getElem?_eq_getElem lt1)
            obtain ⟨r', hr2, it'⟩ := U6.its.at_ (List.getElem?_eq_getElem lt2)
            obtain ⟨hn, hc1, _, _⟩ := rows_ok _ _ hr1
            obtain ⟨hn', hc2, _, _⟩ := rows_ok _ _ hr2
            obtain ⟨t, e, _, _, dx, fs, _, _, ev, ht, he, _⟩ := it.ex
            obtain ⟨t', e', _, _, dx', fs', _, _, ev', ht', he', _⟩ := it'.ex
            obtain ⟨k1, k2⟩ := Z.kN i3 hi3 h1 h2 h3
            rw [← hc1, ← hc2] at k1 k2
            have ad : (0 + (i3 : Int) + 1) = ((i3 + 1 : Nat) : Int) := by omega
            refine ⟨_, rfl, _, rfl, l, xs, (i3 : Int), .ref t, rfl, by rw [Int.zero_add], SqL.of U6.made, atI_nat (by rw [List.getElem?_eq_getElem lt1, ev]), t, _, 0, _, rfl, rfl, SqT.of ht, atI_nat (j := 0) rfl, _, rfl, _, rfl, _, _, rfl, rfl, l, xs, ((i3 + 1 : Nat) : Int), .ref t', rfl, (by show V.int (0 + (i3 : Int) + 1) = _; rw [ad]), SqL.of U6.made, atI_nat (by rw [List.getElem?_eq_getElem lt2, ev']), t', _, 0, _, rfl, rfl, SqT.of ht', atI_nat (j := 0) rfl, ?_⟩
            refine eq_other Z hn hn' he he' k1 k2 ?_
            exact ⟨false, rfl, _, _, _, _, _, _, rfl, U6⟩
        · rintro σ3 H3 ⟨u4, u10, u11, u12, u13, u14, rfl, U⟩
          exact ⟨_, _, _, _, _, _, _, _, _, _, _, _, rfl, U.pen.more (by omega), U.tab⟩
    · rintro σ3 H3 ⟨x2, x4, x5, x6, x7, x8, x9, x10, x11, x12, x13, x14, rfl, hp3, ht3⟩
      clear hp3 ht3
      dsimp only [tSeq]
      dsimp only [tAsg, tLst, tCons, tOp]
      refine mk_T (xs := [.int 1]) rfl (fun R r => r) fun a1 d1 g1 H4 s4 _ ha1 fa1 => ?_
      refine mk_T (xs := [.int 2]) rfl (fun R r => r) fun a2 d2 g2 H5 s5 _ ha2 fa2 => ?_
      refine eq_same (n := 0) (c := false) Z (by decide) (s5 _ _ ha1) ha2 (fe1 fa1 fa2 (eqb_d (.int 1) (.int 2) (by decide +kernel) (by decide +kernel) (by decide +kernel))) ?_
      refine mk_T (xs := [.int 1, .int 2, .int 3]) rfl (fun R r => r) fun a3 d3 g3 H6 s6 _ ha3 fa3 => ?_
      refine mk_T (xs := [.int 1, .int 2, .int 4]) rfl (fun R r => r) fun a4 d4 g4 H7 s7 _ ha4 fa4 => ?_
      refine eq_same (n := 3) (c := false) Z (by decide) (s7 _ _ ha3) ha4 (feS fa3 fa4 (eqb_d (.int 1) (.int 1) (by decide +kernel) (by decide +kernel) (by decide +kernel)) fun x y => feS x y (eqb_d (.int 2) (.int 2) (by decide +kernel) (by decide +kernel) (by decide +kernel)) fun x y => fe1 x y (eqb_d (.int 3) (.int 4) (by decide +kernel) (by decide +kernel) (by decide +kernel))) ?_
      refine mk_T (xs := [.int 1, .int 2]) rfl (fun R r => r) fun a5 d5 g5 H8 s8 _ ha5 fa5 => ?_
      refine mk_T (xs := [.int 1, .int 2]) rfl (fun R r => r) fun a6 d6 g6 H9 s9 _ ha6 fa6 => ?_
      refine eq_other (n := 15) (m := 18) Z (by decide) (by decide) (s9 _ _ ha5) ha6 Z.kX.1 Z.kX.2 ?_
      refine ⟨(by show 3 ≤ sizeLine; decide), fun q fq => ?_⟩
      have hq : upd H9 q (HO.lst [V.bl false, V.bl false, V.bl false]) q = some (.lst [V.bl false, V.bl false, V.bl false]) := upd_same
      clear ha1 ha2 ha3 ha4 ha5 ha6 fa1 fa2 fa3 fa4 fa5 fa6 s4 s5 s6 s7 s8 s9 fq
      revert hq
      generalize upd H9 q _ = H10
      intro hq
      dsimp only [gName]
      refine ⟨_, rfl, .inl ⟨rfl, _, SqL.of hq⟩, ?_⟩
      dsimp only [tCons, tOp]
      refine mk_Tup (zs := [.int 1]) (fun R r => r) rfl (by show 1 ≤ sizeLine; decide) fun t1 f1 a1 d1 g1 H4 s4 _ ha1 fa1 => ?_
      refine mk_Tup (zs := [.int 1, .int 1]) (fun R r => r) rfl (by show 2 ≤ sizeLine; decide) fun t2 f2 a2 d2 g2 H5 s5 _ ha2 fa2 => ?_
      have q1 := s4 _ _ (same_new (o := HO.tup [V.int 1]) f1 _ _ hq)
      have q2 := s5 _ _ (same_new (o := HO.tup [V.int 1, V.int 1]) f2 _ _ q1)
      have z1 : H5 t1 = some (.tup [V.int 1]) := s5 _ _ (same_new (o := HO.tup [V.int 1, V.int 1]) f2 _ _ (s4 _ _ upd_same))
      have z2 : H5 t2 = some (.tup [V.int 1, V.int 1]) := s5 _ _ upd_same
      refine ne_same (n := 1) (c := false) (s5 _ _ (same_new (o := HO.tup [V.int 1, V.int 1]) f2 _ _ ha1)) ha2 (fe1 fa1 fa2 (eqb_d (.tup (SqT.of z1) (.cons (.int 1) .nil)) (.tup (SqT.of z2) (.cons (.int 1) (.cons (.int 1) .nil))) (by decide +kernel) (by decide +kernel) (by decide +kernel))) ?_
      refine ⟨q, _, _, rfl, rfl, q2, (by show 3 < sizeLine; decide), ?_⟩
      have hq6 : upd H5 q (HO.lst ([V.bl false, V.bl false, V.bl false] ++ [V.bl (!false)])) q = some (.lst [V.bl false, V.bl false, V.bl false, V.bl true]) := upd_same
      clear q1 q2 z1 z2 ha1 ha2 fa1 fa2 s4 s5 f1 f2 hq
      revert hq6
      generalize upd H5 q _ = H6
      intro hq6
      dsimp only [tSeq]
      refine ⟨_, rfl, (by show 4 ≤ sizeLine; decide), fun q5 f5 => ?_⟩
      have s6 := same_new (o := HO.lst [V.bl false, V.bl false, V.bl false, V.bl true]) f5
      refine ⟨.list [.bool false, .bool false, .bool false, .bool true], .list [.bool false, .bool false, .bool false, .bool true], .lst (SqL.of (s6 _ _ hq6)) (.cons (.bl false) (.cons (.bl false) (.cons (.bl false) (.cons (.bl true) .nil)))), .lst (SqL.of upd_same) (.cons (.bl false) (.cons (.bl false) (.cons (.bl false) (.cons (.bl true) .nil)))), (by decide +kernel), (by decide +kernel), ?_⟩
      rw [show PyData.eqv (.list [.bool false, .bool false, .bool false, .bool true]) (.list [.bool false, .bool false, .bool false, .bool true]) = true by decide +kernel]
      refine ⟨true, rfl, ?_⟩
      rw [if_pos rfl]
      dsimp only [tOp]
      refine mk_T (xs := [.str "a", .int 0, .int 1, .int 2]) rfl (fun R r => r) fun a1 d1 g1 H7 s7 _ ha1 fa1 => ?_
      refine mk_T (xs := [.str "a", .int 0, .int 1, .int 3]) rfl (fun R r => r) fun a2 d2 g2 H8 s8 _ ha2 fa2 => ?_
      exact ne_same (n := 20) (c := false) (s8 _ _ ha1) ha2 (feS fa1 fa2 (eqb_d (.str _) (.str _) (by decide +kernel) (by decide +kernel) (by decide +kernel)) fun x y => feS x y (eqb_d (.int 0) (.int 0) (by decide +kernel) (by decide +kernel) (by decide +kernel)) fun x y => feS x y (eqb_d (.int 1) (.int 1) (by decide +kernel) (by decide +kernel) (by decide +kernel)) fun x y => fe1 x y (eqb_d (.int 2) (.int 3) (by decide +kernel) (by decide +kernel) (by decide +kernel))) (k _)
end
end Lw
namespace Lw
open PySem PySem.Spec PyProof.Rows L2
open LamX
/-! ### the call of the law where nothing is being shown, with tables of code objects -/
/-- what is tracked when the law is entered: the tables, and the script unless it is written -/
def Entry (K : PySem.W.Frag) (h : Heap) (a : Addr) (Bs : List Addr) (ns : List Int) (H : Hp) : Prop :=
  (∀ B ∈ Bs, H B = some (.tbl #[])) ∧ SqL K H a (ns.map V.int) ∧ (∀ b u, H b = some u → (b ∈ Bs ∧ u = .tbl #[]) ∨ (b = a ∧ K.lookup a = none ∧ ∃ o xs, u = .frz o (.lst xs) ∧ h.get? a = some o))
theorem entry {P : Program} {w : World} {K : PySem.W.Frag} {h : Heap} {a : Addr} {Bs : List Addr} {vs : List Value} {ns : List Int} (KX : K.In h) (hT : ∀ B ∈ Bs, h.get? B = some { cls := .none, data := .fields #[] }) (ha : h.get? a = some { cls := .type "list", data := .seq vs.toArray }) (hi : IntsAre vs ns) (hl : ns.length ≤ sizeLine) :
    a ∉ Bs ∧ ∃ H, Entry K h a Bs ns H ∧ HOk P w H h := by
  have rv := vals_ints hi
  have lv := hi.length
  have ne : a ∉ Bs := fun e => by
    have hT := hT a e
    rw [ha] at hT
    have z : Data.seq vs.toArray _ = Data.fields #[] := congrArg Obj.data (Option.some.inj hT)
    cases z
  refine ⟨ne, ?_⟩
  cases hk : K.lookup a with
  | some o =>
    have e := KX a o hk
    rw [ha] at e
    cases e
    refine ⟨fun b => if b ∈ Bs then some (.tbl #[]) else none, ⟨fun B hB => if_pos hB, .inr ⟨_, vs.toArray, _, hk, rfl, rfl, rfl, by rw [List.size_toArray, lv]; exact hl, by simpa using rv⟩, fun b u z => ?_⟩, fun b u z => ?_⟩
    · by_cases q : b ∈ Bs
      · exact .inl ⟨q, (Option.some.inj ((if_pos q).symm.trans z)).symm⟩
      · cases (if_neg q).symm.trans z
    · by_cases q : b ∈ Bs
      · cases (if_pos q).symm.trans z
        exact hT b q
      · cases (if_neg q).symm.trans z
  | none =>
    refine ⟨fun b => if b ∈ Bs then some (.tbl #[]) else if b = a then some (.frz { cls := .type "list", data := .seq vs.toArray } (.lst (ns.map V.int))) else none,
      ⟨fun B hB => if_pos hB, .inl (.inr ⟨_, (if_neg ne).trans (if_pos rfl)⟩), fun b u z => ?_⟩, fun b u z => ?_⟩
    · by_cases q : b ∈ Bs
      · exact .inl ⟨q, (Option.some.inj ((if_pos q).symm.trans z)).symm⟩
      · have z2 := (if_neg q).symm.trans z
        by_cases q2 : b = a
        · exact .inr ⟨q2, hk, _, _, (Option.some.inj ((if_pos q2).symm.trans z2)).symm, ha⟩
        · cases (if_neg q2).symm.trans z2
    · by_cases q : b ∈ Bs
      · cases (if_pos q).symm.trans z
        exact hT b q
      · have z2 := (if_neg q).symm.trans z
        by_cases q2 : b = a
        · cases (if_pos q2).symm.trans z2
          rw [q2]
          exact ⟨ha, by rw [List.length_map]; exact hl, vs, _, rv, ha⟩
        · cases (if_neg q2).symm.trans z2
theorem law_end {P : Program} {w : World} {K : PySem.W.Frag} {mg mb : Str → Option Value} {k : Nat} {fa a : Addr} {Bs : List Addr} {fd : FuncData} {x : Str} {sp : Sp} {s₁ : Shared} {vs : List Value} {ns : List Int}
    (KX : K.In s₁.heap) (hns : s₁.heap.Ns mainGlobals mg) (hb : s₁.heap.Ns builtinsNs mb) (hbb : ∀ x : Str, x ≠ "__name__" → mb x = bootBuiltins x) (hlim : s₁.heap.NoLimit) (hg : s₁.gens = #[])
    (hT : ∀ B ∈ Bs, s₁.heap.get? B = some { cls := .none, data := .fields #[] }) (nT : ∀ B ∈ Bs, K.lookup B = none) (C : ∀ B ∈ Bs, ∃ c, PySem.W.CodeHd s₁.heap c B)
    (hbm : ∃ (bm : Addr) (ob : Obj), mg "__builtins__" = some (.ref bm) ∧ bm ≠ builtinsNs ∧ s₁.heap.get? bm = some ob ∧ ob.cls = .type "module" ∧ ob.dict = some builtinsNs ∧ ob.data = .plain)
    (ha : s₁.heap.get? a = some { cls := .type "list", data := .seq vs.toArray }) (hi : IntsAre vs ns) (hl : ns.length ≤ sizeLine) (hr : Room k callerA)
    (F : ∀ base : Heap, K.In base → base.Ns mainGlobals mg → (∀ B ∈ Bs, ∀ c, PySem.W.CodeHd s₁.heap c B → TabB base mg c B) → FnG P w K mg base k fa fd [x] sp) (hbind : ∀ (s : Shared) (u : Value), BindsTo s fd ⟨[u], []⟩ [(x, u)])
    (hsp : ∀ H : Hp, (∀ B ∈ Bs, H B = some (.tbl #[])) → SqL K H a (ns.map V.int) → sp [.ref a] H (fun v _ => v = .bl true) C8.E0) :
    codeAny (model P w) callerA (.call (.ref fa) ⟨[.ref a], []⟩) (fun r s' => r = .ok (.ret (.bool true)) ∧ OldK s₁.heap s'.heap ∧ s'.os = s₁.os ∧ AllBare s'.gens) s₁ := by
  obtain ⟨ne, H, ⟨hB, hS, hA⟩, hok⟩ := entry (P := P) (w := w) KX hT ha hi hl
  -- what is neither a table nor the script is untracked
  have free : ∀ {b : Addr} {o : Obj}, s₁.heap.get? b = some o → (∀ vs n, o.data ≠ .seq vs n) → o.data ≠ .fields #[] → H b = none := fun {b o} e h1 h2 => by
    cases q : H b with
    | none => rfl
    | some u =>
      rcases hA b u q with ⟨e', _⟩ | ⟨e', _⟩
      · rw [hT b e'] at e
        cases e
        exact absurd rfl h2
      · rw [e', ha] at e
        cases e
        exact absurd rfl (h1 _ _)
  have through : ∀ {b : Addr} {o : Obj}, s₁.heap.get? b = some o → H b = none → (hidT s₁.heap H).get? b = some o := fun e n => hidT_get e n
  have nsT : ∀ {b : Addr} {m : Str → Option Value}, s₁.heap.Ns b m → (hidT s₁.heap H).Ns b m := fun {b m} ⟨o, es, ep, e, d, r⟩ => by
    refine ⟨o, es, ep, through e (free e (fun vs n z => ?_) fun z => ?_), d, r⟩ <;> · rw [d] at z; cases z
  have inT : K.In (hidT s₁.heap H) := fun b o e => by
    refine through (KX b o e) ?_
    cases q : H b with
    | none => rfl
    | some u =>
      rcases hA b u q with ⟨e', _⟩ | ⟨e', n, _⟩
      · rw [nT b e'] at e; cases e
      · rw [e', n] at e; cases e
  have modT : L2.Mod K mg (hidT s₁.heap H) := by
    obtain ⟨mc, h1, h2⟩ := hlim
    exact ⟨inT, nsT hns, ⟨mb, nsT hb, hbb⟩, ⟨mc, nsT h1, h2⟩⟩
  have tabT : ∀ B ∈ Bs, ∀ c, PySem.W.CodeHd s₁.heap c B → TabB (hidT s₁.heap H) mg c B := fun B hBs c C => by
    refine ⟨?_, ?_, fun z => ?_⟩
    · obtain ⟨o, us, file, tf, flags, tg, inF, text, tt, e1, r1, r2, r3, r4⟩ := C
      refine ⟨o, us, file, tf, flags, tg, inF, text, tt, through e1 (free e1 (fun vs n z => ?_) fun z => ?_), r1, r2, r3, r4⟩
      · rw [r2] at z; cases z
      · rw [r2] at z; cases z
        simp at r3
    · obtain ⟨bm, ob, b1, b2, b3, b4, b5, b6⟩ := hbm
      refine ⟨bm, ob, b1, b2, fun q => ?_, fun q => ?_, through b3 (free b3 (fun vs n z => ?_) fun z => ?_), b4, b5, b6⟩
      · obtain ⟨o, es, ep, e, d, _⟩ := hns
        rw [q, e] at b3
        cases b3
        rw [d] at b6
        cases b6
      · rw [q, hT B hBs] at b3
        cases b3
        cases b6
      · rw [b6] at z; cases z
      · rw [b6] at z; cases z
    · obtain ⟨o, es, ep, e, d, _⟩ := hns
      rw [z, hT B hBs] at e
      cases e
      cases d
  have e0 : Env0 P w K mg (hidT s₁.heap H) callerA [] s₁ H := ⟨rfl, modT, fun b o e => of_hidT e, Nat.le_of_eq (hidT_size _ _), trivial, fun b hb => absurd (show b ∈ ([] : List Addr) from hb) (by simp), hok, .of_eq hg⟩
  refine codeAny_mono ((F _ inT (nsT hns) tabT).run callerA [] s₁ H ⟨[.ref a], []⟩ [.ref a] [.ref a] _ _ rfl hr e0 (hbind s₁ (.ref a)) (.cons rfl .nil) (hsp H hB hS)) fun r s' q => ?_
  match r, q with
  | .error e, q => exact (show False from q).elim
  | .ok .next, q => exact (show False from q).elim
  | .ok .brk, q => exact (show False from q).elim
  | .ok .cont, q => exact (show False from q).elim
  | .ok (.ret u), q =>
    obtain ⟨v, H', os, bare, un, hok', r', qv⟩ := q
    have qv' : v = .bl true := qv
    subst qv'
    obtain rfl : u = Value.bool true := r'
    have same : ∀ b o, b ∉ Bs → s₁.heap.get? b = some o → s'.heap.get? b = some o := fun b o nb e => by
      cases q : H b with
      | none => exact un.keep b o e q (by intro z; exact absurd (show b ∈ ([] : List Addr) from z) (by simp)) (by simp)
      | some u =>
        rcases hA b u q with ⟨z, _⟩ | ⟨e', _, ob, xs, rfl, hob⟩
        · exact absurd z nb
        · obtain ⟨e2, _⟩ := hok' b _ (un.frzs b ob _ q)
          rw [e', hob] at e
          cases e
          exact e2
    refine ⟨rfl, ⟨fun b o e => ?_, fun b o e => ?_⟩, os, bare⟩
    · by_cases hb : b ∈ Bs
      · obtain ⟨more, hmore⟩ := un.tbls b #[] (hB b hb)
        have atB := hok' b _ hmore
        obtain ⟨c, C⟩ := C b hb
        have hT := hT b hb
        rw [hT] at e
        cases e
        exact .inr (.inl ⟨(C.tab hT).isCodeTable, rfl, #[], _, rfl, atB⟩)
      · exact .inl (same b o hb e)
    · by_cases hb : b ∈ Bs
      · obtain ⟨more, hmore⟩ := un.tbls b #[] (hB b hb)
        exact ⟨_, hok' b _ hmore⟩
      · exact ⟨o, same b o hb e⟩
theorem tabIn_of {K : PySem.W.Frag} {x : Str} {f c B : Addr} {oc occ : Value} {od odc : Option Addr} {fd : FuncData} {sl slc : Array (Option Value)} {us : Array Value} (h1 : PySem.W.nsIn K mainGlobals x = some (some (.ref f))) (h2 : K.lookup f = some ⟨oc, od, .func fd, sl⟩) (hc : fd.code = .ref c)
    (h3 : K.lookup c = some ⟨occ, odc, .fields us, slc⟩) (h4 : us[11]? = some (.ref B)) : PySem.W.tabIn K x = some (c, B) := by
  unfold PySem.W.tabIn
  rw [h1]
  dsimp only
  rw [h2]
  dsimp only
  rw [hc]
  dsimp only
  rw [h3]
  dsimp only
  rw [h4]
/-- the walk's end, with any number of tables of code objects (tb: the def's name, its code object, its table) -/
theorem walk_endL {l : PySem.W.OpenLaw} {n k : Nat} {q : Program} {loose : List Str} {XP : (Str → Option Value) → Heap → Prop} {YP : World → Heap → Prop} {d : DefRec} {K : Params → PySem.W.Frag} {x : Str} {xts : List Str}
    (hn : l.most = some n) (hn2 : n ≤ 63) (hdf : d.params.defaults = []) (hr : Room k callerA) (hY : ∀ (w : World) (h : Heap), YP w h → (K w.params).In h) (hrec : (xts.all fun xt => ((recsOf q).find? fun e => e.name == xt).isSome) = true)
    (F : ∀ (w : World) (mg : Str → Option Value) (fa : Addr) (h : Heap), (K w.params).In h → h.Ns mainGlobals mg → mg d.name = some (.ref fa) → ∃ (fd : FuncData) (tb : List (Str × Addr × Addr)) (sp : Sp), (∀ e ∈ tb, e.1 ∈ xts ∧ PySem.W.tabIn (K w.params) e.1 = some (e.2.1, e.2.2) ∧ (K w.params).lookup e.2.2 = none) ∧ (∀ (s : Shared) (u : Value), BindsTo s fd ⟨[u], []⟩ [(x, u)]) ∧
      (∀ base : Heap, (K w.params).In base → base.Ns mainGlobals mg → (∀ e ∈ tb, TabB base mg e.2.1 e.2.2) → FnG l.prog w (K w.params) mg base k fa fd [x] sp) ∧
      ∀ (H : Hp) (a : Addr) (ns : List Int), (∀ e ∈ tb, H e.2.2 = some (.tbl #[])) → SqL (K w.params) H a (ns.map V.int) → ns.length ≤ 63 → sp [.ref a] H (fun v _ => v = .bl true) C8.E0) :
    PySem.W.WalkO q loose XP YP l.row.toRowW d [] (fun f vs => PySem.call f vs) := by
  refine Att.attach_callB hn hdf fun w s₀ s₁ mg mb fa o pm cd doc a vs ns G Y ho hd hcd hmg hobj hints hlen hbits hg => ?_
  have KX := hY w _ Y
  obtain ⟨fd, tb, sp, ht, hb, hF, hsp⟩ := F w mg fa _ KX G.T.g hmg
  have tab : ∀ e ∈ tb, PySem.W.CodeHd s₁.heap e.2.1 e.2.2 ∧ s₁.heap.get? e.2.2 = some { cls := .none, data := .fields #[] } := fun e he => by
    obtain ⟨h1, h2, h3⟩ := ht e he
    obtain ⟨dr, hdr⟩ := Option.isSome_iff_exists.mp (List.all_eq_true.mp hrec _ h1)
    exact PySem.W.tab_of G.T KX hdr h2
  have mem : ∀ {p : Addr → Prop}, (∀ e ∈ tb, p e.2.2) → ∀ b ∈ tb.map (·.2.2), p b := fun {p} h b hb => by
    obtain ⟨e, he, rfl⟩ := List.mem_map.mp hb
    exact h e he
  exact law_end (Bs := tb.map (·.2.2)) KX G.T.g G.T.b G.T.builtins G.T.nolimit hg (mem fun e he => (tab e he).2) (mem fun e he => (ht e he).2.2) (mem fun e he => ⟨_, (tab e he).1⟩) G.T.bmain hobj hints (Nat.le_trans (Nat.le_trans hlen hn2) (by decide)) hr
    (fun base kin ns' tbb => hF base kin ns' fun e he => tbb e.2.2 (List.mem_map.mpr ⟨e, he, rfl⟩) e.2.1 (tab e he).1) hb fun H hB hS => hsp H a ns (fun e he => hB e.2.2 (List.mem_map.mpr ⟨e, he, rfl⟩)) hS (Nat.le_trans hlen hn2)
end Lw
namespace Lw
open PySem PySem.Spec PyProof.Rows L2

open LamX
set_option pp.maxSteps 1500

theorem kb_pm {K : PySem.W.Frag} {x q : Str} {st : Stmt} {f : Addr} {fd : FuncData} {ps ks : List Str} {m : Nat} {g : List Value → List Value → List Value} {gV : List V → List V → List V} (F : C8.Fun K x q st f fd) (df : fd.defaults = .none) (h : ∀ (kV doc pm : Value) (an : Option Addr) (cdv ct : Value) (us ws : List Value), us.length = m → ws.length = ks.length → bindArgs (PySem.W.fnOf x q (C8.fnArgs st) (C8.fnBody st) (C8.fnScope st) .none kV doc pm an cdv ct) ⟨us, ks.zip ws⟩ = pure (ps.zip (g us ws)))
    (rel : ∀ {vs : List V} {us : List Value} {zs : List V} {ws : List Value}, Vals vs us → Vals zs ws → Vals (gV vs zs) (g us ws)) : KBn K fd ps m ks g gV := by
  obtain ⟨oc, od, dV, kV, doc, pm, an, cdv, ct, osl, rfl, lk, hcd⟩ := F.ex
  have e : dV = .none := df
  subst e
  exact ⟨fun s us ws X h1 h2 => .of_eq (h kV doc pm an cdv ct us ws h1 h2), fun r1 r2 => rel r1 r2⟩
theorem pm1_rel {zs : List V} {ws : List Value} (r : Vals zs ws) : Vals (pm1 zs) (pm1 ws) := by
  cases r with
  | nil => exact .nil
  | cons a0 r =>
    cases r with
    | nil => exact .cons a0 .nil
    | cons a1 r => exact .cons a0 (.cons a1 r)
theorem pm4_rel {zs : List V} {ws : List Value} (r : Vals zs ws) : Vals (pm4 zs) (pm4 ws) := by
  cases r with
  | nil => exact .nil
  | cons a0 r =>
    cases r with
    | nil => exact .cons a0 .nil
    | cons a1 r =>
      cases r with
      | nil => exact .cons a0 (.cons a1 .nil)
      | cons a2 r =>
        cases r with
        | nil => exact .cons a2 (.cons a1 (.cons a0 .nil))
        | cons a3 r => exact .cons a0 (.cons a1 (.cons a2 (.cons a3 r)))
theorem pm6_rel {zs : List V} {ws : List Value} (r : Vals zs ws) : Vals (pm6 zs) (pm6 ws) := by
  cases r with
  | nil => exact .nil
  | cons a0 r =>
    cases r with
    | nil => exact .cons a0 .nil
    | cons a1 r =>
      cases r with
      | nil => exact .cons a1 (.cons a0 .nil)
      | cons a2 r => exact .cons a0 (.cons a1 (.cons a2 r))
theorem pm8_rel {zs : List V} {ws : List Value} (r : Vals zs ws) : Vals (pm8 zs) (pm8 ws) := by
  cases r with
  | nil => exact .nil
  | cons a0 r =>
    cases r with
    | nil => exact .cons a0 .nil
    | cons a1 r => exact .cons a0 (.cons a1 r)
theorem pm10_rel {zs : List V} {ws : List Value} (r : Vals zs ws) : Vals (pm10 zs) (pm10 ws) := by
  cases r with
  | nil => exact .nil
  | cons a0 r =>
    cases r with
    | nil => exact .cons a0 .nil
    | cons a1 r => exact .cons a0 (.cons a1 r)
theorem pm13_rel {zs : List V} {ws : List Value} (r : Vals zs ws) : Vals (pm13 zs) (pm13 ws) := by
  cases r with
  | nil => exact .nil
  | cons a0 r =>
    cases r with
    | nil => exact .cons a0 .nil
    | cons a1 r =>
      cases r with
      | nil => exact .cons a1 (.cons a0 .nil)
      | cons a2 r => exact .cons a0 (.cons a1 (.cons a2 r))
theorem pm14_rel {zs : List V} {ws : List Value} (r : Vals zs ws) : Vals (pm14 zs) (pm14 ws) := by
  cases r with
  | nil => exact .nil
  | cons a0 r =>
    cases r with
    | nil => exact .cons a0 .nil
    | cons a1 r => exact .cons a0 (.cons a1 r)
theorem pm18_rel {zs : List V} {ws : List Value} (r : Vals zs ws) : Vals (pm18 zs) (pm18 ws) := by
  cases r with
  | nil => exact .nil
  | cons a0 r =>
    cases r with
    | nil => exact .cons a0 .nil
    | cons a1 r => exact .cons a0 (.cons a1 r)
theorem pm20_rel {zs : List V} {ws : List Value} (r : Vals zs ws) : Vals (pm20 zs) (pm20 ws) := by
  cases r with
  | nil => exact .nil
  | cons a0 r =>
    cases r with
    | nil => exact .cons a0 .nil
    | cons a1 r =>
      cases r with
      | nil => exact .cons a0 (.cons a1 .nil)
      | cons a2 r => exact .cons a0 (.cons a1 (.cons a2 r))
theorem pm22_rel {zs : List V} {ws : List Value} (r : Vals zs ws) : Vals (pm22 zs) (pm22 ws) := by
  cases r with
  | nil => exact .nil
  | cons a0 r =>
    cases r with
    | nil => exact .cons a0 .nil
    | cons a1 r => exact .cons a0 (.cons a1 r)
theorem pm24_rel {zs : List V} {ws : List Value} (r : Vals zs ws) : Vals (pm24 zs) (pm24 ws) := by
  cases r with
  | nil => exact .nil
  | cons a0 r =>
    cases r with
    | nil => exact .cons a0 .nil
    | cons a1 r => exact .cons a0 (.cons a1 r)
theorem pm27_rel {zs : List V} {ws : List Value} (r : Vals zs ws) : Vals (pm27 zs) (pm27 ws) := by
  cases r with
  | nil => exact .nil
  | cons a0 r =>
    cases r with
    | nil => exact .cons a0 .nil
    | cons a1 r =>
      cases r with
      | nil => exact .cons a0 (.cons a1 .nil)
      | cons a2 r =>
        cases r with
        | nil => exact .cons a0 (.cons a1 (.cons a2 .nil))
        | cons a3 r =>
          cases r with
          | nil => exact .cons a3 (.cons a2 (.cons a1 (.cons a0 .nil)))
          | cons a4 r => exact .cons a0 (.cons a1 (.cons a2 (.cons a3 (.cons a4 r))))
theorem pm29_rel {zs : List V} {ws : List Value} (r : Vals zs ws) : Vals (pm29 zs) (pm29 ws) := by
  cases r with
  | nil => exact .nil
  | cons a0 r =>
    cases r with
    | nil => exact .cons a0 .nil
    | cons a1 r =>
      cases r with
      | nil => exact .cons a1 (.cons a0 .nil)
      | cons a2 r => exact .cons a0 (.cons a1 (.cons a2 r))
structure PapF (K : PySem.W.Frag) (C fI fQ : Addr) (fs : List Str) : Prop where
  cl : Cls K C
  mkI : PySem.W.makesIn K C = true
  kC : PySem.W.keepIn K (.ref C) = true
  no : ∀ f ∈ fs, PySem.W.findIn K (.ref C) f = some none
  hC : PySem.W.findIn K (.ref C) "__class__" = some (some (.builtin "object.__class__"))
  hM : PySem.W.mroIn K C (.type "object") = some true
  isI : PySem.W.isFn K (.ref fI) = true
  isQ : PySem.W.isFn K (.ref fQ) = true
  kQ : PySem.W.keepIn K (.ref fQ) = true
  kL : PySem.W.kitOne K (.type "list") (.ref C) = some false
theorem papB_ok {K : PySem.W.Frag} {C fI fQ : Addr} {fs : List Str} (h : papB K C fI fQ fs = true) : PapF K C fI fQ fs := by
  obtain ⟨h1, h⟩ := Bool.and_eq_true_iff.mp h
  obtain ⟨h2, h⟩ := Bool.and_eq_true_iff.mp h
  obtain ⟨h3, h⟩ := Bool.and_eq_true_iff.mp h
  obtain ⟨h4, h⟩ := Bool.and_eq_true_iff.mp h
  obtain ⟨h5, h⟩ := Bool.and_eq_true_iff.mp h
  obtain ⟨h6, h⟩ := Bool.and_eq_true_iff.mp h
  obtain ⟨h7, h⟩ := Bool.and_eq_true_iff.mp h
  obtain ⟨h8, h⟩ := Bool.and_eq_true_iff.mp h
  obtain ⟨h9, h⟩ := Bool.and_eq_true_iff.mp h
  obtain ⟨h10, h⟩ := Bool.and_eq_true_iff.mp h
  obtain ⟨h11, h⟩ := Bool.and_eq_true_iff.mp h
  obtain ⟨h12, h13⟩ := Bool.and_eq_true_iff.mp h
  exact ⟨⟨h1, h2, h3, of_decide_eq_true h4⟩, h5, h6, fun f hf => of_decide_eq_true (List.all_eq_true.mp h7 f hf), of_decide_eq_true h8, of_decide_eq_true h9, h10, h11, h12, of_decide_eq_true h13⟩
theorem papC_of {K : PySem.W.Frag} {mg : Str → Option Value} {n : Str} {C fI fQ : Addr} {fs : List Str} (W : PapF K C fI fQ fs) (hG : PySem.W.specialIn K (.builtin "object.__class__") "__get__" = some (some (.builtin "getset_descriptor.__get__"))) (hK : PySem.W.takesIn K (.builtin "object.__class__") = some true) (hm : mg n = some (.ref C)) : PapC K mg n C fs :=
  ⟨W.cl, W.no, ⟨W.cl, W.hC, hG, hK, W.hM, by unfold PySem.W.kitOne; rw [if_pos (by simp)]⟩, hm⟩
theorem kdB_ok {K : PySem.W.Frag} {Ds : List Addr} {De : Addr} (h : kdB K Ds De = true) (i : Nat) (hi : i < 27) : PySem.W.kitOne K (.ref (Ds.getD i 0)) (.ref De) = some (fal i) := of_decide_eq_true (List.all_eq_true.mp h i (List.mem_range.mpr hi))
theorem knB_ok {K : PySem.W.Frag} {Ds : List Addr} (h : knB K Ds = true) (i : Nat) (hi : i < 29) (h1 : i ≠ 3) (h2 : i ≠ 26) (h3 : i ≠ 28) : PySem.W.kitOne K (.ref (Ds.getD (rc (i + 1)) 0)) (.ref (Ds.getD (rc i) 0)) = some false ∧ PySem.W.subIn K (.ref (Ds.getD (rc (i + 1)) 0)) (.ref (Ds.getD (rc i) 0)) = some false := by
  have z := List.all_eq_true.mp h i (List.mem_range.mpr hi)
  rcases Bool.or_eq_true_iff.mp z with z | z
  · rcases Bool.or_eq_true_iff.mp z with z | z
    · exact absurd (beq_iff_eq.mp z) h1
    · rcases Bool.or_eq_true_iff.mp z with z | z
      · exact absurd (beq_iff_eq.mp z) h2
      · exact absurd (beq_iff_eq.mp z) h3
  · obtain ⟨a, b⟩ := Bool.and_eq_true_iff.mp z
    exact ⟨of_decide_eq_true a, of_decide_eq_true b⟩
theorem kxB_ok {K : PySem.W.Frag} {C C2 : Addr} (h : kxB K C C2 = true) : PySem.W.kitOne K (.ref C) (.ref C2) = some false ∧ PySem.W.subIn K (.ref C) (.ref C2) = some false := by
  obtain ⟨a, b⟩ := Bool.and_eq_true_iff.mp h
  exact ⟨of_decide_eq_true a, of_decide_eq_true b⟩
theorem tfB_ok {K : PySem.W.Frag} {Ds : List Addr} (h : tfB K Ds = true) (i : Nat) (hi : i < 27) (hf : fal i = false) : PySem.W.findIn K (.ref (Ds.getD i 0)) "__bool__" = some none ∧ PySem.W.findIn K (.ref (Ds.getD i 0)) "__len__" = some none := by
  have z := List.all_eq_true.mp h i (List.mem_range.mpr hi)
  rw [hf, Bool.false_or] at z
  obtain ⟨a, b⟩ := Bool.and_eq_true_iff.mp z
  exact ⟨of_decide_eq_true a, of_decide_eq_true b⟩
theorem ttB_ok {K : PySem.W.Frag} {Ds : List Addr} {f : Addr} (h : ttB K Ds f = true) (i : Nat) (hi : i < 27) (hf : fal i = true) : PySem.W.findIn K (.ref (Ds.getD i 0)) "__bool__" = some (some (.ref f)) := by
  have z := List.all_eq_true.mp h i (List.mem_range.mpr hi)
  rw [hf] at z
  exact of_decide_eq_true (by simpa using z)

theorem all_known {l : PySem.W.OpenLaw} {w : World} {K : PySem.W.Frag} {h : Heap} {mg : Str → Option Value} {fa : Addr} (X : K.In h) (G : h.Ns mainGlobals mg) (hfa : mg "law" = some (.ref fa))
    {flp : Addr} {oclp kVlp dclp pmlp ctlp cdlp : Value} {odlp anlp : Option Addr} {sllp : Array (Option Value)}
    {fld : Addr} {ocld kVld dcld pmld ctld cdld : Value} {odld anld : Option Addr} {slld : Array (Option Value)}
    {flk : Addr} {oclk kVlk dclk pmlk ctlk cdlk : Value} {odlk anlk : Option Addr} {sllk : Array (Option Value)}
    {flv : Addr} {oclv kVlv dclv pmlv ctlv cdlv : Value} {odlv anlv : Option Addr} {sllv : Array (Option Value)}
    {flm : Addr} {oclm kVlm dclm pmlm ctlm : Value} {odlm anlm : Option Addr} {sllm : Array (Option Value)}
    {c1 B1 : Addr} {oc_c1 : Value} {od_c1 : Option Addr} {us_c1 : Array Value} {sl_c1 : Array (Option Value)}
    {fla : Addr} {ocla kVla dcla pmla ctla cdla : Value} {odla anla : Option Addr} {slla : Array (Option Value)}
    {Pa De fNo : Addr}
    {Ac0 If0 Qf0 : Addr} {oI0 vI0 dI0 pI0 cI0 tI0 oQ0 vQ0 dQ0 pQ0 cQ0 tQ0 : Value} {sI0 nI0 sQ0 nQ0 : Option Addr} {slI0 slQ0 : Array (Option Value)}
    {Ac1 If1 Qf1 : Addr} {oI1 vI1 dI1 pI1 cI1 tI1 oQ1 vQ1 dQ1 pQ1 cQ1 tQ1 : Value} {sI1 nI1 sQ1 nQ1 : Option Addr} {slI1 slQ1 : Array (Option Value)}
    {Ac2 If2 Qf2 : Addr} {oI2 vI2 dI2 pI2 cI2 tI2 oQ2 vQ2 dQ2 pQ2 cQ2 tQ2 : Value} {sI2 nI2 sQ2 nQ2 : Option Addr} {slI2 slQ2 : Array (Option Value)}
    {Ac3 If3 Qf3 : Addr} {oI3 vI3 dI3 pI3 cI3 tI3 oQ3 vQ3 dQ3 pQ3 cQ3 tQ3 : Value} {sI3 nI3 sQ3 nQ3 : Option Addr} {slI3 slQ3 : Array (Option Value)}
    {Ac4 If4 Qf4 : Addr} {oI4 vI4 dI4 pI4 cI4 tI4 oQ4 vQ4 dQ4 pQ4 cQ4 tQ4 : Value} {sI4 nI4 sQ4 nQ4 : Option Addr} {slI4 slQ4 : Array (Option Value)}
    {Ac5 If5 Qf5 : Addr} {oI5 vI5 dI5 pI5 cI5 tI5 oQ5 vQ5 dQ5 pQ5 cQ5 tQ5 : Value} {sI5 nI5 sQ5 nQ5 : Option Addr} {slI5 slQ5 : Array (Option Value)}
    {Ac6 If6 Qf6 : Addr} {oI6 vI6 dI6 pI6 cI6 tI6 oQ6 vQ6 dQ6 pQ6 cQ6 tQ6 : Value} {sI6 nI6 sQ6 nQ6 : Option Addr} {slI6 slQ6 : Array (Option Value)}
    {Ac7 If7 Qf7 : Addr} {oI7 vI7 dI7 pI7 cI7 tI7 oQ7 vQ7 dQ7 pQ7 cQ7 tQ7 : Value} {sI7 nI7 sQ7 nQ7 : Option Addr} {slI7 slQ7 : Array (Option Value)}
    {Ac8 If8 Qf8 : Addr} {oI8 vI8 dI8 pI8 cI8 tI8 oQ8 vQ8 dQ8 pQ8 cQ8 tQ8 : Value} {sI8 nI8 sQ8 nQ8 : Option Addr} {slI8 slQ8 : Array (Option Value)}
    {Ac9 If9 Qf9 : Addr} {oI9 vI9 dI9 pI9 cI9 tI9 oQ9 vQ9 dQ9 pQ9 cQ9 tQ9 : Value} {sI9 nI9 sQ9 nQ9 : Option Addr} {slI9 slQ9 : Array (Option Value)}
    {Ac10 If10 Qf10 : Addr} {oI10 vI10 dI10 pI10 cI10 tI10 oQ10 vQ10 dQ10 pQ10 cQ10 tQ10 : Value} {sI10 nI10 sQ10 nQ10 : Option Addr} {slI10 slQ10 : Array (Option Value)}
    {Ac11 If11 Qf11 : Addr} {oI11 vI11 dI11 pI11 cI11 tI11 oQ11 vQ11 dQ11 pQ11 cQ11 tQ11 : Value} {sI11 nI11 sQ11 nQ11 : Option Addr} {slI11 slQ11 : Array (Option Value)}
    {Ac12 If12 Qf12 : Addr} {oI12 vI12 dI12 pI12 cI12 tI12 oQ12 vQ12 dQ12 pQ12 cQ12 tQ12 : Value} {sI12 nI12 sQ12 nQ12 : Option Addr} {slI12 slQ12 : Array (Option Value)}
    {Ac13 If13 Qf13 : Addr} {oI13 vI13 dI13 pI13 cI13 tI13 oQ13 vQ13 dQ13 pQ13 cQ13 tQ13 : Value} {sI13 nI13 sQ13 nQ13 : Option Addr} {slI13 slQ13 : Array (Option Value)}
    {Ac14 If14 Qf14 : Addr} {oI14 vI14 dI14 pI14 cI14 tI14 oQ14 vQ14 dQ14 pQ14 cQ14 tQ14 : Value} {sI14 nI14 sQ14 nQ14 : Option Addr} {slI14 slQ14 : Array (Option Value)}
    {Ac15 If15 Qf15 : Addr} {oI15 vI15 dI15 pI15 cI15 tI15 oQ15 vQ15 dQ15 pQ15 cQ15 tQ15 : Value} {sI15 nI15 sQ15 nQ15 : Option Addr} {slI15 slQ15 : Array (Option Value)}
    {Ac16 If16 Qf16 : Addr} {oI16 vI16 dI16 pI16 cI16 tI16 oQ16 vQ16 dQ16 pQ16 cQ16 tQ16 : Value} {sI16 nI16 sQ16 nQ16 : Option Addr} {slI16 slQ16 : Array (Option Value)}
    {Ac17 If17 Qf17 : Addr} {oI17 vI17 dI17 pI17 cI17 tI17 oQ17 vQ17 dQ17 pQ17 cQ17 tQ17 : Value} {sI17 nI17 sQ17 nQ17 : Option Addr} {slI17 slQ17 : Array (Option Value)}
    {Ac18 If18 Qf18 : Addr} {oI18 vI18 dI18 pI18 cI18 tI18 oQ18 vQ18 dQ18 pQ18 cQ18 tQ18 : Value} {sI18 nI18 sQ18 nQ18 : Option Addr} {slI18 slQ18 : Array (Option Value)}
    {Ac19 If19 Qf19 : Addr} {oI19 vI19 dI19 pI19 cI19 tI19 oQ19 vQ19 dQ19 pQ19 cQ19 tQ19 : Value} {sI19 nI19 sQ19 nQ19 : Option Addr} {slI19 slQ19 : Array (Option Value)}
    {Ac20 If20 Qf20 : Addr} {oI20 vI20 dI20 pI20 cI20 tI20 oQ20 vQ20 dQ20 pQ20 cQ20 tQ20 : Value} {sI20 nI20 sQ20 nQ20 : Option Addr} {slI20 slQ20 : Array (Option Value)}
    {Ac21 If21 Qf21 : Addr} {oI21 vI21 dI21 pI21 cI21 tI21 oQ21 vQ21 dQ21 pQ21 cQ21 tQ21 : Value} {sI21 nI21 sQ21 nQ21 : Option Addr} {slI21 slQ21 : Array (Option Value)}
    {Ac22 If22 Qf22 : Addr} {oI22 vI22 dI22 pI22 cI22 tI22 oQ22 vQ22 dQ22 pQ22 cQ22 tQ22 : Value} {sI22 nI22 sQ22 nQ22 : Option Addr} {slI22 slQ22 : Array (Option Value)}
    {Ac23 If23 Qf23 : Addr} {oI23 vI23 dI23 pI23 cI23 tI23 oQ23 vQ23 dQ23 pQ23 cQ23 tQ23 : Value} {sI23 nI23 sQ23 nQ23 : Option Addr} {slI23 slQ23 : Array (Option Value)}
    {Ac24 If24 Qf24 : Addr} {oI24 vI24 dI24 pI24 cI24 tI24 oQ24 vQ24 dQ24 pQ24 cQ24 tQ24 : Value} {sI24 nI24 sQ24 nQ24 : Option Addr} {slI24 slQ24 : Array (Option Value)}
    {Ac25 If25 Qf25 : Addr} {oI25 vI25 dI25 pI25 cI25 tI25 oQ25 vQ25 dQ25 pQ25 cQ25 tQ25 : Value} {sI25 nI25 sQ25 nQ25 : Option Addr} {slI25 slQ25 : Array (Option Value)}
    {Ac26 If26 Qf26 : Addr} {oI26 vI26 dI26 pI26 cI26 tI26 oQ26 vQ26 dQ26 pQ26 cQ26 tQ26 : Value} {sI26 nI26 sQ26 nQ26 : Option Addr} {slI26 slQ26 : Array (Option Value)}
    {oN vN dN pN cN tN : Value} {sN nN : Option Addr} {slN : Array (Option Value)}
    (alp : PySem.W.nsIn K mainGlobals "_law_pen" = some (some (.ref flp)))
    (llp : K.lookup flp = some ⟨oclp, odlp, .func (PySem.W.fnOf "_law_pen" "_law_pen" (C8.fnArgs sPen) (C8.fnBody sPen) (C8.fnScope sPen) .none kVlp dclp pmlp anlp cdlp ctlp), sllp⟩)
    (clp : PySem.W.codeIn K cdlp "_law_pen" = true)
    (klp : PySem.W.keepIn K (.ref flp) = true)
    (ald : PySem.W.nsIn K mainGlobals "_law_draw" = some (some (.ref fld)))
    (lld : K.lookup fld = some ⟨ocld, odld, .func (PySem.W.fnOf "_law_draw" "_law_draw" (C8.fnArgs sDraw) (C8.fnBody sDraw) (C8.fnScope sDraw) .none kVld dcld pmld anld cdld ctld), slld⟩)
    (cld : PySem.W.codeIn K cdld "_law_draw" = true)
    (kld : PySem.W.keepIn K (.ref fld) = true)
    (alk : PySem.W.nsIn K mainGlobals "_law_pick" = some (some (.ref flk)))
    (llk : K.lookup flk = some ⟨oclk, odlk, .func (PySem.W.fnOf "_law_pick" "_law_pick" (C8.fnArgs sPick) (C8.fnBody sPick) (C8.fnScope sPick) .none kVlk dclk pmlk anlk cdlk ctlk), sllk⟩)
    (clk : PySem.W.codeIn K cdlk "_law_pick" = true)
    (klk : PySem.W.keepIn K (.ref flk) = true)
    (alv : PySem.W.nsIn K mainGlobals "_law_value" = some (some (.ref flv)))
    (llv : K.lookup flv = some ⟨oclv, odlv, .func (PySem.W.fnOf "_law_value" "_law_value" (C8.fnArgs sVal) (C8.fnBody sVal) (C8.fnScope sVal) .none kVlv dclv pmlv anlv cdlv ctlv), sllv⟩)
    (clv : PySem.W.codeIn K cdlv "_law_value" = true)
    (klv : PySem.W.keepIn K (.ref flv) = true)
    (alm : PySem.W.nsIn K mainGlobals "_law_made" = some (some (.ref flm)))
    (llm : K.lookup flm = some ⟨oclm, odlm, .func (PySem.W.fnOf "_law_made" "_law_made" (C8.fnArgs sMade) (C8.fnBody sMade) (C8.fnScope sMade) .none kVlm dclm pmlm anlm (.ref c1) ctlm), sllm⟩)
    (clm : PySem.W.codeIn K (.ref c1) "_law_made" = true)
    (klm : PySem.W.keepIn K (.ref flm) = true)
    (ltlm : K.lookup c1 = some ⟨oc_c1, od_c1, .fields us_c1, sl_c1⟩)
    (vtlm : us_c1[11]? = some (.ref B1))
    (ntlm : K.lookup B1 = none)
    (ala : PySem.W.nsIn K mainGlobals "law" = some (some (.ref fla)))
    (lla : K.lookup fla = some ⟨ocla, odla, .func (PySem.W.fnOf "law" "law" (C8.fnArgs sLaw) (C8.fnBody sLaw) (C8.fnScope sLaw) .none kVla dcla pmla anla cdla ctla), slla⟩)
    (cla : PySem.W.codeIn K cdla "law" = true)
    (kla : PySem.W.keepIn K (.ref fla) = true)
    (gP : PySem.W.nsIn K mainGlobals "Paper" = some (some (.ref Pa)))
    (gD : PySem.W.nsIn K mainGlobals "Denial" = some (some (.ref De)))
    (g0q : PySem.W.nsIn K mainGlobals "Fewest" = some (some (.ref Ac0)))
    (i0q : PySem.W.findIn K (.ref Ac0) "__init__" = some (some (.ref If0)))
    (j0q : PySem.W.findIn K (.ref Ac0) "__eq__" = some (some (.ref Qf0)))
    (l0q : K.lookup If0 = some ⟨oI0, sI0, .func (PySem.W.fnOf "__init__" "Fewest.__init__" (C8.fnArgs sIFewest) (C8.fnBody sIFewest) (C8.fnScope sIFewest) .none vI0 dI0 pI0 nI0 cI0 tI0), slI0⟩)
    (d0q : PySem.W.codeIn K cI0 "Fewest.__init__" = true)
    (m0q : K.lookup Qf0 = some ⟨oQ0, sQ0, .func (PySem.W.fnOf "__eq__" "Fewest.__eq__" (C8.fnArgs sEFewest) (C8.fnBody sEFewest) (C8.fnScope sEFewest) .none vQ0 dQ0 pQ0 nQ0 cQ0 tQ0), slQ0⟩)
    (n0q : PySem.W.codeIn K cQ0 "Fewest.__eq__" = true)
    (g1q : PySem.W.nsIn K mainGlobals "NoList" = some (some (.ref Ac1)))
    (i1q : PySem.W.findIn K (.ref Ac1) "__init__" = some (some (.ref If1)))
    (j1q : PySem.W.findIn K (.ref Ac1) "__eq__" = some (some (.ref Qf1)))
    (l1q : K.lookup If1 = some ⟨oI1, sI1, .func (PySem.W.fnOf "__init__" "NoList.__init__" (C8.fnArgs sINoList) (C8.fnBody sINoList) (C8.fnScope sINoList) .none vI1 dI1 pI1 nI1 cI1 tI1), slI1⟩)
    (d1q : PySem.W.codeIn K cI1 "NoList.__init__" = true)
    (m1q : K.lookup Qf1 = some ⟨oQ1, sQ1, .func (PySem.W.fnOf "__eq__" "NoList.__eq__" (C8.fnArgs sENoList) (C8.fnBody sENoList) (C8.fnScope sENoList) .none vQ1 dQ1 pQ1 nQ1 cQ1 tQ1), slQ1⟩)
    (n1q : PySem.W.codeIn K cQ1 "NoList.__eq__" = true)
    (g2q : PySem.W.nsIn K mainGlobals "Greatest" = some (some (.ref Ac2)))
    (i2q : PySem.W.findIn K (.ref Ac2) "__init__" = some (some (.ref If2)))
    (j2q : PySem.W.findIn K (.ref Ac2) "__eq__" = some (some (.ref Qf2)))
    (l2q : K.lookup If2 = some ⟨oI2, sI2, .func (PySem.W.fnOf "__init__" "Greatest.__init__" (C8.fnArgs sIGreatest) (C8.fnBody sIGreatest) (C8.fnScope sIGreatest) .none vI2 dI2 pI2 nI2 cI2 tI2), slI2⟩)
    (d2q : PySem.W.codeIn K cI2 "Greatest.__init__" = true)
    (m2q : K.lookup Qf2 = some ⟨oQ2, sQ2, .func (PySem.W.fnOf "__eq__" "Greatest.__eq__" (C8.fnArgs sEGreatest) (C8.fnBody sEGreatest) (C8.fnScope sEGreatest) .none vQ2 dQ2 pQ2 nQ2 cQ2 tQ2), slQ2⟩)
    (n2q : PySem.W.codeIn K cQ2 "Greatest.__eq__" = true)
    (g3q : PySem.W.nsIn K mainGlobals "Least" = some (some (.ref Ac3)))
    (i3q : PySem.W.findIn K (.ref Ac3) "__init__" = some (some (.ref If3)))
    (j3q : PySem.W.findIn K (.ref Ac3) "__eq__" = some (some (.ref Qf3)))
    (l3q : K.lookup If3 = some ⟨oI3, sI3, .func (PySem.W.fnOf "__init__" "Least.__init__" (C8.fnArgs sILeast) (C8.fnBody sILeast) (C8.fnScope sILeast) .none vI3 dI3 pI3 nI3 cI3 tI3), slI3⟩)
    (d3q : PySem.W.codeIn K cI3 "Least.__init__" = true)
    (m3q : K.lookup Qf3 = some ⟨oQ3, sQ3, .func (PySem.W.fnOf "__eq__" "Least.__eq__" (C8.fnArgs sELeast) (C8.fnBody sELeast) (C8.fnScope sELeast) .none vQ3 dQ3 pQ3 nQ3 cQ3 tQ3), slQ3⟩)
    (n3q : PySem.W.codeIn K cQ3 "Least.__eq__" = true)
    (g4q : PySem.W.nsIn K mainGlobals "BatchBound" = some (some (.ref Ac4)))
    (i4q : PySem.W.findIn K (.ref Ac4) "__init__" = some (some (.ref If4)))
    (j4q : PySem.W.findIn K (.ref Ac4) "__eq__" = some (some (.ref Qf4)))
    (l4q : K.lookup If4 = some ⟨oI4, sI4, .func (PySem.W.fnOf "__init__" "BatchBound.__init__" (C8.fnArgs sIBatchBound) (C8.fnBody sIBatchBound) (C8.fnScope sIBatchBound) .none vI4 dI4 pI4 nI4 cI4 tI4), slI4⟩)
    (d4q : PySem.W.codeIn K cI4 "BatchBound.__init__" = true)
    (m4q : K.lookup Qf4 = some ⟨oQ4, sQ4, .func (PySem.W.fnOf "__eq__" "BatchBound.__eq__" (C8.fnArgs sEBatchBound) (C8.fnBody sEBatchBound) (C8.fnScope sEBatchBound) .none vQ4 dQ4 pQ4 nQ4 cQ4 tQ4), slQ4⟩)
    (n4q : PySem.W.codeIn K cQ4 "BatchBound.__eq__" = true)
    (g5q : PySem.W.nsIn K mainGlobals "BatchEndless" = some (some (.ref Ac5)))
    (i5q : PySem.W.findIn K (.ref Ac5) "__init__" = some (some (.ref If5)))
    (j5q : PySem.W.findIn K (.ref Ac5) "__eq__" = some (some (.ref Qf5)))
    (l5q : K.lookup If5 = some ⟨oI5, sI5, .func (PySem.W.fnOf "__init__" "BatchEndless.__init__" (C8.fnArgs sIBatchEndless) (C8.fnBody sIBatchEndless) (C8.fnScope sIBatchEndless) .none vI5 dI5 pI5 nI5 cI5 tI5), slI5⟩)
    (d5q : PySem.W.codeIn K cI5 "BatchEndless.__init__" = true)
    (m5q : K.lookup Qf5 = some ⟨oQ5, sQ5, .func (PySem.W.fnOf "__eq__" "BatchEndless.__eq__" (C8.fnArgs sEBatchEndless) (C8.fnBody sEBatchEndless) (C8.fnScope sEBatchEndless) .none vQ5 dQ5 pQ5 nQ5 cQ5 tQ5), slQ5⟩)
    (n5q : PySem.W.codeIn K cQ5 "BatchEndless.__eq__" = true)
    (g6q : PySem.W.nsIn K mainGlobals "NeverLess" = some (some (.ref Ac6)))
    (i6q : PySem.W.findIn K (.ref Ac6) "__init__" = some (some (.ref If6)))
    (j6q : PySem.W.findIn K (.ref Ac6) "__eq__" = some (some (.ref Qf6)))
    (l6q : K.lookup If6 = some ⟨oI6, sI6, .func (PySem.W.fnOf "__init__" "NeverLess.__init__" (C8.fnArgs sINeverLess) (C8.fnBody sINeverLess) (C8.fnScope sINeverLess) .none vI6 dI6 pI6 nI6 cI6 tI6), slI6⟩)
    (d6q : PySem.W.codeIn K cI6 "NeverLess.__init__" = true)
    (m6q : K.lookup Qf6 = some ⟨oQ6, sQ6, .func (PySem.W.fnOf "__eq__" "NeverLess.__eq__" (C8.fnArgs sENeverLess) (C8.fnBody sENeverLess) (C8.fnScope sENeverLess) .none vQ6 dQ6 pQ6 nQ6 cQ6 tQ6), slQ6⟩)
    (n6q : PySem.W.codeIn K cQ6 "NeverLess.__eq__" = true)
    (g7q : PySem.W.nsIn K mainGlobals "Steady" = some (some (.ref Ac7)))
    (i7q : PySem.W.findIn K (.ref Ac7) "__init__" = some (some (.ref If7)))
    (j7q : PySem.W.findIn K (.ref Ac7) "__eq__" = some (some (.ref Qf7)))
    (l7q : K.lookup If7 = some ⟨oI7, sI7, .func (PySem.W.fnOf "__init__" "Steady.__init__" (C8.fnArgs sISteady) (C8.fnBody sISteady) (C8.fnScope sISteady) .none vI7 dI7 pI7 nI7 cI7 tI7), slI7⟩)
    (d7q : PySem.W.codeIn K cI7 "Steady.__init__" = true)
    (m7q : K.lookup Qf7 = some ⟨oQ7, sQ7, .func (PySem.W.fnOf "__eq__" "Steady.__eq__" (C8.fnArgs sESteady) (C8.fnBody sESteady) (C8.fnScope sESteady) .none vQ7 dQ7 pQ7 nQ7 cQ7 tQ7), slQ7⟩)
    (n7q : PySem.W.codeIn K cQ7 "Steady.__eq__" = true)
    (g8q : PySem.W.nsIn K mainGlobals "Same" = some (some (.ref Ac8)))
    (i8q : PySem.W.findIn K (.ref Ac8) "__init__" = some (some (.ref If8)))
    (j8q : PySem.W.findIn K (.ref Ac8) "__eq__" = some (some (.ref Qf8)))
    (l8q : K.lookup If8 = some ⟨oI8, sI8, .func (PySem.W.fnOf "__init__" "Same.__init__" (C8.fnArgs sISame) (C8.fnBody sISame) (C8.fnScope sISame) .none vI8 dI8 pI8 nI8 cI8 tI8), slI8⟩)
    (d8q : PySem.W.codeIn K cI8 "Same.__init__" = true)
    (m8q : K.lookup Qf8 = some ⟨oQ8, sQ8, .func (PySem.W.fnOf "__eq__" "Same.__eq__" (C8.fnArgs sESame) (C8.fnBody sESame) (C8.fnScope sESame) .none vQ8 dQ8 pQ8 nQ8 cQ8 tQ8), slQ8⟩)
    (n8q : PySem.W.codeIn K cQ8 "Same.__eq__" = true)
    (g9q : PySem.W.nsIn K mainGlobals "Surely" = some (some (.ref Ac9)))
    (i9q : PySem.W.findIn K (.ref Ac9) "__init__" = some (some (.ref If9)))
    (j9q : PySem.W.findIn K (.ref Ac9) "__eq__" = some (some (.ref Qf9)))
    (l9q : K.lookup If9 = some ⟨oI9, sI9, .func (PySem.W.fnOf "__init__" "Surely.__init__" (C8.fnArgs sISurely) (C8.fnBody sISurely) (C8.fnScope sISurely) .none vI9 dI9 pI9 nI9 cI9 tI9), slI9⟩)
    (d9q : PySem.W.codeIn K cI9 "Surely.__init__" = true)
    (m9q : K.lookup Qf9 = some ⟨oQ9, sQ9, .func (PySem.W.fnOf "__eq__" "Surely.__eq__" (C8.fnArgs sESurely) (C8.fnBody sESurely) (C8.fnScope sESurely) .none vQ9 dQ9 pQ9 nQ9 cQ9 tQ9), slQ9⟩)
    (n9q : PySem.W.codeIn K cQ9 "Surely.__eq__" = true)
    (g10q : PySem.W.nsIn K mainGlobals "Less" = some (some (.ref Ac10)))
    (i10q : PySem.W.findIn K (.ref Ac10) "__init__" = some (some (.ref If10)))
    (j10q : PySem.W.findIn K (.ref Ac10) "__eq__" = some (some (.ref Qf10)))
    (l10q : K.lookup If10 = some ⟨oI10, sI10, .func (PySem.W.fnOf "__init__" "Less.__init__" (C8.fnArgs sILess) (C8.fnBody sILess) (C8.fnScope sILess) .none vI10 dI10 pI10 nI10 cI10 tI10), slI10⟩)
    (d10q : PySem.W.codeIn K cI10 "Less.__init__" = true)
    (m10q : K.lookup Qf10 = some ⟨oQ10, sQ10, .func (PySem.W.fnOf "__eq__" "Less.__eq__" (C8.fnArgs sELess) (C8.fnBody sELess) (C8.fnScope sELess) .none vQ10 dQ10 pQ10 nQ10 cQ10 tQ10), slQ10⟩)
    (n10q : PySem.W.codeIn K cQ10 "Less.__eq__" = true)
    (g11q : PySem.W.nsIn K mainGlobals "Jump" = some (some (.ref Ac11)))
    (i11q : PySem.W.findIn K (.ref Ac11) "__init__" = some (some (.ref If11)))
    (j11q : PySem.W.findIn K (.ref Ac11) "__eq__" = some (some (.ref Qf11)))
    (l11q : K.lookup If11 = some ⟨oI11, sI11, .func (PySem.W.fnOf "__init__" "Jump.__init__" (C8.fnArgs sIJump) (C8.fnBody sIJump) (C8.fnScope sIJump) .none vI11 dI11 pI11 nI11 cI11 tI11), slI11⟩)
    (d11q : PySem.W.codeIn K cI11 "Jump.__init__" = true)
    (m11q : K.lookup Qf11 = some ⟨oQ11, sQ11, .func (PySem.W.fnOf "__eq__" "Jump.__eq__" (C8.fnArgs sEJump) (C8.fnBody sEJump) (C8.fnScope sEJump) .none vQ11 dQ11 pQ11 nQ11 cQ11 tQ11), slQ11⟩)
    (n11q : PySem.W.codeIn K cQ11 "Jump.__eq__" = true)
    (g12q : PySem.W.nsIn K mainGlobals "Other" = some (some (.ref Ac12)))
    (i12q : PySem.W.findIn K (.ref Ac12) "__init__" = some (some (.ref If12)))
    (j12q : PySem.W.findIn K (.ref Ac12) "__eq__" = some (some (.ref Qf12)))
    (l12q : K.lookup If12 = some ⟨oI12, sI12, .func (PySem.W.fnOf "__init__" "Other.__init__" (C8.fnArgs sIOther) (C8.fnBody sIOther) (C8.fnScope sIOther) .none vI12 dI12 pI12 nI12 cI12 tI12), slI12⟩)
    (d12q : PySem.W.codeIn K cI12 "Other.__init__" = true)
    (m12q : K.lookup Qf12 = some ⟨oQ12, sQ12, .func (PySem.W.fnOf "__eq__" "Other.__eq__" (C8.fnArgs sEOther) (C8.fnBody sEOther) (C8.fnScope sEOther) .none vQ12 dQ12 pQ12 nQ12 cQ12 tQ12), slQ12⟩)
    (n12q : PySem.W.codeIn K cQ12 "Other.__eq__" = true)
    (g13q : PySem.W.nsIn K mainGlobals "Counter" = some (some (.ref Ac13)))
    (i13q : PySem.W.findIn K (.ref Ac13) "__init__" = some (some (.ref If13)))
    (j13q : PySem.W.findIn K (.ref Ac13) "__eq__" = some (some (.ref Qf13)))
    (l13q : K.lookup If13 = some ⟨oI13, sI13, .func (PySem.W.fnOf "__init__" "Counter.__init__" (C8.fnArgs sICounter) (C8.fnBody sICounter) (C8.fnScope sICounter) .none vI13 dI13 pI13 nI13 cI13 tI13), slI13⟩)
    (d13q : PySem.W.codeIn K cI13 "Counter.__init__" = true)
    (m13q : K.lookup Qf13 = some ⟨oQ13, sQ13, .func (PySem.W.fnOf "__eq__" "Counter.__eq__" (C8.fnArgs sECounter) (C8.fnBody sECounter) (C8.fnScope sECounter) .none vQ13 dQ13 pQ13 nQ13 cQ13 tQ13), slQ13⟩)
    (n13q : PySem.W.codeIn K cQ13 "Counter.__eq__" = true)
    (g14q : PySem.W.nsIn K mainGlobals "Undecided" = some (some (.ref Ac14)))
    (i14q : PySem.W.findIn K (.ref Ac14) "__init__" = some (some (.ref If14)))
    (j14q : PySem.W.findIn K (.ref Ac14) "__eq__" = some (some (.ref Qf14)))
    (l14q : K.lookup If14 = some ⟨oI14, sI14, .func (PySem.W.fnOf "__init__" "Undecided.__init__" (C8.fnArgs sIUndecided) (C8.fnBody sIUndecided) (C8.fnScope sIUndecided) .none vI14 dI14 pI14 nI14 cI14 tI14), slI14⟩)
    (d14q : PySem.W.codeIn K cI14 "Undecided.__init__" = true)
    (m14q : K.lookup Qf14 = some ⟨oQ14, sQ14, .func (PySem.W.fnOf "__eq__" "Undecided.__eq__" (C8.fnArgs sEUndecided) (C8.fnBody sEUndecided) (C8.fnScope sEUndecided) .none vQ14 dQ14 pQ14 nQ14 cQ14 tQ14), slQ14⟩)
    (n14q : PySem.W.codeIn K cQ14 "Undecided.__eq__" = true)
    (g15q : PySem.W.nsIn K mainGlobals "Bound" = some (some (.ref Ac15)))
    (i15q : PySem.W.findIn K (.ref Ac15) "__init__" = some (some (.ref If15)))
    (j15q : PySem.W.findIn K (.ref Ac15) "__eq__" = some (some (.ref Qf15)))
    (l15q : K.lookup If15 = some ⟨oI15, sI15, .func (PySem.W.fnOf "__init__" "Bound.__init__" (C8.fnArgs sIBound) (C8.fnBody sIBound) (C8.fnScope sIBound) .none vI15 dI15 pI15 nI15 cI15 tI15), slI15⟩)
    (d15q : PySem.W.codeIn K cI15 "Bound.__init__" = true)
    (m15q : K.lookup Qf15 = some ⟨oQ15, sQ15, .func (PySem.W.fnOf "__eq__" "Bound.__eq__" (C8.fnArgs sEBound) (C8.fnBody sEBound) (C8.fnScope sEBound) .none vQ15 dQ15 pQ15 nQ15 cQ15 tQ15), slQ15⟩)
    (n15q : PySem.W.codeIn K cQ15 "Bound.__eq__" = true)
    (g16q : PySem.W.nsIn K mainGlobals "Endless" = some (some (.ref Ac16)))
    (i16q : PySem.W.findIn K (.ref Ac16) "__init__" = some (some (.ref If16)))
    (j16q : PySem.W.findIn K (.ref Ac16) "__eq__" = some (some (.ref Qf16)))
    (l16q : K.lookup If16 = some ⟨oI16, sI16, .func (PySem.W.fnOf "__init__" "Endless.__init__" (C8.fnArgs sIEndless) (C8.fnBody sIEndless) (C8.fnScope sIEndless) .none vI16 dI16 pI16 nI16 cI16 tI16), slI16⟩)
    (d16q : PySem.W.codeIn K cI16 "Endless.__init__" = true)
    (m16q : K.lookup Qf16 = some ⟨oQ16, sQ16, .func (PySem.W.fnOf "__eq__" "Endless.__eq__" (C8.fnArgs sEEndless) (C8.fnBody sEEndless) (C8.fnScope sEEndless) .none vQ16 dQ16 pQ16 nQ16 cQ16 tQ16), slQ16⟩)
    (n16q : PySem.W.codeIn K cQ16 "Endless.__eq__" = true)
    (g17q : PySem.W.nsIn K mainGlobals "Within" = some (some (.ref Ac17)))
    (i17q : PySem.W.findIn K (.ref Ac17) "__init__" = some (some (.ref If17)))
    (j17q : PySem.W.findIn K (.ref Ac17) "__eq__" = some (some (.ref Qf17)))
    (l17q : K.lookup If17 = some ⟨oI17, sI17, .func (PySem.W.fnOf "__init__" "Within.__init__" (C8.fnArgs sIWithin) (C8.fnBody sIWithin) (C8.fnScope sIWithin) .none vI17 dI17 pI17 nI17 cI17 tI17), slI17⟩)
    (d17q : PySem.W.codeIn K cI17 "Within.__init__" = true)
    (m17q : K.lookup Qf17 = some ⟨oQ17, sQ17, .func (PySem.W.fnOf "__eq__" "Within.__eq__" (C8.fnArgs sEWithin) (C8.fnBody sEWithin) (C8.fnScope sEWithin) .none vQ17 dQ17 pQ17 nQ17 cQ17 tQ17), slQ17⟩)
    (n17q : PySem.W.codeIn K cQ17 "Within.__eq__" = true)
    (g18q : PySem.W.nsIn K mainGlobals "Beyond" = some (some (.ref Ac18)))
    (i18q : PySem.W.findIn K (.ref Ac18) "__init__" = some (some (.ref If18)))
    (j18q : PySem.W.findIn K (.ref Ac18) "__eq__" = some (some (.ref Qf18)))
    (l18q : K.lookup If18 = some ⟨oI18, sI18, .func (PySem.W.fnOf "__init__" "Beyond.__init__" (C8.fnArgs sIBeyond) (C8.fnBody sIBeyond) (C8.fnScope sIBeyond) .none vI18 dI18 pI18 nI18 cI18 tI18), slI18⟩)
    (d18q : PySem.W.codeIn K cI18 "Beyond.__init__" = true)
    (m18q : K.lookup Qf18 = some ⟨oQ18, sQ18, .func (PySem.W.fnOf "__eq__" "Beyond.__eq__" (C8.fnArgs sEBeyond) (C8.fnBody sEBeyond) (C8.fnScope sEBeyond) .none vQ18 dQ18 pQ18 nQ18 cQ18 tQ18), slQ18⟩)
    (n18q : PySem.W.codeIn K cQ18 "Beyond.__eq__" = true)
    (g19q : PySem.W.nsIn K mainGlobals "Latest" = some (some (.ref Ac19)))
    (i19q : PySem.W.findIn K (.ref Ac19) "__init__" = some (some (.ref If19)))
    (j19q : PySem.W.findIn K (.ref Ac19) "__eq__" = some (some (.ref Qf19)))
    (l19q : K.lookup If19 = some ⟨oI19, sI19, .func (PySem.W.fnOf "__init__" "Latest.__init__" (C8.fnArgs sILatest) (C8.fnBody sILatest) (C8.fnScope sILatest) .none vI19 dI19 pI19 nI19 cI19 tI19), slI19⟩)
    (d19q : PySem.W.codeIn K cI19 "Latest.__init__" = true)
    (m19q : K.lookup Qf19 = some ⟨oQ19, sQ19, .func (PySem.W.fnOf "__eq__" "Latest.__eq__" (C8.fnArgs sELatest) (C8.fnBody sELatest) (C8.fnScope sELatest) .none vQ19 dQ19 pQ19 nQ19 cQ19 tQ19), slQ19⟩)
    (n19q : PySem.W.codeIn K cQ19 "Latest.__eq__" = true)
    (g20q : PySem.W.nsIn K mainGlobals "Taking" = some (some (.ref Ac20)))
    (i20q : PySem.W.findIn K (.ref Ac20) "__init__" = some (some (.ref If20)))
    (j20q : PySem.W.findIn K (.ref Ac20) "__eq__" = some (some (.ref Qf20)))
    (l20q : K.lookup If20 = some ⟨oI20, sI20, .func (PySem.W.fnOf "__init__" "Taking.__init__" (C8.fnArgs sITaking) (C8.fnBody sITaking) (C8.fnScope sITaking) .none vI20 dI20 pI20 nI20 cI20 tI20), slI20⟩)
    (d20q : PySem.W.codeIn K cI20 "Taking.__init__" = true)
    (m20q : K.lookup Qf20 = some ⟨oQ20, sQ20, .func (PySem.W.fnOf "__eq__" "Taking.__eq__" (C8.fnArgs sETaking) (C8.fnBody sETaking) (C8.fnScope sETaking) .none vQ20 dQ20 pQ20 nQ20 cQ20 tQ20), slQ20⟩)
    (n20q : PySem.W.codeIn K cQ20 "Taking.__eq__" = true)
    (g21q : PySem.W.nsIn K mainGlobals "Fits" = some (some (.ref Ac21)))
    (i21q : PySem.W.findIn K (.ref Ac21) "__init__" = some (some (.ref If21)))
    (j21q : PySem.W.findIn K (.ref Ac21) "__eq__" = some (some (.ref Qf21)))
    (l21q : K.lookup If21 = some ⟨oI21, sI21, .func (PySem.W.fnOf "__init__" "Fits.__init__" (C8.fnArgs sIFits) (C8.fnBody sIFits) (C8.fnScope sIFits) .none vI21 dI21 pI21 nI21 cI21 tI21), slI21⟩)
    (d21q : PySem.W.codeIn K cI21 "Fits.__init__" = true)
    (m21q : K.lookup Qf21 = some ⟨oQ21, sQ21, .func (PySem.W.fnOf "__eq__" "Fits.__eq__" (C8.fnArgs sEFits) (C8.fnBody sEFits) (C8.fnScope sEFits) .none vQ21 dQ21 pQ21 nQ21 cQ21 tQ21), slQ21⟩)
    (n21q : PySem.W.codeIn K cQ21 "Fits.__eq__" = true)
    (g22q : PySem.W.nsIn K mainGlobals "Misfit" = some (some (.ref Ac22)))
    (i22q : PySem.W.findIn K (.ref Ac22) "__init__" = some (some (.ref If22)))
    (j22q : PySem.W.findIn K (.ref Ac22) "__eq__" = some (some (.ref Qf22)))
    (l22q : K.lookup If22 = some ⟨oI22, sI22, .func (PySem.W.fnOf "__init__" "Misfit.__init__" (C8.fnArgs sIMisfit) (C8.fnBody sIMisfit) (C8.fnScope sIMisfit) .none vI22 dI22 pI22 nI22 cI22 tI22), slI22⟩)
    (d22q : PySem.W.codeIn K cI22 "Misfit.__init__" = true)
    (m22q : K.lookup Qf22 = some ⟨oQ22, sQ22, .func (PySem.W.fnOf "__eq__" "Misfit.__eq__" (C8.fnArgs sEMisfit) (C8.fnBody sEMisfit) (C8.fnScope sEMisfit) .none vQ22 dQ22 pQ22 nQ22 cQ22 tQ22), slQ22⟩)
    (n22q : PySem.W.codeIn K cQ22 "Misfit.__eq__" = true)
    (g23q : PySem.W.nsIn K mainGlobals "Ring" = some (some (.ref Ac23)))
    (i23q : PySem.W.findIn K (.ref Ac23) "__init__" = some (some (.ref If23)))
    (j23q : PySem.W.findIn K (.ref Ac23) "__eq__" = some (some (.ref Qf23)))
    (l23q : K.lookup If23 = some ⟨oI23, sI23, .func (PySem.W.fnOf "__init__" "Ring.__init__" (C8.fnArgs sIRing) (C8.fnBody sIRing) (C8.fnScope sIRing) .none vI23 dI23 pI23 nI23 cI23 tI23), slI23⟩)
    (d23q : PySem.W.codeIn K cI23 "Ring.__init__" = true)
    (m23q : K.lookup Qf23 = some ⟨oQ23, sQ23, .func (PySem.W.fnOf "__eq__" "Ring.__eq__" (C8.fnArgs sERing) (C8.fnBody sERing) (C8.fnScope sERing) .none vQ23 dQ23 pQ23 nQ23 cQ23 tQ23), slQ23⟩)
    (n23q : PySem.W.codeIn K cQ23 "Ring.__eq__" = true)
    (g24q : PySem.W.nsIn K mainGlobals "Came" = some (some (.ref Ac24)))
    (i24q : PySem.W.findIn K (.ref Ac24) "__init__" = some (some (.ref If24)))
    (j24q : PySem.W.findIn K (.ref Ac24) "__eq__" = some (some (.ref Qf24)))
    (l24q : K.lookup If24 = some ⟨oI24, sI24, .func (PySem.W.fnOf "__init__" "Came.__init__" (C8.fnArgs sICame) (C8.fnBody sICame) (C8.fnScope sICame) .none vI24 dI24 pI24 nI24 cI24 tI24), slI24⟩)
    (d24q : PySem.W.codeIn K cI24 "Came.__init__" = true)
    (m24q : K.lookup Qf24 = some ⟨oQ24, sQ24, .func (PySem.W.fnOf "__eq__" "Came.__eq__" (C8.fnArgs sECame) (C8.fnBody sECame) (C8.fnScope sECame) .none vQ24 dQ24 pQ24 nQ24 cQ24 tQ24), slQ24⟩)
    (n24q : PySem.W.codeIn K cQ24 "Came.__eq__" = true)
    (g25q : PySem.W.nsIn K mainGlobals "BestOrder" = some (some (.ref Ac25)))
    (i25q : PySem.W.findIn K (.ref Ac25) "__init__" = some (some (.ref If25)))
    (j25q : PySem.W.findIn K (.ref Ac25) "__eq__" = some (some (.ref Qf25)))
    (l25q : K.lookup If25 = some ⟨oI25, sI25, .func (PySem.W.fnOf "__init__" "BestOrder.__init__" (C8.fnArgs sIBestOrder) (C8.fnBody sIBestOrder) (C8.fnScope sIBestOrder) .none vI25 dI25 pI25 nI25 cI25 tI25), slI25⟩)
    (d25q : PySem.W.codeIn K cI25 "BestOrder.__init__" = true)
    (m25q : K.lookup Qf25 = some ⟨oQ25, sQ25, .func (PySem.W.fnOf "__eq__" "BestOrder.__eq__" (C8.fnArgs sEBestOrder) (C8.fnBody sEBestOrder) (C8.fnScope sEBestOrder) .none vQ25 dQ25 pQ25 nQ25 cQ25 tQ25), slQ25⟩)
    (n25q : PySem.W.codeIn K cQ25 "BestOrder.__eq__" = true)
    (g26q : PySem.W.nsIn K mainGlobals "PoolTaking" = some (some (.ref Ac26)))
    (i26q : PySem.W.findIn K (.ref Ac26) "__init__" = some (some (.ref If26)))
    (j26q : PySem.W.findIn K (.ref Ac26) "__eq__" = some (some (.ref Qf26)))
    (l26q : K.lookup If26 = some ⟨oI26, sI26, .func (PySem.W.fnOf "__init__" "PoolTaking.__init__" (C8.fnArgs sIPoolTaking) (C8.fnBody sIPoolTaking) (C8.fnScope sIPoolTaking) .none vI26 dI26 pI26 nI26 cI26 tI26), slI26⟩)
    (d26q : PySem.W.codeIn K cI26 "PoolTaking.__init__" = true)
    (m26q : K.lookup Qf26 = some ⟨oQ26, sQ26, .func (PySem.W.fnOf "__eq__" "PoolTaking.__eq__" (C8.fnArgs sEPoolTaking) (C8.fnBody sEPoolTaking) (C8.fnScope sEPoolTaking) .none vQ26 dQ26 pQ26 nQ26 cQ26 tQ26), slQ26⟩)
    (n26q : PySem.W.codeIn K cQ26 "PoolTaking.__eq__" = true)
    (aNo : PySem.W.findIn K (.ref Ac1) "__bool__" = some (some (.ref fNo)))
    (lNo : K.lookup fNo = some ⟨oN, sN, .func (PySem.W.fnOf "__bool__" "Denial.__bool__" (C8.fnArgs sNo) (C8.fnBody sNo) (C8.fnScope sNo) .none vN dN pN nN cN tN), slN⟩)
    (cNo : PySem.W.codeIn K cN "Denial.__bool__" = true)
    (kNo : PySem.W.keepIn K (.ref fNo) = true)
    (iNo : PySem.W.isFn K (.ref fNo) = true)
    (hG : PySem.W.specialIn K (.builtin "object.__class__") "__get__" = some (some (.builtin "getset_descriptor.__get__")))
    (hK : PySem.W.takesIn K (.builtin "object.__class__") = some true)
    (hch : ([(Ac0, If0, Qf0, ["chunks"]), (Ac1, If1, Qf1, ["rests"]), (Ac2, If2, Qf2, ["total", "chunks"]), (Ac3, If3, Qf3, ["limit", "chunks", "below"]), (Ac4, If4, Qf4, ["late", "rest", "spot"]), (Ac5, If5, Qf5, ["spot", "rise"]), (Ac6, If6, Qf6, ["begins"]), (Ac7, If7, Qf7, ["begins"]), (Ac8, If8, Qf8, ["first", "last"]), (Ac9, If9, Qf9, ["never", "steady"]), (Ac10, If10, Qf10, ["rest"]), (Ac11, If11, Qf11, ["rest"]), (Ac12, If12, Qf12, ["rest"]), (Ac13, If13, Qf13, ["total", "counts"]), (Ac14, If14, Qf14, ["upto"]), (Ac15, If15, Qf15, ["late", "rest"]), (Ac16, If16, Qf16, ["residue", "begin"]), (Ac17, If17, Qf17, ["table"]), (Ac18, If18, Qf18, ["rest", "late"]), (Ac19, If19, Qf19, ["late", "at", "world"]), (Ac20, If20, Qf20, ["worker", "at", "begun", "ended"]), (Ac21, If21, Qf21, ["world"]), (Ac22, If22, Qf22, ["at", "why"]), (Ac23, If23, Qf23, ["workers"]), (Ac24, If24, Qf24, ["least", "most"]), (Ac25, If25, Qf25, ["names", "late", "last"]), (Ac26, If26, Qf26, ["loop", "worker", "many", "begun", "ended"])] : List (Addr × Addr × Addr × List Str)).all (fun r => papB K r.1 r.2.1 r.2.2.1 r.2.2.2) = true)
    (hkP : ([Ac0, Ac1, Ac2, Ac3, Ac4, Ac5, Ac6, Ac7, Ac8, Ac9, Ac10, Ac11, Ac12, Ac13, Ac14, Ac15, Ac16, Ac17, Ac18, Ac19, Ac20, Ac21, Ac22, Ac23, Ac24, Ac25, Ac26] : List Addr).all (fun C => decide (PySem.W.kitOne K (.ref C) (.ref Pa) = some true)) = true)
    (hkD : kdB K [Ac0, Ac1, Ac2, Ac3, Ac4, Ac5, Ac6, Ac7, Ac8, Ac9, Ac10, Ac11, Ac12, Ac13, Ac14, Ac15, Ac16, Ac17, Ac18, Ac19, Ac20, Ac21, Ac22, Ac23, Ac24, Ac25, Ac26] De = true)
    (hkN : knB K [Ac0, Ac1, Ac2, Ac3, Ac4, Ac5, Ac6, Ac7, Ac8, Ac9, Ac10, Ac11, Ac12, Ac13, Ac14, Ac15, Ac16, Ac17, Ac18, Ac19, Ac20, Ac21, Ac22, Ac23, Ac24, Ac25, Ac26] = true)
    (hkX : kxB K Ac18 Ac15 = true)
    (htf : tfB K [Ac0, Ac1, Ac2, Ac3, Ac4, Ac5, Ac6, Ac7, Ac8, Ac9, Ac10, Ac11, Ac12, Ac13, Ac14, Ac15, Ac16, Ac17, Ac18, Ac19, Ac20, Ac21, Ac22, Ac23, Ac24, Ac25, Ac26] = true)
    (htt : ttB K [Ac0, Ac1, Ac2, Ac3, Ac4, Ac5, Ac6, Ac7, Ac8, Ac9, Ac10, Ac11, Ac12, Ac13, Ac14, Ac15, Ac16, Ac17, Ac18, Ac19, Ac20, Ac21, Ac22, Ac23, Ac24, Ac25, Ac26] fNo = true)
    (neN : PySem.W.findIn K (.ref Ac1) "__ne__" = some (some (.builtin "object.__ne__")))
    (neT : PySem.W.findIn K (.ref Ac20) "__ne__" = some (some (.builtin "object.__ne__")))
    (z_int : PySem.W.nsIn K mainGlobals "int" = some none)
    (z_list : PySem.W.nsIn K mainGlobals "list" = some none)
    (z_len : PySem.W.nsIn K mainGlobals "len" = some none)
    (z_abs : PySem.W.nsIn K mainGlobals "abs" = some none)
    (z_bool : PySem.W.nsIn K mainGlobals "bool" = some none)
    (z_isinstance : PySem.W.nsIn K mainGlobals "isinstance" = some none)
    (z_range : PySem.W.nsIn K mainGlobals "range" = some none)
    (z_repr : PySem.W.nsIn K mainGlobals "repr" = some none) :
    ∃ (fd : FuncData) (tb : List (Str × Addr × Addr)) (sp : Sp), (∀ e ∈ tb, e.1 ∈ (["_law_made"] : List Str) ∧ PySem.W.tabIn K e.1 = some (e.2.1, e.2.2) ∧ K.lookup e.2.2 = none) ∧ (∀ (s : Shared) (u : Value), BindsTo s fd ⟨[u], []⟩ [("_law_script", u)]) ∧
      (∀ base : Heap, K.In base → base.Ns mainGlobals mg → (∀ e ∈ tb, TabB base mg e.2.1 e.2.2) → FnG l.prog w K mg base 6 fa fd ["_law_script"] sp) ∧
      ∀ (H : Hp) (a : Addr) (ns : List Int), (∀ e ∈ tb, H e.2.2 = some (.tbl #[])) → SqL K H a (ns.map V.int) → ns.length ≤ 63 → sp [.ref a] H (fun v _ => v = .bl true) C8.E0 := by
  have e := hfa.symm.trans (PySem.W.mg_of X G ala)
  cases e
  have Flp : C8.Def K mg "_law_pen" sPen flp _ := ⟨⟨_, _, _, _, _, _, _, _, _, _, rfl, llp, clp⟩, PySem.W.mg_of X G alp, klp⟩
  have blp : Binds K _ ["_law_script"] [] := Flp.fn.binds rfl fun _ _ _ _ _ _ us hl => match us, hl with | [_], _ => rfl
  have Fld : C8.Def K mg "_law_draw" sDraw fld _ := ⟨⟨_, _, _, _, _, _, _, _, _, _, rfl, lld, cld⟩, PySem.W.mg_of X G ald, kld⟩
  have bld : Binds K _ ["_law_pen_here", "_law_many"] [] := Fld.fn.binds rfl fun _ _ _ _ _ _ us hl => match us, hl with | [_, _], _ => rfl
  have Flk : C8.Def K mg "_law_pick" sPick flk _ := ⟨⟨_, _, _, _, _, _, _, _, _, _, rfl, llk, clk⟩, PySem.W.mg_of X G alk, klk⟩
  have blk : Binds K _ ["_law_pen_here", "_law_some"] [] := Flk.fn.binds rfl fun _ _ _ _ _ _ us hl => match us, hl with | [_, _], _ => rfl
  have Flv : C8.Def K mg "_law_value" sVal flv _ := ⟨⟨_, _, _, _, _, _, _, _, _, _, rfl, llv, clv⟩, PySem.W.mg_of X G alv, klv⟩
  have blv : Binds K _ ["_law_pen_here"] [] := Flv.fn.binds rfl fun _ _ _ _ _ _ us hl => match us, hl with | [_], _ => rfl
  have Flm : DefC K mg "_law_made" sMade flm _ c1 := ⟨⟨_, _, _, _, _, _, _, _, _, rfl, llm, clm⟩, PySem.W.mg_of X G alm, klm⟩
  have blm : Binds K _ ["_law_first", "_law_second", "_law_third"] [] := C8.Fun.binds (st := sMade) (x := "_law_made") (qual := "_law_made") (f := flm) ⟨_, _, _, _, _, _, _, _, _, _, rfl, llm, clm⟩ rfl fun _ _ _ _ _ _ us hl => match us, hl with | [_, _, _], _ => rfl
  have Fla : C8.Fun K "law" "law" sLaw fa _ := ⟨_, _, _, _, _, _, _, _, _, _, rfl, lla, cla⟩
  have FI0 : C8.Fun K "__init__" "Fewest.__init__" sIFewest If0 _ := ⟨_, _, _, _, _, _, _, _, _, _, rfl, l0q, d0q⟩
  have FQ0 : C8.Fun K "__eq__" "Fewest.__eq__" sEFewest Qf0 _ := ⟨_, _, _, _, _, _, _, _, _, _, rfl, m0q, n0q⟩
  have W0 := papB_ok (List.all_eq_true.mp hch (Ac0, If0, Qf0, ["chunks"]) (by simp only [List.mem_cons, true_or, or_true]))
  have PC0 : PapC K mg "Fewest" Ac0 ["chunks"] := papC_of W0 hG hK (PySem.W.mg_of X G g0q)
  have bI0 : Binds K _ ["self", "chunks"] [] := FI0.binds rfl fun _ _ _ _ _ _ us hl => match us, hl with | [_, _], _ => rfl
  have bQ0 : Binds K _ ["self", "other"] [] := FQ0.binds rfl fun _ _ _ _ _ _ us hl => match us, hl with | [_, _], _ => rfl
  have MP0 : ∀ base : Heap, MkPos l.prog w K mg base "Fewest" Ac0 ["chunks"] := fun base => ⟨PySem.W.mg_of X G g0q, _, _, ⟨W0.mkI, i0q, W0.isI, W0.kC⟩, fn_iFewest FI0 PC0, bI0⟩
  have ME0 : ∀ base : Heap, MetX l.prog w K mg base 2 Ac0 "__eq__" (spPE K Ac0 ["chunks"]) := fun base => ⟨_, _, _, ⟨j0q, W0.isQ, W0.kQ⟩, fn_eFewest FQ0 PC0 (PySem.W.mg_none_of X G z_isinstance), bQ0⟩
  have FI1 : C8.Fun K "__init__" "NoList.__init__" sINoList If1 _ := ⟨_, _, _, _, _, _, _, _, _, _, rfl, l1q, d1q⟩
  have FQ1 : C8.Fun K "__eq__" "NoList.__eq__" sENoList Qf1 _ := ⟨_, _, _, _, _, _, _, _, _, _, rfl, m1q, n1q⟩
  have W1 := papB_ok (List.all_eq_true.mp hch (Ac1, If1, Qf1, ["rests"]) (by simp only [List.mem_cons, true_or, or_true]))
  have PC1 : PapC K mg "NoList" Ac1 ["rests"] := papC_of W1 hG hK (PySem.W.mg_of X G g1q)
  have bI1 : Binds K _ ["self", "rests"] [] := FI1.binds rfl fun _ _ _ _ _ _ us hl => match us, hl with | [_, _], _ => rfl
  have bQ1 : Binds K _ ["self", "other"] [] := FQ1.binds rfl fun _ _ _ _ _ _ us hl => match us, hl with | [_, _], _ => rfl
  have MP1 : ∀ base : Heap, MkPos l.prog w K mg base "NoList" Ac1 ["rests"] := fun base => ⟨PySem.W.mg_of X G g1q, _, _, ⟨W1.mkI, i1q, W1.isI, W1.kC⟩, fn_iNoList FI1 PC1, bI1⟩
  have ME1 : ∀ base : Heap, MetX l.prog w K mg base 2 Ac1 "__eq__" (spPE K Ac1 ["rests"]) := fun base => ⟨_, _, _, ⟨j1q, W1.isQ, W1.kQ⟩, fn_eNoList FQ1 PC1 (PySem.W.mg_none_of X G z_isinstance), bQ1⟩
  have FI2 : C8.Fun K "__init__" "Greatest.__init__" sIGreatest If2 _ := ⟨_, _, _, _, _, _, _, _, _, _, rfl, l2q, d2q⟩
  have FQ2 : C8.Fun K "__eq__" "Greatest.__eq__" sEGreatest Qf2 _ := ⟨_, _, _, _, _, _, _, _, _, _, rfl, m2q, n2q⟩
  have W2 := papB_ok (List.all_eq_true.mp hch (Ac2, If2, Qf2, ["total", "chunks"]) (by simp only [List.mem_cons, true_or, or_true]))
  have PC2 : PapC K mg "Greatest" Ac2 ["total", "chunks"] := papC_of W2 hG hK (PySem.W.mg_of X G g2q)
  have bI2 : Binds K _ ["self", "total", "chunks"] [] := FI2.binds rfl fun _ _ _ _ _ _ us hl => match us, hl with | [_, _, _], _ => rfl
  have bQ2 : Binds K _ ["self", "other"] [] := FQ2.binds rfl fun _ _ _ _ _ _ us hl => match us, hl with | [_, _], _ => rfl
  have MP2 : ∀ base : Heap, MkPos l.prog w K mg base "Greatest" Ac2 ["total", "chunks"] := fun base => ⟨PySem.W.mg_of X G g2q, _, _, ⟨W2.mkI, i2q, W2.isI, W2.kC⟩, fn_iGreatest FI2 PC2, bI2⟩
  have ME2 : ∀ base : Heap, MetX l.prog w K mg base 2 Ac2 "__eq__" (spPE K Ac2 ["total", "chunks"]) := fun base => ⟨_, _, _, ⟨j2q, W2.isQ, W2.kQ⟩, fn_eGreatest FQ2 PC2 (PySem.W.mg_none_of X G z_isinstance), bQ2⟩
  have FI3 : C8.Fun K "__init__" "Least.__init__" sILeast If3 _ := ⟨_, _, _, _, _, _, _, _, _, _, rfl, l3q, d3q⟩
  have FQ3 : C8.Fun K "__eq__" "Least.__eq__" sELeast Qf3 _ := ⟨_, _, _, _, _, _, _, _, _, _, rfl, m3q, n3q⟩
  have W3 := papB_ok (List.all_eq_true.mp hch (Ac3, If3, Qf3, ["limit", "chunks", "below"]) (by simp only [List.mem_cons, true_or, or_true]))
  have PC3 : PapC K mg "Least" Ac3 ["limit", "chunks", "below"] := papC_of W3 hG hK (PySem.W.mg_of X G g3q)
  have bI3 : Binds K _ ["self", "limit", "chunks", "below"] [] := FI3.binds rfl fun _ _ _ _ _ _ us hl => match us, hl with | [_, _, _, _], _ => rfl
  have bQ3 : Binds K _ ["self", "other"] [] := FQ3.binds rfl fun _ _ _ _ _ _ us hl => match us, hl with | [_, _], _ => rfl
  have MP3 : ∀ base : Heap, MkPos l.prog w K mg base "Least" Ac3 ["limit", "chunks", "below"] := fun base => ⟨PySem.W.mg_of X G g3q, _, _, ⟨W3.mkI, i3q, W3.isI, W3.kC⟩, fn_iLeast FI3 PC3, bI3⟩
  have ME3 : ∀ base : Heap, MetX l.prog w K mg base 2 Ac3 "__eq__" (spPE K Ac3 ["limit", "chunks", "below"]) := fun base => ⟨_, _, _, ⟨j3q, W3.isQ, W3.kQ⟩, fn_eLeast FQ3 PC3 (PySem.W.mg_none_of X G z_isinstance), bQ3⟩
  have FI4 : C8.Fun K "__init__" "BatchBound.__init__" sIBatchBound If4 _ := ⟨_, _, _, _, _, _, _, _, _, _, rfl, l4q, d4q⟩
  have FQ4 : C8.Fun K "__eq__" "BatchBound.__eq__" sEBatchBound Qf4 _ := ⟨_, _, _, _, _, _, _, _, _, _, rfl, m4q, n4q⟩
  have W4 := papB_ok (List.all_eq_true.mp hch (Ac4, If4, Qf4, ["late", "rest", "spot"]) (by simp only [List.mem_cons, true_or, or_true]))
  have PC4 : PapC K mg "BatchBound" Ac4 ["late", "rest", "spot"] := papC_of W4 hG hK (PySem.W.mg_of X G g4q)
  have bI4 : Binds K _ ["self", "late", "rest", "spot"] [] := FI4.binds rfl fun _ _ _ _ _ _ us hl => match us, hl with | [_, _, _, _], _ => rfl
  have bQ4 : Binds K _ ["self", "other"] [] := FQ4.binds rfl fun _ _ _ _ _ _ us hl => match us, hl with | [_, _], _ => rfl
  have MP4 : ∀ base : Heap, MkPos l.prog w K mg base "BatchBound" Ac4 ["late", "rest", "spot"] := fun base => ⟨PySem.W.mg_of X G g4q, _, _, ⟨W4.mkI, i4q, W4.isI, W4.kC⟩, fn_iBatchBound FI4 PC4, bI4⟩
  have ME4 : ∀ base : Heap, MetX l.prog w K mg base 2 Ac4 "__eq__" (spPE K Ac4 ["late", "rest", "spot"]) := fun base => ⟨_, _, _, ⟨j4q, W4.isQ, W4.kQ⟩, fn_eBatchBound FQ4 PC4 (PySem.W.mg_none_of X G z_isinstance), bQ4⟩
  have FI5 : C8.Fun K "__init__" "BatchEndless.__init__" sIBatchEndless If5 _ := ⟨_, _, _, _, _, _, _, _, _, _, rfl, l5q, d5q⟩
  have FQ5 : C8.Fun K "__eq__" "BatchEndless.__eq__" sEBatchEndless Qf5 _ := ⟨_, _, _, _, _, _, _, _, _, _, rfl, m5q, n5q⟩
  have W5 := papB_ok (List.all_eq_true.mp hch (Ac5, If5, Qf5, ["spot", "rise"]) (by simp only [List.mem_cons, true_or, or_true]))
  have PC5 : PapC K mg "BatchEndless" Ac5 ["spot", "rise"] := papC_of W5 hG hK (PySem.W.mg_of X G g5q)
  have bI5 : Binds K _ ["self", "spot", "rise"] [] := FI5.binds rfl fun _ _ _ _ _ _ us hl => match us, hl with | [_, _, _], _ => rfl
  have bQ5 : Binds K _ ["self", "other"] [] := FQ5.binds rfl fun _ _ _ _ _ _ us hl => match us, hl with | [_, _], _ => rfl
  have MP5 : ∀ base : Heap, MkPos l.prog w K mg base "BatchEndless" Ac5 ["spot", "rise"] := fun base => ⟨PySem.W.mg_of X G g5q, _, _, ⟨W5.mkI, i5q, W5.isI, W5.kC⟩, fn_iBatchEndless FI5 PC5, bI5⟩
  have ME5 : ∀ base : Heap, MetX l.prog w K mg base 2 Ac5 "__eq__" (spPE K Ac5 ["spot", "rise"]) := fun base => ⟨_, _, _, ⟨j5q, W5.isQ, W5.kQ⟩, fn_eBatchEndless FQ5 PC5 (PySem.W.mg_none_of X G z_isinstance), bQ5⟩
  have FI6 : C8.Fun K "__init__" "NeverLess.__init__" sINeverLess If6 _ := ⟨_, _, _, _, _, _, _, _, _, _, rfl, l6q, d6q⟩
  have FQ6 : C8.Fun K "__eq__" "NeverLess.__eq__" sENeverLess Qf6 _ := ⟨_, _, _, _, _, _, _, _, _, _, rfl, m6q, n6q⟩
  have W6 := papB_ok (List.all_eq_true.mp hch (Ac6, If6, Qf6, ["begins"]) (by simp only [List.mem_cons, true_or, or_true]))
  have PC6 : PapC K mg "NeverLess" Ac6 ["begins"] := papC_of W6 hG hK (PySem.W.mg_of X G g6q)
  have bI6 : Binds K _ ["self", "begins"] [] := FI6.binds rfl fun _ _ _ _ _ _ us hl => match us, hl with | [_, _], _ => rfl
  have bQ6 : Binds K _ ["self", "other"] [] := FQ6.binds rfl fun _ _ _ _ _ _ us hl => match us, hl with | [_, _], _ => rfl
  have MP6 : ∀ base : Heap, MkPos l.prog w K mg base "NeverLess" Ac6 ["begins"] := fun base => ⟨PySem.W.mg_of X G g6q, _, _, ⟨W6.mkI, i6q, W6.isI, W6.kC⟩, fn_iNeverLess FI6 PC6, bI6⟩
  have ME6 : ∀ base : Heap, MetX l.prog w K mg base 2 Ac6 "__eq__" (spPE K Ac6 ["begins"]) := fun base => ⟨_, _, _, ⟨j6q, W6.isQ, W6.kQ⟩, fn_eNeverLess FQ6 PC6 (PySem.W.mg_none_of X G z_isinstance), bQ6⟩
  have FI7 : C8.Fun K "__init__" "Steady.__init__" sISteady If7 _ := ⟨_, _, _, _, _, _, _, _, _, _, rfl, l7q, d7q⟩
  have FQ7 : C8.Fun K "__eq__" "Steady.__eq__" sESteady Qf7 _ := ⟨_, _, _, _, _, _, _, _, _, _, rfl, m7q, n7q⟩
  have W7 := papB_ok (List.all_eq_true.mp hch (Ac7, If7, Qf7, ["begins"]) (by simp only [List.mem_cons, true_or, or_true]))
  have PC7 : PapC K mg "Steady" Ac7 ["begins"] := papC_of W7 hG hK (PySem.W.mg_of X G g7q)
  have bI7 : Binds K _ ["self", "begins"] [] := FI7.binds rfl fun _ _ _ _ _ _ us hl => match us, hl with | [_, _], _ => rfl
  have bQ7 : Binds K _ ["self", "other"] [] := FQ7.binds rfl fun _ _ _ _ _ _ us hl => match us, hl with | [_, _], _ => rfl
  have MP7 : ∀ base : Heap, MkPos l.prog w K mg base "Steady" Ac7 ["begins"] := fun base => ⟨PySem.W.mg_of X G g7q, _, _, ⟨W7.mkI, i7q, W7.isI, W7.kC⟩, fn_iSteady FI7 PC7, bI7⟩
  have ME7 : ∀ base : Heap, MetX l.prog w K mg base 2 Ac7 "__eq__" (spPE K Ac7 ["begins"]) := fun base => ⟨_, _, _, ⟨j7q, W7.isQ, W7.kQ⟩, fn_eSteady FQ7 PC7 (PySem.W.mg_none_of X G z_isinstance), bQ7⟩
  have FI8 : C8.Fun K "__init__" "Same.__init__" sISame If8 _ := ⟨_, _, _, _, _, _, _, _, _, _, rfl, l8q, d8q⟩
  have FQ8 : C8.Fun K "__eq__" "Same.__eq__" sESame Qf8 _ := ⟨_, _, _, _, _, _, _, _, _, _, rfl, m8q, n8q⟩
  have W8 := papB_ok (List.all_eq_true.mp hch (Ac8, If8, Qf8, ["first", "last"]) (by simp only [List.mem_cons, true_or, or_true]))
  have PC8 : PapC K mg "Same" Ac8 ["first", "last"] := papC_of W8 hG hK (PySem.W.mg_of X G g8q)
  have bI8 : Binds K _ ["self", "first", "last"] [] := FI8.binds rfl fun _ _ _ _ _ _ us hl => match us, hl with | [_, _, _], _ => rfl
  have bQ8 : Binds K _ ["self", "other"] [] := FQ8.binds rfl fun _ _ _ _ _ _ us hl => match us, hl with | [_, _], _ => rfl
  have MP8 : ∀ base : Heap, MkPos l.prog w K mg base "Same" Ac8 ["first", "last"] := fun base => ⟨PySem.W.mg_of X G g8q, _, _, ⟨W8.mkI, i8q, W8.isI, W8.kC⟩, fn_iSame FI8 PC8, bI8⟩
  have ME8 : ∀ base : Heap, MetX l.prog w K mg base 2 Ac8 "__eq__" (spPE K Ac8 ["first", "last"]) := fun base => ⟨_, _, _, ⟨j8q, W8.isQ, W8.kQ⟩, fn_eSame FQ8 PC8 (PySem.W.mg_none_of X G z_isinstance), bQ8⟩
  have FI9 : C8.Fun K "__init__" "Surely.__init__" sISurely If9 _ := ⟨_, _, _, _, _, _, _, _, _, _, rfl, l9q, d9q⟩
  have FQ9 : C8.Fun K "__eq__" "Surely.__eq__" sESurely Qf9 _ := ⟨_, _, _, _, _, _, _, _, _, _, rfl, m9q, n9q⟩
  have W9 := papB_ok (List.all_eq_true.mp hch (Ac9, If9, Qf9, ["never", "steady"]) (by simp only [List.mem_cons, true_or, or_true]))
  have PC9 : PapC K mg "Surely" Ac9 ["never", "steady"] := papC_of W9 hG hK (PySem.W.mg_of X G g9q)
  have bI9 : Binds K _ ["self", "never", "steady"] [] := FI9.binds rfl fun _ _ _ _ _ _ us hl => match us, hl with | [_, _, _], _ => rfl
  have bQ9 : Binds K _ ["self", "other"] [] := FQ9.binds rfl fun _ _ _ _ _ _ us hl => match us, hl with | [_, _], _ => rfl
  have MP9 : ∀ base : Heap, MkPos l.prog w K mg base "Surely" Ac9 ["never", "steady"] := fun base => ⟨PySem.W.mg_of X G g9q, _, _, ⟨W9.mkI, i9q, W9.isI, W9.kC⟩, fn_iSurely FI9 PC9, bI9⟩
  have ME9 : ∀ base : Heap, MetX l.prog w K mg base 2 Ac9 "__eq__" (spPE K Ac9 ["never", "steady"]) := fun base => ⟨_, _, _, ⟨j9q, W9.isQ, W9.kQ⟩, fn_eSurely FQ9 PC9 (PySem.W.mg_none_of X G z_isinstance), bQ9⟩
  have FI10 : C8.Fun K "__init__" "Less.__init__" sILess If10 _ := ⟨_, _, _, _, _, _, _, _, _, _, rfl, l10q, d10q⟩
  have FQ10 : C8.Fun K "__eq__" "Less.__eq__" sELess Qf10 _ := ⟨_, _, _, _, _, _, _, _, _, _, rfl, m10q, n10q⟩
  have W10 := papB_ok (List.all_eq_true.mp hch (Ac10, If10, Qf10, ["rest"]) (by simp only [List.mem_cons, true_or, or_true]))
  have PC10 : PapC K mg "Less" Ac10 ["rest"] := papC_of W10 hG hK (PySem.W.mg_of X G g10q)
  have bI10 : Binds K _ ["self", "rest"] [] := FI10.binds rfl fun _ _ _ _ _ _ us hl => match us, hl with | [_, _], _ => rfl
  have bQ10 : Binds K _ ["self", "other"] [] := FQ10.binds rfl fun _ _ _ _ _ _ us hl => match us, hl with | [_, _], _ => rfl
  have MP10 : ∀ base : Heap, MkPos l.prog w K mg base "Less" Ac10 ["rest"] := fun base => ⟨PySem.W.mg_of X G g10q, _, _, ⟨W10.mkI, i10q, W10.isI, W10.kC⟩, fn_iLess FI10 PC10, bI10⟩
  have ME10 : ∀ base : Heap, MetX l.prog w K mg base 2 Ac10 "__eq__" (spPE K Ac10 ["rest"]) := fun base => ⟨_, _, _, ⟨j10q, W10.isQ, W10.kQ⟩, fn_eLess FQ10 PC10 (PySem.W.mg_none_of X G z_isinstance), bQ10⟩
  have FI11 : C8.Fun K "__init__" "Jump.__init__" sIJump If11 _ := ⟨_, _, _, _, _, _, _, _, _, _, rfl, l11q, d11q⟩
  have FQ11 : C8.Fun K "__eq__" "Jump.__eq__" sEJump Qf11 _ := ⟨_, _, _, _, _, _, _, _, _, _, rfl, m11q, n11q⟩
  have W11 := papB_ok (List.all_eq_true.mp hch (Ac11, If11, Qf11, ["rest"]) (by simp only [List.mem_cons, true_or, or_true]))
  have PC11 : PapC K mg "Jump" Ac11 ["rest"] := papC_of W11 hG hK (PySem.W.mg_of X G g11q)
  have bI11 : Binds K _ ["self", "rest"] [] := FI11.binds rfl fun _ _ _ _ _ _ us hl => match us, hl with | [_, _], _ => rfl
  have bQ11 : Binds K _ ["self", "other"] [] := FQ11.binds rfl fun _ _ _ _ _ _ us hl => match us, hl with | [_, _], _ => rfl
  have MP11 : ∀ base : Heap, MkPos l.prog w K mg base "Jump" Ac11 ["rest"] := fun base => ⟨PySem.W.mg_of X G g11q, _, _, ⟨W11.mkI, i11q, W11.isI, W11.kC⟩, fn_iJump FI11 PC11, bI11⟩
  have ME11 : ∀ base : Heap, MetX l.prog w K mg base 2 Ac11 "__eq__" (spPE K Ac11 ["rest"]) := fun base => ⟨_, _, _, ⟨j11q, W11.isQ, W11.kQ⟩, fn_eJump FQ11 PC11 (PySem.W.mg_none_of X G z_isinstance), bQ11⟩
  have FI12 : C8.Fun K "__init__" "Other.__init__" sIOther If12 _ := ⟨_, _, _, _, _, _, _, _, _, _, rfl, l12q, d12q⟩
  have FQ12 : C8.Fun K "__eq__" "Other.__eq__" sEOther Qf12 _ := ⟨_, _, _, _, _, _, _, _, _, _, rfl, m12q, n12q⟩
  have W12 := papB_ok (List.all_eq_true.mp hch (Ac12, If12, Qf12, ["rest"]) (by simp only [List.mem_cons, true_or, or_true]))
  have PC12 : PapC K mg "Other" Ac12 ["rest"] := papC_of W12 hG hK (PySem.W.mg_of X G g12q)
  have bI12 : Binds K _ ["self", "rest"] [] := FI12.binds rfl fun _ _ _ _ _ _ us hl => match us, hl with | [_, _], _ => rfl
  have bQ12 : Binds K _ ["self", "other"] [] := FQ12.binds rfl fun _ _ _ _ _ _ us hl => match us, hl with | [_, _], _ => rfl
  have MP12 : ∀ base : Heap, MkPos l.prog w K mg base "Other" Ac12 ["rest"] := fun base => ⟨PySem.W.mg_of X G g12q, _, _, ⟨W12.mkI, i12q, W12.isI, W12.kC⟩, fn_iOther FI12 PC12, bI12⟩
  have ME12 : ∀ base : Heap, MetX l.prog w K mg base 2 Ac12 "__eq__" (spPE K Ac12 ["rest"]) := fun base => ⟨_, _, _, ⟨j12q, W12.isQ, W12.kQ⟩, fn_eOther FQ12 PC12 (PySem.W.mg_none_of X G z_isinstance), bQ12⟩
  have FI13 : C8.Fun K "__init__" "Counter.__init__" sICounter If13 _ := ⟨_, _, _, _, _, _, _, _, _, _, rfl, l13q, d13q⟩
  have FQ13 : C8.Fun K "__eq__" "Counter.__eq__" sECounter Qf13 _ := ⟨_, _, _, _, _, _, _, _, _, _, rfl, m13q, n13q⟩
  have W13 := papB_ok (List.all_eq_true.mp hch (Ac13, If13, Qf13, ["total", "counts"]) (by simp only [List.mem_cons, true_or, or_true]))
  have PC13 : PapC K mg "Counter" Ac13 ["total", "counts"] := papC_of W13 hG hK (PySem.W.mg_of X G g13q)
  have bI13 : Binds K _ ["self", "total", "counts"] [] := FI13.binds rfl fun _ _ _ _ _ _ us hl => match us, hl with | [_, _, _], _ => rfl
  have bQ13 : Binds K _ ["self", "other"] [] := FQ13.binds rfl fun _ _ _ _ _ _ us hl => match us, hl with | [_, _], _ => rfl
  have MP13 : ∀ base : Heap, MkPos l.prog w K mg base "Counter" Ac13 ["total", "counts"] := fun base => ⟨PySem.W.mg_of X G g13q, _, _, ⟨W13.mkI, i13q, W13.isI, W13.kC⟩, fn_iCounter FI13 PC13, bI13⟩
  have ME13 : ∀ base : Heap, MetX l.prog w K mg base 2 Ac13 "__eq__" (spPE K Ac13 ["total", "counts"]) := fun base => ⟨_, _, _, ⟨j13q, W13.isQ, W13.kQ⟩, fn_eCounter FQ13 PC13 (PySem.W.mg_none_of X G z_isinstance), bQ13⟩
  have FI14 : C8.Fun K "__init__" "Undecided.__init__" sIUndecided If14 _ := ⟨_, _, _, _, _, _, _, _, _, _, rfl, l14q, d14q⟩
  have FQ14 : C8.Fun K "__eq__" "Undecided.__eq__" sEUndecided Qf14 _ := ⟨_, _, _, _, _, _, _, _, _, _, rfl, m14q, n14q⟩
  have W14 := papB_ok (List.all_eq_true.mp hch (Ac14, If14, Qf14, ["upto"]) (by simp only [List.mem_cons, true_or, or_true]))
  have PC14 : PapC K mg "Undecided" Ac14 ["upto"] := papC_of W14 hG hK (PySem.W.mg_of X G g14q)
  have bI14 : Binds K _ ["self", "upto"] [] := FI14.binds rfl fun _ _ _ _ _ _ us hl => match us, hl with | [_, _], _ => rfl
  have bQ14 : Binds K _ ["self", "other"] [] := FQ14.binds rfl fun _ _ _ _ _ _ us hl => match us, hl with | [_, _], _ => rfl
  have MP14 : ∀ base : Heap, MkPos l.prog w K mg base "Undecided" Ac14 ["upto"] := fun base => ⟨PySem.W.mg_of X G g14q, _, _, ⟨W14.mkI, i14q, W14.isI, W14.kC⟩, fn_iUndecided FI14 PC14, bI14⟩
  have ME14 : ∀ base : Heap, MetX l.prog w K mg base 2 Ac14 "__eq__" (spPE K Ac14 ["upto"]) := fun base => ⟨_, _, _, ⟨j14q, W14.isQ, W14.kQ⟩, fn_eUndecided FQ14 PC14 (PySem.W.mg_none_of X G z_isinstance), bQ14⟩
  have FI15 : C8.Fun K "__init__" "Bound.__init__" sIBound If15 _ := ⟨_, _, _, _, _, _, _, _, _, _, rfl, l15q, d15q⟩
  have FQ15 : C8.Fun K "__eq__" "Bound.__eq__" sEBound Qf15 _ := ⟨_, _, _, _, _, _, _, _, _, _, rfl, m15q, n15q⟩
  have W15 := papB_ok (List.all_eq_true.mp hch (Ac15, If15, Qf15, ["late", "rest"]) (by simp only [List.mem_cons, true_or, or_true]))
  have PC15 : PapC K mg "Bound" Ac15 ["late", "rest"] := papC_of W15 hG hK (PySem.W.mg_of X G g15q)
  have bI15 : Binds K _ ["self", "late", "rest"] [] := FI15.binds rfl fun _ _ _ _ _ _ us hl => match us, hl with | [_, _, _], _ => rfl
  have bQ15 : Binds K _ ["self", "other"] [] := FQ15.binds rfl fun _ _ _ _ _ _ us hl => match us, hl with | [_, _], _ => rfl
  have MP15 : ∀ base : Heap, MkPos l.prog w K mg base "Bound" Ac15 ["late", "rest"] := fun base => ⟨PySem.W.mg_of X G g15q, _, _, ⟨W15.mkI, i15q, W15.isI, W15.kC⟩, fn_iBound FI15 PC15, bI15⟩
  have ME15 : ∀ base : Heap, MetX l.prog w K mg base 2 Ac15 "__eq__" (spPE K Ac15 ["late", "rest"]) := fun base => ⟨_, _, _, ⟨j15q, W15.isQ, W15.kQ⟩, fn_eBound FQ15 PC15 (PySem.W.mg_none_of X G z_isinstance), bQ15⟩
  have FI16 : C8.Fun K "__init__" "Endless.__init__" sIEndless If16 _ := ⟨_, _, _, _, _, _, _, _, _, _, rfl, l16q, d16q⟩
  have FQ16 : C8.Fun K "__eq__" "Endless.__eq__" sEEndless Qf16 _ := ⟨_, _, _, _, _, _, _, _, _, _, rfl, m16q, n16q⟩
  have W16 := papB_ok (List.all_eq_true.mp hch (Ac16, If16, Qf16, ["residue", "begin"]) (by simp only [List.mem_cons, true_or, or_true]))
  have PC16 : PapC K mg "Endless" Ac16 ["residue", "begin"] := papC_of W16 hG hK (PySem.W.mg_of X G g16q)
  have bI16 : Binds K _ ["self", "residue", "begin"] [] := FI16.binds rfl fun _ _ _ _ _ _ us hl => match us, hl with | [_, _, _], _ => rfl
  have bQ16 : Binds K _ ["self", "other"] [] := FQ16.binds rfl fun _ _ _ _ _ _ us hl => match us, hl with | [_, _], _ => rfl
  have MP16 : ∀ base : Heap, MkPos l.prog w K mg base "Endless" Ac16 ["residue", "begin"] := fun base => ⟨PySem.W.mg_of X G g16q, _, _, ⟨W16.mkI, i16q, W16.isI, W16.kC⟩, fn_iEndless FI16 PC16, bI16⟩
  have ME16 : ∀ base : Heap, MetX l.prog w K mg base 2 Ac16 "__eq__" (spPE K Ac16 ["residue", "begin"]) := fun base => ⟨_, _, _, ⟨j16q, W16.isQ, W16.kQ⟩, fn_eEndless FQ16 PC16 (PySem.W.mg_none_of X G z_isinstance), bQ16⟩
  have FI17 : C8.Fun K "__init__" "Within.__init__" sIWithin If17 _ := ⟨_, _, _, _, _, _, _, _, _, _, rfl, l17q, d17q⟩
  have FQ17 : C8.Fun K "__eq__" "Within.__eq__" sEWithin Qf17 _ := ⟨_, _, _, _, _, _, _, _, _, _, rfl, m17q, n17q⟩
  have W17 := papB_ok (List.all_eq_true.mp hch (Ac17, If17, Qf17, ["table"]) (by simp only [List.mem_cons, true_or, or_true]))
  have PC17 : PapC K mg "Within" Ac17 ["table"] := papC_of W17 hG hK (PySem.W.mg_of X G g17q)
  have bI17 : Binds K _ ["self", "table"] [] := FI17.binds rfl fun _ _ _ _ _ _ us hl => match us, hl with | [_, _], _ => rfl
  have bQ17 : Binds K _ ["self", "other"] [] := FQ17.binds rfl fun _ _ _ _ _ _ us hl => match us, hl with | [_, _], _ => rfl
  have MP17 : ∀ base : Heap, MkPos l.prog w K mg base "Within" Ac17 ["table"] := fun base => ⟨PySem.W.mg_of X G g17q, _, _, ⟨W17.mkI, i17q, W17.isI, W17.kC⟩, fn_iWithin FI17 PC17, bI17⟩
  have ME17 : ∀ base : Heap, MetX l.prog w K mg base 2 Ac17 "__eq__" (spPE K Ac17 ["table"]) := fun base => ⟨_, _, _, ⟨j17q, W17.isQ, W17.kQ⟩, fn_eWithin FQ17 PC17 (PySem.W.mg_none_of X G z_isinstance), bQ17⟩
  have FI18 : C8.Fun K "__init__" "Beyond.__init__" sIBeyond If18 _ := ⟨_, _, _, _, _, _, _, _, _, _, rfl, l18q, d18q⟩
  have FQ18 : C8.Fun K "__eq__" "Beyond.__eq__" sEBeyond Qf18 _ := ⟨_, _, _, _, _, _, _, _, _, _, rfl, m18q, n18q⟩
  have W18 := papB_ok (List.all_eq_true.mp hch (Ac18, If18, Qf18, ["rest", "late"]) (by simp only [List.mem_cons, true_or, or_true]))
  have PC18 : PapC K mg "Beyond" Ac18 ["rest", "late"] := papC_of W18 hG hK (PySem.W.mg_of X G g18q)
  have bI18 : Binds K _ ["self", "rest", "late"] [] := FI18.binds rfl fun _ _ _ _ _ _ us hl => match us, hl with | [_, _, _], _ => rfl
  have bQ18 : Binds K _ ["self", "other"] [] := FQ18.binds rfl fun _ _ _ _ _ _ us hl => match us, hl with | [_, _], _ => rfl
  have MP18 : ∀ base : Heap, MkPos l.prog w K mg base "Beyond" Ac18 ["rest", "late"] := fun base => ⟨PySem.W.mg_of X G g18q, _, _, ⟨W18.mkI, i18q, W18.isI, W18.kC⟩, fn_iBeyond FI18 PC18, bI18⟩
  have ME18 : ∀ base : Heap, MetX l.prog w K mg base 2 Ac18 "__eq__" (spPE K Ac18 ["rest", "late"]) := fun base => ⟨_, _, _, ⟨j18q, W18.isQ, W18.kQ⟩, fn_eBeyond FQ18 PC18 (PySem.W.mg_none_of X G z_isinstance), bQ18⟩
  have FI19 : C8.Fun K "__init__" "Latest.__init__" sILatest If19 _ := ⟨_, _, _, _, _, _, _, _, _, _, rfl, l19q, d19q⟩
  have FQ19 : C8.Fun K "__eq__" "Latest.__eq__" sELatest Qf19 _ := ⟨_, _, _, _, _, _, _, _, _, _, rfl, m19q, n19q⟩
  have W19 := papB_ok (List.all_eq_true.mp hch (Ac19, If19, Qf19, ["late", "at", "world"]) (by simp only [List.mem_cons, true_or, or_true]))
  have PC19 : PapC K mg "Latest" Ac19 ["late", "at", "world"] := papC_of W19 hG hK (PySem.W.mg_of X G g19q)
  have bI19 : Binds K _ ["self", "late", "at", "world"] [] := FI19.binds rfl fun _ _ _ _ _ _ us hl => match us, hl with | [_, _, _, _], _ => rfl
  have bQ19 : Binds K _ ["self", "other"] [] := FQ19.binds rfl fun _ _ _ _ _ _ us hl => match us, hl with | [_, _], _ => rfl
  have MP19 : ∀ base : Heap, MkPos l.prog w K mg base "Latest" Ac19 ["late", "at", "world"] := fun base => ⟨PySem.W.mg_of X G g19q, _, _, ⟨W19.mkI, i19q, W19.isI, W19.kC⟩, fn_iLatest FI19 PC19, bI19⟩
  have ME19 : ∀ base : Heap, MetX l.prog w K mg base 2 Ac19 "__eq__" (spPE K Ac19 ["late", "at", "world"]) := fun base => ⟨_, _, _, ⟨j19q, W19.isQ, W19.kQ⟩, fn_eLatest FQ19 PC19 (PySem.W.mg_none_of X G z_isinstance), bQ19⟩
  have FI20 : C8.Fun K "__init__" "Taking.__init__" sITaking If20 _ := ⟨_, _, _, _, _, _, _, _, _, _, rfl, l20q, d20q⟩
  have FQ20 : C8.Fun K "__eq__" "Taking.__eq__" sETaking Qf20 _ := ⟨_, _, _, _, _, _, _, _, _, _, rfl, m20q, n20q⟩
  have W20 := papB_ok (List.all_eq_true.mp hch (Ac20, If20, Qf20, ["worker", "at", "begun", "ended"]) (by simp only [List.mem_cons, true_or, or_true]))
  have PC20 : PapC K mg "Taking" Ac20 ["worker", "at", "begun", "ended"] := papC_of W20 hG hK (PySem.W.mg_of X G g20q)
  have bI20 : Binds K _ ["self", "worker", "at", "begun", "ended"] [] := FI20.binds rfl fun _ _ _ _ _ _ us hl => match us, hl with | [_, _, _, _, _], _ => rfl
  have bQ20 : Binds K _ ["self", "other"] [] := FQ20.binds rfl fun _ _ _ _ _ _ us hl => match us, hl with | [_, _], _ => rfl
  have MP20 : ∀ base : Heap, MkPos l.prog w K mg base "Taking" Ac20 ["worker", "at", "begun", "ended"] := fun base => ⟨PySem.W.mg_of X G g20q, _, _, ⟨W20.mkI, i20q, W20.isI, W20.kC⟩, fn_iTaking FI20 PC20, bI20⟩
  have ME20 : ∀ base : Heap, MetX l.prog w K mg base 2 Ac20 "__eq__" (spPE K Ac20 ["worker", "at", "begun", "ended"]) := fun base => ⟨_, _, _, ⟨j20q, W20.isQ, W20.kQ⟩, fn_eTaking FQ20 PC20 (PySem.W.mg_none_of X G z_isinstance), bQ20⟩
  have FI21 : C8.Fun K "__init__" "Fits.__init__" sIFits If21 _ := ⟨_, _, _, _, _, _, _, _, _, _, rfl, l21q, d21q⟩
  have FQ21 : C8.Fun K "__eq__" "Fits.__eq__" sEFits Qf21 _ := ⟨_, _, _, _, _, _, _, _, _, _, rfl, m21q, n21q⟩
  have W21 := papB_ok (List.all_eq_true.mp hch (Ac21, If21, Qf21, ["world"]) (by simp only [List.mem_cons, true_or, or_true]))
  have PC21 : PapC K mg "Fits" Ac21 ["world"] := papC_of W21 hG hK (PySem.W.mg_of X G g21q)
  have bI21 : Binds K _ ["self", "world"] [] := FI21.binds rfl fun _ _ _ _ _ _ us hl => match us, hl with | [_, _], _ => rfl
  have bQ21 : Binds K _ ["self", "other"] [] := FQ21.binds rfl fun _ _ _ _ _ _ us hl => match us, hl with | [_, _], _ => rfl
  have MP21 : ∀ base : Heap, MkPos l.prog w K mg base "Fits" Ac21 ["world"] := fun base => ⟨PySem.W.mg_of X G g21q, _, _, ⟨W21.mkI, i21q, W21.isI, W21.kC⟩, fn_iFits FI21 PC21, bI21⟩
  have ME21 : ∀ base : Heap, MetX l.prog w K mg base 2 Ac21 "__eq__" (spPE K Ac21 ["world"]) := fun base => ⟨_, _, _, ⟨j21q, W21.isQ, W21.kQ⟩, fn_eFits FQ21 PC21 (PySem.W.mg_none_of X G z_isinstance), bQ21⟩
  have FI22 : C8.Fun K "__init__" "Misfit.__init__" sIMisfit If22 _ := ⟨_, _, _, _, _, _, _, _, _, _, rfl, l22q, d22q⟩
  have FQ22 : C8.Fun K "__eq__" "Misfit.__eq__" sEMisfit Qf22 _ := ⟨_, _, _, _, _, _, _, _, _, _, rfl, m22q, n22q⟩
  have W22 := papB_ok (List.all_eq_true.mp hch (Ac22, If22, Qf22, ["at", "why"]) (by simp only [List.mem_cons, true_or, or_true]))
  have PC22 : PapC K mg "Misfit" Ac22 ["at", "why"] := papC_of W22 hG hK (PySem.W.mg_of X G g22q)
  have bI22 : Binds K _ ["self", "at", "why"] [] := FI22.binds rfl fun _ _ _ _ _ _ us hl => match us, hl with | [_, _, _], _ => rfl
  have bQ22 : Binds K _ ["self", "other"] [] := FQ22.binds rfl fun _ _ _ _ _ _ us hl => match us, hl with | [_, _], _ => rfl
  have MP22 : ∀ base : Heap, MkPos l.prog w K mg base "Misfit" Ac22 ["at", "why"] := fun base => ⟨PySem.W.mg_of X G g22q, _, _, ⟨W22.mkI, i22q, W22.isI, W22.kC⟩, fn_iMisfit FI22 PC22, bI22⟩
  have ME22 : ∀ base : Heap, MetX l.prog w K mg base 2 Ac22 "__eq__" (spPE K Ac22 ["at", "why"]) := fun base => ⟨_, _, _, ⟨j22q, W22.isQ, W22.kQ⟩, fn_eMisfit FQ22 PC22 (PySem.W.mg_none_of X G z_isinstance), bQ22⟩
  have FI23 : C8.Fun K "__init__" "Ring.__init__" sIRing If23 _ := ⟨_, _, _, _, _, _, _, _, _, _, rfl, l23q, d23q⟩
  have FQ23 : C8.Fun K "__eq__" "Ring.__eq__" sERing Qf23 _ := ⟨_, _, _, _, _, _, _, _, _, _, rfl, m23q, n23q⟩
  have W23 := papB_ok (List.all_eq_true.mp hch (Ac23, If23, Qf23, ["workers"]) (by simp only [List.mem_cons, true_or, or_true]))
  have PC23 : PapC K mg "Ring" Ac23 ["workers"] := papC_of W23 hG hK (PySem.W.mg_of X G g23q)
  have bI23 : Binds K _ ["self", "workers"] [] := FI23.binds rfl fun _ _ _ _ _ _ us hl => match us, hl with | [_, _], _ => rfl
  have bQ23 : Binds K _ ["self", "other"] [] := FQ23.binds rfl fun _ _ _ _ _ _ us hl => match us, hl with | [_, _], _ => rfl
  have MP23 : ∀ base : Heap, MkPos l.prog w K mg base "Ring" Ac23 ["workers"] := fun base => ⟨PySem.W.mg_of X G g23q, _, _, ⟨W23.mkI, i23q, W23.isI, W23.kC⟩, fn_iRing FI23 PC23, bI23⟩
  have ME23 : ∀ base : Heap, MetX l.prog w K mg base 2 Ac23 "__eq__" (spPE K Ac23 ["workers"]) := fun base => ⟨_, _, _, ⟨j23q, W23.isQ, W23.kQ⟩, fn_eRing FQ23 PC23 (PySem.W.mg_none_of X G z_isinstance), bQ23⟩
  have FI24 : C8.Fun K "__init__" "Came.__init__" sICame If24 _ := ⟨_, _, _, _, _, _, _, _, _, _, rfl, l24q, d24q⟩
  have FQ24 : C8.Fun K "__eq__" "Came.__eq__" sECame Qf24 _ := ⟨_, _, _, _, _, _, _, _, _, _, rfl, m24q, n24q⟩
  have W24 := papB_ok (List.all_eq_true.mp hch (Ac24, If24, Qf24, ["least", "most"]) (by simp only [List.mem_cons, true_or, or_true]))
  have PC24 : PapC K mg "Came" Ac24 ["least", "most"] := papC_of W24 hG hK (PySem.W.mg_of X G g24q)
  have bI24 : Binds K _ ["self", "least", "most"] [] := FI24.binds rfl fun _ _ _ _ _ _ us hl => match us, hl with | [_, _, _], _ => rfl
  have bQ24 : Binds K _ ["self", "other"] [] := FQ24.binds rfl fun _ _ _ _ _ _ us hl => match us, hl with | [_, _], _ => rfl
  have MP24 : ∀ base : Heap, MkPos l.prog w K mg base "Came" Ac24 ["least", "most"] := fun base => ⟨PySem.W.mg_of X G g24q, _, _, ⟨W24.mkI, i24q, W24.isI, W24.kC⟩, fn_iCame FI24 PC24, bI24⟩
  have ME24 : ∀ base : Heap, MetX l.prog w K mg base 2 Ac24 "__eq__" (spPE K Ac24 ["least", "most"]) := fun base => ⟨_, _, _, ⟨j24q, W24.isQ, W24.kQ⟩, fn_eCame FQ24 PC24 (PySem.W.mg_none_of X G z_isinstance), bQ24⟩
  have FI25 : C8.Fun K "__init__" "BestOrder.__init__" sIBestOrder If25 _ := ⟨_, _, _, _, _, _, _, _, _, _, rfl, l25q, d25q⟩
  have FQ25 : C8.Fun K "__eq__" "BestOrder.__eq__" sEBestOrder Qf25 _ := ⟨_, _, _, _, _, _, _, _, _, _, rfl, m25q, n25q⟩
  have W25 := papB_ok (List.all_eq_true.mp hch (Ac25, If25, Qf25, ["names", "late", "last"]) (by simp only [List.mem_cons, true_or, or_true]))
  have PC25 : PapC K mg "BestOrder" Ac25 ["names", "late", "last"] := papC_of W25 hG hK (PySem.W.mg_of X G g25q)
  have bI25 : Binds K _ ["self", "names", "late", "last"] [] := FI25.binds rfl fun _ _ _ _ _ _ us hl => match us, hl with | [_, _, _, _], _ => rfl
  have bQ25 : Binds K _ ["self", "other"] [] := FQ25.binds rfl fun _ _ _ _ _ _ us hl => match us, hl with | [_, _], _ => rfl
  have MP25 : ∀ base : Heap, MkPos l.prog w K mg base "BestOrder" Ac25 ["names", "late", "last"] := fun base => ⟨PySem.W.mg_of X G g25q, _, _, ⟨W25.mkI, i25q, W25.isI, W25.kC⟩, fn_iBestOrder FI25 PC25, bI25⟩
  have ME25 : ∀ base : Heap, MetX l.prog w K mg base 2 Ac25 "__eq__" (spPE K Ac25 ["names", "late", "last"]) := fun base => ⟨_, _, _, ⟨j25q, W25.isQ, W25.kQ⟩, fn_eBestOrder FQ25 PC25 (PySem.W.mg_none_of X G z_isinstance), bQ25⟩
  have FI26 : C8.Fun K "__init__" "PoolTaking.__init__" sIPoolTaking If26 _ := ⟨_, _, _, _, _, _, _, _, _, _, rfl, l26q, d26q⟩
  have FQ26 : C8.Fun K "__eq__" "PoolTaking.__eq__" sEPoolTaking Qf26 _ := ⟨_, _, _, _, _, _, _, _, _, _, rfl, m26q, n26q⟩
  have W26 := papB_ok (List.all_eq_true.mp hch (Ac26, If26, Qf26, ["loop", "worker", "many", "begun", "ended"]) (by simp only [List.mem_cons, true_or, or_true]))
  have PC26 : PapC K mg "PoolTaking" Ac26 ["loop", "worker", "many", "begun", "ended"] := papC_of W26 hG hK (PySem.W.mg_of X G g26q)
  have bI26 : Binds K _ ["self", "loop", "worker", "many", "begun", "ended"] [] := FI26.binds rfl fun _ _ _ _ _ _ us hl => match us, hl with | [_, _, _, _, _, _], _ => rfl
  have bQ26 : Binds K _ ["self", "other"] [] := FQ26.binds rfl fun _ _ _ _ _ _ us hl => match us, hl with | [_, _], _ => rfl
  have MP26 : ∀ base : Heap, MkPos l.prog w K mg base "PoolTaking" Ac26 ["loop", "worker", "many", "begun", "ended"] := fun base => ⟨PySem.W.mg_of X G g26q, _, _, ⟨W26.mkI, i26q, W26.isI, W26.kC⟩, fn_iPoolTaking FI26 PC26, bI26⟩
  have ME26 : ∀ base : Heap, MetX l.prog w K mg base 2 Ac26 "__eq__" (spPE K Ac26 ["loop", "worker", "many", "begun", "ended"]) := fun base => ⟨_, _, _, ⟨j26q, W26.isQ, W26.kQ⟩, fn_ePoolTaking FQ26 PC26 (PySem.W.mg_none_of X G z_isinstance), bQ26⟩
  have KB1 : KBn K _ ["self", "rests"] 1 ["rests"] gV1 gV1 := kb_pm FI1 rfl (fun _ _ _ _ _ _ us ws h1 h2 => match us, ws, h1, h2 with | [_], [_], _, _ => rfl) (fun r1 r2 => r1.append (pm1_rel r2))
  have MK1 : ∀ base : Heap, MkKey l.prog w K mg base "NoList" Ac1 ["rests"] 0 ["rests"] gV1 := fun base => ⟨PySem.W.mg_of X G g1q, _, _, _, ⟨W1.mkI, i1q, W1.isI, W1.kC⟩, fn_iNoList FI1 PC1, KB1⟩
  have KB4 : KBn K _ ["self", "limit", "chunks", "below"] 1 ["below", "chunks", "limit"] gV4 gV4 := kb_pm FI3 rfl (fun _ _ _ _ _ _ us ws h1 h2 => match us, ws, h1, h2 with | [_], [_, _, _], _, _ => rfl) (fun r1 r2 => r1.append (pm4_rel r2))
  have MK4 : ∀ base : Heap, MkKey l.prog w K mg base "Least" Ac3 ["limit", "chunks", "below"] 0 ["below", "chunks", "limit"] gV4 := fun base => ⟨PySem.W.mg_of X G g3q, _, _, _, ⟨W3.mkI, i3q, W3.isI, W3.kC⟩, fn_iLeast FI3 PC3, KB4⟩
  have KB6 : KBn K _ ["self", "late", "rest"] 1 ["rest", "late"] gV6 gV6 := kb_pm FI15 rfl (fun _ _ _ _ _ _ us ws h1 h2 => match us, ws, h1, h2 with | [_], [_, _], _, _ => rfl) (fun r1 r2 => r1.append (pm6_rel r2))
  have MK6 : ∀ base : Heap, MkKey l.prog w K mg base "Bound" Ac15 ["late", "rest"] 0 ["rest", "late"] gV6 := fun base => ⟨PySem.W.mg_of X G g15q, _, _, _, ⟨W15.mkI, i15q, W15.isI, W15.kC⟩, fn_iBound FI15 PC15, KB6⟩
  have KB8 : KBn K _ ["self", "table"] 1 ["table"] gV8 gV8 := kb_pm FI17 rfl (fun _ _ _ _ _ _ us ws h1 h2 => match us, ws, h1, h2 with | [_], [_], _, _ => rfl) (fun r1 r2 => r1.append (pm8_rel r2))
  have MK8 : ∀ base : Heap, MkKey l.prog w K mg base "Within" Ac17 ["table"] 0 ["table"] gV8 := fun base => ⟨PySem.W.mg_of X G g17q, _, _, _, ⟨W17.mkI, i17q, W17.isI, W17.kC⟩, fn_iWithin FI17 PC17, KB8⟩
  have KB10 : KBn K _ ["self", "begins"] 1 ["begins"] gV10 gV10 := kb_pm FI6 rfl (fun _ _ _ _ _ _ us ws h1 h2 => match us, ws, h1, h2 with | [_], [_], _, _ => rfl) (fun r1 r2 => r1.append (pm10_rel r2))
  have MK10 : ∀ base : Heap, MkKey l.prog w K mg base "NeverLess" Ac6 ["begins"] 0 ["begins"] gV10 := fun base => ⟨PySem.W.mg_of X G g6q, _, _, _, ⟨W6.mkI, i6q, W6.isI, W6.kC⟩, fn_iNeverLess FI6 PC6, KB10⟩
  have KB13 : KBn K _ ["self", "never", "steady"] 1 ["steady", "never"] gV13 gV13 := kb_pm FI9 rfl (fun _ _ _ _ _ _ us ws h1 h2 => match us, ws, h1, h2 with | [_], [_, _], _, _ => rfl) (fun r1 r2 => r1.append (pm13_rel r2))
  have MK13 : ∀ base : Heap, MkKey l.prog w K mg base "Surely" Ac9 ["never", "steady"] 0 ["steady", "never"] gV13 := fun base => ⟨PySem.W.mg_of X G g9q, _, _, _, ⟨W9.mkI, i9q, W9.isI, W9.kC⟩, fn_iSurely FI9 PC9, KB13⟩
  have KB14 : KBn K _ ["self", "rest"] 1 ["rest"] gV14 gV14 := kb_pm FI10 rfl (fun _ _ _ _ _ _ us ws h1 h2 => match us, ws, h1, h2 with | [_], [_], _, _ => rfl) (fun r1 r2 => r1.append (pm14_rel r2))
  have MK14 : ∀ base : Heap, MkKey l.prog w K mg base "Less" Ac10 ["rest"] 0 ["rest"] gV14 := fun base => ⟨PySem.W.mg_of X G g10q, _, _, _, ⟨W10.mkI, i10q, W10.isI, W10.kC⟩, fn_iLess FI10 PC10, KB14⟩
  have KB18 : KBn K _ ["self", "upto"] 1 ["upto"] gV18 gV18 := kb_pm FI14 rfl (fun _ _ _ _ _ _ us ws h1 h2 => match us, ws, h1, h2 with | [_], [_], _, _ => rfl) (fun r1 r2 => r1.append (pm18_rel r2))
  have MK18 : ∀ base : Heap, MkKey l.prog w K mg base "Undecided" Ac14 ["upto"] 0 ["upto"] gV18 := fun base => ⟨PySem.W.mg_of X G g14q, _, _, _, ⟨W14.mkI, i14q, W14.isI, W14.kC⟩, fn_iUndecided FI14 PC14, KB18⟩
  have KB20 : KBn K _ ["self", "spot", "rise"] 1 ["spot", "rise"] gV20 gV20 := kb_pm FI5 rfl (fun _ _ _ _ _ _ us ws h1 h2 => match us, ws, h1, h2 with | [_], [_, _], _, _ => rfl) (fun r1 r2 => r1.append (pm20_rel r2))
  have MK20 : ∀ base : Heap, MkKey l.prog w K mg base "BatchEndless" Ac5 ["spot", "rise"] 0 ["spot", "rise"] gV20 := fun base => ⟨PySem.W.mg_of X G g5q, _, _, _, ⟨W5.mkI, i5q, W5.isI, W5.kC⟩, fn_iBatchEndless FI5 PC5, KB20⟩
  have KB22 : KBn K _ ["self", "world"] 1 ["world"] gV22 gV22 := kb_pm FI21 rfl (fun _ _ _ _ _ _ us ws h1 h2 => match us, ws, h1, h2 with | [_], [_], _, _ => rfl) (fun r1 r2 => r1.append (pm22_rel r2))
  have MK22 : ∀ base : Heap, MkKey l.prog w K mg base "Fits" Ac21 ["world"] 0 ["world"] gV22 := fun base => ⟨PySem.W.mg_of X G g21q, _, _, _, ⟨W21.mkI, i21q, W21.isI, W21.kC⟩, fn_iFits FI21 PC21, KB22⟩
  have KB24 : KBn K _ ["self", "workers"] 1 ["workers"] gV24 gV24 := kb_pm FI23 rfl (fun _ _ _ _ _ _ us ws h1 h2 => match us, ws, h1, h2 with | [_], [_], _, _ => rfl) (fun r1 r2 => r1.append (pm24_rel r2))
  have MK24 : ∀ base : Heap, MkKey l.prog w K mg base "Ring" Ac23 ["workers"] 0 ["workers"] gV24 := fun base => ⟨PySem.W.mg_of X G g23q, _, _, _, ⟨W23.mkI, i23q, W23.isI, W23.kC⟩, fn_iRing FI23 PC23, KB24⟩
  have KB27 : KBn K _ ["self", "worker", "at", "begun", "ended"] 1 ["ended", "begun", "at", "worker"] gV27 gV27 := kb_pm FI20 rfl (fun _ _ _ _ _ _ us ws h1 h2 => match us, ws, h1, h2 with | [_], [_, _, _, _], _, _ => rfl) (fun r1 r2 => r1.append (pm27_rel r2))
  have MK27 : ∀ base : Heap, MkKey l.prog w K mg base "Taking" Ac20 ["worker", "at", "begun", "ended"] 0 ["ended", "begun", "at", "worker"] gV27 := fun base => ⟨PySem.W.mg_of X G g20q, _, _, _, ⟨W20.mkI, i20q, W20.isI, W20.kC⟩, fn_iTaking FI20 PC20, KB27⟩
  have KB29 : KBn K _ ["self", "loop", "worker", "many", "begun", "ended"] 4 ["ended", "begun"] gV29 gV29 := kb_pm FI26 rfl (fun _ _ _ _ _ _ us ws h1 h2 => match us, ws, h1, h2 with | [_, _, _, _], [_, _], _, _ => rfl) (fun r1 r2 => r1.append (pm29_rel r2))
  have MK29 : ∀ base : Heap, MkKey l.prog w K mg base "PoolTaking" Ac26 ["loop", "worker", "many", "begun", "ended"] 3 ["ended", "begun"] gV29 := fun base => ⟨PySem.W.mg_of X G g26q, _, _, _, ⟨W26.mkI, i26q, W26.isI, W26.kC⟩, fn_iPoolTaking FI26 PC26, KB29⟩
  have FNo : C8.Fun K "__bool__" "Denial.__bool__" sNo fNo _ := ⟨_, _, _, _, _, _, _, _, _, _, rfl, lNo, cNo⟩
  have bNo : Binds K _ ["self"] [] := FNo.binds rfl fun _ _ _ _ _ _ us hl => match us, hl with | [_], _ => rfl
  have T0 : Txt0 mg := { n_int := PySem.W.mg_none_of X G z_int, n_list := PySem.W.mg_none_of X G z_list, n_len := PySem.W.mg_none_of X G z_len, n_abs := PySem.W.mg_none_of X G z_abs }
  have T : TxtP mg := { n_isinstance := PySem.W.mg_none_of X G z_isinstance, n_repr := PySem.W.mg_none_of X G z_repr, n_bool := PySem.W.mg_none_of X G z_bool, n_range := PySem.W.mg_none_of X G z_range, n_len := PySem.W.mg_none_of X G z_len }
  have mem : ∀ i, i < 27 → ([Ac0, Ac1, Ac2, Ac3, Ac4, Ac5, Ac6, Ac7, Ac8, Ac9, Ac10, Ac11, Ac12, Ac13, Ac14, Ac15, Ac16, Ac17, Ac18, Ac19, Ac20, Ac21, Ac22, Ac23, Ac24, Ac25, Ac26] : List Addr).getD i 0 ∈ ([Ac0, Ac1, Ac2, Ac3, Ac4, Ac5, Ac6, Ac7, Ac8, Ac9, Ac10, Ac11, Ac12, Ac13, Ac14, Ac15, Ac16, Ac17, Ac18, Ac19, Ac20, Ac21, Ac22, Ac23, Ac24, Ac25, Ac26] : List Addr) := fun i hi => by
    rw [List.getD_eq_getElem?_getD, List.getElem?_eq_getElem (show i < ([Ac0, Ac1, Ac2, Ac3, Ac4, Ac5, Ac6, Ac7, Ac8, Ac9, Ac10, Ac11, Ac12, Ac13, Ac14, Ac15, Ac16, Ac17, Ac18, Ac19, Ac20, Ac21, Ac22, Ac23, Ac24, Ac25, Ac26] : List Addr).length from hi), Option.getD_some]
    exact List.getElem_mem _
  have Z : ∀ base : Heap, Paps l.prog w K mg base (fun i => ([Ac0, Ac1, Ac2, Ac3, Ac4, Ac5, Ac6, Ac7, Ac8, Ac9, Ac10, Ac11, Ac12, Ac13, Ac14, Ac15, Ac16, Ac17, Ac18, Ac19, Ac20, Ac21, Ac22, Ac23, Ac24, Ac25, Ac26] : List Addr).getD i 0) Pa De := fun base => { p0 := PC0, p1 := PC1, p2 := PC2, p3 := PC3, p4 := PC4, p5 := PC5, p6 := PC6, p7 := PC7, p8 := PC8, p9 := PC9, p10 := PC10, p11 := PC11, p12 := PC12, p13 := PC13, p14 := PC14, p15 := PC15, p16 := PC16, p17 := PC17, p18 := PC18, p19 := PC19, p20 := PC20, p21 := PC21, p22 := PC22, p23 := PC23, p24 := PC24, p25 := PC25, p26 := PC26, r0 := MP0 base, r1 := MK1 base, r2 := MP2 base, r3 := MP3 base, r4 := MK4 base, r5 := MP19 base, r6 := MK6 base, r7 := MP16 base, r8 := MK8 base, r9 := MP18 base, r10 := MK10 base, r11 := MP7 base, r12 := MP8 base, r13 := MK13 base, r14 := MK14 base, r15 := MP11 base, r16 := MP12 base, r17 := MP13 base, r18 := MK18 base, r19 := MP4 base, r20 := MK20 base, r21 := MP25 base, r22 := MK22 base, r23 := MP22 base, r24 := MK24 base, r25 := MP24 base, r26 := MP20 base, r27 := MK27 base, r28 := MP26 base, r29 := MK29 base, xB := MP15 base, xN := MP1 base, eq := fun n hn => match n, hn with | 0, _ => ME0 base | 1, _ => ME1 base | 2, _ => ME2 base | 3, _ => ME3 base | 4, _ => ME4 base | 5, _ => ME5 base | 6, _ => ME6 base | 7, _ => ME7 base | 8, _ => ME8 base | 9, _ => ME9 base | 10, _ => ME10 base | 11, _ => ME11 base | 12, _ => ME12 base | 13, _ => ME13 base | 14, _ => ME14 base | 15, _ => ME15 base | 16, _ => ME16 base | 17, _ => ME17 base | 18, _ => ME18 base | 19, _ => ME19 base | 20, _ => ME20 base | 21, _ => ME21 base | 22, _ => ME22 base | 23, _ => ME23 base | 24, _ => ME24 base | 25, _ => ME25 base | 26, _ => ME26 base | n + 27, h => absurd h (by omega), I := fun n hn => match n, hn with | 0, _ => PC0.I | 1, _ => PC1.I | 2, _ => PC2.I | 3, _ => PC3.I | 4, _ => PC4.I | 5, _ => PC5.I | 6, _ => PC6.I | 7, _ => PC7.I | 8, _ => PC8.I | 9, _ => PC9.I | 10, _ => PC10.I | 11, _ => PC11.I | 12, _ => PC12.I | 13, _ => PC13.I | 14, _ => PC14.I | 15, _ => PC15.I | 16, _ => PC16.I | 17, _ => PC17.I | 18, _ => PC18.I | 19, _ => PC19.I | 20, _ => PC20.I | 21, _ => PC21.I | 22, _ => PC22.I | 23, _ => PC23.I | 24, _ => PC24.I | 25, _ => PC25.I | 26, _ => PC26.I | n + 27, h => absurd h (by omega), tf := tfB_ok htf, tt := fun n hn hf => ⟨_, _, _, ⟨ttB_ok htt n hn hf, iNo, kNo⟩, fn_no FNo, bNo⟩, kP := fun i hi => of_decide_eq_true (List.all_eq_true.mp hkP _ (mem i hi)), kD := kdB_ok hkD, kL := fun n hn => match n, hn with | 0, _ => W0.kL | 1, _ => W1.kL | 2, _ => W2.kL | 3, _ => W3.kL | 4, _ => W4.kL | 5, _ => W5.kL | 6, _ => W6.kL | 7, _ => W7.kL | 8, _ => W8.kL | 9, _ => W9.kL | 10, _ => W10.kL | 11, _ => W11.kL | 12, _ => W12.kL | 13, _ => W13.kL | 14, _ => W14.kL | 15, _ => W15.kL | 16, _ => W16.kL | 17, _ => W17.kL | 18, _ => W18.kL | 19, _ => W19.kL | 20, _ => W20.kL | 21, _ => W21.kL | 22, _ => W22.kL | 23, _ => W23.kL | 24, _ => W24.kL | 25, _ => W25.kL | 26, _ => W26.kL | n + 27, h => absurd h (by omega), kN := knB_ok hkN, kX := kxB_ok hkX, neN := ⟨W1.hM, neN⟩, neT := ⟨W20.hM, neT⟩, hP := PySem.W.mg_of X G gP, hD := PySem.W.mg_of X G gD }
  refine ⟨PySem.W.fnOf "law" "law" (C8.fnArgs sLaw) (C8.fnBody sLaw) (C8.fnScope sLaw) .none kVla dcla pmla anla cdla ctla, [("_law_made", c1, B1)], spLaw K B1, ?tbs, fun s u => .of_eq rfl, fun base KB GB TBS => ?_, ?hsp⟩
  case tbs =>
    exact fun e he => by
      simp only [List.mem_cons, List.not_mem_nil, or_false] at he
      rcases he with rfl
      · exact ⟨by simp, tabIn_of alm llm rfl ltlm vtlm, ntlm⟩
  case hsp =>
    exact fun H a ns hB hS hl => ⟨a, ns, rfl, hS, hl, fun p hp => by
      rw [List.mem_singleton.mp hp]
      exact TabS.nil (hB _ (List.Mem.head _)), fun _ => rfl⟩
  have TBlm : TabB base mg c1 B1 := TBS ("_law_made", c1, B1) (by simp)
  have D1 := cal_draw (P := l.prog) (w := w) (K := K) (base := base) Fld bld T0
  have D2 := cal_pick Flk blk T0 D1
  have D0 := cal_pen (P := l.prog) (w := w) (base := base) Flp blp T0
  have D5 := cal_val Flv blv D2
  have DM := cal_made Flm blm TBlm (Z base)
  exact fn_law Fla (Z base) T D0 D5 DM
end Lw
namespace Lw
open PySem PySem.Spec PyProof.Rows L2

open LamX
theorem fun_of {K : PySem.W.Frag} {x q : Str} {st : Stmt} {f : Addr} (h : ∃ fd, FunD K x q (C8.fnArgs st) (C8.fnBody st) (C8.fnScope st) [] [] f fd) : ∃ (oc : Value) (od : Option Addr) (kV dc pm : Value) (an : Option Addr) (cd ct : Value) (sl : Array (Option Value)),
    K.lookup f = some ⟨oc, od, .func (PySem.W.fnOf x q (C8.fnArgs st) (C8.fnBody st) (C8.fnScope st) .none kV dc pm an cd ct), sl⟩ ∧ PySem.W.codeIn K cd q = true ∧ PySem.W.keepIn K (.ref f) = true := by
  obtain ⟨fd, F⟩ := h
  obtain ⟨oc, od, dV, kV, doc, pm, an, cdv, ct, osl, rfl, lk, hcd, hD, hK⟩ := F.ex
  have e : dV = .none := by
    rcases hD with ⟨_, e⟩ | ⟨n, _⟩
    · exact e
    · exact absurd rfl n
  subst e
  exact ⟨oc, od, kV, doc, pm, an, cdv, ct, osl, lk, hcd, F.kp⟩
theorem tab_parts {K : PySem.W.Frag} {c P : Addr} (h : PySem.W.codeHdIn K c P = true) : ∃ (oc : Value) (od : Option Addr) (us : Array Value) (sl : Array (Option Value)), K.lookup c = some ⟨oc, od, .fields us, sl⟩ ∧ us[11]? = some (.ref P) := by
  unfold PySem.W.codeHdIn at h
  split at h
  · rename_i od vs sl hk
    refine ⟨_, _, _, _, hk, ?_⟩
    have h1 := (Bool.and_eq_true_iff.mp (Bool.and_eq_true_iff.mp (Bool.and_eq_true_iff.mp (Bool.and_eq_true_iff.mp (Bool.and_eq_true_iff.mp h).1).1).1).1).1
    split at h1
    · rename_i P' e
      rw [e, beq_iff_eq.mp h1]
    · cases h1
  · cases h
/-- the walk's end over a Hook that tells of some K -/
theorem walk_endX {l : PySem.W.OpenLaw} {n k : Nat} {q : Program} {loose : List Str} {XP : (Str → Option Value) → Heap → Prop} {YP : World → Heap → Prop} {d : DefRec} {x : Str} {xts : List Str}
    (hn : l.most = some n) (hn2 : n ≤ 63) (hdf : d.params.defaults = []) (hr : Room k callerA)
    (F : ∀ (w : World) (mg : Str → Option Value) (fa : Addr) (h : Heap), YP w h → h.Ns mainGlobals mg → mg d.name = some (.ref fa) → ∃ (K : PySem.W.Frag) (fd : FuncData) (tb : List (Str × Addr × Addr)) (sp : Sp), K.In h ∧ (∀ y ∈ xts, ∃ c B, PySem.W.tabIn K y = some (c, B) ∧ PySem.W.codeHdIn K c B = true ∧ h.get? B = some { cls := .none, data := .fields #[] }) ∧
      (∀ e ∈ tb, e.1 ∈ xts ∧ PySem.W.tabIn K e.1 = some (e.2.1, e.2.2) ∧ K.lookup e.2.2 = none) ∧ (∀ (s : Shared) (u : Value), BindsTo s fd ⟨[u], []⟩ [(x, u)]) ∧
      (∀ base : Heap, K.In base → base.Ns mainGlobals mg → (∀ e ∈ tb, TabB base mg e.2.1 e.2.2) → FnG l.prog w K mg base k fa fd [x] sp) ∧
      ∀ (H : Hp) (a : Addr) (ns : List Int), (∀ e ∈ tb, H e.2.2 = some (.tbl #[])) → SqL K H a (ns.map V.int) → ns.length ≤ 63 → sp [.ref a] H (fun v _ => v = .bl true) C8.E0) :
    PySem.W.WalkO q loose XP YP l.row.toRowW d [] (fun f vs => PySem.call f vs) := by
  refine Att.attach_callB hn hdf fun w s₀ s₁ mg mb fa o pm cd doc a vs ns G Y ho hd hcd hmg hobj hints hlen hbits hg => ?_
  obtain ⟨K, fd, tb, sp, KX, hx, ht, hb, hF, hsp⟩ := F w mg fa _ Y G.T.g hmg
  have tab : ∀ e ∈ tb, PySem.W.CodeHd s₁.heap e.2.1 e.2.2 ∧ s₁.heap.get? e.2.2 = some { cls := .none, data := .fields #[] } := fun e he => by
    obtain ⟨h1, h2, h3⟩ := ht e he
    obtain ⟨c, B, g1, g2, g3⟩ := hx _ h1
    rw [g1] at h2
    obtain ⟨z1, z2⟩ := Prod.mk.inj (Option.some.inj h2)
    rw [← z1, ← z2]
    exact ⟨PySem.W.codeHd_of_K KX g2, g3⟩
  have mem : ∀ {p : Addr → Prop}, (∀ e ∈ tb, p e.2.2) → ∀ b ∈ tb.map (·.2.2), p b := fun {p} h b hb => by
    obtain ⟨e, he, rfl⟩ := List.mem_map.mp hb
    exact h e he
  exact law_end (Bs := tb.map (·.2.2)) KX G.T.g G.T.b G.T.builtins G.T.nolimit hg (mem fun e he => (tab e he).2) (mem fun e he => (ht e he).2.2) (mem fun e he => ⟨_, (tab e he).1⟩) G.T.bmain hobj hints (Nat.le_trans (Nat.le_trans hlen hn2) (by decide)) hr
    (fun base kin ns' tbb => hF base kin ns' fun e he => tbb e.2.2 (List.mem_map.mpr ⟨e, he, rfl⟩) e.2.1 (tab e he).1) hb fun H hB hS => hsp H a ns (fun e he => hB e.2.2 (List.mem_map.mpr ⟨e, he, rfl⟩)) hS (Nat.le_trans hlen hn2)
theorem known {l : PySem.W.OpenLaw} {w : World} {K : PySem.W.Frag} {h : Heap} {mg : Str → Option Value} {fa : Addr} (X : K.In h) (G : h.Ns mainGlobals mg) (hfa' : mg "law" = some (.ref fa)) (c : SaysY hfa hfn htf exK h K) :
    ∃ (K : PySem.W.Frag) (fd : FuncData) (tb : List (Str × Addr × Addr)) (sp : Sp), K.In h ∧ (∀ y ∈ (["_law_made"] : List Str), ∃ c B, PySem.W.tabIn K y = some (c, B) ∧ PySem.W.codeHdIn K c B = true ∧ h.get? B = some { cls := .none, data := .fields #[] }) ∧
      (∀ e ∈ tb, e.1 ∈ (["_law_made"] : List Str) ∧ PySem.W.tabIn K e.1 = some (e.2.1, e.2.2) ∧ K.lookup e.2.2 = none) ∧ (∀ (s : Shared) (u : Value), BindsTo s fd ⟨[u], []⟩ [("_law_script", u)]) ∧
      (∀ base : Heap, K.In base → base.Ns mainGlobals mg → (∀ e ∈ tb, TabB base mg e.2.1 e.2.2) → FnG l.prog w K mg base 6 fa fd ["_law_script"] sp) ∧
      ∀ (H : Hp) (a : Addr) (ns : List Int), (∀ e ∈ tb, H e.2.2 = some (.tbl #[])) → SqL K H a (ns.map V.int) → ns.length ≤ 63 → sp [.ref a] H (fun v _ => v = .bl true) C8.E0 := by
  obtain ⟨_, _, _, _, _, _, u0, _, _, lk0, ci0, kp0⟩ := fun_of (st := sPen) (show ∃ fd, FunD K "_law_pen" "_law_pen" (C8.fnArgs sPen) (C8.fnBody sPen) (C8.fnScope sPen) [] [] (He.ga K "_law_pen") fd from c.d.def_ 0 (d := hd0) rfl)
  obtain ⟨_, _, _, _, _, _, u1, _, _, lk1, ci1, kp1⟩ := fun_of (st := sDraw) (show ∃ fd, FunD K "_law_draw" "_law_draw" (C8.fnArgs sDraw) (C8.fnBody sDraw) (C8.fnScope sDraw) [] [] (He.ga K "_law_draw") fd from c.d.def_ 1 (d := hd1) rfl)
  obtain ⟨_, _, _, _, _, _, u2, _, _, lk2, ci2, kp2⟩ := fun_of (st := sPick) (show ∃ fd, FunD K "_law_pick" "_law_pick" (C8.fnArgs sPick) (C8.fnBody sPick) (C8.fnScope sPick) [] [] (He.ga K "_law_pick") fd from c.d.def_ 2 (d := hd2) rfl)
  obtain ⟨_, _, _, _, _, _, u3, _, _, lk3, ci3, kp3⟩ := fun_of (st := sVal) (show ∃ fd, FunD K "_law_value" "_law_value" (C8.fnArgs sVal) (C8.fnBody sVal) (C8.fnScope sVal) [] [] (He.ga K "_law_value") fd from c.d.def_ 3 (d := hd3) rfl)
  obtain ⟨_, _, _, _, _, _, u5, _, _, lk5, ci5, kp5⟩ := fun_of (st := sLaw) (show ∃ fd, FunD K "law" "law" (C8.fnArgs sLaw) (C8.fnBody sLaw) (C8.fnScope sLaw) [] [] (He.ga K "law") fd from c.d.def_ 5 (d := hd5) rfl)
  obtain ⟨_, _, _, _, _, _, u4, _, _, lk4, ci4, kp4⟩ := fun_of (st := sMade) (show ∃ fd, FunD K "_law_made" "_law_made" (C8.fnArgs sMade) (C8.fnBody sMade) (C8.fnScope sMade) [] [] (He.ga K "_law_made") fd from c.d.def_ 4 (d := hd4) rfl)
  obtain ⟨c1, rfl⟩ := He.codeIn_ref ci4
  have ec : He.codeOf K ("_law_made", none) = c1 := He.codeOf_eq (K := K) (p := ("_law_made", none)) lk4 rfl
  obtain ⟨_, _, _, _, ltm, vtm⟩ := tab_parts (c.hd ("_law_made", none) (List.Mem.head _))
  have ntm := c.out ("_law_made", none) (List.Mem.head _)
  unfold He.cT at ltm vtm ntm
  rw [ec] at ltm vtm ntm
  obtain ⟨_, _, _, _, _, _, u6, _, _, lk6, ci6, kp6⟩ := fun_of (st := sIFewest) (show ∃ fd, FunD K "__init__" "Fewest.__init__" (C8.fnArgs sIFewest) (C8.fnBody sIFewest) (C8.fnScope sIFewest) [] [] (He.ma K (He.ga K "Fewest") "__init__") fd from c.d.def_ 6 (d := hd6) rfl)
  obtain ⟨_, _, _, _, _, _, u33, _, _, lk33, ci33, kp33⟩ := fun_of (st := sEFewest) (show ∃ fd, FunD K "__eq__" "Fewest.__eq__" (C8.fnArgs sEFewest) (C8.fnBody sEFewest) (C8.fnScope sEFewest) [] [] (He.ma K (He.ga K "Fewest") "__eq__") fd from c.d.def_ 33 (d := hd33) rfl)
  obtain ⟨_, _, _, _, _, _, u7, _, _, lk7, ci7, kp7⟩ := fun_of (st := sINoList) (show ∃ fd, FunD K "__init__" "NoList.__init__" (C8.fnArgs sINoList) (C8.fnBody sINoList) (C8.fnScope sINoList) [] [] (He.ma K (He.ga K "NoList") "__init__") fd from c.d.def_ 7 (d := hd7) rfl)
  obtain ⟨_, _, _, _, _, _, u34, _, _, lk34, ci34, kp34⟩ := fun_of (st := sENoList) (show ∃ fd, FunD K "__eq__" "NoList.__eq__" (C8.fnArgs sENoList) (C8.fnBody sENoList) (C8.fnScope sENoList) [] [] (He.ma K (He.ga K "NoList") "__eq__") fd from c.d.def_ 34 (d := hd34) rfl)
  obtain ⟨_, _, _, _, _, _, u8, _, _, lk8, ci8, kp8⟩ := fun_of (st := sIGreatest) (show ∃ fd, FunD K "__init__" "Greatest.__init__" (C8.fnArgs sIGreatest) (C8.fnBody sIGreatest) (C8.fnScope sIGreatest) [] [] (He.ma K (He.ga K "Greatest") "__init__") fd from c.d.def_ 8 (d := hd8) rfl)
  obtain ⟨_, _, _, _, _, _, u35, _, _, lk35, ci35, kp35⟩ := fun_of (st := sEGreatest) (show ∃ fd, FunD K "__eq__" "Greatest.__eq__" (C8.fnArgs sEGreatest) (C8.fnBody sEGreatest) (C8.fnScope sEGreatest) [] [] (He.ma K (He.ga K "Greatest") "__eq__") fd from c.d.def_ 35 (d := hd35) rfl)
  obtain ⟨_, _, _, _, _, _, u9, _, _, lk9, ci9, kp9⟩ := fun_of (st := sILeast) (show ∃ fd, FunD K "__init__" "Least.__init__" (C8.fnArgs sILeast) (C8.fnBody sILeast) (C8.fnScope sILeast) [] [] (He.ma K (He.ga K "Least") "__init__") fd from c.d.def_ 9 (d := hd9) rfl)
  obtain ⟨_, _, _, _, _, _, u36, _, _, lk36, ci36, kp36⟩ := fun_of (st := sELeast) (show ∃ fd, FunD K "__eq__" "Least.__eq__" (C8.fnArgs sELeast) (C8.fnBody sELeast) (C8.fnScope sELeast) [] [] (He.ma K (He.ga K "Least") "__eq__") fd from c.d.def_ 36 (d := hd36) rfl)
  obtain ⟨_, _, _, _, _, _, u10, _, _, lk10, ci10, kp10⟩ := fun_of (st := sIBatchBound) (show ∃ fd, FunD K "__init__" "BatchBound.__init__" (C8.fnArgs sIBatchBound) (C8.fnBody sIBatchBound) (C8.fnScope sIBatchBound) [] [] (He.ma K (He.ga K "BatchBound") "__init__") fd from c.d.def_ 10 (d := hd10) rfl)
  obtain ⟨_, _, _, _, _, _, u37, _, _, lk37, ci37, kp37⟩ := fun_of (st := sEBatchBound) (show ∃ fd, FunD K "__eq__" "BatchBound.__eq__" (C8.fnArgs sEBatchBound) (C8.fnBody sEBatchBound) (C8.fnScope sEBatchBound) [] [] (He.ma K (He.ga K "BatchBound") "__eq__") fd from c.d.def_ 37 (d := hd37) rfl)
  obtain ⟨_, _, _, _, _, _, u11, _, _, lk11, ci11, kp11⟩ := fun_of (st := sIBatchEndless) (show ∃ fd, FunD K "__init__" "BatchEndless.__init__" (C8.fnArgs sIBatchEndless) (C8.fnBody sIBatchEndless) (C8.fnScope sIBatchEndless) [] [] (He.ma K (He.ga K "BatchEndless") "__init__") fd from c.d.def_ 11 (d := hd11) rfl)
  obtain ⟨_, _, _, _, _, _, u38, _, _, lk38, ci38, kp38⟩ := fun_of (st := sEBatchEndless) (show ∃ fd, FunD K "__eq__" "BatchEndless.__eq__" (C8.fnArgs sEBatchEndless) (C8.fnBody sEBatchEndless) (C8.fnScope sEBatchEndless) [] [] (He.ma K (He.ga K "BatchEndless") "__eq__") fd from c.d.def_ 38 (d := hd38) rfl)
  obtain ⟨_, _, _, _, _, _, u12, _, _, lk12, ci12, kp12⟩ := fun_of (st := sINeverLess) (show ∃ fd, FunD K "__init__" "NeverLess.__init__" (C8.fnArgs sINeverLess) (C8.fnBody sINeverLess) (C8.fnScope sINeverLess) [] [] (He.ma K (He.ga K "NeverLess") "__init__") fd from c.d.def_ 12 (d := hd12) rfl)
  obtain ⟨_, _, _, _, _, _, u39, _, _, lk39, ci39, kp39⟩ := fun_of (st := sENeverLess) (show ∃ fd, FunD K "__eq__" "NeverLess.__eq__" (C8.fnArgs sENeverLess) (C8.fnBody sENeverLess) (C8.fnScope sENeverLess) [] [] (He.ma K (He.ga K "NeverLess") "__eq__") fd from c.d.def_ 39 (d := hd39) rfl)
  obtain ⟨_, _, _, _, _, _, u13, _, _, lk13, ci13, kp13⟩ := fun_of (st := sISteady) (show ∃ fd, FunD K "__init__" "Steady.__init__" (C8.fnArgs sISteady) (C8.fnBody sISteady) (C8.fnScope sISteady) [] [] (He.ma K (He.ga K "Steady") "__init__") fd from c.d.def_ 13 (d := hd13) rfl)
  obtain ⟨_, _, _, _, _, _, u40, _, _, lk40, ci40, kp40⟩ := fun_of (st := sESteady) (show ∃ fd, FunD K "__eq__" "Steady.__eq__" (C8.fnArgs sESteady) (C8.fnBody sESteady) (C8.fnScope sESteady) [] [] (He.ma K (He.ga K "Steady") "__eq__") fd from c.d.def_ 40 (d := hd40) rfl)
  obtain ⟨_, _, _, _, _, _, u14, _, _, lk14, ci14, kp14⟩ := fun_of (st := sISame) (show ∃ fd, FunD K "__init__" "Same.__init__" (C8.fnArgs sISame) (C8.fnBody sISame) (C8.fnScope sISame) [] [] (He.ma K (He.ga K "Same") "__init__") fd from c.d.def_ 14 (d := hd14) rfl)
  obtain ⟨_, _, _, _, _, _, u41, _, _, lk41, ci41, kp41⟩ := fun_of (st := sESame) (show ∃ fd, FunD K "__eq__" "Same.__eq__" (C8.fnArgs sESame) (C8.fnBody sESame) (C8.fnScope sESame) [] [] (He.ma K (He.ga K "Same") "__eq__") fd from c.d.def_ 41 (d := hd41) rfl)
  obtain ⟨_, _, _, _, _, _, u15, _, _, lk15, ci15, kp15⟩ := fun_of (st := sISurely) (show ∃ fd, FunD K "__init__" "Surely.__init__" (C8.fnArgs sISurely) (C8.fnBody sISurely) (C8.fnScope sISurely) [] [] (He.ma K (He.ga K "Surely") "__init__") fd from c.d.def_ 15 (d := hd15) rfl)
  obtain ⟨_, _, _, _, _, _, u42, _, _, lk42, ci42, kp42⟩ := fun_of (st := sESurely) (show ∃ fd, FunD K "__eq__" "Surely.__eq__" (C8.fnArgs sESurely) (C8.fnBody sESurely) (C8.fnScope sESurely) [] [] (He.ma K (He.ga K "Surely") "__eq__") fd from c.d.def_ 42 (d := hd42) rfl)
  obtain ⟨_, _, _, _, _, _, u16, _, _, lk16, ci16, kp16⟩ := fun_of (st := sILess) (show ∃ fd, FunD K "__init__" "Less.__init__" (C8.fnArgs sILess) (C8.fnBody sILess) (C8.fnScope sILess) [] [] (He.ma K (He.ga K "Less") "__init__") fd from c.d.def_ 16 (d := hd16) rfl)
  obtain ⟨_, _, _, _, _, _, u43, _, _, lk43, ci43, kp43⟩ := fun_of (st := sELess) (show ∃ fd, FunD K "__eq__" "Less.__eq__" (C8.fnArgs sELess) (C8.fnBody sELess) (C8.fnScope sELess) [] [] (He.ma K (He.ga K "Less") "__eq__") fd from c.d.def_ 43 (d := hd43) rfl)
  obtain ⟨_, _, _, _, _, _, u17, _, _, lk17, ci17, kp17⟩ := fun_of (st := sIJump) (show ∃ fd, FunD K "__init__" "Jump.__init__" (C8.fnArgs sIJump) (C8.fnBody sIJump) (C8.fnScope sIJump) [] [] (He.ma K (He.ga K "Jump") "__init__") fd from c.d.def_ 17 (d := hd17) rfl)
  obtain ⟨_, _, _, _, _, _, u44, _, _, lk44, ci44, kp44⟩ := fun_of (st := sEJump) (show ∃ fd, FunD K "__eq__" "Jump.__eq__" (C8.fnArgs sEJump) (C8.fnBody sEJump) (C8.fnScope sEJump) [] [] (He.ma K (He.ga K "Jump") "__eq__") fd from c.d.def_ 44 (d := hd44) rfl)
  obtain ⟨_, _, _, _, _, _, u18, _, _, lk18, ci18, kp18⟩ := fun_of (st := sIOther) (show ∃ fd, FunD K "__init__" "Other.__init__" (C8.fnArgs sIOther) (C8.fnBody sIOther) (C8.fnScope sIOther) [] [] (He.ma K (He.ga K "Other") "__init__") fd from c.d.def_ 18 (d := hd18) rfl)
  obtain ⟨_, _, _, _, _, _, u45, _, _, lk45, ci45, kp45⟩ := fun_of (st := sEOther) (show ∃ fd, FunD K "__eq__" "Other.__eq__" (C8.fnArgs sEOther) (C8.fnBody sEOther) (C8.fnScope sEOther) [] [] (He.ma K (He.ga K "Other") "__eq__") fd from c.d.def_ 45 (d := hd45) rfl)
  obtain ⟨_, _, _, _, _, _, u19, _, _, lk19, ci19, kp19⟩ := fun_of (st := sICounter) (show ∃ fd, FunD K "__init__" "Counter.__init__" (C8.fnArgs sICounter) (C8.fnBody sICounter) (C8.fnScope sICounter) [] [] (He.ma K (He.ga K "Counter") "__init__") fd from c.d.def_ 19 (d := hd19) rfl)
  obtain ⟨_, _, _, _, _, _, u46, _, _, lk46, ci46, kp46⟩ := fun_of (st := sECounter) (show ∃ fd, FunD K "__eq__" "Counter.__eq__" (C8.fnArgs sECounter) (C8.fnBody sECounter) (C8.fnScope sECounter) [] [] (He.ma K (He.ga K "Counter") "__eq__") fd from c.d.def_ 46 (d := hd46) rfl)
  obtain ⟨_, _, _, _, _, _, u20, _, _, lk20, ci20, kp20⟩ := fun_of (st := sIUndecided) (show ∃ fd, FunD K "__init__" "Undecided.__init__" (C8.fnArgs sIUndecided) (C8.fnBody sIUndecided) (C8.fnScope sIUndecided) [] [] (He.ma K (He.ga K "Undecided") "__init__") fd from c.d.def_ 20 (d := hd20) rfl)
  obtain ⟨_, _, _, _, _, _, u47, _, _, lk47, ci47, kp47⟩ := fun_of (st := sEUndecided) (show ∃ fd, FunD K "__eq__" "Undecided.__eq__" (C8.fnArgs sEUndecided) (C8.fnBody sEUndecided) (C8.fnScope sEUndecided) [] [] (He.ma K (He.ga K "Undecided") "__eq__") fd from c.d.def_ 47 (d := hd47) rfl)
  obtain ⟨_, _, _, _, _, _, u21, _, _, lk21, ci21, kp21⟩ := fun_of (st := sIBound) (show ∃ fd, FunD K "__init__" "Bound.__init__" (C8.fnArgs sIBound) (C8.fnBody sIBound) (C8.fnScope sIBound) [] [] (He.ma K (He.ga K "Bound") "__init__") fd from c.d.def_ 21 (d := hd21) rfl)
  obtain ⟨_, _, _, _, _, _, u48, _, _, lk48, ci48, kp48⟩ := fun_of (st := sEBound) (show ∃ fd, FunD K "__eq__" "Bound.__eq__" (C8.fnArgs sEBound) (C8.fnBody sEBound) (C8.fnScope sEBound) [] [] (He.ma K (He.ga K "Bound") "__eq__") fd from c.d.def_ 48 (d := hd48) rfl)
  obtain ⟨_, _, _, _, _, _, u22, _, _, lk22, ci22, kp22⟩ := fun_of (st := sIEndless) (show ∃ fd, FunD K "__init__" "Endless.__init__" (C8.fnArgs sIEndless) (C8.fnBody sIEndless) (C8.fnScope sIEndless) [] [] (He.ma K (He.ga K "Endless") "__init__") fd from c.d.def_ 22 (d := hd22) rfl)
  obtain ⟨_, _, _, _, _, _, u49, _, _, lk49, ci49, kp49⟩ := fun_of (st := sEEndless) (show ∃ fd, FunD K "__eq__" "Endless.__eq__" (C8.fnArgs sEEndless) (C8.fnBody sEEndless) (C8.fnScope sEEndless) [] [] (He.ma K (He.ga K "Endless") "__eq__") fd from c.d.def_ 49 (d := hd49) rfl)
  obtain ⟨_, _, _, _, _, _, u23, _, _, lk23, ci23, kp23⟩ := fun_of (st := sIWithin) (show ∃ fd, FunD K "__init__" "Within.__init__" (C8.fnArgs sIWithin) (C8.fnBody sIWithin) (C8.fnScope sIWithin) [] [] (He.ma K (He.ga K "Within") "__init__") fd from c.d.def_ 23 (d := hd23) rfl)
  obtain ⟨_, _, _, _, _, _, u50, _, _, lk50, ci50, kp50⟩ := fun_of (st := sEWithin) (show ∃ fd, FunD K "__eq__" "Within.__eq__" (C8.fnArgs sEWithin) (C8.fnBody sEWithin) (C8.fnScope sEWithin) [] [] (He.ma K (He.ga K "Within") "__eq__") fd from c.d.def_ 50 (d := hd50) rfl)
  obtain ⟨_, _, _, _, _, _, u24, _, _, lk24, ci24, kp24⟩ := fun_of (st := sIBeyond) (show ∃ fd, FunD K "__init__" "Beyond.__init__" (C8.fnArgs sIBeyond) (C8.fnBody sIBeyond) (C8.fnScope sIBeyond) [] [] (He.ma K (He.ga K "Beyond") "__init__") fd from c.d.def_ 24 (d := hd24) rfl)
  obtain ⟨_, _, _, _, _, _, u51, _, _, lk51, ci51, kp51⟩ := fun_of (st := sEBeyond) (show ∃ fd, FunD K "__eq__" "Beyond.__eq__" (C8.fnArgs sEBeyond) (C8.fnBody sEBeyond) (C8.fnScope sEBeyond) [] [] (He.ma K (He.ga K "Beyond") "__eq__") fd from c.d.def_ 51 (d := hd51) rfl)
  obtain ⟨_, _, _, _, _, _, u25, _, _, lk25, ci25, kp25⟩ := fun_of (st := sILatest) (show ∃ fd, FunD K "__init__" "Latest.__init__" (C8.fnArgs sILatest) (C8.fnBody sILatest) (C8.fnScope sILatest) [] [] (He.ma K (He.ga K "Latest") "__init__") fd from c.d.def_ 25 (d := hd25) rfl)
  obtain ⟨_, _, _, _, _, _, u52, _, _, lk52, ci52, kp52⟩ := fun_of (st := sELatest) (show ∃ fd, FunD K "__eq__" "Latest.__eq__" (C8.fnArgs sELatest) (C8.fnBody sELatest) (C8.fnScope sELatest) [] [] (He.ma K (He.ga K "Latest") "__eq__") fd from c.d.def_ 52 (d := hd52) rfl)
  obtain ⟨_, _, _, _, _, _, u26, _, _, lk26, ci26, kp26⟩ := fun_of (st := sITaking) (show ∃ fd, FunD K "__init__" "Taking.__init__" (C8.fnArgs sITaking) (C8.fnBody sITaking) (C8.fnScope sITaking) [] [] (He.ma K (He.ga K "Taking") "__init__") fd from c.d.def_ 26 (d := hd26) rfl)
  obtain ⟨_, _, _, _, _, _, u53, _, _, lk53, ci53, kp53⟩ := fun_of (st := sETaking) (show ∃ fd, FunD K "__eq__" "Taking.__eq__" (C8.fnArgs sETaking) (C8.fnBody sETaking) (C8.fnScope sETaking) [] [] (He.ma K (He.ga K "Taking") "__eq__") fd from c.d.def_ 53 (d := hd53) rfl)
  obtain ⟨_, _, _, _, _, _, u27, _, _, lk27, ci27, kp27⟩ := fun_of (st := sIFits) (show ∃ fd, FunD K "__init__" "Fits.__init__" (C8.fnArgs sIFits) (C8.fnBody sIFits) (C8.fnScope sIFits) [] [] (He.ma K (He.ga K "Fits") "__init__") fd from c.d.def_ 27 (d := hd27) rfl)
  obtain ⟨_, _, _, _, _, _, u54, _, _, lk54, ci54, kp54⟩ := fun_of (st := sEFits) (show ∃ fd, FunD K "__eq__" "Fits.__eq__" (C8.fnArgs sEFits) (C8.fnBody sEFits) (C8.fnScope sEFits) [] [] (He.ma K (He.ga K "Fits") "__eq__") fd from c.d.def_ 54 (d := hd54) rfl)
  obtain ⟨_, _, _, _, _, _, u28, _, _, lk28, ci28, kp28⟩ := fun_of (st := sIMisfit) (show ∃ fd, FunD K "__init__" "Misfit.__init__" (C8.fnArgs sIMisfit) (C8.fnBody sIMisfit) (C8.fnScope sIMisfit) [] [] (He.ma K (He.ga K "Misfit") "__init__") fd from c.d.def_ 28 (d := hd28) rfl)
  obtain ⟨_, _, _, _, _, _, u55, _, _, lk55, ci55, kp55⟩ := fun_of (st := sEMisfit) (show ∃ fd, FunD K "__eq__" "Misfit.__eq__" (C8.fnArgs sEMisfit) (C8.fnBody sEMisfit) (C8.fnScope sEMisfit) [] [] (He.ma K (He.ga K "Misfit") "__eq__") fd from c.d.def_ 55 (d := hd55) rfl)
  obtain ⟨_, _, _, _, _, _, u29, _, _, lk29, ci29, kp29⟩ := fun_of (st := sIRing) (show ∃ fd, FunD K "__init__" "Ring.__init__" (C8.fnArgs sIRing) (C8.fnBody sIRing) (C8.fnScope sIRing) [] [] (He.ma K (He.ga K "Ring") "__init__") fd from c.d.def_ 29 (d := hd29) rfl)
  obtain ⟨_, _, _, _, _, _, u56, _, _, lk56, ci56, kp56⟩ := fun_of (st := sERing) (show ∃ fd, FunD K "__eq__" "Ring.__eq__" (C8.fnArgs sERing) (C8.fnBody sERing) (C8.fnScope sERing) [] [] (He.ma K (He.ga K "Ring") "__eq__") fd from c.d.def_ 56 (d := hd56) rfl)
  obtain ⟨_, _, _, _, _, _, u30, _, _, lk30, ci30, kp30⟩ := fun_of (st := sICame) (show ∃ fd, FunD K "__init__" "Came.__init__" (C8.fnArgs sICame) (C8.fnBody sICame) (C8.fnScope sICame) [] [] (He.ma K (He.ga K "Came") "__init__") fd from c.d.def_ 30 (d := hd30) rfl)
  obtain ⟨_, _, _, _, _, _, u57, _, _, lk57, ci57, kp57⟩ := fun_of (st := sECame) (show ∃ fd, FunD K "__eq__" "Came.__eq__" (C8.fnArgs sECame) (C8.fnBody sECame) (C8.fnScope sECame) [] [] (He.ma K (He.ga K "Came") "__eq__") fd from c.d.def_ 57 (d := hd57) rfl)
  obtain ⟨_, _, _, _, _, _, u31, _, _, lk31, ci31, kp31⟩ := fun_of (st := sIBestOrder) (show ∃ fd, FunD K "__init__" "BestOrder.__init__" (C8.fnArgs sIBestOrder) (C8.fnBody sIBestOrder) (C8.fnScope sIBestOrder) [] [] (He.ma K (He.ga K "BestOrder") "__init__") fd from c.d.def_ 31 (d := hd31) rfl)
  obtain ⟨_, _, _, _, _, _, u58, _, _, lk58, ci58, kp58⟩ := fun_of (st := sEBestOrder) (show ∃ fd, FunD K "__eq__" "BestOrder.__eq__" (C8.fnArgs sEBestOrder) (C8.fnBody sEBestOrder) (C8.fnScope sEBestOrder) [] [] (He.ma K (He.ga K "BestOrder") "__eq__") fd from c.d.def_ 58 (d := hd58) rfl)
  obtain ⟨_, _, _, _, _, _, u32, _, _, lk32, ci32, kp32⟩ := fun_of (st := sIPoolTaking) (show ∃ fd, FunD K "__init__" "PoolTaking.__init__" (C8.fnArgs sIPoolTaking) (C8.fnBody sIPoolTaking) (C8.fnScope sIPoolTaking) [] [] (He.ma K (He.ga K "PoolTaking") "__init__") fd from c.d.def_ 32 (d := hd32) rfl)
  obtain ⟨_, _, _, _, _, _, u59, _, _, lk59, ci59, kp59⟩ := fun_of (st := sEPoolTaking) (show ∃ fd, FunD K "__eq__" "PoolTaking.__eq__" (C8.fnArgs sEPoolTaking) (C8.fnBody sEPoolTaking) (C8.fnScope sEPoolTaking) [] [] (He.ma K (He.ga K "PoolTaking") "__eq__") fd from c.d.def_ 59 (d := hd59) rfl)
  obtain ⟨_, _, _, _, _, _, u60, _, _, lk60, ci60, kp60⟩ := fun_of (st := sNo) (show ∃ fd, FunD K "__bool__" "Denial.__bool__" (C8.fnArgs sNo) (C8.fnBody sNo) (C8.fnScope sNo) [] [] (He.ma K (He.ga K "NoList") "__bool__") fd from c.d.def_ 60 (d := hd60) rfl)
  have e0 : exK K = true := c.more
  unfold exK at e0
  obtain ⟨xhG, e1⟩ := He.ba e0
  obtain ⟨xhK, e2⟩ := He.ba e1
  obtain ⟨xhch, e3⟩ := He.ba e2
  obtain ⟨xhkP, e4⟩ := He.ba e3
  obtain ⟨xhkD, e5⟩ := He.ba e4
  obtain ⟨xhkN, e6⟩ := He.ba e5
  obtain ⟨xhkX, e7⟩ := He.ba e6
  obtain ⟨xhtf, e8⟩ := He.ba e7
  obtain ⟨xhtt, e9⟩ := He.ba e8
  obtain ⟨xneN, e10⟩ := He.ba e9
  obtain ⟨xneT, e11⟩ := He.ba e10
  have xhti := e11
  obtain ⟨fd, tb, sp, r1, r2, r3, r4⟩ := all_known (l := l) (w := w) X G hfa' (He.eqO_ok (c.d.fact 0 (f := .glo "_law_pen") rfl)) lk0 ci0 kp0 (He.eqO_ok (c.d.fact 1 (f := .glo "_law_draw") rfl)) lk1 ci1 kp1 (He.eqO_ok (c.d.fact 2 (f := .glo "_law_pick") rfl)) lk2 ci2 kp2 (He.eqO_ok (c.d.fact 3 (f := .glo "_law_value") rfl)) lk3 ci3 kp3 (He.eqO_ok (c.d.fact 4 (f := .glo "_law_made") rfl)) lk4 ci4 kp4 ltm vtm ntm (He.eqO_ok (c.d.fact 5 (f := .glo "law") rfl)) lk5 ci5 kp5 (He.eqO_ok (c.d.fact 6 (f := .glo "Paper") rfl)) (He.eqO_ok (c.d.fact 7 (f := .glo "Denial") rfl)) (He.eqO_ok (c.d.fact 8 (f := .glo "Fewest") rfl)) (He.eqO_ok (He.ba (c.d.fact 43 (f := .meth "Fewest" "__init__") rfl)).1) (He.eqO_ok (He.ba (c.d.fact 70 (f := .meth "Fewest" "__eq__") rfl)).1) lk6 ci6 lk33 ci33 (He.eqO_ok (c.d.fact 9 (f := .glo "NoList") rfl)) (He.eqO_ok (He.ba (c.d.fact 44 (f := .meth "NoList" "__init__") rfl)).1) (He.eqO_ok (He.ba (c.d.fact 71 (f := .meth "NoList" "__eq__") rfl)).1) lk7 ci7 lk34 ci34 (He.eqO_ok (c.d.fact 10 (f := .glo "Greatest") rfl)) (He.eqO_ok (He.ba (c.d.fact 45 (f := .meth "Greatest" "__init__") rfl)).1) (He.eqO_ok (He.ba (c.d.fact 72 (f := .meth "Greatest" "__eq__") rfl)).1) lk8 ci8 lk35 ci35 (He.eqO_ok (c.d.fact 11 (f := .glo "Least") rfl)) (He.eqO_ok (He.ba (c.d.fact 46 (f := .meth "Least" "__init__") rfl)).1) (He.eqO_ok (He.ba (c.d.fact 73 (f := .meth "Least" "__eq__") rfl)).1) lk9 ci9 lk36 ci36 (He.eqO_ok (c.d.fact 12 (f := .glo "BatchBound") rfl)) (He.eqO_ok (He.ba (c.d.fact 47 (f := .meth "BatchBound" "__init__") rfl)).1) (He.eqO_ok (He.ba (c.d.fact 74 (f := .meth "BatchBound" "__eq__") rfl)).1) lk10 ci10 lk37 ci37 (He.eqO_ok (c.d.fact 13 (f := .glo "BatchEndless") rfl)) (He.eqO_ok (He.ba (c.d.fact 48 (f := .meth "BatchEndless" "__init__") rfl)).1) (He.eqO_ok (He.ba (c.d.fact 75 (f := .meth "BatchEndless" "__eq__") rfl)).1) lk11 ci11 lk38 ci38 (He.eqO_ok (c.d.fact 14 (f := .glo "NeverLess") rfl)) (He.eqO_ok (He.ba (c.d.fact 49 (f := .meth "NeverLess" "__init__") rfl)).1) (He.eqO_ok (He.ba (c.d.fact 76 (f := .meth "NeverLess" "__eq__") rfl)).1) lk12 ci12 lk39 ci39 (He.eqO_ok (c.d.fact 15 (f := .glo "Steady") rfl)) (He.eqO_ok (He.ba (c.d.fact 50 (f := .meth "Steady" "__init__") rfl)).1) (He.eqO_ok (He.ba (c.d.fact 77 (f := .meth "Steady" "__eq__") rfl)).1) lk13 ci13 lk40 ci40 (He.eqO_ok (c.d.fact 16 (f := .glo "Same") rfl)) (He.eqO_ok (He.ba (c.d.fact 51 (f := .meth "Same" "__init__") rfl)).1) (He.eqO_ok (He.ba (c.d.fact 78 (f := .meth "Same" "__eq__") rfl)).1) lk14 ci14 lk41 ci41 (He.eqO_ok (c.d.fact 17 (f := .glo "Surely") rfl)) (He.eqO_ok (He.ba (c.d.fact 52 (f := .meth "Surely" "__init__") rfl)).1) (He.eqO_ok (He.ba (c.d.fact 79 (f := .meth "Surely" "__eq__") rfl)).1) lk15 ci15 lk42 ci42 (He.eqO_ok (c.d.fact 18 (f := .glo "Less") rfl)) (He.eqO_ok (He.ba (c.d.fact 53 (f := .meth "Less" "__init__") rfl)).1) (He.eqO_ok (He.ba (c.d.fact 80 (f := .meth "Less" "__eq__") rfl)).1) lk16 ci16 lk43 ci43 (He.eqO_ok (c.d.fact 19 (f := .glo "Jump") rfl)) (He.eqO_ok (He.ba (c.d.fact 54 (f := .meth "Jump" "__init__") rfl)).1) (He.eqO_ok (He.ba (c.d.fact 81 (f := .meth "Jump" "__eq__") rfl)).1) lk17 ci17 lk44 ci44 (He.eqO_ok (c.d.fact 20 (f := .glo "Other") rfl)) (He.eqO_ok (He.ba (c.d.fact 55 (f := .meth "Other" "__init__") rfl)).1) (He.eqO_ok (He.ba (c.d.fact 82 (f := .meth "Other" "__eq__") rfl)).1) lk18 ci18 lk45 ci45 (He.eqO_ok (c.d.fact 21 (f := .glo "Counter") rfl)) (He.eqO_ok (He.ba (c.d.fact 56 (f := .meth "Counter" "__init__") rfl)).1) (He.eqO_ok (He.ba (c.d.fact 83 (f := .meth "Counter" "__eq__") rfl)).1) lk19 ci19 lk46 ci46 (He.eqO_ok (c.d.fact 22 (f := .glo "Undecided") rfl)) (He.eqO_ok (He.ba (c.d.fact 57 (f := .meth "Undecided" "__init__") rfl)).1) (He.eqO_ok (He.ba (c.d.fact 84 (f := .meth "Undecided" "__eq__") rfl)).1) lk20 ci20 lk47 ci47 (He.eqO_ok (c.d.fact 23 (f := .glo "Bound") rfl)) (He.eqO_ok (He.ba (c.d.fact 58 (f := .meth "Bound" "__init__") rfl)).1) (He.eqO_ok (He.ba (c.d.fact 85 (f := .meth "Bound" "__eq__") rfl)).1) lk21 ci21 lk48 ci48 (He.eqO_ok (c.d.fact 24 (f := .glo "Endless") rfl)) (He.eqO_ok (He.ba (c.d.fact 59 (f := .meth "Endless" "__init__") rfl)).1) (He.eqO_ok (He.ba (c.d.fact 86 (f := .meth "Endless" "__eq__") rfl)).1) lk22 ci22 lk49 ci49 (He.eqO_ok (c.d.fact 25 (f := .glo "Within") rfl)) (He.eqO_ok (He.ba (c.d.fact 60 (f := .meth "Within" "__init__") rfl)).1) (He.eqO_ok (He.ba (c.d.fact 87 (f := .meth "Within" "__eq__") rfl)).1) lk23 ci23 lk50 ci50 (He.eqO_ok (c.d.fact 26 (f := .glo "Beyond") rfl)) (He.eqO_ok (He.ba (c.d.fact 61 (f := .meth "Beyond" "__init__") rfl)).1) (He.eqO_ok (He.ba (c.d.fact 88 (f := .meth "Beyond" "__eq__") rfl)).1) lk24 ci24 lk51 ci51 (He.eqO_ok (c.d.fact 27 (f := .glo "Latest") rfl)) (He.eqO_ok (He.ba (c.d.fact 62 (f := .meth "Latest" "__init__") rfl)).1) (He.eqO_ok (He.ba (c.d.fact 89 (f := .meth "Latest" "__eq__") rfl)).1) lk25 ci25 lk52 ci52 (He.eqO_ok (c.d.fact 28 (f := .glo "Taking") rfl)) (He.eqO_ok (He.ba (c.d.fact 63 (f := .meth "Taking" "__init__") rfl)).1) (He.eqO_ok (He.ba (c.d.fact 90 (f := .meth "Taking" "__eq__") rfl)).1) lk26 ci26 lk53 ci53 (He.eqO_ok (c.d.fact 29 (f := .glo "Fits") rfl)) (He.eqO_ok (He.ba (c.d.fact 64 (f := .meth "Fits" "__init__") rfl)).1) (He.eqO_ok (He.ba (c.d.fact 91 (f := .meth "Fits" "__eq__") rfl)).1) lk27 ci27 lk54 ci54 (He.eqO_ok (c.d.fact 30 (f := .glo "Misfit") rfl)) (He.eqO_ok (He.ba (c.d.fact 65 (f := .meth "Misfit" "__init__") rfl)).1) (He.eqO_ok (He.ba (c.d.fact 92 (f := .meth "Misfit" "__eq__") rfl)).1) lk28 ci28 lk55 ci55 (He.eqO_ok (c.d.fact 31 (f := .glo "Ring") rfl)) (He.eqO_ok (He.ba (c.d.fact 66 (f := .meth "Ring" "__init__") rfl)).1) (He.eqO_ok (He.ba (c.d.fact 93 (f := .meth "Ring" "__eq__") rfl)).1) lk29 ci29 lk56 ci56 (He.eqO_ok (c.d.fact 32 (f := .glo "Came") rfl)) (He.eqO_ok (He.ba (c.d.fact 67 (f := .meth "Came" "__init__") rfl)).1) (He.eqO_ok (He.ba (c.d.fact 94 (f := .meth "Came" "__eq__") rfl)).1) lk30 ci30 lk57 ci57 (He.eqO_ok (c.d.fact 33 (f := .glo "BestOrder") rfl)) (He.eqO_ok (He.ba (c.d.fact 68 (f := .meth "BestOrder" "__init__") rfl)).1) (He.eqO_ok (He.ba (c.d.fact 95 (f := .meth "BestOrder" "__eq__") rfl)).1) lk31 ci31 lk58 ci58 (He.eqO_ok (c.d.fact 34 (f := .glo "PoolTaking") rfl)) (He.eqO_ok (He.ba (c.d.fact 69 (f := .meth "PoolTaking" "__init__") rfl)).1) (He.eqO_ok (He.ba (c.d.fact 96 (f := .meth "PoolTaking" "__eq__") rfl)).1) lk32 ci32 lk59 ci59 (He.eqO_ok (He.ba (c.d.fact 97 (f := .meth "NoList" "__bool__") rfl)).1) lk60 ci60 kp60 (He.ba (He.ba (c.d.fact 97 (f := .meth "NoList" "__bool__") rfl)).2).1 (of_decide_eq_true xhG) (of_decide_eq_true xhK) xhch xhkP xhkD xhkN xhkX xhtf xhtt (of_decide_eq_true xneN) (of_decide_eq_true xneT) (He.eqO_ok (c.d.fact 35 (f := .free "int") rfl)) (He.eqO_ok (c.d.fact 36 (f := .free "list") rfl)) (He.eqO_ok (c.d.fact 37 (f := .free "len") rfl)) (He.eqO_ok (c.d.fact 38 (f := .free "abs") rfl)) (He.eqO_ok (c.d.fact 39 (f := .free "bool") rfl)) (He.eqO_ok (c.d.fact 40 (f := .free "isinstance") rfl)) (He.eqO_ok (c.d.fact 41 (f := .free "range") rfl)) (He.eqO_ok (c.d.fact 42 (f := .free "repr") rfl))
  refine ⟨K, fd, tb, sp, X, fun y hy => ?_, r1, r2, r3, r4⟩
  rw [List.mem_singleton.mp hy]
  exact ⟨_, _, of_decide_eq_true xhti, c.hd _ (List.Mem.head _), c.empty _ (List.Mem.head _)⟩
end Lw
open PySem PySem.W PyProof.Rows
set_option maxRecDepth 100000 in
set_option maxHeartbeats 0 in
theorem PySem.Challenge.cw_latechunks_k03_papers_of_all_kinds_holds : PySem.Challenge.rw_latechunks_k03_papers_of_all_kinds.Holds := by
  w_on; o_law
  refine HandSHeadRun.head_any (r := PySem.W.OpenLaw.row PySem.Challenge.rw_latechunks_k03_papers_of_all_kinds) (q := view (OpenLaw.row PySem.Challenge.rw_latechunks_k03_papers_of_all_kinds).prog [1, 2, 4, 5, 6, 7, 9, 10, 12, 13, 14, 15, 16, 17, 18, 19, 20, 22, 23, 24, 25, 27, 29, 31, 32, 33, 34, 36, 38, 40, 41, 42, 43, 44, 45]) (H := Lw.hkX) (ob := Lw.hob) (M := 12000) (loose := []) (d := HandSHeadRun.topDef (OpenLaw.row PySem.Challenge.rw_latechunks_k03_papers_of_all_kinds).prog 45) (kwd := []) Lw.hob_eq
    (by kernel_rfl) (fun s => by kernel_rfl) Lw.head_run (by kernel_rfl) (by kernel_rfl) (by kernel_rfl) (by rfl) (by first | assumption | decide +kernel) (by decide +kernel) ⟨rfl, rfl, rfl, rfl, rfl, by decide +kernel⟩ ?hw ?hc
  case hw => w_witness2
  case hc =>
    refine Lw.walk_endX (l := PySem.Challenge.rw_latechunks_k03_papers_of_all_kinds) (n := 63) (k := 6) (x := "_law_script") (xts := (["_law_made"] : List Str)) rfl (by decide) (by kernel_rfl) ⟨rfl, by decide, by decide⟩ ?F
    intro w mg fa h Y G hmg0
    obtain ⟨K, KX, c⟩ := Y
    have hmg : mg ("law" : PySem.Str) = some (.ref fa) := by
      have e : (HandSHeadRun.topDef (OpenLaw.row PySem.Challenge.rw_latechunks_k03_papers_of_all_kinds).prog 45).name = ("law" : PySem.Str) := by kernel_rfl
      rw [← e]
      exact hmg0
    exact Lw.known KX G hmg c
