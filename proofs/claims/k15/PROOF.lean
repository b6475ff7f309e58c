import PyProof.Rows.All
import Wide.All
import OpenK.AllK
import Wide.FinOn
import HandS.ForMost
import HandS.Wide
import HandS.Codes
import HandS.EndBits
import HandS.Lambda
import HandS.IsInst
import HandS.Walk
import HandS.Words
import HandS.SlotsOwn
import KE.KOpsOwn
import PyProof.TwoTypes
import HandS.ExcInit
import HandS.ClsMeth
import PyProof.IsiBase
import KE.KIsAll
import HandS.StrMore
import PyProof.StrOps2
import HandS.Text
import KE.IntTextText
import HandS.Dict
import HandS.Style
import HandS.Defaults
import HandS.Star
import HandS.FStr
import HandS.RaiseMore
import KE.KCallOwn
import PyProof.Methods
import HandS.DictComp
import HandS.SetKeys
import KE.KParD
import KE.KStar
import PyProof.DictUpdate
import PyProof.DictDisplay
import PyProof.MeetsDict
import HandS.SetBool
import PyProof.TupleKey
import PyProof.EqKinds
import PyProof.DictFindH
import PyProof.DictRoads
import KE.KDictWalk
import KE.KDictList
import HandS.Small
import HandS.Exc
import HandS.ExcField
import HandS.ExcIs
import HandS.IterNext
import HandS.IterVal
import KE.KOwnIter
import OpenK.KMeth
import HandS.Iter
import PyProof.WalksMore
import HandS.TupSets
import PyProof.SetKind
import HandS.SetFor
import PyProof.SetNew
import PyProof.SetRoads
import HandS.ExcValue
import HandS.MakeKwOnly
import PyProof.FString5
import HandS.WordsDict
import HandS.OwnEq
import HandS.EndTab
import HandS.MakeKw
import HandS.TupMul
import HandS.TupAny
import PySem.Challenge.RW_latechunks_k15_crews_together_and_their
set_option Elab.async false
set_option linter.all false
set_option maxRecDepth 100000
set_option maxHeartbeats 4000000
namespace Lw
open PySem PySem.Spec PyProof.Rows L2
def top (i : Nat) : Stmt := PySem.Challenge.pw_latechunks_k15_crews_together_and_their.main.body.getD i (.Pass ⟨0, 0, 0, 0⟩)

theorem stir {x s : Int} (hx0 : 0 ≤ x) (hx : x < 2147483648) (hs0 : 0 ≤ s) (hs : s ≤ 1000000) (e f g : Int) (he0 : 0 ≤ e) (he : e ≤ 1000) (hf0 : 0 ≤ f) (hf : f ≤ 1000000) (hg0 : 0 ≤ g) (hg : g ≤ 1000000) :
    (x * (2 * s + e) + f * s * s + g).natAbs < 2 ^ 64 := by
  have a0 : 0 ≤ x * (2 * s + e) := Int.mul_nonneg hx0 (by omega)
  have a1 : x * (2 * s + e) ≤ 2147483648 * 2001000 := Int.mul_le_mul (by omega) (by omega) (by omega) (by omega)
  have b0 : 0 ≤ f * s := Int.mul_nonneg hf0 hs0
  have b1 : f * s ≤ 1000000 * 1000000 := Int.mul_le_mul hf hs hs0 (by omega)
  have c0 : 0 ≤ f * s * s := Int.mul_nonneg b0 hs0
  have c1 : f * s * s ≤ 1000000 * 1000000 * 1000000 := Int.mul_le_mul b1 hs hs0 (by omega)
  omega
theorem fsmall {f s : Int} (hf0 : 0 ≤ f) (hf : f ≤ 1000000) (hs0 : 0 ≤ s) (hs : s ≤ 1000000) : -(2 ^ 64) < f * s ∧ f * s < 2 ^ 64 := by
  have b0 : 0 ≤ f * s := Int.mul_nonneg hf0 hs0
  have b1 : f * s ≤ 1000000 * 1000000 := Int.mul_le_mul hf hs hs0 (by omega)
  omega
theorem fm0 {a d : Int} (hd : 0 < d) : 0 ≤ Int.fmod a d := Int.fmod_nonneg_of_pos _ hd
theorem fm1 {a d : Int} (hd : 0 < d) (h : d ≤ 2147483648) : Int.fmod a d < 2147483648 := Int.lt_of_lt_of_le (Int.fmod_lt_of_pos _ hd) h
theorem fm64 {a d : Int} (hd : 0 < d) (h : d ≤ 2147483648) : -(2 ^ 64) < Int.fmod a d ∧ Int.fmod a d < 2 ^ 64 := by
  have h0 := fm0 (a := a) hd
  have h1 := fm1 (a := a) hd h
  omega
theorem ite_false_of {c : Bool} {A B : Prop} (h : ¬ c = true) (hb : B) : if c = true then A else B := by rw [if_neg h]; exact hb
/-- behind an if: what both ways end in -/
theorem join_if {t u : TS} {D : Ends} {b : Bool} {σ : L2.St} {H : Hp} (Pj : L2.St → Hp → Prop) (hr : ∀ σ' H', Pj σ' H' → D.nx σ' H') (h : (∀ σ' H', Pj σ' H' → D.nx σ' H') → if b = true then t D σ H else u D σ H) : if b = true then t D σ H else u D σ H := h hr
theorem lay_ints : ∀ xs : List Int, PyData.canLayAll0 (xs.map PyData.int) = true
  | [] => rfl
  | x :: r => by
    show (PyData.canLay0 (.int x) && PyData.canLayAll0 (r.map PyData.int)) = true
    rw [lay_ints r]; rfl
theorem depth_ints : ∀ xs : List Int, PyData.depthAll (xs.map PyData.int) = 0
  | [] => rfl
  | x :: r => by
    show max (PyData.depth (.int x)) (PyData.depthAll (r.map PyData.int)) = 0
    rw [depth_ints r]; rfl
theorem shaped_ints (xs : List Int) : SeqAt.shaped (.list (xs.map PyData.int)) = true := by
  unfold SeqAt.shaped
  have h1 : PyData.canLay0 (.list (xs.map PyData.int)) = true := lay_ints xs
  have h2 : PyData.depth (.list (xs.map PyData.int)) = 1 := by
    show PyData.depthAll (xs.map PyData.int) + 1 = 1
    rw [depth_ints]
  rw [h1, h2]; rfl
theorem dp_ints {K : PySem.W.Frag} {H : Hp} : ∀ xs : List Int, DpAll K H (xs.map V.int) (xs.map PyData.int)
  | [] => .nil
  | x :: r => .cons (.int x) (dp_ints r)
theorem eqv_nil (xs : List Int) : PyData.eqv (.list (xs.map PyData.int)) (.list []) = decide (xs = []) := by
  cases xs <;> rfl
abbrev sPen : Stmt := top 31
abbrev sDraw : Stmt := top 32
abbrev sPick : Stmt := top 33
/-- all but what stands at p is as it was -/
def Kp (p : Addr) (H H' : Hp) : Prop := ∀ b o, b ≠ p → H b = some o → H' b = some o
/-- a pen at p: its numbers at l, its place, its rest -/
structure PenAt (H : Hp) (p l : Addr) (xs : List Int) (s g : Int) : Prop where
  at_ : H p = some (.lst [.ref l, .int s, .int g])
  ls : H l = some (.lst (xs.map V.int))
  ne : p ≠ l
  s0 : 0 ≤ s
  g0 : 0 ≤ g
def Pen (H : Hp) (p l : Addr) (n : Nat) : Prop := ∃ xs s g, PenAt H p l xs s g ∧ s ≤ n
def spDraw : Sp := fun vs H Q _ => ∃ (p l : Addr) (n : Nat) (m : Int), vs = [.ref p, .int m] ∧ 0 < m ∧ m < 2 ^ 200 ∧ Pen H p l n ∧ n ≤ 1000000 ∧
  ∀ (r : Int) (H' : Hp), 0 ≤ r → r < m → Pen H' p l (n + 1) → Kp p H H' → Q (.int r) H'
structure Txt0 (mg : Str → Option Value) : Prop where
  n_int : mg "int" = none
  n_list : mg "list" = none
  n_len : mg "len" = none
  n_abs : mg "abs" = none
section
variable {P : Program} {w : World} {K : PySem.W.Frag} {mg : Str → Option Value} {base : Heap}
theorem scDraw : FnScope ["_law_pen_here", "_law_many", "_law_digit", "_law_spot", "_law_cell", "_law_great", "_law_mixed"] ["_law_pen_here", "_law_many"] (C8.fnScope sDraw) := C8.fnScope_by (by decide +kernel)
theorem cal_draw {f : Addr} {fd : FuncData} (F : C8.Def K mg "_law_draw" sDraw f fd) (b : Binds K fd ["_law_pen_here", "_law_many"] []) (T : Txt0 mg) : C8.Cal P w K mg base 1 "_law_draw" spDraw [] := by
  refine C8.cal0 F b .nil scDraw (fun vs H Q E h => ?_) (fun cdv A outer st H vs Q E hr h => ?_)
  · obtain ⟨p, l, n, m, rfl, _⟩ := h
    rfl
  · obtain ⟨p, l, n, m, rfl, hm, hm2, ⟨xs, s, g, ⟨hp, hl, ne, s0, g0⟩, hs⟩, hn, k⟩ := h
    refine ⟨_, (pss_cons (ps_if (pt_cmpR op_gt (pe_ix ix_list (pv 0) pe_int (fun _ _ => rfl)) pe_int (nomark _)) (pss_cons (ps_set (i := 2) scDraw.nd rfl (Or.inl rfl) (pe_op op_modN (pe_callTy call_int1 (by rfl) T.n_int (by decide +kernel) (pa_cons (pe_ix ix_list (pv 0) pe_int (fun _ _ => rfl)) pa_nil)) (pv 1)))
  (pss_cons (ps_asg (pe_op op_fdivW (pe_callTy call_int1 (by rfl) T.n_int (by decide +kernel) (pa_cons (pe_ix ix_list (pv 0) pe_int (fun _ _ => rfl)) pa_nil)) (pv 1)) (pg_sub (pv 0) pe_int set_list))
  (pss_one (ps_ret (pv 2))))) pss_nil)
  (pss_cons (ps_set (i := 3) scDraw.nd rfl (Or.inl rfl) (pe_ix ix_list (pv 0) pe_int (fun _ _ => rfl)))
  (pss_cons (ps_asg (pe_op op_add (pv 3) pe_int) (pg_sub (pv 0) pe_int set_list))
  (pss_cons (ps_set (i := 4) scDraw.nd rfl (Or.inl rfl) (pe_op op_add (pe_op op_mul pe_int (pv 3)) pe_int))
  (pss_cons (ps_if (pt_cmpR (op_neD hr.units) (pe_ix ix_list (pv 0) pe_int (fun _ _ => rfl)) (pe_lst pa_nil) (nomark _)) (pss_one (ps_set (i := 4) scDraw.nd rfl (Or.inl rfl) (pe_ix ix_list (pe_ix ix_list (pv 0) pe_int (fun _ _ => rfl)) (pe_op op_modN (pe_callTy call_int1 (by rfl) T.n_int (by decide +kernel) (pa_cons (pv 3) pa_nil)) (pe_callB call_len_seq (by rfl) T.n_len (by decide +kernel) (pa_cons (pe_ix ix_list (pv 0) pe_int (fun _ _ => rfl)) pa_nil))) (fun _ _ => rfl)))) pss_nil)
  (pss_cons (ps_if (PW.pt (pw_and (pt_cmpR op_lt (pv 3) (pe_callB call_len_seq (by rfl) T.n_len (by decide +kernel) (pa_cons (pe_ix ix_list (pv 0) pe_int (fun _ _ => rfl)) pa_nil)) (nomark _)) (pw_and1 (pt_cmpR op_ge (pe_callB call_abs (by rfl) T.n_abs (by decide +kernel) (pa_cons (pv 4) pa_nil)) (pe_op op_pow pe_int pe_int) (nomark _))))) (pss_cons (ps_set (i := 5) scDraw.nd rfl (Or.inl rfl) (pe_op op_add (pe_op op_mul pe_int (pe_op op_sub (pe_callB call_abs (by rfl) T.n_abs (by decide +kernel) (pa_cons (pv 4) pa_nil)) (pe_op op_pow pe_int pe_int))) (pe_callTy call_int1 (by rfl) T.n_int (by decide +kernel) (pa_cons (pe_cmpR op_lt (pv 4) pe_int (nomark _)) pa_nil))))
  (pss_cons (ps_asg (pe_op op_fdivW (pe_callTy call_int1 (by rfl) T.n_int (by decide +kernel) (pa_cons (pv 5) pa_nil)) (pv 1)) (pg_sub (pv 0) pe_int set_list))
  (pss_one (ps_ret (pe_op op_modN (pe_callTy call_int1 (by rfl) T.n_int (by decide +kernel) (pa_cons (pv 5) pa_nil)) (pv 1)))))) pss_nil)
  (pss_cons (ps_set (i := 6) scDraw.nd rfl (Or.inl rfl) (pe_op op_modN (pe_callTy call_int1 (by rfl) T.n_int (by decide +kernel) (pa_cons (pe_op op_pow (pe_op op_add (pe_op op_add (pe_op op_modN (pe_callTy call_int1 (by rfl) T.n_int (by decide +kernel) (pa_cons (pv 4) pa_nil)) pe_int) (pe_op op_mul pe_int (pv 3))) pe_int) pe_int) pa_nil)) pe_int))
  (pss_cons (ps_set (i := 6) scDraw.nd rfl (Or.inl rfl) (pe_op op_modN (pe_callTy call_int1 (by rfl) T.n_int (by decide +kernel) (pa_cons (pe_op op_pow (pe_op op_add (pe_op op_add (pe_op op_mul (pv 6) (pe_op op_add (pe_op op_mul pe_int (pv 3)) pe_int)) (pe_op op_mul (pe_op op_mul pe_int (pv 3)) (pv 3))) pe_int) pe_int) pa_nil)) pe_int))
  (pss_one (ps_ret (pe_op op_modN (pe_callTy call_int1 (by rfl) T.n_int (by decide +kernel) (pa_cons (pe_op op_fdivW (pv 6) pe_int) pa_nil)) (pv 1)))))))))))), ?_⟩
    have hmb : CDivW 0 m := wide_div (b := 200) hm (by omega) (by decide) (by decide)
    refine ⟨_, rfl, p, _, _, _, rfl, rfl, SqL.of hp, rfl, _, _, rfl, rfl, _, rfl, ite2 (fun c => ?_) (fun c => ?_)⟩
    · -- the rest is above 0: a digit of it
      refine ⟨_, rfl, p, _, _, _, rfl, rfl, SqL.of hp, rfl, Or.inl ⟨_, rfl, ?_⟩⟩
      refine ⟨_, rfl, _, _, rfl, rfl, (by omega), ?_⟩
      refine ⟨_, rfl, p, _, _, _, rfl, rfl, SqL.of hp, rfl, Or.inl ⟨_, rfl, ?_⟩⟩
      refine ⟨_, rfl, _, _, rfl, rfl, hmb, ?_⟩
      refine ⟨_, rfl, p, _, _, _, rfl, rfl, hp, rfl, ?_⟩
      refine ⟨_, rfl, ?_⟩
      refine k _ _ (Int.fmod_nonneg_of_pos _ hm) (Int.fmod_lt_of_pos _ hm) ⟨xs, s, g / m, ⟨?_, ?_, ne, s0, Int.ediv_nonneg g0 (Int.le_of_lt hm)⟩, by omega⟩ fun b o hb e => ?_
      · rw [upd_same]; rfl
      · rw [upd_ne (Ne.symm ne)]; exact hl
      · rw [upd_ne hb]; exact e
    · -- the next place
      refine ⟨_, rfl, p, _, _, _, rfl, rfl, SqL.of hp, rfl, ?_⟩
      refine ⟨_, rfl, _, _, rfl, rfl, _, rfl, p, _, _, _, rfl, rfl, hp, rfl, ?_⟩
      have hp1 : upd H p (.lst [V.ref l, V.int (s + 1), V.int g]) p = some (.lst [V.ref l, V.int (s + 1), V.int g]) := upd_same
      have hl1 : upd H p (.lst [V.ref l, V.int (s + 1), V.int g]) l = some (.lst (xs.map V.int)) := by rw [upd_ne (Ne.symm ne)]; exact hl
      have k1 : Kp p H (upd H p (.lst [V.ref l, V.int (s + 1), V.int g])) := fun b o hb e => by rw [upd_ne hb]; exact e
      show tSeq _ _ _ _ (upd H p (.lst [V.ref l, V.int (s + 1), V.int g]))
      generalize upd H p (.lst [V.ref l, V.int (s + 1), V.int g]) = H1 at hp1 hl1 k1 ⊢
      have fin : ∀ (r g' : Int) (H' : Hp), 0 ≤ r → r < m → 0 ≤ g' → H' p = some (.lst [V.ref l, V.int (s + 1), V.int g']) → Kp p H1 H' → Q (.int r) H' := fun r g' H' h0 h1 h2 h3 h4 =>
        k r H' h0 h1 ⟨xs, s + 1, g', ⟨h3, h4 _ _ (Ne.symm ne) hl1, ne, by omega, h2⟩, by omega⟩ fun b o hb e => h4 b o hb (k1 b o hb e)
      refine ⟨_, rfl, _, _, rfl, rfl, Or.inl (by decide), _, _, rfl, rfl, ?_⟩
      refine ⟨_, rfl, p, _, _, _, rfl, rfl, SqL.of hp1, rfl, (by show 0 ≤ sizeLine; decide), fun q hq => ?_⟩
      have lq : l ≠ q := ne_of_none hl1 hq
      have pq : p ≠ q := ne_of_none hp1 hq
      have hl2 : upd H1 q (.lst []) l = some (.lst (xs.map V.int)) := by rw [upd_ne lq]; exact hl1
      have hp2 : upd H1 q (.lst []) p = some (.lst [V.ref l, V.int (s + 1), V.int g]) := by rw [upd_ne pq]; exact hp1
      have k2 : Kp p H1 (upd H1 q (.lst [])) := fun b o hb e => by rw [upd_ne (ne_of_none e hq)]; exact e
      refine ⟨.list (xs.map PyData.int), .list [], .lst (SqL.of hl2) (dp_ints xs), .lst (SqL.of upd_same) .nil, shaped_ints xs, rfl, _, rfl, ?_⟩
      generalize upd H1 q (.lst []) = H2 at hl2 hp2 k2 ⊢
      refine join_if (fun σ' H' => ∃ cell : Int, σ' = [some (V.ref p), some (V.int m), none, some (V.int s), some (V.int cell), none, none] ∧ H' = H2) ?rest (fun go => ?_)
      case rest =>
        rintro σ' H' ⟨cell, rfl, rfl⟩
        refine ⟨_, rfl, _, rfl, p, _, _, _, rfl, rfl, SqL.of hp2, rfl, l, xs.map V.int, rfl, .inl (SqL.of hl2), _, _, rfl, rfl, _, rfl, ?_⟩
        refine ite2 (fun c2 => ?_) (fun c2 => ?_)
        · refine ⟨_, rfl, _, rfl, _, _, rfl, rfl, ⟨by decide, by decide, by decide⟩, _, _, rfl, rfl, _, rfl, ?_⟩
          refine ite2 (fun c3 => ?_) (fun c3 => ?_)
          · refine ⟨_, rfl, _, rfl, _, _, rfl, rfl, ⟨by decide, by decide, by decide⟩, _, _, rfl, rfl, _, _, rfl, rfl, Or.inl (by decide), _, rfl, _, _, rfl, rfl, Or.inr ⟨_, rfl, _, _, rfl, rfl, ?_⟩⟩
            have hge : (10 : Int) ^ (18 : Int).toNat ≤ (if cell < 0 then -cell else cell) := of_decide_eq_true c3
            generalize hG : 2 * ((if cell < 0 then -cell else cell) - 10 ^ (18 : Int).toNat) + (if decide (cell < 0) = true then (1 : Int) else 0) = G
            have hG0 : 0 ≤ G := by
              rw [← hG]
              have h1 : 0 ≤ (if decide (cell < 0) = true then (1 : Int) else 0) := by split <;> decide
              omega
            refine ⟨_, rfl, Or.inl ⟨_, rfl, _, rfl, _, _, rfl, rfl, (by exact hmb), _, rfl, p, _, _, _, rfl, rfl, hp2, rfl, ?_⟩⟩
            refine ⟨_, rfl, Or.inl ⟨_, rfl, _, rfl, _, _, rfl, rfl, (by show ¬ (_ = _); omega), ?_⟩⟩
            refine fin _ (G / m) _ (fm0 hm) (Int.fmod_lt_of_pos _ hm) (Int.ediv_nonneg hG0 (Int.le_of_lt hm)) ?_ fun b o hb e => ?_
            · rw [upd_same, ← hG]; rfl
            · rw [upd_ne hb]; exact k2 b o hb e
          · refine ⟨_, rfl, Or.inl ⟨_, rfl, ?_⟩⟩
            refine ⟨_, _, rfl, rfl, (by show ¬ (_ = _); decide), _, rfl, _, _, rfl, rfl, Or.inl (by decide), _, _, rfl, rfl, _, _, rfl, rfl, ?_⟩
            generalize hz : Int.fmod cell _ = z
            have hz0 : 0 ≤ z := by rw [← hz]; exact fm0 (by decide)
            have hz1 : z < 2147483648 := by rw [← hz]; exact fm1 (by decide) (by decide)
            refine ⟨_, _, rfl, rfl, ⟨by decide, by decide, by omega⟩, Or.inl ⟨_, rfl, ?_⟩⟩
            refine ⟨_, _, rfl, rfl, (by show ¬ (_ = _); decide), ?_⟩
            refine ⟨_, rfl, _, rfl, _, _, rfl, rfl, Or.inl (by decide), _, _, rfl, rfl, _, _, rfl, rfl, Or.inl (by exact fm64 (by decide) (by decide)), ?_⟩
            refine ⟨_, rfl, _, _, rfl, rfl, Or.inl (by decide), _, rfl, _, _, rfl, rfl, Or.inl (by exact fsmall (by decide) (by decide) s0 (by omega)), _, _, rfl, rfl, _, _, rfl, rfl, ?_⟩
            refine ⟨_, _, rfl, rfl, ⟨by decide, by decide, by exact stir (fm0 (by decide)) (fm1 (by decide) (by decide)) s0 (by omega) _ _ _ (by decide) (by decide) (by decide) (by decide) (by decide) (by decide)⟩, Or.inl ⟨_, rfl, ?_⟩⟩
            refine ⟨_, _, rfl, rfl, (by show ¬ (_ = _); decide), ?_⟩
            refine ⟨_, rfl, _, _, rfl, rfl, ⟨by decide, by decide⟩, Or.inl ⟨_, rfl, _, rfl, _, _, rfl, rfl, (by show ¬ (_ = _); omega), ?_⟩⟩
            exact fin _ g _ (fm0 hm) (Int.fmod_lt_of_pos _ hm) g0 hp2 k2
        · refine iteF ?_
          refine ⟨_, rfl, Or.inl ⟨_, rfl, ?_⟩⟩
          refine ⟨_, _, rfl, rfl, (by show ¬ (_ = _); decide), _, rfl, _, _, rfl, rfl, Or.inl (by decide), _, _, rfl, rfl, _, _, rfl, rfl, ?_⟩
          generalize hz : Int.fmod cell _ = z
          have hz0 : 0 ≤ z := by rw [← hz]; exact fm0 (by decide)
          have hz1 : z < 2147483648 := by rw [← hz]; exact fm1 (by decide) (by decide)
          refine ⟨_, _, rfl, rfl, ⟨by decide, by decide, by omega⟩, Or.inl ⟨_, rfl, ?_⟩⟩
          refine ⟨_, _, rfl, rfl, (by show ¬ (_ = _); decide), ?_⟩
          refine ⟨_, rfl, _, rfl, _, _, rfl, rfl, Or.inl (by decide), _, _, rfl, rfl, _, _, rfl, rfl, Or.inl (by exact fm64 (by decide) (by decide)), ?_⟩
          refine ⟨_, rfl, _, _, rfl, rfl, Or.inl (by decide), _, rfl, _, _, rfl, rfl, Or.inl (by exact fsmall (by decide) (by decide) s0 (by omega)), _, _, rfl, rfl, _, _, rfl, rfl, ?_⟩
          refine ⟨_, _, rfl, rfl, ⟨by decide, by decide, by exact stir (fm0 (by decide)) (fm1 (by decide) (by decide)) s0 (by omega) _ _ _ (by decide) (by decide) (by decide) (by decide) (by decide) (by decide)⟩, Or.inl ⟨_, rfl, ?_⟩⟩
          refine ⟨_, _, rfl, rfl, (by show ¬ (_ = _); decide), ?_⟩
          refine ⟨_, rfl, _, _, rfl, rfl, ⟨by decide, by decide⟩, Or.inl ⟨_, rfl, _, rfl, _, _, rfl, rfl, (by show ¬ (_ = _); omega), ?_⟩⟩
          exact fin _ g _ (fm0 hm) (Int.fmod_lt_of_pos _ hm) g0 hp2 k2
      refine ite2 (fun c1 => ?_) (fun c1 => ?_)
      · rw [eqv_nil] at c1
        have hx : xs ≠ [] := by simpa using c1
        have hlen : 0 < xs.length := List.length_pos_iff.mpr hx
        refine ⟨_, rfl, p, _, _, _, rfl, rfl, SqL.of hp2, rfl, ?_⟩
        refine ⟨_, rfl, Or.inl ⟨_, rfl, ?_⟩⟩
        refine ⟨_, rfl, p, _, _, _, rfl, rfl, SqL.of hp2, rfl, l, xs.map V.int, rfl, .inl (SqL.of hl2), ?_⟩
        have hL : ((xs.map V.int).length : Int) = (xs.length : Int) := by rw [List.length_map]
        have hb1 : 0 ≤ s.fmod ((xs.map V.int).length : Int) := Int.fmod_nonneg_of_pos _ (by omega)
        have hb2 : s.fmod ((xs.map V.int).length : Int) < ((xs.map V.int).length : Int) := Int.fmod_lt_of_pos _ (by omega)
        obtain ⟨j, hj⟩ : ∃ j : Nat, s.fmod ((xs.map V.int).length : Int) = (j : Int) := ⟨(s.fmod ((xs.map V.int).length : Int)).toNat, by omega⟩
        have hjl : j < xs.length := by omega
        have hat : atI (xs.map V.int) (s.fmod ((xs.map V.int).length : Int)) = some (V.int xs[j]) := by
          rw [hj]; exact atI_nat (by simp [hjl])
        refine ⟨_, _, rfl, rfl, (by omega), ?_⟩
        refine ⟨l, _, _, V.int xs[j], rfl, rfl, SqL.of hl2, hat, ?_⟩
        exact go _ _ ⟨xs[j], rfl, rfl⟩
      · exact go _ _ ⟨_, rfl, rfl⟩
end
end Lw
namespace Lw
open PySem PySem.Spec PyProof.Rows L2

theorem Kp.refl (p : Addr) (H : Hp) : Kp p H H := fun _ _ _ e => e
theorem Kp.trans {p : Addr} {H H1 H2 : Hp} (a : Kp p H H1) (b : Kp p H1 H2) : Kp p H H2 := fun c o hc e => b c o hc (a c o hc e)
theorem Kp.of {p : Addr} {H H' : Hp} (s : Same H H') : Kp p H H' := fun b o _ e => s b o e
theorem Kp.seq {K : PySem.W.Frag} {p a : Addr} {H H' : Hp} {ys : List V} (k : Kp p H H') (ne : a ≠ p) (h : SqL K H a ys) : SqL K H' a ys := by
  rcases h with (h | ⟨o, h⟩) | h
  · exact .inl (.inl (k _ _ ne h))
  · exact .inl (.inr ⟨o, k _ _ ne h⟩)
  · exact .inr h
theorem same_new {H : Hp} {q : Addr} {o : HO} (hq : H q = none) : Same H (upd H q o) := fun b u e => by rw [upd_ne (ne_of_none e hq)]; exact e
theorem Pen.keep {H H' : Hp} {p l : Addr} {n : Nat} (h : Pen H p l n) (s : Same H H') : Pen H' p l n := by
  obtain ⟨xs, a, g, ⟨h1, h2, h3, h4, h5⟩, h6⟩ := h
  exact ⟨xs, a, g, ⟨s _ _ h1, s _ _ h2, h3, h4, h5⟩, h6⟩
theorem Pen.at {H : Hp} {p l : Addr} {n : Nat} (h : Pen H p l n) : ∃ o, H p = some o := by
  obtain ⟨xs, a, g, h, _⟩ := h
  exact ⟨_, h.at_⟩
theorem Pen.ne_new {H : Hp} {p l q : Addr} {n : Nat} (h : Pen H p l n) (hq : H q = none) : q ≠ p := by
  obtain ⟨o, h1⟩ := h.at
  exact (ne_of_none h1 hq).symm
theorem Pen.more {H : Hp} {p l : Addr} {n m : Nat} (h : Pen H p l n) (hm : n ≤ m) : Pen H p l m := by
  obtain ⟨xs, a, g, h1, h2⟩ := h
  exact ⟨xs, a, g, h1, by omega⟩
def spPick (K : PySem.W.Frag) : Sp := fun vs H Q _ => ∃ (p l a : Addr) (n : Nat) (ys : List V), vs = [.ref p, .ref a] ∧ Pen H p l n ∧ n ≤ 1000000 ∧ SqL K H a ys ∧ a ≠ p ∧ 0 < ys.length ∧ ys.length < 1000000 ∧
  ∀ (j : Nat) (v : V) (H' : Hp), ys[j]? = some v → Pen H' p l (n + 1) → Kp p H H' → Q v H'
def spPen (K : PySem.W.Frag) : Sp := fun vs H Q _ => ∃ (a : Addr) (ns : List Int), vs = [.ref a] ∧ SqL K H a (ns.map V.int) ∧ ns.length ≤ 63 ∧ ∀ (p l : Addr) (H' : Hp), Pen H' p l 0 → Same H H' → H p = none → Q (.ref p) H'
theorem Pen.over {H : Hp} {p l q : Addr} {n : Nat} {o : HO} (h : Pen H p l n) (h1 : q ≠ p) (h2 : q ≠ l) : Pen (upd H q o) p l n := by
  obtain ⟨xs, a, g, ⟨e1, e2, e3, e4, e5⟩, h6⟩ := h
  exact ⟨xs, a, g, ⟨by rw [upd_ne h1.symm]; exact e1, by rw [upd_ne h2.symm]; exact e2, e3, e4, e5⟩, h6⟩
theorem Pen.ne_new2 {H : Hp} {p l q : Addr} {n : Nat} (h : Pen H p l n) (hq : H q = none) : q ≠ l := by
  obtain ⟨xs, a, g, h, _⟩ := h
  exact (ne_of_none h.ls hq).symm
section
variable {P : Program} {w : World} {K : PySem.W.Frag} {mg : Str → Option Value} {base : Heap}
theorem scPick : FnScope ["_law_pen_here", "_law_some"] ["_law_pen_here", "_law_some"] (C8.fnScope sPick) := C8.fnScope_by (by decide +kernel)
theorem cal_pick {f : Addr} {fd : FuncData} (F : C8.Def K mg "_law_pick" sPick f fd) (b : Binds K fd ["_law_pen_here", "_law_some"] []) (T : Txt0 mg) (D : C8.Cal P w K mg base 1 "_law_draw" spDraw []) : C8.Cal P w K mg base 2 "_law_pick" (spPick K) [] := by
  refine C8.cal0 F b .nil scPick (fun vs H Q E h => ?_) (fun cdv A outer st H vs Q E hr h => ?_)
  · obtain ⟨p, l, a, n, ys, rfl, _⟩ := h
    rfl
  · obtain ⟨p, l, a, n, ys, rfl, hp, hn, hs, ne, h0, h1, k⟩ := h
    refine ⟨_, (pss_one (ps_ret (pe_ix ix_list (pv 1) (C8.pe_c D hr (by decide) (by rfl) (pa_cons (pv 0) (pa_cons (pe_callB call_len_seq (by rfl) T.n_len (by decide +kernel) (pa_cons (pv 1) pa_nil)) pa_nil))) (fun _ _ => rfl)))), ?_⟩
    refine ⟨_, rfl, _, rfl, _, rfl, a, ys, rfl, .inl hs, ?_⟩
    refine ⟨p, l, n, _, rfl, (by omega), (by omega), hp, hn, fun r H' r0 r1 hp' k' => ?_⟩
    obtain ⟨j, hj⟩ : ∃ j : Nat, r = (j : Int) := ⟨r.toNat, by omega⟩
    subst hj
    have hjl : j < ys.length := by omega
    refine ⟨a, ys, _, ys[j], rfl, rfl, k'.seq ne hs, atI_nat (by simp [hjl]), ?_⟩
    exact k j _ H' (by simp [hjl]) hp' k'
theorem scPen : FnScope ["_law_script"] ["_law_script"] (C8.fnScope sPen) := C8.fnScope_by (by decide +kernel)
theorem cut_ints (xs : List Int) (lo hi : Option Int) : cutV (xs.map V.int) lo hi = ((xs.drop (HT.sIx xs.length 0 lo)).take (HT.sIx xs.length xs.length hi - HT.sIx xs.length 0 lo)).map V.int := by
  unfold cutV
  rw [List.length_map, List.map_take, List.map_drop]
theorem cal_pen {f : Addr} {fd : FuncData} (F : C8.Def K mg "_law_pen" sPen f fd) (b : Binds K fd ["_law_script"] []) (T : Txt0 mg) : C8.Cal P w K mg base 1 "_law_pen" (spPen K) [] := by
  refine C8.cal0 F b .nil scPen (fun vs H Q E h => ?_) (fun cdv A outer st H vs Q E hr h => ?_)
  · obtain ⟨a, ns, rfl, _⟩ := h
    rfl
  · obtain ⟨a, ns, rfl, hs, hl, k⟩ := h
    refine ⟨_, (pss_one (ps_ret (pe_lst (pa_cons (pe_callTy call_list_of (by rfl) T.n_list (by decide +kernel) (pa_cons (pe_slice sl_list (pv 0) po_none (po_some pe_int)) pa_nil)) (pa_cons pe_int (pa_cons pe_int pa_nil)))))), ?_⟩
    refine ⟨_, rfl, _, rfl, a, _, rfl, hs, fun c hc => ?_⟩
    refine ⟨c, _, rfl, .inl (SqL.of upd_same), fun l hl2 => ?_⟩
    refine ⟨(by show 3 ≤ sizeLine; decide), fun p hp => ?_⟩
    have s1 := same_new (o := HO.lst (cutV (ns.map V.int) none (some 63))) hc
    have s2 := same_new (o := HO.lst (cutV (ns.map V.int) none (some 63))) hl2
    have s3 := same_new (o := HO.lst [V.ref l, V.int 0, V.int 0]) hp
    have pl : p ≠ l := fun e => by rw [e, upd_same] at hp; cases hp
    refine k p l _ ⟨((ns.drop (HT.sIx ns.length 0 none)).take (HT.sIx ns.length ns.length (some 63) - HT.sIx ns.length 0 none)), 0, 0, ⟨upd_same, ?_, pl, by omega, by omega⟩, by omega⟩ ((s1.trans s2).trans s3) ((s1.trans s2).free hp)
    rw [upd_ne pl.symm, upd_same, cut_ints]
end
end Lw
namespace Lw
open PySem PySem.Spec PyProof.Rows L2

/-! ### own operators: + - * // % and the sign, of instances of one class and of a built-in value beside -/
section
variable {X : Cx} {C : Addr} {k j : Nat} {sp : Sp} {pins : List (Addr × Obj)} {σ : L2.St} {H : Hp} {s : Shared}
theorem ins_at {a dx : Addr} {fs : List (Str × V)} (I : Inv X pins σ H s) (h : H a = some (.ins C dx fs)) : ∃ ox od, PySem.W.InstAt s.heap a ox C (some od) := by
  obtain ⟨mA, O, _⟩ := ins_get I.hok h
  obtain ⟨od, J, _⟩ := O.look
  exact ⟨_, od, J⟩
/-- a method of the class, called with an instance and another value -/
theorem run_two {m : Str} {us : List Value} {vs : List V} {Q : VK} (M : C8.Met X.prog X.w X.K X.mg X.base k C m sp []) (hr : Room j X.A) (hk : k ≤ j) (I : Inv X pins σ H s) (r : Vals vs us) (q : sp vs H Q C8.E0) :
    ∃ g : Addr, Meth X.K C m g ∧ wpAny (model X.prog X.w) X.A (call (.ref g) us) (PySem.W.CmpBack (EP X pins σ Q)) X.xe s := by
  obtain ⟨g, fd, ps, ds, hC, hm, F, b, d⟩ := M.ex
  have q' : sp (vs ++ []) H Q C8.E0 := by rw [List.append_nil]; exact q
  refine ⟨g, hm, wpAny_mono (run_fn F (hr.mono hk) b d C8.pass0 I r q') (fun w s' z => ?_) fun _ _ x => x⟩
  obtain ⟨z', H', I', rz, qz⟩ := z
  exact SlX.cmpback rz ⟨z', H', I', rz, qz⟩
def rSame (C : Addr) (sp : Sp) : R2 := fun x y H Q => ∃ a dx fs b dy gs, x = .ref a ∧ y = .ref b ∧ H a = some (.ins C dx fs) ∧ H b = some (.ins C dy gs) ∧ sp [x, y] H Q C8.E0
theorem op_same {op : Operator} (M : C8.Met X.prog X.w X.K X.mg X.base k C (PySem.dunder op.info.2) sp []) (hc : PySem.W.selfFirst X.K C = true) (hr : Room j X.A) (hk : k ≤ j) : OpR X (binaryOp op) (rSame C sp) := by
  intro pins s σ H x y v u Q I rx ry h
  obtain ⟨a, dx, fs, b, dy, gs, rfl, rfl, ha, hb, q⟩ := h
  cases (show v = Value.ref a from rx)
  cases (show u = Value.ref b from ry)
  obtain ⟨_, _, J⟩ := ins_at I ha
  obtain ⟨_, _, J'⟩ := ins_at I hb
  obtain ⟨g, hm, w⟩ := run_two (us := [.ref a, .ref b]) (vs := [.ref a, .ref b]) M hr hk I (.cons rfl (.cons rfl .nil)) q
  obtain ⟨m, hF⟩ := I.fr
  exact PySem.W.binop_K hF I.ok.mod.kin J J'.type hc hm.at_ hm.fn w
/-- what the operator asks of the class and of a built-in type beside it -/
structure Beside (K : PySem.W.Frag) (C : Addr) (op : Operator) (T : String) : Prop where
  first : PySem.W.selfFirst K C = true
  back : ∃ rc, PySem.W.findIn K (.ref C) (dunderR op.info.2) = some rc ∧ (rc = none ∨ ∃ g : Addr, rc = some (.ref g))
  ahead : ∃ fo, PySem.W.findIn K (.type T) (PySem.dunder op.info.2) = some fo
  behind : ∃ ro, PySem.W.findIn K (.type T) (dunderR op.info.2) = some ro
  sub : PySem.W.subIn K (.type T) (.ref C) = some false
/-- a built-in value's kind, as typeOf tells it -/
inductive Kind : V → String → Prop where
  | int (i : Int) : Kind (.int i) "int"
  | bl (b : Bool) : Kind (.bl b) "bool"
  | non : Kind .non "NoneType"
  | str (z : Str) : Kind (.str z) "str"
theorem Kind.type {y : V} {T : String} {u : Value} (h : Kind y T) (r : RelV y u) : typeOf u = pure (.type T) := by
  cases h with
  | int i => obtain ⟨t, e⟩ := (show ∃ t, u = Value.int i t from r); subst e; rfl
  | bl b => cases (show u = Value.bool b from r); rfl
  | non => cases (show u = Value.none from r); rfl
  | str z => obtain ⟨t, e⟩ := (show ∃ t, u = Value.str z t from r); subst e; rfl
def rBeside (K : PySem.W.Frag) (C : Addr) (op : Operator) (sp : Sp) : R2 := fun x y H Q => ∃ a dx fs T, x = .ref a ∧ H a = some (.ins C dx fs) ∧ Kind y T ∧ Beside K C op T ∧ sp [x, y] H Q C8.E0
theorem op_beside {op : Operator} (M : C8.Met X.prog X.w X.K X.mg X.base k C (PySem.dunder op.info.2) sp []) (hr : Room j X.A) (hk : k ≤ j) : OpR X (binaryOp op) (rBeside X.K C op sp) := by
  intro pins s σ H x y v u Q I rx ry h
  obtain ⟨a, dx, fs, T, rfl, ha, hT, hB, q⟩ := h
  cases (show v = Value.ref a from rx)
  obtain ⟨_, _, J⟩ := ins_at I ha
  obtain ⟨g, hm, w⟩ := run_two (us := [.ref a, u]) (vs := [.ref a, y]) M hr hk I (.cons rfl (.cons ry .nil)) q
  obtain ⟨m, hF⟩ := I.fr
  obtain ⟨rc, r1, r2⟩ := hB.back
  obtain ⟨fo, f1⟩ := hB.ahead
  obtain ⟨ro, o1⟩ := hB.behind
  exact PySem.W.ksp_binT hF I.ok.mod.kin J (hT.type ry) hB.first hm.at_ hm.fn r1 r2 f1 o1 hB.sub w
def rSign (C : Addr) (sp : Sp) : V → Hp → VK → Prop := fun x H Q => ∃ a dx fs, x = .ref a ∧ H a = some (.ins C dx fs) ∧ sp [x] H Q C8.E0
theorem un_sign (M : C8.Met X.prog X.w X.K X.mg X.base k C "__neg__" sp []) (hr : Room j X.A) (hk : k ≤ j) : UnR X (unaryOp .USub) (rSign C sp) := by
  intro pins s σ H x v Q I rx h
  obtain ⟨a, dx, fs, rfl, ha, q⟩ := h
  cases (show v = Value.ref a from rx)
  obtain ⟨_, _, J⟩ := ins_at I ha
  obtain ⟨g, fd, ps, ds, hC, hm, F, b, d⟩ := M.ex
  obtain ⟨m, hF⟩ := I.fr
  have q' : sp ([V.ref a] ++ []) H Q C8.E0 := q
  exact PySem.W.ksp_neg hF I.ok.mod.kin J hm.at_ hm.fn (run_fn (us := [.ref a]) (vs := [.ref a]) F (hr.mono hk) b d C8.pass0 I (.cons rfl .nil) q')
end
end Lw
namespace Lw.Ow
open PySem PySem.Spec PyProof.Rows PySem.W PySem.Calls

/-! ### own operators, the instance on the right -/
section
variable {prog : Program} {w : World} {A : Around} {E : Value → Shared → Prop} {s : Shared} {K : Frag} {x C f g : Addr} {ox : Obj} {od : Option Obj}
theorem right_bare {op : Operator} {a : Value} {T : String} {Q : Value → Shared → Prop} (X : K.In s.heap) (I : InstAt s.heap x ox C od) (ht : Looks (model prog w) s.heap (typeOf a) (.type T)) (hc : selfFirst K C = true) (hs : findIn K (.ref C) (PySem.dunder op.info.2) = some (some (.ref f))) (hr : findIn K (.ref C) (dunderR op.info.2) = some (some (.ref g)))
    (hg : isFn K (.ref g) = true) (hL : fillsNumberSlot (.type T) op.info.2 = pure false) (h : wpAny (model prog w) A (call (.ref g) [.ref x, a]) (PySem.W.CmpBack Q) E s) : wpAny (model prog w) A (binaryOp op a (.ref x)) Q E s := by
  obtain ⟨cd, rest, hcd, hm⟩ := ksp_first hc
  rcases hi : op.info with ⟨sym, nm⟩
  rw [hi] at hs hr hL
  dsimp only at hs hr hL
  have one := ksp_try X I hr hg h
  obtain ⟨hh, gg, d, tt, os⟩ := s
  have L2 : Looks (model prog w) hh (typeOf (.ref x)) (.ref C) := I.type
  have L3 : Looks (model prog w) hh (fillsNumberSlot (.ref C) nm) true := fills_K X hcd hm hs
  have hne : (Value.type T == Value.ref C) = false := Bool.eq_false_iff.mpr fun q => by cases beq_iff_eq.mp q
  simp only [binaryOp, hi]
  refine wpAny_holding (wpAny_bind ?_)
  unfold binaryOp1
  refine wpAny_bind (ht.at (wpAny_bind (L2.at (wpAny_bind (wpAny_of_eq hL ?_)))))
  simp only [hne, Bool.false_eq_true, if_false]
  refine wpAny_bind (L3.at ?_)
  simp only [Bool.false_and, Bool.false_eq_true, if_false, pure_bind, Bool.not_false, Bool.and_true, if_true]
  refine wpAny_bind (wpAny_mono one (fun r s' hr' => ?_) fun _ _ e => e)
  obtain ⟨v, rfl, hq⟩ := hr'
  exact wpAny_bind (wpAny_rule (wpAny_pure (wpAny_pure hq)))
theorem right_number {op : Operator} {a : Value} {T id : String} {Q : Value → Shared → Prop} (X : K.In s.heap) (I : InstAt s.heap x ox C od) (ht : typeOf a = pure (.type T)) (hT : s.TypeIs a T) (hc : selfFirst K C = true) (hs : findIn K (.ref C) (PySem.dunder op.info.2) = some (some (.ref f))) (hr : findIn K (.ref C) (dunderR op.info.2) = some (some (.ref g)))
    (hg : isFn K (.ref g) = true) (hL : fillsNumberSlot (.type T) op.info.2 = pure true) (hsub : subIn K (.ref C) (.type T) = some false) (sl : Slot T (PySem.dunder op.info.2) id) (hd : ∀ Q' : Value → Shared → Prop, Q' .notImplemented s → wpAny (model prog w) A (call (.builtin id) [a, .ref x]) Q' E s)
    (h : wpAny (model prog w) A (call (.ref g) [.ref x, a]) (PySem.W.CmpBack Q) E s) : wpAny (model prog w) A (binaryOp op a (.ref x)) Q E s := by
  obtain ⟨cd, rest, hcd, hm⟩ := ksp_first hc
  rcases hi : op.info with ⟨sym, nm⟩
  rw [hi] at hs hr hL sl
  dsimp only at hs hr hL sl
  have one := ksp_try X I hr hg h
  have two := wpAny_tryMethod_declines (Q := fun r s' => r = none ∧ s' = s) hT sl (hd _ ⟨rfl, rfl, rfl⟩)
  obtain ⟨hh, gg, d, tt, os⟩ := s
  have L2 : Looks (model prog w) hh (typeOf (.ref x)) (.ref C) := I.type
  have L3 : Looks (model prog w) hh (fillsNumberSlot (.ref C) nm) true := fills_K X hcd hm hs
  have L4 : Looks (model prog w) hh (isSubtype (.ref C) (.type T)) false := looks_subIn X hsub
  have hpy : numberSlotInPython (.type T) nm = pure false := rfl
  have hne : (Value.type T == Value.ref C) = false := Bool.eq_false_iff.mpr fun q => by cases beq_iff_eq.mp q
  simp only [binaryOp, hi]
  refine wpAny_holding (wpAny_bind ?_)
  unfold binaryOp1
  refine wpAny_bind (wpAny_of_eq ht (wpAny_bind (L2.at (wpAny_bind (wpAny_of_eq hL ?_)))))
  simp only [hne, Bool.false_eq_true, if_false]
  refine wpAny_bind (L3.at ?_)
  simp only [Bool.and_self, if_true]
  refine wpAny_bind (L4.at ?_)
  simp only [Bool.false_eq_true, if_false, pure_bind, Bool.not_false, Bool.and_self, if_true, hpy]
  refine wpAny_bind (wpAny_mono two (fun r s' z => ?_) fun _ _ e => e)
  obtain ⟨rfl, rfl⟩ := z
  refine wpAny_bind (wpAny_mono one (fun r s' hr' => ?_) fun _ _ e => e)
  obtain ⟨v, rfl, hq⟩ := hr'
  exact wpAny_bind (wpAny_rule (wpAny_pure (wpAny_pure hq)))
end
end Lw.Ow
namespace Lw.Ow
open PySem PySem.Spec PyProof.Rows

section
variable {prog : Program} {w : World} {A : Around} {E : Value → Shared → Prop} {s : Shared}
theorem binary_no {nm : String} {f : Int → Int → Sem Fin} {i : Int} {t : Tok} {x : Addr} {o : Obj} {Q : Value → Shared → Prop} (ho : s.heap.get? x = some o) (hp : o.data = .plain) (h : Q .notImplemented s) :
    wpAny (model prog w) A (Builtin.Int.intBinary nm f false ⟨[.int i t, .ref x], []⟩) (fun fin s' => ∃ v, fin = .done (.ret v) ∧ Q v s') E s := by
  unfold Builtin.Int.intBinary
  refine wpAny_bind (wpAny_of_eq (a := (Value.int i t, [Value.ref x])) rfl ?_)
  refine wpAny_bind (wpAny_of_eq (a := i) rfl ?_)
  refine wpAny_bind ?_
  show wpAny _ _ (load x >>= fun ob => match ob.data with | .prim (.int i _) => pure (some i) | _ => pure none) _ _ _
  refine wpAny_bind (wpAny_load ho ?_)
  rw [hp]
  exact wpAny_pure (wpAny_bind (wpAny_rule (wpAny_pure ⟨_, rfl, h⟩)))
theorem no_add {i : Int} {t : Tok} {x : Addr} {o : Obj} {Q : Value → Shared → Prop} (ho : s.heap.get? x = some o) (hp : o.data = .plain) (h : Q .notImplemented s) : wpAny (model prog w) A (call (.builtin "int.__add__") [.int i t, .ref x]) Q E s :=
  wpAny_call_entry F.slot_int_add (typeIs_int s i t) F.entry_int_add (binary_no ho hp h) (F.args_int_add_2 _ _)
theorem no_sub {i : Int} {t : Tok} {x : Addr} {o : Obj} {Q : Value → Shared → Prop} (ho : s.heap.get? x = some o) (hp : o.data = .plain) (h : Q .notImplemented s) : wpAny (model prog w) A (call (.builtin "int.__sub__") [.int i t, .ref x]) Q E s :=
  wpAny_call_entry F.slot_int_sub (typeIs_int s i t) F.entry_int_sub (binary_no ho hp h) (F.args_int_sub_2 _ _)
theorem no_mul {i : Int} {t : Tok} {x : Addr} {o : Obj} {Q : Value → Shared → Prop} (ho : s.heap.get? x = some o) (hp : o.data = .plain) (h : Q .notImplemented s) : wpAny (model prog w) A (call (.builtin "int.__mul__") [.int i t, .ref x]) Q E s :=
  wpAny_call_entry F.slot_int_mul (typeIs_int s i t) F.entry_int_mul (binary_no ho hp h) (F.args_int_mul_2 _ _)
theorem no_mod {i : Int} {t : Tok} {x : Addr} {o : Obj} {Q : Value → Shared → Prop} (ho : s.heap.get? x = some o) (hp : o.data = .plain) (h : Q .notImplemented s) : wpAny (model prog w) A (call (.builtin "int.__mod__") [.int i t, .ref x]) Q E s :=
  wpAny_call_entry F.slot_int_mod (typeIs_int s i t) F.entry_int_mod (binary_no ho hp h) (F.args_int_mod_2 _ _)
theorem no_floordiv {i : Int} {t : Tok} {x : Addr} {o : Obj} {Q : Value → Shared → Prop} (ho : s.heap.get? x = some o) (hp : o.data = .plain) (h : Q .notImplemented s) : wpAny (model prog w) A (call (.builtin "int.__floordiv__") [.int i t, .ref x]) Q E s := by
  refine wpAny_call_entry F.slot_int_floordiv (typeIs_int s i t) F.entry_int_floordiv ?_ (F.args_int_floordiv_2 _ _)
  unfold Builtin.«int.__floordiv__»
  refine wpAny_bind ?_
  unfold Builtin.exactOperandsForPylong
  rw [if_pos (by rfl)]
  dsimp only
  refine wpAny_bind (wpAny_of_eq (a := some i) rfl ?_)
  refine wpAny_bind ?_
  show wpAny _ _ (load x >>= fun ob => match ob.data with | .prim (.int i _) => pure (some i) | _ => pure none) _ _ _
  refine wpAny_bind (wpAny_load ho ?_)
  rw [hp]
  exact wpAny_pure (wpAny_pure (binary_no ho hp h))
end

end Lw.Ow
namespace Lw
open PySem PySem.Spec PyProof.Rows L2
section
variable {X : Cx} {C f : Addr} {k j : Nat} {sp : Sp}
def rRight (C : Addr) (P : V → Prop) (sp : Sp) : R2 := fun x y H Q => ∃ a dx fs, P x ∧ y = .ref a ∧ H a = some (.ins C dx fs) ∧ sp [y, x] H Q C8.E0
theorem ins_plain {pins : List (Addr × Obj)} {σ : L2.St} {H : Hp} {s : Shared} {a dx : Addr} {fs : List (Str × V)} (I : Inv X pins σ H s) (h : H a = some (.ins C dx fs)) : ∃ ox od, PySem.W.InstAt s.heap a ox C (some od) ∧ s.heap.get? a = some ox ∧ ox.data = .plain := by
  obtain ⟨mA, O, _⟩ := ins_get I.hok h
  obtain ⟨od, J, _⟩ := O.look
  exact ⟨_, od, J, J.at_, rfl⟩
/-- an int beside an instance on the right -/
theorem op_rightI {op : Operator} {id : String} (M : C8.Met X.prog X.w X.K X.mg X.base k C (dunderR op.info.2) sp []) (hc : PySem.W.selfFirst X.K C = true) (hs : PySem.W.findIn X.K (.ref C) (PySem.dunder op.info.2) = some (some (.ref f))) (hL : fillsNumberSlot (.type "int") op.info.2 = pure true)
    (hsub : PySem.W.subIn X.K (.ref C) (.type "int") = some false) (sl : Slot "int" (PySem.dunder op.info.2) id) (hd : ∀ {A : Around} {E : Value → Shared → Prop} {s : Shared} {i : Int} {t : Tok} {x : Addr} {o : Obj} {Q' : Value → Shared → Prop}, s.heap.get? x = some o → o.data = .plain → Q' .notImplemented s → wpAny (model X.prog X.w) A (call (.builtin id) [.int i t, .ref x]) Q' E s)
    (hr : Room j X.A) (hk : k ≤ j) : OpR X (binaryOp op) (rRight C (fun x => ∃ i, x = .int i) sp) := by
  intro pins s σ H x y v u Q I rx ry h
  obtain ⟨a, dx, fs, ⟨i, rfl⟩, rfl, ha, q⟩ := h
  cases (show u = Value.ref a from ry)
  obtain ⟨t, rfl⟩ := (show ∃ t, v = Value.int i t from rx)
  obtain ⟨ox, od, J, hx, hp⟩ := ins_plain I ha
  obtain ⟨g, hm, w⟩ := run_two (us := [.ref a, .int i t]) (vs := [.ref a, .int i]) M hr hk I (.cons rfl (.cons ⟨t, rfl⟩ .nil)) q
  exact Ow.right_number I.kIn J rfl (typeIs_int s i t) hc hs hm.at_ hm.fn hL hsub sl (fun Q' z => hd hx hp z) w
/-- a value whose type has no number slot for the operator -/
theorem op_rightB {op : Operator} {T : String} (M : C8.Met X.prog X.w X.K X.mg X.base k C (dunderR op.info.2) sp []) (hc : PySem.W.selfFirst X.K C = true) (hs : PySem.W.findIn X.K (.ref C) (PySem.dunder op.info.2) = some (some (.ref f))) (hL : fillsNumberSlot (.type T) op.info.2 = pure false)
    (hr : Room j X.A) (hk : k ≤ j) : OpR X (binaryOp op) (rRight C (fun x => Kind x T) sp) := by
  intro pins s σ H x y v u Q I rx ry h
  obtain ⟨a, dx, fs, hT, rfl, ha, q⟩ := h
  cases (show u = Value.ref a from ry)
  obtain ⟨ox, od, J, hx, hp⟩ := ins_plain I ha
  obtain ⟨g, hm, w⟩ := run_two (us := [.ref a, v]) (vs := [.ref a, x]) M hr hk I (.cons rfl (.cons rx .nil)) q
  exact Ow.right_bare I.kIn J (PySem.W.Looks.of_pure (hT.type rx)) hc hs hm.at_ hm.fn hL w
end
end Lw
namespace Lw.Ow
open PySem PySem.Spec PyProof.Rows PySem.W PySem.Calls

/-! ### x op= y of instances whose class has no operator of that kind -/
section
variable {prog : Program} {w : World} {A : Around} {E : Value → Shared → Prop} {s : Shared} {K : Frag} {x C f g : Addr} {ox : Obj} {od : Option Obj}
/-- the operator's first half tells a value -/
def Told (Q : Value → Shared → Prop) (r : Option Value) (s' : Shared) : Prop := ∃ v, r = some v ∧ Q v s'
theorem half_same {nm : String} {b : Value} {Q : Value → Shared → Prop} (X : K.In s.heap) (I : InstAt s.heap x ox C od) (hb : Looks (model prog w) s.heap (typeOf b) (.ref C)) (hc : selfFirst K C = true) (hs : findIn K (.ref C) (PySem.dunder nm) = some (some (.ref f))) (hf : isFn K (.ref f) = true)
    (h : wpAny (model prog w) A (call (.ref f) [.ref x, b]) (PySem.W.CmpBack Q) E s) : wpAny (model prog w) A (binaryOp1 nm (.ref x) b) (Told Q) E s := by
  obtain ⟨cd, rest, hcd, hm⟩ := ksp_first hc
  have one := ksp_try X I hs hf h
  obtain ⟨hh, gg, d, tt, os⟩ := s
  have L1 : Looks (model prog w) hh (typeOf (.ref x)) (.ref C) := I.type
  have L2 : Looks (model prog w) hh (typeOf b) (.ref C) := hb
  have L3 : Looks (model prog w) hh (fillsNumberSlot (.ref C) nm) true := fills_K X hcd hm hs
  unfold binaryOp1
  refine wpAny_bind (L1.at (wpAny_bind (L2.at (wpAny_bind (L3.at ?_)))))
  simp only [beq_self_eq_true, if_true]
  refine wpAny_bind (wpAny_pure ?_)
  simp only [Bool.and_false, Bool.false_and, Bool.false_eq_true, if_false, if_true, pure_bind]
  refine wpAny_bind (wpAny_mono one (fun r s' z => ?_) fun _ _ e => e)
  obtain ⟨v, rfl, hq⟩ := z
  exact wpAny_pure ⟨v, rfl, hq⟩
/-- no class above has the operator of that kind -/
theorem bare_inplace {nm : String} {add : Bool} {cd : ClassData} {h : Heap} {M : Model} (X : K.In h) (hc : clsIn K C = some cd) (hm : cd.mro = [.ref C, .type "object"]) (h1 : findIn K (.ref C) (dunderI nm) = some none) (h2 : findIn K (.type "object") (dunderI nm) = some none) : Looks M h (fillsInplaceSlot (.ref C) nm add) false := by
  intro A Q E s k q
  have Lm : Looks M h (mroOf (.ref C)) cd.mro := (looks_clsIn X hc).andThen (f := fun cd => pure cd.mro) .now
  have Lm2 := Lm.keeps k
  obtain ⟨hh, gg, d, tt, os⟩ := s
  have X2 : K.In hh := X.keeps k
  have L1 : Looks M hh (typeLookup (.ref C) (dunderI nm)) none := looks_findIn X2 h1
  have L2 : Looks M hh (typeLookup (.type "object") (dunderI nm)) none := looks_findIn X2 h2
  unfold fillsInplaceSlot
  refine wpAny_bind (Lm2.at ?_)
  rw [hm, List.anyM_cons]
  refine wpAny_bind (wpAny_bind (L1.at ?_))
  refine wpAny_pure ?_
  rw [List.anyM_cons]
  refine wpAny_bind (wpAny_bind (L2.at ?_))
  refine wpAny_pure ?_
  rw [List.anyM_nil]
  exact wpAny_pure q
theorem inplace_of {op : Operator} {b : Value} {cd : ClassData} {Q : Value → Shared → Prop} (X : K.In s.heap) (I : InstAt s.heap x ox C od) (hc : clsIn K C = some cd) (hm : cd.mro = [.ref C, .type "object"]) (h1 : findIn K (.ref C) (dunderI op.info.2) = some none) (h2 : findIn K (.type "object") (dunderI op.info.2) = some none)
    (h : wpAny (model prog w) A (binaryOp1 op.info.2 (.ref x) b) (Told Q) E s) : wpAny (model prog w) A (inplaceOp op (.ref x) b) Q E s := by
  have L1 : Looks (model prog w) s.heap (typeOf (.ref x)) (.ref C) := I.type
  have L2 : Looks (model prog w) s.heap (fillsInplaceSlot (.ref C) op.info.2 (op == .Add)) false := bare_inplace X hc hm h1 h2
  unfold inplaceOp
  refine wpAny_holding ?_
  refine wpAny_bind (L1.here (wpAny_bind (L2.here ?_)))
  simp only [Bool.false_eq_true, if_false, pure_bind]
  refine wpAny_bind (wpAny_mono h (fun r s' z => ?_) fun _ _ e => e)
  obtain ⟨v, rfl, hq⟩ := z
  exact wpAny_pure hq
end
end Lw.Ow
namespace Lw.Ow
open PySem PySem.Spec PyProof.Rows PySem.W PySem.Calls

section
variable {prog : Program} {w : World} {A : Around} {E : Value → Shared → Prop} {s : Shared} {K : Frag} {x C f g : Addr} {ox : Obj} {od : Option Obj}
theorem half_left {nm : String} {b : Value} {T : String} {fo ro rc : Option Value} {Q : Value → Shared → Prop} (X : K.In s.heap) (I : InstAt s.heap x ox C od) (hb : Looks (model prog w) s.heap (typeOf b) (.type T)) (hc : selfFirst K C = true) (hs : findIn K (.ref C) (PySem.dunder nm) = some (some (.ref f))) (hf : isFn K (.ref f) = true)
    (hr : findIn K (.ref C) (dunderR nm) = some rc) (hp : rc = none ∨ ∃ g : Addr, rc = some (.ref g)) (h1 : findIn K (.type T) (PySem.dunder nm) = some fo) (h2 : findIn K (.type T) (dunderR nm) = some ro) (hsub : subIn K (.type T) (.ref C) = some false)
    (h : wpAny (model prog w) A (call (.ref f) [.ref x, b]) (PySem.W.CmpBack Q) E s) : wpAny (model prog w) A (binaryOp1 nm (.ref x) b) (Told Q) E s := by
  obtain ⟨cd, rest, hcd, hm⟩ := ksp_first hc
  have one := ksp_try X I hs hf h
  obtain ⟨hh, gg, d, tt, os⟩ := s
  have L1 : Looks (model prog w) hh (typeOf (.ref x)) (.ref C) := I.type
  have L3 : Looks (model prog w) hh (fillsNumberSlot (.ref C) nm) true := fills_K X hcd hm hs
  have L4 : Looks (model prog w) hh (fillsNumberSlot (.type T) nm) ((fo.isSome && !isSeqSlot fo) || (ro.isSome && !isSeqSlot ro)) := ksp_fillsT X h1 h2
  have L5 : Looks (model prog w) hh (isSubtype (.type T) (.ref C)) false := looks_subIn X hsub
  have L6 : Looks (model prog w) hh (numberSlotInPython (.ref C) nm) true := ksp_inPy X hs hr hp
  have L7 : Looks (model prog w) hh (numberSlotInPython (.type T) nm) false := Looks.of_pure rfl
  have L8 : Looks (model prog w) hh (typeLookup (.type T) (dunderR nm)) ro := looks_findIn X h2
  have hne : (Value.ref C == Value.type T) = false := Bool.eq_false_iff.mpr fun q => by cases beq_iff_eq.mp q
  have done : ∀ {r : Option Value} {s' : Shared}, (∃ v, r = some v ∧ Q v s') → ∃ v, r = some v ∧ Told Q r s' := fun ⟨v, e, q⟩ => ⟨v, e, v, e, q⟩
  generalize ((fo.isSome && !isSeqSlot fo) || (ro.isSome && !isSeqSlot ro)) = right at L4
  unfold binaryOp1
  refine wpAny_bind (L1.at (wpAny_bind (hb.at (wpAny_bind (L3.at ?_)))))
  simp only [hne, Bool.false_eq_true, if_false]
  refine wpAny_bind (L4.at ?_)
  cases right with
  | false =>
    simp only [Bool.and_false, Bool.false_and, Bool.false_eq_true, if_false, if_true, pure_bind]
    refine wpAny_bind (wpAny_mono one (fun r s' z => ?_) fun _ _ e => e)
    obtain ⟨v, rfl, hq⟩ := z
    exact wpAny_pure ⟨v, rfl, hq⟩
  | true =>
    simp only [Bool.and_self, if_true]
    refine wpAny_bind (L5.at ?_)
    simp only [Bool.false_eq_true, if_false, if_true, Bool.not_false, Bool.and_self]
    refine wpAny_bind (L6.at ?_)
    simp only [if_true]
    refine wpAny_bind (L7.at ?_)
    simp only [Bool.not_false, if_true]
    refine wpAny_bind (L8.at ?_)
    refine wpAny_bind (wpAny_mono one (fun r s' z => ?_) fun _ _ e => e)
    obtain ⟨v, rfl, hq⟩ := z
    exact wpAny_pure ⟨v, rfl, hq⟩
theorem half_number {nm : String} {a : Value} {T id : String} {Q : Value → Shared → Prop} (X : K.In s.heap) (I : InstAt s.heap x ox C od) (ht : typeOf a = pure (.type T)) (hT : s.TypeIs a T) (hc : selfFirst K C = true) (hs : findIn K (.ref C) (PySem.dunder nm) = some (some (.ref f))) (hr : findIn K (.ref C) (dunderR nm) = some (some (.ref g)))
    (hg : isFn K (.ref g) = true) (hL : fillsNumberSlot (.type T) nm = pure true) (hsub : subIn K (.ref C) (.type T) = some false) (sl : Slot T (PySem.dunder nm) id) (hd : ∀ Q' : Value → Shared → Prop, Q' .notImplemented s → wpAny (model prog w) A (call (.builtin id) [a, .ref x]) Q' E s)
    (h : wpAny (model prog w) A (call (.ref g) [.ref x, a]) (PySem.W.CmpBack Q) E s) : wpAny (model prog w) A (binaryOp1 nm a (.ref x)) (Told Q) E s := by
  obtain ⟨cd, rest, hcd, hm⟩ := ksp_first hc
  have one := ksp_try X I hr hg h
  have two := wpAny_tryMethod_declines (Q := fun r s' => r = none ∧ s' = s) hT sl (hd _ ⟨rfl, rfl, rfl⟩)
  obtain ⟨hh, gg, d, tt, os⟩ := s
  have L2 : Looks (model prog w) hh (typeOf (.ref x)) (.ref C) := I.type
  have L3 : Looks (model prog w) hh (fillsNumberSlot (.ref C) nm) true := fills_K X hcd hm hs
  have L4 : Looks (model prog w) hh (isSubtype (.ref C) (.type T)) false := looks_subIn X hsub
  have hpy : numberSlotInPython (.type T) nm = pure false := rfl
  have hne : (Value.type T == Value.ref C) = false := Bool.eq_false_iff.mpr fun q => by cases beq_iff_eq.mp q
  unfold binaryOp1
  refine wpAny_bind (wpAny_of_eq ht (wpAny_bind (L2.at (wpAny_bind (wpAny_of_eq hL ?_)))))
  simp only [hne, Bool.false_eq_true, if_false]
  refine wpAny_bind (L3.at ?_)
  simp only [Bool.and_self, if_true]
  refine wpAny_bind (L4.at ?_)
  simp only [Bool.false_eq_true, if_false, pure_bind, Bool.not_false, Bool.and_self, if_true, hpy]
  refine wpAny_bind (wpAny_mono two (fun r s' z => ?_) fun _ _ e => e)
  obtain ⟨rfl, rfl⟩ := z
  refine wpAny_bind (wpAny_mono one (fun r s' z => ?_) fun _ _ e => e)
  obtain ⟨v, rfl, hq⟩ := z
  exact wpAny_bind (wpAny_rule (wpAny_pure ⟨v, rfl, hq⟩))
end
end Lw.Ow
namespace Lw
open PySem PySem.Spec PyProof.Rows L2

/-- a class right below object that has no operator of the kind op= -/
structure NoInplace (K : PySem.W.Frag) (C : Addr) (op : Operator) : Prop where
  mro : ∃ cd, PySem.W.clsIn K C = some cd ∧ cd.mro = [.ref C, .type "object"]
  own : PySem.W.findIn K (.ref C) (dunderI op.info.2) = some none
  obj : PySem.W.findIn K (.type "object") (dunderI op.info.2) = some none
section
variable {X : Cx} {C f : Addr} {k j : Nat} {sp : Sp}
theorem iop_same {op : Operator} (M : C8.Met X.prog X.w X.K X.mg X.base k C (PySem.dunder op.info.2) sp []) (hc : PySem.W.selfFirst X.K C = true) (ni : NoInplace X.K C op) (hr : Room j X.A) (hk : k ≤ j) : OpR X (inplaceOp op) (rSame C sp) := by
  intro pins s σ H x y v u Q I rx ry h
  obtain ⟨a, dx, fs, b, dy, gs, rfl, rfl, ha, hb, q⟩ := h
  cases (show v = Value.ref a from rx)
  cases (show u = Value.ref b from ry)
  obtain ⟨_, _, J⟩ := ins_at I ha
  obtain ⟨_, _, J'⟩ := ins_at I hb
  obtain ⟨g, hm, w⟩ := run_two (us := [.ref a, .ref b]) (vs := [.ref a, .ref b]) M hr hk I (.cons rfl (.cons rfl .nil)) q
  obtain ⟨cd, h1, h2⟩ := ni.mro
  exact Ow.inplace_of I.kIn J h1 h2 ni.own ni.obj (Ow.half_same I.kIn J J'.type hc hm.at_ hm.fn w)
theorem iop_beside {op : Operator} (M : C8.Met X.prog X.w X.K X.mg X.base k C (PySem.dunder op.info.2) sp []) (ni : NoInplace X.K C op) (hr : Room j X.A) (hk : k ≤ j) : OpR X (inplaceOp op) (rBeside X.K C op sp) := by
  intro pins s σ H x y v u Q I rx ry h
  obtain ⟨a, dx, fs, T, rfl, ha, hT, hB, q⟩ := h
  cases (show v = Value.ref a from rx)
  obtain ⟨_, _, J⟩ := ins_at I ha
  obtain ⟨g, hm, w⟩ := run_two (us := [.ref a, u]) (vs := [.ref a, y]) M hr hk I (.cons rfl (.cons ry .nil)) q
  obtain ⟨cd, h1, h2⟩ := ni.mro
  obtain ⟨rc, r1, r2⟩ := hB.back
  obtain ⟨fo, f1⟩ := hB.ahead
  obtain ⟨ro, o1⟩ := hB.behind
  exact Ow.inplace_of I.kIn J h1 h2 ni.own ni.obj (Ow.half_left I.kIn J (PySem.W.Looks.of_pure (hT.type ry)) hB.first hm.at_ hm.fn r1 r2 f1 o1 hB.sub w)
/-- i op= x, i an int, x an instance -/
theorem iop_rightI {op : Operator} {id : String} (M : C8.Met X.prog X.w X.K X.mg X.base k C (dunderR op.info.2) sp []) (hc : PySem.W.selfFirst X.K C = true) (hs : PySem.W.findIn X.K (.ref C) (PySem.dunder op.info.2) = some (some (.ref f))) (hL : fillsNumberSlot (.type "int") op.info.2 = pure true) (hI : fillsInplaceSlot (.type "int") op.info.2 (op == .Add) = pure false)
    (hsub : PySem.W.subIn X.K (.ref C) (.type "int") = some false) (sl : Slot "int" (PySem.dunder op.info.2) id) (hd : ∀ {A : Around} {E : Value → Shared → Prop} {s : Shared} {i : Int} {t : Tok} {x : Addr} {o : Obj} {Q' : Value → Shared → Prop}, s.heap.get? x = some o → o.data = .plain → Q' .notImplemented s → wpAny (model X.prog X.w) A (call (.builtin id) [.int i t, .ref x]) Q' E s)
    (hr : Room j X.A) (hk : k ≤ j) : OpR X (inplaceOp op) (rRight C (fun x => ∃ i, x = .int i) sp) := by
  intro pins s σ H x y v u Q I rx ry h
  obtain ⟨a, dx, fs, ⟨i, rfl⟩, rfl, ha, q⟩ := h
  cases (show u = Value.ref a from ry)
  obtain ⟨t, rfl⟩ := (show ∃ t, v = Value.int i t from rx)
  obtain ⟨ox, od, J, hx, hp⟩ := ins_plain I ha
  obtain ⟨g, hm, w⟩ := run_two (us := [.ref a, .int i t]) (vs := [.ref a, .int i]) M hr hk I (.cons rfl (.cons ⟨t, rfl⟩ .nil)) q
  have half := Ow.half_number I.kIn J rfl (typeIs_int s i t) hc hs hm.at_ hm.fn hL hsub sl (fun Q' z => hd hx hp z) w
  unfold inplaceOp
  refine wpAny_holding ?_
  refine wpAny_bind (wpAny_of_eq (a := Value.type "int") rfl (wpAny_bind (wpAny_of_eq hI ?_)))
  simp only [Bool.false_eq_true, if_false, pure_bind]
  refine wpAny_bind (wpAny_mono half (fun r s' z => ?_) fun _ _ e => e)
  obtain ⟨v, rfl, hq⟩ := z
  exact wpAny_pure hq
theorem int_no_inplace : fillsInplaceSlot (.type "int") "add" true = pure false ∧ fillsInplaceSlot (.type "int") "sub" false = pure false ∧ fillsInplaceSlot (.type "int") "mul" false = pure false := by
  refine ⟨?_, ?_, ?_⟩ <;> · simp only [fillsInplaceSlot, typeLookup_type]; rfl
end
end Lw
namespace Lw
open PySem PySem.Spec PyProof.Rows L2

/-! ### the same operators, their methods may raise -/
/-- a method of the class that may raise what E tells -/
structure MetX (P : Program) (w : World) (K : PySem.W.Frag) (mg : Str → Option Value) (base : Heap) (k : Nat) (C : Addr) (m : Str) (sp : Sp) : Prop where
  ex : ∃ (g : Addr) (fd : FuncData) (ps : List Str), Meth K C m g ∧ FnOk P w K mg base (L2.CX P w) k g fd ps sp ∧ Binds K fd ps []
section
variable {X : Cx} {C f : Addr} {k j : Nat} {sp : Sp} {E : XK} {pins : List (Addr × Obj)} {σ : L2.St} {H : Hp} {s : Shared}
theorem run_met {m : Str} {us : List Value} {vs : List V} {Q : VK} (M : MetX X.prog X.w X.K X.mg X.base k C m sp) (hx : Passes (L2.CX X.prog X.w) X E) (hr : Room j X.A) (hk : k ≤ j) (I : Inv X pins σ H s) (r : Vals vs us) (q : sp vs H Q E) :
    ∃ g : Addr, Meth X.K C m g ∧ wpAny (model X.prog X.w) X.A (call (.ref g) us) (PySem.W.CmpBack (EP X pins σ Q)) X.xe s ∧ wpAny (model X.prog X.w) X.A (call (.ref g) us) (EP X pins σ Q) X.xe s := by
  obtain ⟨g, fd, ps, hm, F, b⟩ := M.ex
  have q' : sp (vs ++ []) H Q E := by rw [List.append_nil]; exact q
  have ran := run_fn F (hr.mono hk) b .nil hx I r q'
  refine ⟨g, hm, wpAny_mono ran (fun w s' z => ?_) (fun _ _ x => x), ran⟩
  obtain ⟨z', H', I', rz, qz⟩ := z
  exact SlX.cmpback rz ⟨z', H', I', rz, qz⟩
def rSameX (C : Addr) (sp : Sp) (E : XK) : R2 := fun x y H Q => ∃ a dx fs b dy gs, x = .ref a ∧ y = .ref b ∧ H a = some (.ins C dx fs) ∧ H b = some (.ins C dy gs) ∧ sp [x, y] H Q E
theorem op_sameX {op : Operator} (M : MetX X.prog X.w X.K X.mg X.base k C (PySem.dunder op.info.2) sp) (hx : Passes (L2.CX X.prog X.w) X E) (hc : PySem.W.selfFirst X.K C = true) (hr : Room j X.A) (hk : k ≤ j) : OpR X (binaryOp op) (rSameX C sp E) := by
  intro pins s σ H x y v u Q I rx ry h
  obtain ⟨a, dx, fs, b, dy, gs, rfl, rfl, ha, hb, q⟩ := h
  cases (show v = Value.ref a from rx)
  cases (show u = Value.ref b from ry)
  obtain ⟨_, _, J⟩ := ins_at I ha
  obtain ⟨_, _, J'⟩ := ins_at I hb
  obtain ⟨g, hm, w, _⟩ := run_met (us := [.ref a, .ref b]) (vs := [.ref a, .ref b]) M hx hr hk I (.cons rfl (.cons rfl .nil)) q
  obtain ⟨m, hF⟩ := I.fr
  exact PySem.W.binop_K hF I.ok.mod.kin J J'.type hc hm.at_ hm.fn w
def rBesideX (K : PySem.W.Frag) (C : Addr) (op : Operator) (sp : Sp) (E : XK) : R2 := fun x y H Q => ∃ a dx fs T, x = .ref a ∧ H a = some (.ins C dx fs) ∧ Kind y T ∧ Beside K C op T ∧ sp [x, y] H Q E
theorem op_besideX {op : Operator} (M : MetX X.prog X.w X.K X.mg X.base k C (PySem.dunder op.info.2) sp) (hx : Passes (L2.CX X.prog X.w) X E) (hr : Room j X.A) (hk : k ≤ j) : OpR X (binaryOp op) (rBesideX X.K C op sp E) := by
  intro pins s σ H x y v u Q I rx ry h
  obtain ⟨a, dx, fs, T, rfl, ha, hT, hB, q⟩ := h
  cases (show v = Value.ref a from rx)
  obtain ⟨_, _, J⟩ := ins_at I ha
  obtain ⟨g, hm, w, _⟩ := run_met (us := [.ref a, u]) (vs := [.ref a, y]) M hx hr hk I (.cons rfl (.cons ry .nil)) q
  obtain ⟨m, hF⟩ := I.fr
  obtain ⟨rc, r1, r2⟩ := hB.back
  obtain ⟨fo, f1⟩ := hB.ahead
  obtain ⟨ro, o1⟩ := hB.behind
  exact PySem.W.ksp_binT hF I.ok.mod.kin J (hT.type ry) hB.first hm.at_ hm.fn r1 r2 f1 o1 hB.sub w
def rSignX (C : Addr) (sp : Sp) (E : XK) : V → Hp → VK → Prop := fun x H Q => ∃ a dx fs, x = .ref a ∧ H a = some (.ins C dx fs) ∧ sp [x] H Q E
theorem un_signX (M : MetX X.prog X.w X.K X.mg X.base k C "__neg__" sp) (hx : Passes (L2.CX X.prog X.w) X E) (hr : Room j X.A) (hk : k ≤ j) : UnR X (unaryOp .USub) (rSignX C sp E) := by
  intro pins s σ H x v Q I rx h
  obtain ⟨a, dx, fs, rfl, ha, q⟩ := h
  cases (show v = Value.ref a from rx)
  obtain ⟨_, _, J⟩ := ins_at I ha
  obtain ⟨g, hm, _, w⟩ := run_met (us := [.ref a]) (vs := [.ref a]) M hx hr hk I (.cons rfl .nil) q
  obtain ⟨m, hF⟩ := I.fr
  exact PySem.W.ksp_neg hF I.ok.mod.kin J hm.at_ hm.fn w
end
end Lw
namespace Lw
open PySem PySem.Spec PyProof.Rows L2

section
variable {X : Cx} {C f : Addr} {k j : Nat} {sp : Sp} {E : XK}
def rRightX (C : Addr) (P : V → Prop) (sp : Sp) (E : XK) : R2 := fun x y H Q => ∃ a dx fs, P x ∧ y = .ref a ∧ H a = some (.ins C dx fs) ∧ sp [y, x] H Q E
theorem op_rightIX {op : Operator} {id : String} (M : MetX X.prog X.w X.K X.mg X.base k C (dunderR op.info.2) sp) (hx : Passes (L2.CX X.prog X.w) X E) (hc : PySem.W.selfFirst X.K C = true) (hs : PySem.W.findIn X.K (.ref C) (PySem.dunder op.info.2) = some (some (.ref f))) (hL : fillsNumberSlot (.type "int") op.info.2 = pure true)
    (hsub : PySem.W.subIn X.K (.ref C) (.type "int") = some false) (sl : Slot "int" (PySem.dunder op.info.2) id) (hd : ∀ {A : Around} {E : Value → Shared → Prop} {s : Shared} {i : Int} {t : Tok} {x : Addr} {o : Obj} {Q' : Value → Shared → Prop}, s.heap.get? x = some o → o.data = .plain → Q' .notImplemented s → wpAny (model X.prog X.w) A (call (.builtin id) [.int i t, .ref x]) Q' E s)
    (hr : Room j X.A) (hk : k ≤ j) : OpR X (binaryOp op) (rRightX C (fun x => ∃ i, x = .int i) sp E) := by
  intro pins s σ H x y v u Q I rx ry h
  obtain ⟨a, dx, fs, ⟨i, rfl⟩, rfl, ha, q⟩ := h
  cases (show u = Value.ref a from ry)
  obtain ⟨t, rfl⟩ := (show ∃ t, v = Value.int i t from rx)
  obtain ⟨ox, od, J, h1, h2⟩ := ins_plain I ha
  obtain ⟨g, hm, w, _⟩ := run_met (us := [.ref a, .int i t]) (vs := [.ref a, .int i]) M hx hr hk I (.cons rfl (.cons ⟨t, rfl⟩ .nil)) q
  exact Ow.right_number I.kIn J rfl (typeIs_int s i t) hc hs hm.at_ hm.fn hL hsub sl (fun Q' z => hd h1 h2 z) w
theorem op_rightBX {op : Operator} {T : String} (M : MetX X.prog X.w X.K X.mg X.base k C (dunderR op.info.2) sp) (hx : Passes (L2.CX X.prog X.w) X E) (hc : PySem.W.selfFirst X.K C = true) (hs : PySem.W.findIn X.K (.ref C) (PySem.dunder op.info.2) = some (some (.ref f))) (hL : fillsNumberSlot (.type T) op.info.2 = pure false)
    (hr : Room j X.A) (hk : k ≤ j) : OpR X (binaryOp op) (rRightX C (fun x => Kind x T) sp E) := by
  intro pins s σ H x y v u Q I rx ry h
  obtain ⟨a, dx, fs, hT, rfl, ha, q⟩ := h
  cases (show u = Value.ref a from ry)
  obtain ⟨ox, od, J, h1, h2⟩ := ins_plain I ha
  obtain ⟨g, hm, w, _⟩ := run_met (us := [.ref a, v]) (vs := [.ref a, x]) M hx hr hk I (.cons rfl (.cons rx .nil)) q
  exact Ow.right_bare I.kIn J (PySem.W.Looks.of_pure (hT.type rx)) hc hs hm.at_ hm.fn hL w
theorem iop_sameX {op : Operator} (M : MetX X.prog X.w X.K X.mg X.base k C (PySem.dunder op.info.2) sp) (hx : Passes (L2.CX X.prog X.w) X E) (hc : PySem.W.selfFirst X.K C = true) (ni : NoInplace X.K C op) (hr : Room j X.A) (hk : k ≤ j) : OpR X (inplaceOp op) (rSameX C sp E) := by
  intro pins s σ H x y v u Q I rx ry h
  obtain ⟨a, dx, fs, b, dy, gs, rfl, rfl, ha, hb, q⟩ := h
  cases (show v = Value.ref a from rx)
  cases (show u = Value.ref b from ry)
  obtain ⟨_, _, J⟩ := ins_at I ha
  obtain ⟨_, _, J'⟩ := ins_at I hb
  obtain ⟨g, hm, w, _⟩ := run_met (us := [.ref a, .ref b]) (vs := [.ref a, .ref b]) M hx hr hk I (.cons rfl (.cons rfl .nil)) q
  obtain ⟨cd, h1, h2⟩ := ni.mro
  exact Ow.inplace_of I.kIn J h1 h2 ni.own ni.obj (Ow.half_same I.kIn J J'.type hc hm.at_ hm.fn w)
theorem iop_besideX {op : Operator} (M : MetX X.prog X.w X.K X.mg X.base k C (PySem.dunder op.info.2) sp) (hx : Passes (L2.CX X.prog X.w) X E) (ni : NoInplace X.K C op) (hr : Room j X.A) (hk : k ≤ j) : OpR X (inplaceOp op) (rBesideX X.K C op sp E) := by
  intro pins s σ H x y v u Q I rx ry h
  obtain ⟨a, dx, fs, T, rfl, ha, hT, hB, q⟩ := h
  cases (show v = Value.ref a from rx)
  obtain ⟨_, _, J⟩ := ins_at I ha
  obtain ⟨g, hm, w, _⟩ := run_met (us := [.ref a, u]) (vs := [.ref a, y]) M hx hr hk I (.cons rfl (.cons ry .nil)) q
  obtain ⟨cd, h1, h2⟩ := ni.mro
  obtain ⟨rc, r1, r2⟩ := hB.back
  obtain ⟨fo, f1⟩ := hB.ahead
  obtain ⟨ro, o1⟩ := hB.behind
  exact Ow.inplace_of I.kIn J h1 h2 ni.own ni.obj (Ow.half_left I.kIn J (PySem.W.Looks.of_pure (hT.type ry)) hB.first hm.at_ hm.fn r1 r2 f1 o1 hB.sub w)
end
end Lw
namespace Lw
open PySem PySem.Spec PyProof.Rows L2

/-! ### C.m(e, ..), m a static method -/
structure SMet (K : PySem.W.Frag) (C : Addr) (m : Str) (p g : Addr) : Prop where
  mc : ∃ mc, PySem.W.typeIn K (.ref C) = some mc ∧ PySem.W.readsIn K C mc = true ∧ PySem.W.findCls K (.ref C) mc m = some (.get (.builtin "staticmethod.__get__") (.ref p) .none (.ref C))
  ga : PySem.W.specialIn K (.ref C) "__getattribute__" = some (some (.builtin "type.__getattribute__"))
  rc : ∃ rest, PySem.W.recIn K p "staticmethod" = some (.ref g :: rest)
  kp : PySem.W.keepIn K (.ref g) = true
def tStatic (C : Addr) (sp : Sp) (dvs : List V) (E : XK) (ta : TE) (t : TA) : TE := fun σ H Q => ta σ H fun x H1 => x = .ref C ∧ t σ H1 fun vs H2 => sp (vs ++ dvs) H2 Q E
section
variable {X : Cx} {CX : CXT} {C p g : Addr} {k : Nat} {fd : FuncData} {ps : List Str} {sp : Sp} {E : XK} {ds : List Value} {dvs : List V} {o e : Expr} {es : List Expr} {m : Str} {pos apos : Pos} {ta : TE} {t : TA} {pl : Sem Bool}
theorem pe_static (he : PE X o ta) (c : SMet X.K C m p g) (F : FnOk X.prog X.w X.K X.mg X.base CX k g fd ps sp) (hr : Room k X.A) (b : Binds X.K fd ps ds) (d : Vals dvs ds) (hx : Passes CX X E) (ha : PA X (e :: es) t)
    (hst : starEach (e :: es) X.env = (false, eval e X.env) :: starEach es X.env := by rfl) (hpl : (backTo pos (starEach es X.env)).any (·.1) = false := by rfl)
    (ht : eval (.Call (.Attribute o m apos) (e :: es) [] pos) X.env = (do
      let ov ← eval o X.env
      standAt apos.atName
      let (f, first) ← holding [ov] (getMethod ov m pl)
      callWith pos f first (backTo pos (starEach (e :: es) X.env)) (backToKw pos (keywordEach [] X.env))) := by rfl) :
    PE X (.Call (.Attribute o m apos) (e :: es) [] pos) (tStatic C sp dvs E ta t) := by
  refine ⟨fun pins s σ H Q I h => ?_⟩
  refine PySem.W.methodCall_KW (pl := pl) (thn (he.run pins s σ H _ I h) fun u s1 ⟨x, H1, I1, rx, ex, q⟩ => ?_) ht
  subst ex
  obtain rfl : u = Value.ref C := rx
  obtain ⟨mc, h1, h2, h3⟩ := c.mc
  obtain ⟨rest, h4⟩ := c.rc
  obtain ⟨fm, hF⟩ := I1.fr
  refine PySem.W.method_cls I1.kIn c.ga (PySem.W.cls_sm hF I1.ok.mod.kin h1 h2 h3 h4 rfl ?_)
  have I2 : Inv X pins σ H1 { s1 with toks := s1.toks + 1 } := I1.tok _
  refine PySem.W.callWith_K (h₀ := X.base) I2.ok.mod.kin c.kp (thn (ha.run pos pins _ σ H1 _ I2 q) fun us s3 ⟨vs, H2, I3, rv, q2⟩ => ⟨I3.kIn, ?_⟩) hst hpl
  exact run_fn F hr b d hx I3 rv q2
end
end Lw
namespace Lw
open PySem PySem.Spec PyProof.Rows L2

/-! ### defs that are called where no repr runs -/
/-- a def's promise where nothing is being shown -/
structure FnG (P : Program) (w : World) (K : PySem.W.Frag) (mg : Str → Option Value) (base : Heap) (k : Nat) (f : Addr) (fd : FuncData) (ps : List Str) (sp : Sp) : Prop where
  len : ∀ vs H Q E, sp vs H Q E → vs.length = ps.length
  run : ∀ (A : Around) (outer : List Env) (s : Shared) (H : Hp) (args : Args) (us : List Value) (vs : List V) (Q : VK) (E : XK), A.guards = some [] → Room k A → Env0 P w K mg base A outer s H →
    BindsTo s fd args (ps.zip us) → Vals vs us → sp vs H Q E → codeAny (model P w) A (.call (.ref f) args) (CR C8.CX0 outer P w H s Q E) s
structure CalG (P : Program) (w : World) (K : PySem.W.Frag) (mg : Str → Option Value) (base : Heap) (k : Nat) (x : Str) (sp : Sp) (dvs : List V) : Prop where
  ex : ∃ (f : Addr) (fd : FuncData) (ps : List Str) (ds : List Value), FnG P w K mg base k f fd ps sp ∧ mg x = some (.ref f) ∧ PySem.W.keepIn K (.ref f) = true ∧ Binds K fd ps ds ∧ Vals dvs ds
section
variable {P : Program} {w : World} {K : PySem.W.Frag} {mg : Str → Option Value} {base : Heap}
theorem calG {x : Str} {st : Stmt} {f : Addr} {fd : FuncData} {N ps : List Str} {ds : List Value} {dvs : List V} {k : Nat} {sp : Sp} (F : C8.Def K mg x st f fd) (b : Binds K fd ps ds) (d : Vals dvs ds) (S : FnScope N ps (C8.fnScope st))
    (len : ∀ vs H Q E, sp vs H Q E → vs.length = ps.length)
    (body : ∀ (cdv : Value) (A : Around) (outer : List Env) (s : Shared) (H : Hp) (vs : List V) (Q : VK) (E : XK), (A.deeper (envOfC x (C8.fnScope st) s.heap.objs.size f cdv)).guards = some [] → Room k (A.deeper (envOfC x (C8.fnScope st) s.heap.objs.size f cdv)) → sp vs H Q E →
      ∃ t, PSs (cxOf C8.CX0 P w K mg base N x (C8.fnScope st) f cdv A outer s H E).nox (C8.fnBody st) t ∧ t { nx := fun _ H' => Q .non H', rt := Q } (start N vs) H) : CalG P w K mg base (k + 1) x sp dvs := by
  refine ⟨f, fd, ps, ds, ⟨len, ?_⟩, F.mgf, F.kp, b, d⟩
  intro A outer s H args us vs Q E hg hr e0 hb r hs
  obtain ⟨oc, od, dV, kV, doc, pm, an, cdv, ct, osl, rfl, lk, hcd⟩ := F.fn.ex
  refine LamX.run_ofS lk hcd S hr e0 hb r (len _ _ _ _ hs) fun hr' => ?_
  obtain ⟨t, h1, h2⟩ := body cdv A outer s H vs Q E hg hr' hs
  exact ⟨t, h1.nox, h2⟩
end
section
variable {X : Cx} {k j : Nat} {x : Str} {sp : Sp} {dvs : List V} {p pos : Pos} {e : Expr} {es : List Expr} {t : TA}
theorem pe_g (c : CalG X.prog X.w X.K X.mg X.base k x sp dvs) (hG : X.A.guards = some []) (hr : Room j X.A) (hk : k ≤ j) (hg : Gl X x) (ha : PA X (e :: es) t)
    (hdb : (x == ("__debug__" : Str)) = false := by decide) (he : starEach (e :: es) X.env = (false, eval e X.env) :: starEach es X.env := by rfl) (hpl : (backTo pos (starEach es X.env)).any (·.1) = false := by rfl) :
    PE X (.Call (.Name x p) (e :: es) [] pos) (tCall sp dvs C8.E0 t) := by
  obtain ⟨f, fd, ps, ds, F, hm, kp, b, d⟩ := c.ex
  refine ⟨fun pins s σ H Q I h => ?_⟩
  refine wpAny_Call_Name_kw (ld_glob I hg hm ?_ hdb)
  refine PySem.W.callWith_K (h₀ := X.base) I.ok.mod.kin kp (thn (ha.run pos pins s σ H _ I h) fun us s1 g => ?_) he hpl
  obtain ⟨vs, H1, I1, r, q⟩ := g
  refine ⟨I1.kIn, ?_⟩
  have r2 := r.append d
  have hl : (us ++ ds).length = ps.length := r2.length.symm.trans (F.len _ _ _ _ q)
  refine wpAny_call (codeAny_mono (F.run X.A X.stack s1 H1 ⟨us, []⟩ (us ++ ds) (vs ++ dvs) Q C8.E0 hG (hr.mono hk) I1.env0 (b s1 us I1.kIn hl) r2 q) fun r s' hq => ?_)
  match r, hq with
  | .error e, hq => exact hq.elim
  | .ok (.ret u), hq => exact I1.after hq
  | .ok .next, hq => exact hq.elim
  | .ok .brk, hq => exact hq.elim
  | .ok .cont, hq => exact hq.elim
/-! ### repr of data -/
def rRepr (K : PySem.W.Frag) : List V → Hp → VK → Prop := fun xs H Q => ∃ (a : Addr) (d : PyData), xs = [.ref a] ∧ Dp K H (.ref a) d ∧ d.showable = true ∧ d.hasDict = false ∧ d.depth ≤ 100 ∧ d.shown.length ≤ sizeLine ∧ Q (.str d.shown) H
theorem call_reprD (hG : X.A.guards = some []) (hr : Room 0 X.A) : CallR X (.builtin "repr") (rRepr X.K) := by
  intro pins s σ H xs us Q I r h
  obtain ⟨a, d, rfl, hd, h1, h2, h3, h4, q⟩ := h
  obtain ⟨u, rfl, ru⟩ := vals1 r
  have e : u = Value.ref a := ru
  subst e
  obtain ⟨as, rd⟩ := Dp.reads I d _ _ hd rfl
  have hun := hr.un
  exact repr_of_reads' rd h1 (fun z => by rw [h2] at z; cases z) hG (by omega) (fun _ _ e => e) (fun h' u' tk kp => ⟨.str d.shown, H, I.kept kp, ⟨u', rfl⟩, q⟩) h4
end
end Lw
namespace Lw
open PySem PySem.Spec PyProof.Rows L2

open LamX
/-! ### a lambda as a value -/
def FnO (f : Addr) : HO := .ext fun h => ∃ o : Obj, h.get? f = some o ∧ o.cls = .type "function"
section
variable {X : Cx} {pins : List (Addr × Obj)} {σ : L2.St} {H : Hp} {s : Shared}
theorem lay_fn {h' : Heap} {t' : Nat} {o : Obj} (I : Inv X pins σ H { s with heap := h', toks := t' }) (ho : o.cls = .type "function") (hs : o.isFreed = false) :
    Inv X pins σ (upd H h'.objs.size (FnO h'.objs.size)) { s with heap := h'.push o, toks := t' } := by
  refine I.laid (h' := h'.push o) (t' := t') (fun b u e => Heap.get?_push_of_some _ e) (Nat.le_refl _) ?_
  have g : (h'.push o).get? h'.objs.size = some o := Heap.get?_push_size _ hs
  refine ⟨⟨o, g, ho⟩, ⟨o, g⟩, ?_⟩
  rintro h1 h2 ⟨u, e1, e2⟩ st
  exact ⟨u, st u e1, e2⟩
theorem lam_val {T : List (Addr × Str)} {c B : Addr} {params : Arguments} {body : Expr} {scope : Scope} {pos : Pos} {E Q : Value → Shared → Prop} (I : Inv X pins σ H s) (TB : TabB X.base X.mg c B) (hcode : X.env.code = .ref c)
    (hm : (B, X.env.qual ++ "<lambda>") ∈ T) (hu : ∀ p ∈ T, p.1 = B → p.2 = X.env.qual ++ "<lambda>") (hT : Tabs T H) (hdef : defaultsOf params X.env = ([], []))
    (hfree : ∀ y ∈ scope.names, y.2 = .free → ∃ c, X.env.cells.lookup y.1 = some c)
    (h : ∀ (f : Addr) (H1 : Hp) (s' : Shared), Inv X pins σ (upd H1 f (FnO f)) s' → ExtN H H1 → Tabs T H1 → H1 f = none → Q (.ref f) s') :
    wpAny (model X.prog X.w) X.A (eval (.Lambda params body scope pos) X.env) Q E s := by
  have known := hT _ hm
  obtain ⟨ps, hB, trip, amg⟩ := known
  refine PySem.W.kla_eval hdef ?_
  have hat : s.heap.get? B = some { cls := .none, data := .fields ps } := I.hok B _ hB
  have blt := TB.bm.keeps I.bk
  have hdc := TB.code.keeps I.bk
  have glb := I.mod.glob.keeps I.bk
  rcases hc : codeAmong pos ps.toList with _ | cv
  · refine PySem.W.kla_makeFunction (mg := X.mg) (c := c) (P := B) (ps := ps) (closure_ok hfree) I.ok.glob glb hcode hdc hat trip hc TB.gP blt ?_
    intro c2 ctv h' tk hx hge hlt hrec htb
    obtain ⟨c3, oc, vs, t, e3, g1, g2, g3⟩ := hrec
    cases e3
    have nC : H c2 = none := I.hok.fresh hge
    have I0 := inv_table (t' := tk) (more := #[rawInt pos.line, rawInt pos.col, .ref c2]) (h' := h') I hB hx htb hge ⟨oc, vs, t, g1, g2, g3⟩
    have stays : ExtN H (upd (upd H B (.tbl (ps ++ #[rawInt pos.line, rawInt pos.col, .ref c2]))) c2 (CodeO c2 (X.env.qual ++ "<lambda>"))) := by
      intro b o e n
      rw [upd_ne (ne_of_none e nC)]
      by_cases hb : b = B
      · subst hb
        rw [hB] at e
        exact absurd (Option.some.inj e).symm (n ps)
      · rw [upd_ne hb]; exact e
    refine h h'.objs.size _ _ (lay_fn (t' := tk) I0 rfl rfl) stays ?_ ?_
    · intro p hp
      by_cases hb : p.1 = B
      · rw [hu p hp hb, hb]
        refine ⟨ps ++ #[rawInt pos.line, rawInt pos.col, .ref c2], ?_, ?_, ?_⟩
        · rw [upd_ne (ne_of_none hB nC), upd_same]
        · rw [show (ps ++ #[rawInt pos.line, rawInt pos.col, .ref c2]).toList = ps.toList ++ [rawInt pos.line, rawInt pos.col, .ref c2] by simp]
          exact PySem.TriplesOk_snoc _ _ _ _ trip
        · intro p' cv' hcv
          rw [show (ps ++ #[rawInt pos.line, rawInt pos.col, .ref c2]).toList = ps.toList ++ [rawInt pos.line, rawInt pos.col, .ref c2] by simp] at hcv
          rcases among_app _ trip hcv with z | z
          · obtain ⟨c0, a1, a2⟩ := amg p' cv' z
            exact ⟨c0, a1, stays _ _ a2 codeO_ne⟩
          · exact ⟨c2, z, upd_same⟩
      · obtain ⟨qs, a1, a2, a3⟩ := hT p hp
        refine ⟨qs, ?_, a2, ?_⟩
        · rw [upd_ne (ne_of_none a1 nC), upd_ne hb]; exact a1
        · intro p' cv' hcv
          obtain ⟨c0, b1, b2⟩ := a3 p' cv' hcv
          exact ⟨c0, b1, stays _ _ b2 codeO_ne⟩
    · have n1 : h'.objs.size ≠ c2 := Nat.ne_of_gt hlt
      have n2 : h'.objs.size ≠ B := Nat.ne_of_gt (Nat.lt_of_lt_of_le (Heap.lt_size hat) (Nat.le_trans hge (Nat.le_of_lt hlt)))
      rw [upd_ne n1, upd_ne n2]
      exact I.hok.fresh (Nat.le_trans hge (Nat.le_of_lt hlt))
  · obtain ⟨c2, e, hco⟩ := amg pos cv hc
    subst e
    refine PySem.W.kla_makeFunctionHit (mg := X.mg) (c := c) (P := B) (ps := ps) (closure_ok hfree) I.ok.glob glb hcode hdc hat trip hc blt ?_
    intro ctv h' tk hx hsz
    have I0 : Inv X pins σ H { s with heap := h', toks := tk } := I.kept hx
    exact h h'.objs.size H _ (lay_fn (t' := tk) I0 rfl rfl) (ExtN.refl H) hT (I.hok.fresh hsz)
end
def tLamV (T : List (Addr × Str)) : TE := fun _ H Q => Tabs T H ∧ ∀ (f : Addr) (H1 : Hp), ExtN H H1 → Tabs T H1 → H1 f = none → Q (.ref f) (upd H1 f (FnO f))
section
variable {X : Cx}
theorem pe_lamV {T : List (Addr × Str)} {c B : Addr} {params : Arguments} {body : Expr} {scope : Scope} {pos : Pos} (TB : TabB X.base X.mg c B) (hcode : X.env.code = .ref c)
    (hm : (B, X.env.qual ++ "<lambda>") ∈ T) (hu : ∀ p ∈ T, p.1 = B → p.2 = X.env.qual ++ "<lambda>") (hdef : defaultsOf params X.env = ([], [])) (L : ∀ y ∈ scope.names, y.2 ≠ .free) :
    PE X (.Lambda params body scope pos) (tLamV T) := by
  refine ⟨fun pins s σ H Q I h => ?_⟩
  refine lam_val I TB hcode hm hu h.1 hdef (fun y hy e => absurd e (L y hy)) fun f H1 s' I1 eN T1 nf => ?_
  exact ⟨.ref f, _, I1, rfl, h.2 f H1 eN T1 nf⟩
end
end Lw
namespace Lf
open PySem
open Sem (wp)

theorem ga : Slot "function" "__getattribute__" "object.__getattribute__" := by
  refine .of (owner := "object") (n := "__getattribute__") ?_ (by decide +kernel) (by decide +kernel) (by decide +kernel) ?_ ?_
  · rw [typeLookup_type, builtinLookup_eq_fast]
    kernel_rfl
  · first
      | exact .inl (by decide +kernel)
      | exact .inr (by decide +kernel)
  · rw [isSubtype_type]
    kernel_rfl
theorem lkc : typeLookup (.type "function") "__class__" = pure (some (.builtin "object.__class__")) := by
  rw [typeLookup_type, builtinLookup_eq_fast]
  kernel_rfl
theorem sub_own : isSubtype (.type "function") (.type (".".intercalate ("object.__class__".cutAt '.').dropLast)) = pure true := by
  rw [F.owner_object_class]
  rw [isSubtype_type]
  kernel_rfl
section
variable {prog : Program} {w : World} {A : Around} {E : Value → Shared → Prop} {h : Heap} {g : Array GenState} {d : Drawn} {t : Nat} {os : OsState} {a : Addr} {o : Obj}
theorem fn_get {R : Result → Shared → Prop} (hx : h.get? a = some o) (hc : o.cls = .type "function")
    (hq : R (.ok (.ret (.type "function"))) ⟨h, g, d, t, os⟩) :
    codeAny (model prog w) A (.call (.builtin "getset_descriptor.__get__") ⟨[.builtin "object.__class__", .ref a, .type "function"], []⟩) R ⟨h, g, d, t, os⟩ := by
  have i1 : (⟨h, g, d, t, os⟩ : Shared).TypeIs (.ref a) "function" := ⟨o, hx, hc⟩
  have i2 : (⟨h, g, d, t, os⟩ : Shared).TypeIs (.builtin "object.__class__") "getset_descriptor" := F.typeOf_object_class
  have i3 := sub_own
  refine codeAny_call_builtin F.slot_gs_get.plain F.entry_gs_get ?_
  refine F.slot_gs_get.check _ _ _ _ _ _ _ _ i2 (F.args_gs_get _ _ _) ?_
  repeat (any_goals (first | assumption | wp_step))
  refine ⟨Code.quiet_builtin _ (by decide +kernel), ?_⟩
  refine codeAny_builtin F.entry_object_class ?_
  repeat (any_goals (first | assumption | wp_step))
theorem fn_ga {tk : Tok} {Q : Fin → Shared → Prop} (hx : h.get? a = some o) (hc : o.cls = .type "function")
    (hq : Q (.done (.ret (.type "function"))) ⟨h, g, d, t, os⟩) :
    wpAny (model prog w) A (Builtin.«object.__getattribute__» ⟨[.ref a, .str "__class__" tk], []⟩) Q E ⟨h, g, d, t, os⟩ := by
  have i1 : (⟨h, g, d, t, os⟩ : Shared).TypeIs (.ref a) "function" := ⟨o, hx, hc⟩
  have i2 : (⟨h, g, d, t, os⟩ : Shared).TypeIs (.builtin "object.__class__") "getset_descriptor" := F.typeOf_object_class
  have i3 := lkc
  have i4 := F.typeOf_object_class
  have i5 := F.slot_gs_get.lookup
  have i6 := F.slot_gs_set.lookup
  repeat (any_goals (first | assumption | wp_step))
  refine fn_get hx hc ?_
  repeat (any_goals (first | assumption | wp_step))
theorem fn_call {tk : Tok} {R : Result → Shared → Prop} (hx : h.get? a = some o) (hc : o.cls = .type "function")
    (hq : R (.ok (.ret (.type "function"))) ⟨h, g, d, t, os⟩) :
    codeAny (model prog w) A (.call (.builtin "object.__getattribute__") ⟨[.ref a, .str "__class__" tk], []⟩) R ⟨h, g, d, t, os⟩ := by
  refine codeAny_call_builtin ga.plain F.entry_object_getattribute ?_
  exact ga.check _ _ _ _ _ _ _ _ (show (⟨h, g, d, t, os⟩ : Shared).TypeIs (.ref a) "function" from ⟨o, hx, hc⟩) (F.args_object_getattribute_2 _ _) (fn_ga hx hc hq)
theorem fn_by {tk : Tok} {Q : Value → Shared → Prop} (hx : h.get? a = some o) (hc : o.cls = .type "function") (hq : Q (.type "function") ⟨h, g, d, t, os⟩) :
    wpAny (model prog w) A (getAttrBy (.ref a) (.str "__class__" tk) false) Q E ⟨h, g, d, t, os⟩ := by
  have i1 : (⟨h, g, d, t, os⟩ : Shared).TypeIs (.ref a) "function" := ⟨o, hx, hc⟩
  have i2 := ga.lookup
  have i3 := ga.bind (.ref a)
  repeat (any_goals (first | assumption | wp_step))
  refine fn_call hx hc ?_
  repeat (any_goals (first | assumption | wp_step))
theorem fn_attr {Q : Option Value → Shared → Prop} (hx : h.get? a = some o) (hc : o.cls = .type "function") (hq : Q (some (.type "function")) ⟨h, g, d, t + 1, os⟩) :
    wpAny (model prog w) A (getAttr? (.ref a) "__class__") Q E ⟨h, g, d, t, os⟩ := by
  unfold getAttr? getAttrBy?
  repeat (any_goals (first | assumption | with_reducible apply fn_by hx hc | wp_step))
end
end Lf
namespace Lw
open PySem PySem.Spec PyProof.Rows L2

open LamX
theorem kitx_fn {K : PySem.W.Frag} {a : Addr} : PySem.W.KitX K (.ref a) (.type "function") (PySem.W.KitAt a "function") := PySem.W.kitx_of PySem.W.kitAt_ty (fun {_ _ _ _ _ s} p k => by
  obtain ⟨h, g, d, t, os⟩ := s
  obtain ⟨o, h1, h2⟩ := p
  exact Lf.fn_attr h1 h2 k)
/-- a value's type: a def's, too -/
inductive TyZ (K : PySem.W.Frag) (H : Hp) : V → Value → Prop where
  | x {v : V} {t : Value} (h : TyX K H v t) : TyZ K H v t
  | fn {a : Addr} (e : H a = some (FnO a)) : TyZ K H (.ref a) (.type "function")
def rIsz (K : PySem.W.Frag) : List V → Hp → VK → Prop := fun xs H Q => ∃ (x c : V) (t u : Value) (b : Bool), xs = [x, c] ∧ ClsV c u ∧ TyZ K H x t ∧ PySem.W.kitOne K t u = some b ∧ Q (.bl b) H
theorem call_isz {X : Cx} : CallR X (.builtin "isinstance") (rIsz X.K) := by
  intro pins s σ H xs us Q I r h
  obtain ⟨x, c, t, u, b, rfl, k, ty, e, q⟩ := h
  obtain ⟨u1, u2, rfl, r1, r2⟩ := vals2 r
  have e2 := k.eq r2
  subst e2
  cases ty with
  | x ty =>
    obtain ⟨W, Z, p, hx⟩ := kit_of I r1 ty
    exact PySem.W.kia_one Z I.kIn p e hx fun tk => ⟨.bl b, H, I.tok tk, rfl, q⟩
  | @fn a ea =>
    have e3 : u1 = Value.ref a := r1
    subst e3
    obtain ⟨⟨o, h1, h2⟩, _⟩ := I.hok a _ ea
    exact PySem.W.kia_one kitx_fn I.kIn ⟨o, h1, h2⟩ e (fun z => by cases z) fun tk => ⟨.bl b, H, I.tok tk, rfl, q⟩
end Lw
namespace Lw
open PySem PySem.Spec PyProof.Rows L2

open LamX
abbrev sIsInt : Stmt := top 5
abbrev sWithin : Stmt := top 6
/-- what the top has told of the module's names -/
structure Txt (mg : Str → Option Value) : Prop extends Txt0 mg where
  n_bool : mg "bool" = none
  n_str : mg "str" = none
  n_isinstance : mg "isinstance" = none
  n_range : mg "range" = none
  n_repr : mg "repr" = none
  n_all : mg "all" = none
/-- any value that a caller may pass here -/
inductive Anyv (K : PySem.W.Frag) (H : Hp) : V → Prop where
  | int (i : Int) : Anyv K H (.int i)
  | non : Anyv K H .non
  | bl (b : Bool) : Anyv K H (.bl b)
  | str (z : Str) : Anyv K H (.str z)
  | obj {a : Addr} {t : Value} (h : TyZ K H (.ref a) t) (h1 : PySem.W.kitOne K t (.type "int") = some false) (h2 : PySem.W.kitOne K t (.type "bool") = some false) (h3 : PySem.W.kitOne K t (.type "str") = some false) : Anyv K H (.ref a)
def isI : V → Bool
  | .int _ => true
  | _ => false
def clsI : V → Bool
  | .int _ => true
  | .bl _ => true
  | _ => false
def clsB : V → Bool
  | .bl _ => true
  | _ => false
def isS : V → Bool
  | .str _ => true
  | _ => false
def inB (x : V) (lo hi : Int) : Bool := match x with
  | .int i => decide (lo ≤ i) && decide (i ≤ hi)
  | _ => false
def spIsInt (K : PySem.W.Frag) : Sp := fun vs H Q _ => ∃ x, vs = [x] ∧ Anyv K H x ∧ Q (.bl (isI x)) H
def spWithin (K : PySem.W.Frag) : Sp := fun vs H Q _ => ∃ x lo hi, vs = [x, .int lo, .int hi] ∧ Anyv K H x ∧ Q (.bl (inB x lo hi)) H
def spSize (K : PySem.W.Frag) : Sp := fun vs H Q _ => ∃ x, vs = [x] ∧ Anyv K H x ∧ Q (.bl (inB x 1 (10 ^ 30))) H
section
variable {P : Program} {w : World} {K : PySem.W.Frag} {mg : Str → Option Value} {base : Heap}
theorem isz_int {H : Hp} {x : V} {Q : V → Hp → Prop} (a : Anyv K H x) (q : Q (.bl (clsI x)) H) : rIsz K [x, .ty "int"] H Q := by
  cases a with
  | int i => exact ⟨_, _, .type "int", .type "int", true, rfl, .ty "int", .x (.base (.int i)), kit_ty (r := true) (by decide +kernel), q⟩
  | non => exact ⟨_, _, .type "NoneType", .type "int", false, rfl, .ty "int", .x (.base .non), kit_ty (r := false) (by decide +kernel), q⟩
  | bl b => exact ⟨_, _, .type "bool", .type "int", true, rfl, .ty "int", .x (.base (.bl b)), kit_ty (r := true) (by decide +kernel), q⟩
  | str z => exact ⟨_, _, .type "str", .type "int", false, rfl, .ty "int", .x (.base (.str z)), kit_ty (r := false) (by decide +kernel), q⟩
  | obj h h1 h2 h3 => exact ⟨_, _, _, .type "int", _, rfl, .ty "int", h, h1, q⟩
theorem isz_bool {H : Hp} {x : V} {Q : V → Hp → Prop} (a : Anyv K H x) (q : Q (.bl (clsB x)) H) : rIsz K [x, .ty "bool"] H Q := by
  cases a with
  | int i => exact ⟨_, _, .type "int", .type "bool", false, rfl, .ty "bool", .x (.base (.int i)), kit_ty (r := false) (by decide +kernel), q⟩
  | non => exact ⟨_, _, .type "NoneType", .type "bool", false, rfl, .ty "bool", .x (.base .non), kit_ty (r := false) (by decide +kernel), q⟩
  | bl b => exact ⟨_, _, .type "bool", .type "bool", true, rfl, .ty "bool", .x (.base (.bl b)), kit_ty (r := true) (by decide +kernel), q⟩
  | str z => exact ⟨_, _, .type "str", .type "bool", false, rfl, .ty "bool", .x (.base (.str z)), kit_ty (r := false) (by decide +kernel), q⟩
  | obj h h1 h2 h3 => exact ⟨_, _, _, .type "bool", _, rfl, .ty "bool", h, h2, q⟩
theorem isz_str {H : Hp} {x : V} {Q : V → Hp → Prop} (a : Anyv K H x) (q : Q (.bl (isS x)) H) : rIsz K [x, .ty "str"] H Q := by
  cases a with
  | int i => exact ⟨_, _, .type "int", .type "str", false, rfl, .ty "str", .x (.base (.int i)), kit_ty (r := false) (by decide +kernel), q⟩
  | non => exact ⟨_, _, .type "NoneType", .type "str", false, rfl, .ty "str", .x (.base .non), kit_ty (r := false) (by decide +kernel), q⟩
  | bl b => exact ⟨_, _, .type "bool", .type "str", false, rfl, .ty "str", .x (.base (.bl b)), kit_ty (r := false) (by decide +kernel), q⟩
  | str z => exact ⟨_, _, .type "str", .type "str", true, rfl, .ty "str", .x (.base (.str z)), kit_ty (r := true) (by decide +kernel), q⟩
  | obj h h1 h2 h3 => exact ⟨_, _, _, .type "str", _, rfl, .ty "str", h, h3, q⟩
theorem scIsInt : FnScope ["value"] ["value"] (C8.fnScope sIsInt) := C8.fnScope_by (by decide +kernel)
theorem fn_isint {f : Addr} {fd : FuncData} (F : C8.Def K mg "is_integer" sIsInt f fd) (T : Txt mg) : FnOk P w K mg base C8.CX0 1 f fd ["value"] (spIsInt K) := by
  refine C8.fn0 F.fn scIsInt (fun vs H Q E h => ?_) (fun cdv A outer st H vs Q E hr h => ?_)
  · obtain ⟨x, rfl, _⟩ := h
    rfl
  · obtain ⟨x, rfl, a, k⟩ := h
    refine ⟨_, (pss_one (ps_ret (pe_and (pe_callB call_isz (by rfl) T.n_isinstance (by decide +kernel) (pa_cons (pv 0) (pa_cons (pe_bltn (v := .ty "int") (by rfl) T.n_int (by decide +kernel) rfl) pa_nil))) (pe_one (pe_not (pe_callB call_isz (by rfl) T.n_isinstance (by decide +kernel) (pa_cons (pv 0) (pa_cons (pe_bltn (v := .ty "bool") (by rfl) T.n_bool (by decide +kernel) rfl) pa_nil)))))))), ?_⟩
    refine ⟨_, rfl, ?_⟩
    dsimp only [tCons, tC, tNil]
    refine isz_int a ⟨_, rfl, ?_⟩
    cases a with
    | int i =>
      refine iteT ⟨_, rfl, ?_⟩
      dsimp only [tCons, tC, tNil]
      exact isz_bool (.int i) ⟨_, rfl, k⟩
    | bl b =>
      refine iteT ⟨_, rfl, ?_⟩
      dsimp only [tCons, tC, tNil]
      exact isz_bool (.bl b) ⟨_, rfl, k⟩
    | non => exact iteF k
    | str z => exact iteF k
    | obj h h1 h2 h3 => exact iteF k
theorem cal_isint {f : Addr} {fd : FuncData} (F : C8.Def K mg "is_integer" sIsInt f fd) (b : Binds K fd ["value"] []) (T : Txt mg) : C8.Cal P w K mg base 1 "is_integer" (spIsInt K) [] :=
  ⟨f, fd, _, [], fn_isint F T, F.mgf, F.kp, b, .nil⟩
theorem scWithin : FnScope ["value", "least", "most"] ["value", "least", "most"] (C8.fnScope sWithin) := C8.fnScope_by (by decide +kernel)
theorem fn_within {f : Addr} {fd : FuncData} (F : C8.Def K mg "is_within" sWithin f fd) (T : Txt mg) (D : C8.Cal P w K mg base 1 "is_integer" (spIsInt K) []) : FnOk P w K mg base C8.CX0 2 f fd ["value", "least", "most"] (spWithin K) := by
  refine C8.fn0 F.fn scWithin (fun vs H Q E h => ?_) (fun cdv A outer st H vs Q E hr h => ?_)
  · obtain ⟨x, lo, hi, rfl, _⟩ := h
    rfl
  · obtain ⟨x, lo, hi, rfl, a, k⟩ := h
    refine ⟨_, (pss_one (ps_ret (pe_and (C8.pe_c D hr (by decide) (by rfl) (pa_cons (pv 0) pa_nil)) (pe_one (pe_chain op_le op_le (pv 1) (pv 0) (pv 2)))))), ?_⟩
    refine ⟨_, rfl, x, rfl, a, _, rfl, ?_⟩
    cases a with
    | int i =>
      refine iteT ⟨_, rfl, _, rfl, _, _, rfl, rfl, _, rfl, ite2 (fun c => ?_) (fun c => ?_)⟩
      · refine ⟨_, rfl, _, _, rfl, rfl, ?_⟩
        rw [show inB (.int i) lo hi = decide (i ≤ hi) by simp [inB, of_decide_eq_true c]] at k
        exact k
      · rw [show inB (.int i) lo hi = false by simp [inB, of_decide_eq_false (Bool.eq_false_iff.mpr c)]] at k
        exact k
    | bl b => exact iteF k
    | non => exact iteF k
    | str z => exact iteF k
    | obj h h1 h2 h3 => exact iteF k
theorem cal_within {f : Addr} {fd : FuncData} (F : C8.Def K mg "is_within" sWithin f fd) (b : Binds K fd ["value", "least", "most"] []) (T : Txt mg) (D : C8.Cal P w K mg base 1 "is_integer" (spIsInt K) []) : C8.Cal P w K mg base 2 "is_within" (spWithin K) [] :=
  ⟨f, fd, _, [], fn_within F T D, F.mgf, F.kp, b, .nil⟩
end
end Lw
namespace Lw
open PySem PySem.Spec PyProof.Rows L2

open LamX
/-- a comprehension over a text, whose tests and element leave the heap as it is -/
theorem lc_text {z : Str} {g : TG} {tt : TT} {te : TE} {vs : List Nat} {σ : L2.St} {H1 : Hp} {D : Addr} {Qd : Hp → Prop} (σc : Nat → L2.St) (flt : Nat → Bool) (f : Nat → V)
    (hg : ∀ c H (R : L2.St → Hp → Prop), R (σc c) H → g (.str ⟨#[c]⟩) (wipe σ vs) H R) (hw : ∀ c, wipe (σc c) vs = wipe σ vs) (ht : ∀ c H (R : Bool → Hp → Prop), R (flt c) H → tt (σc c) H R)
    (he : ∀ c H (R : V → Hp → Prop), flt c = true → R (f c) H → te (σc c) H R) (hz : z.cps.size ≤ 1000000) (hd : Qd (upd H1 D (.lst ((z.cps.toList.filter flt).map f)))) :
    ∃ W : Nat → Nat → Hp → Prop, (∃ m, W 0 m (upd H1 D (.lst []))) ∧ ∀ i m H, W i m H →
      ((Its z).stop i H ∧ Qd H) ∨ ((Its z).go i H ∧ ∃ Nx : Hp → Prop, (∀ H', Nx H' → ∃ m', m' < m ∧ W (i + 1) m' H') ∧ ∀ x H', (Its z).yld i H x H' → g x (wipe σ vs) H' fun σ2 H2 => wipe σ2 vs = wipe σ vs ∧ tt σ2 H2 fun b H3 =>
        if b = true then te σ2 H3 fun y H4 => ∃ acc, H4 D = some (.lst acc) ∧ acc.length < sizeLine ∧ Nx (upd H4 D (.lst (acc ++ [y]))) else Nx H3) := by
  refine lc_it (walk_str (z := z)) (fun i H => H = upd H1 D (.lst (((z.cps.toList.take i).filter flt).map f))) (by simp) (fun _ _ _ _ => trivial) ?_ ?_
  · intro i x H H' hi hP hY
    obtain ⟨rfl, c, hc, rfl⟩ := hY
    have hc' : z.cps.toList[i]? = some c := by rw [Array.getElem?_toList]; exact hc
    have htake : z.cps.toList.take (i + 1) = z.cps.toList.take i ++ [c] := by
      rw [List.take_add_one, hc']; rfl
    refine hg c _ _ ⟨hw c, ht c _ _ ?_⟩
    rw [hP]
    cases hf : flt c with
    | true =>
      refine iteT (he c _ _ hf ⟨_, upd_same, ?_, ?_⟩)
      · have h1 : (((z.cps.toList.take i).filter flt).map f).length ≤ z.cps.toList.length := by
          rw [List.length_map]
          exact Nat.le_trans (List.length_filter_le _ _) (List.length_take_le' _ _)
        rw [Array.length_toList] at h1
        exact Nat.lt_of_le_of_lt (Nat.le_trans h1 hz) (by show 1000000 < sizeLine; decide)
      · rw [upd_upd, htake, List.filter_append, List.map_append]
        simp [hf]
    | false =>
      refine iteF ?_
      rw [htake, List.filter_append, List.map_append]
      simp [hf]
  · rintro H rfl
    have e : z.cps.toList.take z.cps.size = z.cps.toList := List.take_of_length_le (by rw [Array.length_toList]; exact Nat.le_refl _)
    rw [e]
    exact hd
theorem inV_str (z : Str) : ∀ ws : List Str, inV (.str z) (ws.map V.str) = decide (z ∈ ws)
  | [] => rfl
  | x :: r => by
    show (eqV (.str x) (.str z) || inV (.str z) (r.map V.str)) = decide (z ∈ x :: r)
    rw [inV_str z r]
    show ((x == z) || decide (z ∈ r)) = _
    by_cases h : z = x
    · subst h; simp
    · have h2 : ¬ x = z := fun e => h e.symm
      simp [h, h2]
theorem flat_strs (ws : List Str) : (ws.map V.str).all flatV = true := by
  induction ws with
  | nil => rfl
  | cons x r ih => show (true && (r.map V.str).all flatV) = true; rw [ih]; rfl
theorem dp_signs {K : PySem.W.Frag} {H : Hp} : ∀ cs : List Nat, DpAll K H (cs.map fun c => V.str ⟨#[c]⟩) (cs.map fun c => PyData.str ⟨#[c]⟩)
  | [] => .nil
  | c :: r => .cons (.str _) (dp_signs r)
theorem lay_signs : ∀ cs : List Nat, (∀ c ∈ cs, c < 1114112) → PyData.canLayAll0 (cs.map fun c => PyData.str ⟨#[c]⟩) = true
  | [], _ => rfl
  | c :: r, h => by
    have h1 : PyData.canLay0 (.str ⟨#[c]⟩) = true := by
      show (#[c] : Array Nat).all (· < 1114112) = true
      simp [h c List.mem_cons_self]
    show (PyData.canLay0 (.str ⟨#[c]⟩) && PyData.canLayAll0 (r.map fun c => PyData.str ⟨#[c]⟩)) = true
    rw [h1, lay_signs r fun d hd => h d (List.mem_cons_of_mem _ hd)]; rfl
theorem depth_signs : ∀ cs : List Nat, PyData.depthAll (cs.map fun c => PyData.str ⟨#[c]⟩) = 0
  | [] => rfl
  | c :: r => by
    show max 0 (PyData.depthAll (r.map fun c => PyData.str ⟨#[c]⟩)) = 0
    rw [depth_signs r]; rfl
theorem shaped_signs (cs : List Nat) (h : ∀ c ∈ cs, c < 1114112) : SeqAt.shaped (.list (cs.map fun c => PyData.str ⟨#[c]⟩)) = true := by
  unfold SeqAt.shaped
  have h1 : PyData.canLay0 (.list (cs.map fun c => PyData.str ⟨#[c]⟩)) = true := lay_signs cs h
  have h2 : PyData.depth (.list (cs.map fun c => PyData.str ⟨#[c]⟩)) = 1 := by
    show PyData.depthAll (cs.map fun c => PyData.str ⟨#[c]⟩) + 1 = 1
    rw [depth_signs]
  rw [h1, h2]; rfl
theorem eqv_signs (cs : List Nat) : PyData.eqv (.list (cs.map fun c => PyData.str ⟨#[c]⟩)) (.list []) = cs.isEmpty := by
  cases cs <;> rfl
theorem filt_nil (p : Nat → Bool) : ∀ l : List Nat, (l.filter fun c => !p c).isEmpty = l.all p
  | [] => rfl
  | c :: r => by
    have ih := filt_nil p r
    cases h : p c with
    | true => simp only [List.filter_cons, h, Bool.not_true, List.all_cons, Bool.true_and]; exact ih
    | false => simp [h]
end Lw
namespace Lw
open PySem PySem.Spec PyProof.Rows L2

open SX PySem.NumText
/-! ### texts as lists of signs -/
def figs : List Nat → List Nat
  | 45 :: r => r
  | cs => cs
theorem figs_minus (r : List Nat) : figs (45 :: r) = r := rfl
theorem figs_other {c : Nat} (r : List Nat) (h : c ≠ 45) : figs (c :: r) = c :: r := by
  unfold figs
  split
  · rename_i e
    exact absurd (List.cons.inj e).1 h
  · rfl
theorem len1 : Str.length (S [45]) = 1 := rfl
theorem sub_head (c d : Nat) (r : List Nat) : Builtin.Str.subAt (S (c :: r)) (S [d]) 0 = decide (c = d) := by
  unfold Builtin.Str.subAt
  show ((c :: r).toArray.extract 0 (0 + 1) == #[d]) = _
  simp
  by_cases h : c = d <;> simp [h]
theorem rm_minus (cs : List Nat) : Txt.removeprefix (S cs) (S [45]) = S (figs cs) := by
  unfold Txt.removeprefix
  cases cs with
  | nil => rfl
  | cons c r =>
    rw [sub_head]
    by_cases h : c = 45
    · subst h
      rw [figs_minus]
      simp only [decide_true, if_true]
      show (if (((45 :: r).toArray.size - 1) == (45 :: r).toArray.size) = true then S (45 :: r) else Builtin.Str.strSub (S (45 :: r)) 1 ((45 :: r).toArray.size)) = S r
      have e : ((45 :: r).toArray.size - 1 == (45 :: r).toArray.size) = false := by simp
      rw [e]
      simp [Builtin.Str.strSub, S]
    · rw [figs_other r h]
      simp only [decide_eq_false h, Bool.false_eq_true, if_false]
      rfl
theorem sw_head (c d : Nat) (r : List Nat) : Txt.startswith (S (c :: r)) (S [d]) = decide (c = d) := by
  unfold Txt.startswith
  rw [sub_head]
  have e : decide (0 + (S [d]).length ≤ (S (c :: r)).length) = true := decide_eq_true (by rw [S_len, S_len]; simp)
  rw [e, Bool.true_and]
theorem sw_nil (d : Nat) : Txt.startswith (S []) (S [d]) = false := by
  unfold Txt.startswith
  have e : decide (0 + (S [d]).length ≤ (S []).length) = false := decide_eq_false (by rw [S_len, S_len]; simp)
  rw [e, Bool.false_and]
theorem ascii_S {cs : List Nat} (h : ∀ c ∈ cs, c < 128) : Txt.isascii (S cs) = true := by
  unfold Txt.isascii
  show cs.toArray.all (· < 128) = true
  simp only [List.all_toArray, List.all_eq_true, decide_eq_true_eq]
  exact h
theorem dig128 : ∀ c, c < 128 → Unicode.isDigit c = (decide (48 ≤ c) && decide (c ≤ 57)) := by decide +kernel
/-- all are figures, and there is one -/
def digB (cs : List Nat) : Bool := !cs.isEmpty && cs.all fun c => decide (48 ≤ c) && decide (c ≤ 57)
theorem isdigit_S {cs : List Nat} (h : ∀ c ∈ cs, c < 128) : Txt.isdigit (S cs) = digB cs := by
  unfold Txt.isdigit digB
  have e1 : decide ((S cs).length > 0) = !cs.isEmpty := by
    rw [S_len]
    cases cs <;> simp
  have e2 : (S cs).cps.all Unicode.isDigit = cs.all fun c => decide (48 ≤ c) && decide (c ≤ 57) := by
    show cs.toArray.all Unicode.isDigit = _
    rw [List.all_toArray]
    induction cs with
    | nil => rfl
    | cons c r ih =>
      rw [List.all_cons, List.all_cons, dig128 c (h c List.mem_cons_self), ih (fun d hd => h d (List.mem_cons_of_mem _ hd)) (by rw [S_len]; cases r <;> simp)]
  rw [e1, e2]
theorem digB_all {cs : List Nat} (h : digB cs = true) : AllDigits cs ∧ cs ≠ [] := by
  unfold digB at h
  rw [Bool.and_eq_true] at h
  refine ⟨fun c hc => ?_, fun e => by rw [e] at h; exact absurd h.1 (by decide)⟩
  have := List.all_eq_true.mp h.2 c hc
  rw [Bool.and_eq_true, decide_eq_true_eq, decide_eq_true_eq] at this
  exact this
theorem figs_sub {cs : List Nat} {c : Nat} (h : c ∈ figs cs) : c ∈ cs := by
  unfold figs at h
  split at h
  · exact List.mem_cons_of_mem _ h
  · exact h
theorem figs_len (cs : List Nat) : (figs cs).length ≤ cs.length := by
  unfold figs
  split
  · simp
  · exact Nat.le_refl _
/-! ### what figures are worth -/
theorem fold_app (a b : List Nat) (x : Nat) : (a ++ b).foldl (fun acc c => acc * 10 + (c - 48)) x = b.foldl (fun acc c => acc * 10 + (c - 48)) (a.foldl (fun acc c => acc * 10 + (c - 48)) x) := List.foldl_append
theorem fold_from : ∀ (b : List Nat) (x : Nat), b.foldl (fun acc c => acc * 10 + (c - 48)) x = x * 10 ^ b.length + digitsVal b
  | [], x => by simp [digitsVal]
  | c :: r, x => by
    show r.foldl _ (x * 10 + (c - 48)) = x * 10 ^ (r.length + 1) + r.foldl _ (0 * 10 + (c - 48))
    rw [fold_from r, fold_from r (0 * 10 + (c - 48)), Nat.pow_succ, Nat.zero_mul, Nat.zero_add, Nat.add_mul, Nat.mul_assoc, Nat.mul_comm 10 (10 ^ r.length), Nat.add_assoc]
theorem val_app (a b : List Nat) : digitsVal (a ++ b) = digitsVal a * 10 ^ b.length + digitsVal b := by
  show (a ++ b).foldl _ 0 = _
  rw [fold_app, fold_from b]; rfl
theorem val_zeros : ∀ k : Nat, digitsVal (List.replicate k 48) = 0
  | 0 => rfl
  | k + 1 => val_zeros k
theorem val_lt : ∀ cs : List Nat, AllDigits cs → digitsVal cs < 10 ^ cs.length
  | [], _ => by decide
  | c :: r, h => by
    have h1 := h c List.mem_cons_self
    have ih := val_lt r fun d hd => h d (List.mem_cons_of_mem _ hd)
    have e : digitsVal (c :: r) = (c - 48) * 10 ^ r.length + digitsVal r := by
      rw [show c :: r = [c] ++ r from rfl, val_app]
      show (0 * 10 + (c - 48)) * _ + _ = _
      rw [Nat.zero_mul, Nat.zero_add]
    rw [e, List.length_cons, Nat.pow_succ]
    have h2 : (c - 48) * 10 ^ r.length ≤ 9 * 10 ^ r.length := Nat.mul_le_mul_right _ (by omega)
    omega
theorem ten_two (n : Nat) : 10 ^ n ≤ 2 ^ (4 * n) := by
  rw [Nat.pow_mul]
  exact Nat.pow_le_pow_left (by decide) n
theorem all_zeros (k : Nat) : AllDigits (List.replicate k 48) := fun c hc => by
  rw [List.eq_of_mem_replicate hc]
  decide
theorem AllDigits.app {a b : List Nat} (ha : AllDigits a) (hb : AllDigits b) : AllDigits (a ++ b) := fun c hc => (List.mem_append.mp hc).elim (ha c) (hb c)
/-- the integer that a text writes just as str does -/
def intOf (cs : List Nat) : Option Int :=
  if digB (figs cs) = true then
    if (figs cs).head? = some 48 ∧ cs ≠ [48] then none
    else if cs.head? = some 45 then some (-((digitsVal (figs cs) : Nat) : Int)) else some ((digitsVal (figs cs) : Nat) : Int)
  else none
def optV : Option Int → V
  | none => .non
  | some i => .int i
end Lw
namespace Lw
open PySem PySem.Spec PyProof.Rows L2

open SX PySem.NumText
abbrev sIntOf : Stmt := top 19
theorem rep_list (z : Array Nat) : ∀ n : Nat, ∀ acc : Array Nat, ((List.replicate n z).foldl (· ++ ·) acc).toList = acc.toList ++ (List.replicate n z.toList).flatten
  | 0, acc => by simp
  | n + 1, acc => by
    rw [List.replicate_succ, List.foldl_cons, rep_list z n, List.replicate_succ, List.flatten_cons, Array.toList_append, List.append_assoc]
/-- a text, so many times -/
theorem op_mulS {X : Cx} : OpR X (binaryOp .Mult) (fun x y H Q => ∃ (cs : List Nat) (n : Int), x = .str (S cs) ∧ y = .int n ∧ 0 ≤ n ∧ n ≤ 10000 ∧ cs.length ≤ 1000 ∧ Q (.str (S (List.replicate n.toNat cs).flatten)) H) := by
  intro pins s σ H x y v u Q I rx ry h
  obtain ⟨cs, n, rfl, rfl, h0, h1, h2, q⟩ := h
  obtain ⟨t, rfl⟩ := rx
  obtain ⟨t2, rfl⟩ := ry
  refine PySem.P.mul_str ?_ ?_ ?_ ?_
  · rw [decide_eq_false (show ¬ n < -(2 ^ 63 : Int) by omega), decide_eq_false (show ¬ n ≥ 2 ^ 63 by omega)]; rfl
  · intro hn _ hz
    rw [S_len] at hz
    have : (9223372036854775807 : Int) / n ≥ 922337203685477 := by
      rw [ge_iff_le, Int.le_ediv_iff_mul_le (by omega)]
      omega
    have e : ((2 : Int) ^ 63 - 1) = 9223372036854775807 := by decide
    rw [e] at hz
    omega
  · intro hn _
    rw [S_len]
    have : cs.length * n.toNat ≤ 1000 * 10000 := Nat.mul_le_mul h2 (by omega)
    refine decide_eq_false ?_
    exact Nat.not_lt.mpr (Nat.le_trans this (by rw [sizeLine_eq]; decide))
  · by_cases hn : n < 1
    · rw [if_pos hn]
      have e : n.toNat = 0 := by omega
      rw [e] at q
      exact ⟨by decide, ⟨.str (S []), H, I.tok _, ⟨_, rfl⟩, q⟩⟩
    · rw [if_neg hn]
      by_cases hc : (n == 1 || (S cs).length == 0) = true
      · rw [if_pos hc]
        have e : (List.replicate n.toNat cs).flatten = cs := by
          rw [Bool.or_eq_true, beq_iff_eq, beq_iff_eq, S_len] at hc
          rcases hc with e | e
          · subst e; simp
          · rw [List.length_eq_zero_iff.mp e]; simp
        rw [e] at q
        exact ⟨.str (S cs), H, I, ⟨t, rfl⟩, q⟩
      · rw [if_neg hc]
        have e : (⟨(List.replicate n.toNat (S cs).cps).foldl (· ++ ·) #[]⟩ : Str) = S (List.replicate n.toNat cs).flatten := by
          refine congrArg Str.mk ?_
          refine Array.toList_inj.mp ?_
          rw [rep_list]; simp [S]
        rw [e]
        refine ⟨?_, ⟨.str _, H, I.tok _, ⟨_, rfl⟩, q⟩⟩
        rw [S_len, List.length_flatten, List.map_replicate, List.sum_replicate_nat]
        exact Nat.le_trans (Nat.mul_le_mul (show n.toNat ≤ 10000 by omega) h2) (by rw [sizeLine_eq]; decide)
theorem join_ifS {c : TT} {t u : TS} {D : Ends} {σ : L2.St} {H : Hp} (Pj : L2.St → Hp → Prop) (hr : ∀ σ' H', Pj σ' H' → D.nx σ' H') (h : (∀ σ' H', Pj σ' H' → D.nx σ' H') → tIfS c t u D σ H) : tIfS c t u D σ H := h hr
theorem nxt {t u : TS} {D D' : Ends} {σ : L2.St} {H : Hp} (e : D'.nx = tSeq t u D) (h : t { D with nx := u D } σ H) : tNext D' σ H := by
  show D'.nx σ H
  rw [e]; exact h
theorem slice_mid {a : List Nat} {i j : Int} (h0 : 0 ≤ i) (h1 : i ≤ j) (h2 : j ≤ (a.length : Int)) : Txt.slice (S a) (some i) (some j) = S ((a.drop i.toNat).take (j - i).toNat) :=
  beq_iff_eq.mp (PyProof.Rows.slice_closesL (x := S a) h0 h1 (by rw [S_len]; exact h2))
theorem rg60 (m : Nat) (hm : m ≤ 1000) : RgC 0 ((60 * m : Nat) : Int) 60 m := by
  refine ⟨by decide, by decide, ?_, ?_⟩
  · have key : ∀ x : Int, 0 ≤ x → x ≤ 100000 → Builtin.Range.rangeFitsLong x = true := fun x h0 h1 => by
      unfold Builtin.Range.rangeFitsLong
      rw [decide_eq_true (show -(2 ^ 63) ≤ x by omega), decide_eq_true (show x < 2 ^ 63 by omega)]; rfl
    have size : Builtin.Range.rangeSize 0 ((60 * m : Nat) : Int) 60 = (m : Int) := by
      unfold Builtin.Range.rangeSize
      rw [if_pos (show (60 : Int) > 0 by decide)]
      split <;> omega
    unfold Builtin.Range.small
    rw [size, if_pos (show (60 : Int) > 0 by decide), key 0 (by omega) (by omega), key _ (by omega) (by omega), key 60 (by omega) (by omega), key _ (by omega) (by omega), key _ (by omega) (by omega)]
    simp
  · unfold Builtin.Range.rangeSize
    rw [if_pos (show (60 : Int) > 0 by decide)]
    split <;> omega
structure TxtN (mg : Str → Option Value) : Prop extends Txt mg where
  c_PF : ∃ t, mg "PIECE_FIGURES" = some (.int 60 t)
  c_PW : ∃ t, mg "PIECE_WORTH" = some (.int (10 ^ 60) t)
def TextOk (x : V) : Prop := ∀ z, x = .str z → ∃ cs, z = S cs ∧ (∀ c ∈ cs, c < 128) ∧ cs.length ≤ 5000
def intV : V → Option Int
  | .str z => intOf z.cps.toList
  | _ => none
def spIntOf (K : PySem.W.Frag) : Sp := fun vs H Q _ => ∃ x, vs = [x] ∧ Anyv K H x ∧ TextOk x ∧ Q (optV (intV x)) H
section
variable {P : Program} {w : World} {K : PySem.W.Frag} {mg : Str → Option Value} {base : Heap}
theorem scIntOf : FnScope ["word", "figures", "filled", "worth", "at"] ["word"] (C8.fnScope sIntOf) := C8.fnScope_by (by decide +kernel)
theorem cal_intof {f : Addr} {fd : FuncData} (F : C8.Def K mg "integer_of" sIntOf f fd) (b : Binds K fd ["word"] []) (T : TxtN mg) : C8.Cal P w K mg base 1 "integer_of" (spIntOf K) [] := by
  refine C8.cal0 F b .nil scIntOf (fun vs H Q E h => ?_) (fun cdv A outer st H vs Q E hr h => ?_)
  · obtain ⟨x, rfl, _⟩ := h
    rfl
  · obtain ⟨x, rfl, a, ok, k⟩ := h
    obtain ⟨t1, hPF⟩ := T.c_PF
    obtain ⟨t2, hPW⟩ := T.c_PW
    refine ⟨_, (pss_cons (ps_if (pt_not (pt_val (pe_callB call_isz (by rfl) T.n_isinstance (by decide +kernel) (pa_cons (pv 0) (pa_cons (pe_bltn (v := .ty "str") (by rfl) T.n_str (by decide +kernel) rfl) pa_nil))))) (pss_one (ps_ret pe_non)) pss_nil)
  (pss_cons (ps_set (i := 1) scIntOf.nd rfl (Or.inl rfl) (pe_m1 PySem.F.slot_str_removeprefix PySem.F.type_str_removeprefix mt_removeprefix (pv 0) pe_str))
  (pss_cons (ps_if (PW.pt (pw_or (pt_not (pt_val (pe_m0 PySem.F.slot_str_isascii PySem.F.type_str_isascii mt_isascii (pv 1)))) (pw_or1 (pt_not (pt_val (pe_m0 PySem.F.slot_str_isdigit PySem.F.type_str_isdigit mt_isdigit (pv 1))))))) (pss_one (ps_ret pe_non)) pss_nil)
  (pss_cons (ps_if (PW.pt (pw_and (pt_val (pe_m1 PySem.F.slot_str_startswith PySem.F.type_str_startswith mt_startswith (pv 1) pe_str)) (pw_and1 (pt_cmpR op_ne (pv 0) pe_str (nomark _))))) (pss_one (ps_ret pe_non)) pss_nil)
  (pss_cons (ps_set (i := 2) scIntOf.nd rfl (Or.inl rfl) (pe_op op_add_str (pe_op op_mulS pe_str (pe_op op_modN (pe_un un_neg (pe_callB call_len_str (by rfl) T.n_len (by decide +kernel) (pa_cons (pv 1) pa_nil))) (pe_glob (v := .int 60) rfl hPF ⟨_, rfl⟩))) (pv 1)))
  (pss_cons (ps_set (i := 3) scIntOf.nd rfl (Or.inl rfl) pe_int)
  (pss_cons (ps_for PassesOwn.never rfl (pi_range3 (by rfl) T.n_range (pa_cons pe_int (pa_cons (pe_callB call_len_str (by rfl) T.n_len (by decide +kernel) (pa_cons (pv 2) pa_nil)) (pa_cons (pe_glob (v := .int 60) rfl hPF ⟨_, rfl⟩) pa_nil)))) (pg_name (i := 4) scIntOf.nd rfl (Or.inl rfl)) (pss_one (ps_set (i := 3) scIntOf.nd rfl (Or.inl rfl) (pe_op op_add (pe_op op_mulW (pv 3) (pe_glob (v := .int (10 ^ 60)) rfl hPW ⟨_, rfl⟩)) (pe_callTy call_int_str (by rfl) T.n_int (by decide +kernel) (pa_cons (pe_slice C8.sl_txt (pv 2) (po_some (pv 4)) (po_some (pe_op op_add (pv 4) (pe_glob (v := .int 60) rfl hPF ⟨_, rfl⟩)))) pa_nil))))))
  (pss_one (ps_ret (pe_ifExp (pt_val (pe_m1 PySem.F.slot_str_startswith PySem.F.type_str_startswith mt_startswith (pv 0) pe_str)) (pe_un un_neg (pv 3)) (pv 3))))))))))), ?_⟩
    refine ⟨_, rfl, ?_⟩
    dsimp only [tCons, tC, tNil]
    refine isz_str a ⟨_, rfl, ?_⟩
    cases a with
    | str z =>
      obtain ⟨cs, rfl, h128, hlen⟩ := ok z rfl
      refine iteF ?_
      have hl : (S cs).length ≤ sizeLine := by rw [S_len]; exact Nat.le_trans hlen (by decide)
      have f128 : ∀ c ∈ figs cs, c < 128 := fun c hc => h128 c (figs_sub hc)
      have flen : (figs cs).length ≤ 5000 := Nat.le_trans (figs_len cs) hlen
      refine ⟨_, rfl, ⟨_, rfl⟩, _, _, rfl, rfl, hl, ?_⟩
      rw [show (Str.ofString "-") = S [45] from rfl, rm_minus]
      refine ⟨_, rfl, ⟨_, rfl⟩, _, rfl, rfl, trivial, _, rfl, ?_⟩
      rw [ascii_S f128]
      refine iteF ⟨_, rfl, ⟨_, rfl⟩, _, rfl, rfl, trivial, _, rfl, ?_⟩
      rw [isdigit_S f128]
      have kk : ∀ o : Option Int, o = intOf cs → Q (optV o) H := fun o e => by rw [e]; exact k
      cases hd : digB (figs cs) with
      | false =>
        refine iteT (kk none ?_)
        unfold intOf
        rw [hd]; rfl
      | true =>
        refine iteF ?_
        obtain ⟨hall, hne⟩ := digB_all hd
        obtain ⟨f, fr, hfig⟩ : ∃ f fr, figs cs = f :: fr := by
          cases e : figs cs with
          | nil => exact absurd e hne
          | cons f fr => exact ⟨f, fr, rfl⟩
        have bad : ¬ ((figs cs).head? = some 48 ∧ cs ≠ [48]) → ∀ o : Option Int, (o = if cs.head? = some 45 then some (-((digitsVal (figs cs) : Nat) : Int)) else some ((digitsVal (figs cs) : Nat) : Int)) → Q (optV o) H := fun hb o e => by
          refine kk o ?_
          unfold intOf
          rw [if_pos hd, if_neg hb]; exact e
        have s0 : Str.ofString "0" = S [48] := rfl
        dsimp only [tNext, tSeq]
        refine join_ifS (fun σ' H' => σ' = [some (.str (S cs)), some (.str (S (figs cs))), none, none, none] ∧ H' = H ∧ ¬ ((figs cs).head? = some 48 ∧ cs ≠ [48])) ?rest (fun go => ?_)
        case rest =>
          rintro σ' H' ⟨rfl, rfl, hb⟩
          have fl : ((S (figs cs)).length : Int) = ((figs cs).length : Int) := by rw [S_len]
          obtain ⟨pad, hpad⟩ : ∃ pad : Nat, Int.fmod (-((S (figs cs)).length : Int)) 60 = (pad : Int) := ⟨(Int.fmod (-((S (figs cs)).length : Int)) 60).toNat, by have := fm0 (a := -((S (figs cs)).length : Int)) (d := 60) (by decide); omega⟩
          have hpad' : (-((figs cs).length : Int)) % 60 = (pad : Int) := by rw [← fl, ← hpad, Int.fmod_eq_emod_of_nonneg _ (by decide)]
          obtain ⟨m, hm⟩ : ∃ m : Nat, pad + (figs cs).length = 60 * m := ⟨(pad + (figs cs).length) / 60, by omega⟩
          have hfl : (S (figs cs)).length ≤ sizeLine := by rw [S_len]; exact Nat.le_trans flen (by decide)
          refine ⟨_, rfl, _, rfl, hfl, _, rfl, _, _, rfl, rfl, (by show ¬ (_ = _); decide), [48], _, s0 ▸ rfl, rfl, ?_⟩
          rw [hpad]
          have pl : pad < 60 := by omega
          have ez : (List.replicate ((pad : Int).toNat) [48]).flatten = List.replicate pad 48 := by
            rw [Int.toNat_natCast]
            induction pad with
            | zero => rfl
            | succ p ih => rw [List.replicate_succ, List.flatten_cons, List.replicate_succ]; simp
          rw [ez]
          obtain ⟨fill, hfill⟩ : ∃ fill, fill = List.replicate pad 48 ++ figs cs := ⟨_, rfl⟩
          have flenF : fill.length = 60 * m := by rw [hfill, List.length_append, List.length_replicate]; exact hm
          have allF : AllDigits fill := by rw [hfill]; exact AllDigits.app (all_zeros pad) hall
          have valF : digitsVal fill = digitsVal (figs cs) := by rw [hfill, val_app, val_zeros, Nat.zero_mul, Nat.zero_add]
          have hm60 : m ≤ 90 := by omega
          have lF : (S fill).length ≤ sizeLine := by rw [S_len, flenF]; exact Nat.le_trans (show 60 * m ≤ 5400 by omega) (by decide)
          refine ⟨by omega, by omega, by decide, _, rfl, _, _, rfl, rfl, ?_, ?_⟩
          · rw [S_len, S_len, List.length_replicate]; exact Nat.le_trans (show pad + (figs cs).length ≤ 5400 by omega) (by decide)
          rw [S_cat, ← hfill]
          refine ⟨_, rfl, _, rfl, lF, 0, _, 60, m, rfl, ?_, for_rangeC (fun i σ' H2 => ∃ at_, σ' = [some (V.str (S cs)), some (V.str (S (figs cs))), some (V.str (S fill)), some (V.int ((digitsVal (fill.take (60 * i)) : Nat) : Int)), at_] ∧ H2 = H') ⟨none, rfl, rfl⟩ ?_ ?_⟩
          · rw [show ((S fill).length : Int) = ((60 * m : Nat) : Int) by rw [S_len, flenF]]
            exact rg60 m (by omega)
          · rintro i σ' H2 hi ⟨at_, rfl, rfl⟩
            have h60 : 60 * i + 60 ≤ 60 * m := by omega
            have sl : Txt.slice (S fill) (some (0 + ((i : Nat) : Int) * 60)) (some (0 + ((i : Nat) : Int) * 60 + 60)) = S ((fill.drop (60 * i)).take 60) := by
              rw [slice_mid (by omega) (by omega) (by rw [flenF]; omega)]
              rw [show (0 + ((i : Nat) : Int) * 60).toNat = 60 * i by omega, show (0 + ((i : Nat) : Int) * 60 + 60 - (0 + ((i : Nat) : Int) * 60)).toNat = 60 by omega]
            have cl : ((fill.drop (60 * i)).take 60).length = 60 := by rw [List.length_take, List.length_drop, flenF]; omega
            have cd : AllDigits ((fill.drop (60 * i)).take 60) := fun c hc => allF c (List.mem_of_mem_drop (List.mem_of_mem_take hc))
            have tk : fill.take (60 * (i + 1)) = fill.take (60 * i) ++ (fill.drop (60 * i)).take 60 := by rw [Nat.mul_succ, List.take_add]
            have td : AllDigits (fill.take (60 * i)) := fun c hc => allF c (List.mem_of_mem_take hc)
            have tl : (fill.take (60 * i)).length = 60 * i := by rw [List.length_take, flenF]; omega
            have big : (((digitsVal (fill.take (60 * i)) : Nat) : Int)).natAbs < 2 ^ (4 * (60 * i) + 1) := by
              have h1 := val_lt _ td
              rw [tl] at h1
              have h2 := ten_two (60 * i)
              have h3 : (2 : Nat) ^ (4 * (60 * i)) < 2 ^ (4 * (60 * i) + 1) := Nat.pow_lt_pow_right (by decide) (by omega)
              rw [Int.natAbs_natCast]
              omega
            refine ⟨_, rfl, _, _, rfl, rfl, wide_mul big (show ((10 : Int) ^ 60).natAbs < 2 ^ 240 by decide) (by omega) (by decide) (by omega), ?_⟩
            have hint : intText? (Txt.slice (S fill) (some (0 + ((i : Nat) : Int) * 60)) (some (0 + ((i : Nat) : Int) * 60 + 60))) = some ((digitsVal ((fill.drop (60 * i)).take 60) : Nat) : Int) := by
              rw [sl]
              exact intText_digits (x := S ((fill.drop (60 * i)).take 60)) cd (fun e => by rw [show (fill.drop (60 * i)).take 60 = [] from e] at cl; exact absurd cl (by decide)) (by rw [S_len, cl]; decide)
            have hsl : (Txt.slice (S fill) (some (0 + ((i : Nat) : Int) * 60)) (some (0 + ((i : Nat) : Int) * 60 + 60))).length ≤ 640 := by rw [sl, S_len, cl]; decide
            have val : ((digitsVal (fill.take (60 * i)) : Nat) : Int) * 10 ^ 60 + ((digitsVal ((fill.drop (60 * i)).take 60) : Nat) : Int) = ((digitsVal (fill.take (60 * (i + 1))) : Nat) : Int) := by
              rw [tk, val_app, cl]
              rw [Int.natCast_add, Int.natCast_mul, Int.natCast_pow]; rfl
            refine ⟨_, rfl, ⟨_, rfl, _, rfl, ⟨_, rfl, _, _, rfl, rfl, _, rfl, _, rfl, lF, _, _, rfl, hint, hsl, _, _, rfl, rfl, some (V.int (0 + ((i : Nat) : Int) * 60)), ?_, rfl⟩⟩⟩
            rw [← val]; rfl
          · rintro σ' H2 ⟨at_, rfl, rfl⟩
            have full : fill.take (60 * m) = fill := List.take_of_length_le (by omega)
            rw [full, valF]
            refine ⟨_, rfl, ⟨_, rfl⟩, _, _, rfl, rfl, _, rfl, ?_⟩
            obtain ⟨c, r, hcs⟩ : ∃ c r, cs = c :: r := by
              cases e : cs with
              | nil => rw [e] at hfig; cases hfig
              | cons c r => exact ⟨c, r, rfl⟩
            have esw : Txt.startswith (S cs) (S [45]) = decide (c = 45) := by rw [hcs]; exact sw_head c 45 r
            rw [esw]
            refine ite2 (fun c2 => ?_) (fun c2 => ?_)
            · have e2 : c = 45 := of_decide_eq_true c2
              refine ⟨_, rfl, _, rfl, bad hb (some (-((digitsVal (figs cs) : Nat) : Int))) ?_⟩
              rw [if_pos (show cs.head? = some 45 by rw [hcs, e2]; rfl)]
            · have e2 : c ≠ 45 := of_decide_eq_false (Bool.eq_false_iff.mpr c2)
              refine ⟨_, rfl, bad hb (some ((digitsVal (figs cs) : Nat) : Int)) ?_⟩
              rw [if_neg (show ¬ cs.head? = some 45 by rw [hcs]; exact fun z => e2 (Option.some.inj z))]
        refine ⟨_, rfl, ⟨_, rfl⟩, _, _, rfl, rfl, _, rfl, ?_⟩
        rw [hfig, s0, sw_head]
        refine ite2 (fun c0 => ?_) (fun c0 => ?_)
        · refine ⟨_, rfl, rfl, _, rfl, ite2 (fun c1 => ?_) (fun c1 => ?_)⟩
          · refine kk none ?_
            unfold intOf
            rw [if_pos hd, if_pos]
            refine ⟨by rw [hfig, of_decide_eq_true c0]; rfl, fun e => ?_⟩
            rw [e] at c1
            exact absurd c1 (by decide)
          · refine go _ _ ⟨by rw [hfig]; rfl, rfl, fun hb => hb.2 ?_⟩
            have e : V.str (S cs) = V.str (S [48]) := by simpa using c1
            exact S_inj (V.str.inj e)
        · refine iteF (go _ _ ⟨by rw [hfig]; rfl, rfl, fun hb => ?_⟩)
          rw [hfig] at hb
          have e : f = 48 := Option.some.inj hb.1
          exact c0 (decide_eq_true e)
    | int i => exact iteT k
    | bl b => exact iteT k
    | non => exact iteT k
    | obj h h1 h2 h3 => exact iteT k
end
end Lw
namespace Lw
open PySem PySem.Spec PyProof.Rows L2
open SX PySem.NumText TL
abbrev sNumOf : Stmt := top 20
theorem dig_back : ∀ cs : List Nat, AllDigits cs → (cs.map Char.ofNat).map Char.toNat = cs
  | [], _ => rfl
  | c :: r, h => by
    have h1 := h c List.mem_cons_self
    have e : (Char.ofNat c).toNat = c := by
      have k : ∀ d : Nat, d < 58 → (Char.ofNat d).toNat = d := by decide
      exact k c (by omega)
    rw [List.map_cons, List.map_cons, e, dig_back r fun d hd => h d (List.mem_cons_of_mem _ hd)]
theorem num_back {c : Nat} {r : List Nat} (h : AllDigits (c :: r)) (hc : 49 ≤ c ∨ r = []) : numL (digitsVal (c :: r)) = c :: r := by
  unfold numL
  rw [toDigits_digitsVal r.length (c :: r) rfl h (hc.elim (fun h => .inr ⟨c, r, rfl, h⟩) fun e => .inl (by rw [e]; rfl)), dig_back _ h]
theorem num_head : ∀ n : Nat, 0 < n → ∃ c r, numL n = c :: r ∧ 49 ≤ c := by
  intro n
  induction n using Nat.strongRecOn with
  | _ n ih =>
    intro h0
    by_cases h : n < 10
    · exact ⟨48 + n, [], numL_lt h, by omega⟩
    · obtain ⟨c, r, e, hc⟩ := ih (n / 10) (by omega) (by omega)
      exact ⟨c, r ++ [48 + n % 10], by rw [numL_step (by omega), e]; rfl, hc⟩
def numV (x : V) (lo hi : Int) : Option Int := match intV x with
  | some i => if lo ≤ i ∧ i ≤ hi then some i else none
  | none => none
theorem join_any {t : TS} {D : Ends} {σ : L2.St} {H : Hp} (Pj : L2.St → Hp → Prop) (hr : ∀ σ' H', Pj σ' H' → D.nx σ' H') (h : (∀ σ' H', Pj σ' H' → D.nx σ' H') → t D σ H) : t D σ H := h hr
def spNumOf (K : PySem.W.Frag) : Sp := fun vs H Q _ => ∃ x lo hi, vs = [x, .int lo, .int hi] ∧ Anyv K H x ∧ TextOk x ∧ Q (optV (numV x lo hi)) H
section
variable {P : Program} {w : World} {K : PySem.W.Frag} {mg : Str → Option Value} {base : Heap}
theorem scNumOf : FnScope ["word", "least", "most", "value"] ["word", "least", "most"] (C8.fnScope sNumOf) := C8.fnScope_by (by decide +kernel)
theorem fn_numof {f : Addr} {fd : FuncData} (F : C8.Def K mg "number_of" sNumOf f fd) (DI : C8.Cal P w K mg base 1 "integer_of" (spIntOf K) []) (DW : C8.Cal P w K mg base 2 "is_within" (spWithin K) []) :
    FnOk P w K mg base C8.CX0 3 f fd ["word", "least", "most"] (spNumOf K) := by
  refine C8.fn0 F.fn scNumOf (fun vs H Q E h => ?_) (fun cdv A outer st H vs Q E hr h => ?_)
  · obtain ⟨x, lo, hi, rfl, _⟩ := h
    rfl
  · obtain ⟨x, lo, hi, rfl, a, ok, k⟩ := h
    refine ⟨_, (pss_cons (ps_set (i := 3) scNumOf.nd rfl (Or.inl rfl) (C8.pe_c DI hr (by decide) (by rfl) (pa_cons (pv 0) pa_nil)))
  (pss_one (ps_ret (pe_ifExp (pt_val (C8.pe_c DW hr (by decide) (by rfl) (pa_cons (pv 3) (pa_cons (pv 1) (pa_cons (pv 2) pa_nil))))) (pv 3) pe_non)))), ?_⟩
    refine ⟨_, rfl, x, rfl, a, ok, ?_⟩
    have av : Anyv K H (optV (intV x)) := by cases intV x with | none => exact .non | some i => exact .int i
    refine ⟨_, rfl, _, rfl, _, rfl, _, _, _, rfl, av, _, rfl, ?_⟩
    unfold numV at k
    cases e : intV x with
    | none =>
      rw [e] at k
      exact iteF k
    | some i =>
      rw [e] at k
      refine ite2 (fun c => ?_) (fun c => ?_)
      · have h2 : lo ≤ i ∧ i ≤ hi := by
          have c' : (decide (lo ≤ i) && decide (i ≤ hi)) = true := c
          rw [Bool.and_eq_true, decide_eq_true_eq, decide_eq_true_eq] at c'
          exact c'
        refine ⟨_, rfl, ?_⟩
        simp only [h2, and_self, if_true] at k
        exact k
      · have h2 : ¬ (lo ≤ i ∧ i ≤ hi) := fun z => c (by
          show (decide (lo ≤ i) && decide (i ≤ hi)) = true
          rw [decide_eq_true z.1, decide_eq_true z.2]; rfl)
        simp only [h2, if_false] at k
        exact k
theorem cal_numof {f : Addr} {fd : FuncData} (F : C8.Def K mg "number_of" sNumOf f fd) (b : Binds K fd ["word", "least", "most"] []) (DI : C8.Cal P w K mg base 1 "integer_of" (spIntOf K) []) (DW : C8.Cal P w K mg base 2 "is_within" (spWithin K) []) :
    C8.Cal P w K mg base 3 "number_of" (spNumOf K) [] :=
  ⟨f, fd, _, [], fn_numof F DI DW, F.mgf, F.kp, b, .nil⟩
end
end Lw
namespace Lw
open PySem PySem.Spec PyProof.Rows L2
open LamX ClX
/-! ### errors of two fields, raised -/
abbrev sTxE : Stmt := inClass (top 13) 0
abbrev sMnE : Stmt := inClass (top 15) 0
/-- what an __init__ that keeps its two arguments promises -/
def spE2 (C : Addr) (f1 f2 : Str) : Sp := fun vs H Q _ => ∃ (a : Addr) (v1 v2 : V), vs = [.ref a, v1, v2] ∧ H a = some (exo a C none) ∧ ∀ dx, H dx = none → dx ≠ a → ∀ fs, fs.lookup f1 = some v1 → fs.lookup f2 = some v2 → Q .non (upd (upd H dx (exd dx fs)) a (exo a C (some dx)))
theorem two_fields {H : Hp} {a C dx : Addr} {f1 f2 : Str} {v1 v2 : V} (ne : dx ≠ a) : upd (upd (upd H dx (exd dx [(f1, v1)])) a (exo a C (some dx))) dx (exd dx [(f2, v2), (f1, v1)]) = upd (upd H dx (exd dx [(f2, v2), (f1, v1)])) a (exo a C (some dx)) := by
  funext b
  by_cases h1 : b = a
  · rw [h1, upd_ne ne.symm, upd_same, upd_same]
  · by_cases h2 : b = dx
    · rw [h2, upd_same, upd_ne ne, upd_same]
    · rw [upd_ne h2, upd_ne h1, upd_ne h2, upd_ne h1, upd_ne h2]
section
variable {P : Program} {w : World} {K : PySem.W.Frag} {mg : Str → Option Value} {base : Heap}
theorem sctxE : FnScope ["self", "line", "word"] ["self", "line", "word"] (C8.fnScope sTxE) := C8.fnScope_by (by decide +kernel)
theorem fn_txE {C f : Addr} {fd : FuncData} (F : C8.Fun K "__init__" "BadText.__init__" sTxE f fd) (T : OexC K C) (no1 : PySem.W.findIn K (.ref C) "line" = some none) (no2 : PySem.W.findIn K (.ref C) "word" = some none) : FnOk P w K mg base C8.CX0 1 f fd ["self", "line", "word"] (spE2 C "line" "word") := by
  refine C8.fn0 F sctxE (fun vs H Q E h => ?_) (fun cdv A outer st H vs Q E hr h => ?_)
  · obtain ⟨a, v1, v2, rfl, _⟩ := h
    rfl
  · obtain ⟨a, v1, v2, rfl, ha, k⟩ := h
    refine ⟨_, pss_cons (ps_ost (pv 0) (pv 1)) (pss_one (ps_ost (pv 0) (pv 2))), ?_⟩
    refine ⟨_, rfl, _, rfl, a, C, rfl, T, no1, .inl ⟨ha, fun dx h1 h2 => ?_⟩⟩
    refine ⟨_, rfl, _, rfl, a, C, rfl, T, no2, .inr ⟨dx, [("line", v1)], upd_same, (by rw [upd_ne h2]; exact upd_same), (by show 1 ≤ 900; decide), ?_⟩⟩
    rw [two_fields h2]
    exact k dx h1 h2 _ (by rw [lookup_put, if_neg (by decide +kernel), lookup_put, if_pos rfl]) (by rw [lookup_put, if_pos rfl])
theorem scmnE : FnScope ["self", "what", "most"] ["self", "what", "most"] (C8.fnScope sMnE) := C8.fnScope_by (by decide +kernel)
theorem fn_mnE {C f : Addr} {fd : FuncData} (F : C8.Fun K "__init__" "TooMany.__init__" sMnE f fd) (T : OexC K C) (no1 : PySem.W.findIn K (.ref C) "what" = some none) (no2 : PySem.W.findIn K (.ref C) "most" = some none) : FnOk P w K mg base C8.CX0 1 f fd ["self", "what", "most"] (spE2 C "what" "most") := by
  refine C8.fn0 F scmnE (fun vs H Q E h => ?_) (fun cdv A outer st H vs Q E hr h => ?_)
  · obtain ⟨a, v1, v2, rfl, _⟩ := h
    rfl
  · obtain ⟨a, v1, v2, rfl, ha, k⟩ := h
    refine ⟨_, pss_cons (ps_ost (pv 0) (pv 1)) (pss_one (ps_ost (pv 0) (pv 2))), ?_⟩
    refine ⟨_, rfl, _, rfl, a, C, rfl, T, no1, .inl ⟨ha, fun dx h1 h2 => ?_⟩⟩
    refine ⟨_, rfl, _, rfl, a, C, rfl, T, no2, .inr ⟨dx, [("what", v1)], upd_same, (by rw [upd_ne h2]; exact upd_same), (by show 1 ≤ 900; decide), ?_⟩⟩
    rw [two_fields h2]
    exact k dx h1 h2 _ (by rw [lookup_put, if_neg (by decide +kernel), lookup_put, if_pos rfl]) (by rw [lookup_put, if_pos rfl])
end
/-- the error's class, ready to be raised -/
structure Err2 (nm f1 f2 : Str) (P : Program) (w : World) (K : PySem.W.Frag) (mg : Str → Option Value) (base : Heap) (D fE : Addr) (fdE : FuncData) : Prop where
  T : OexC K D
  iC : PySem.W.findIn K (.ref D) "__init__" = some (some (.ref fE))
  tI : PySem.W.typeIn K (.ref fE) = some (.type "function")
  F : FnOk P w K mg base C8.CX0 1 fE fdE ["self", f1, f2] (spE2 D f1 f2)
  b : Binds K fdE ["self", f1, f2] []
  hm : mg nm = some (.ref D)
section
variable {X : Cx} {f1 f2 : Str} {C fI : Addr} {fd : FuncData} {W : WX} {j : Nat} {e1 e2 : Expr} {te1 te2 : TE} {p pos pos2 : Pos}
/-- raise X(e1, e2), X such a class -/
def tBad2 (f1 f2 : Str) (C : Addr) (W : WX) (te1 te2 : TE) : TS := fun _ σ H => tMkO C (spE2 C f1 f2) [] (tCons te1 (tCons te2 tNil)) σ H fun cls d H' => W cls d σ H'
theorem ps_bad2 {x : Str} (hc : X.calm = true) (tk : Takes X W) (T : OexC X.K C) (iC : PySem.W.findIn X.K (.ref C) "__init__" = some (some (.ref fI))) (tI : PySem.W.typeIn X.K (.ref fI) = some (.type "function")) (F : FnOk X.prog X.w X.K X.mg X.base C8.CX0 1 fI fd ["self", f1, f2] (spE2 C f1 f2)) (hr : Room (j + 2) X.A) (hb : Binds X.K fd ["self", f1, f2] [])
    (hg : Gl X x) (hm : X.mg x = some (.ref C)) (he1 : PE X e1 te1) (he2 : PE X e2 te2) (hst2 : starEach [e2] X.env = [(false, eval e2 X.env)] := by rfl) (hst : starEach [e1, e2] X.env = (false, eval e1 X.env) :: starEach [e2] X.env := by rfl) (hdb : (x == ("__debug__" : Str)) = false := by decide) (hpl : (backTo pos (starEach [e2] X.env)).any (·.1) = false := by rfl) :
    PS X (.Raise (some (.Call (.Name x p) [e1, e2] [] pos)) none pos2) (tBad2 f1 f2 C W te1 te2) :=
  ps_raise hc tk (pmk_oex T iC tI F (hr.mono (by omega)) hb .nil C8.pass0 hg hm (pa_cons he1 (pa_cons he2 pa_nil hst2) hst) hdb hst hpl)
theorem bad_leaf2 {H1 : Hp} {v1 v2 : V} {Q : XK} (k : ∀ d fs, H1 d = none → fs.lookup f1 = some v1 → fs.lookup f2 = some v2 → Q (.ref C) (some d) (upd H1 d (.xd fs))) :
    ([v1, v2] : List V).length ≤ 1000 ∧ ∀ a, H1 a = none → spE2 C f1 f2 (.ref a :: ([v1, v2] ++ [])) (upd H1 a (exo a C none)) (fun z H2 => z = .non ∧ ∃ (d : Addr) (fs : List (Str × V)), H2 a = some (exo a C (some d)) ∧ H2 d = some (exd d fs) ∧ H1 d = none ∧ Q (.ref C) (some d) (upd (del H2 a) d (.xd fs))) (fun _ _ _ => False) := by
  refine ⟨(by show 2 ≤ 1000; decide), fun a ha => ⟨a, v1, v2, rfl, upd_same, fun dx h1 h2 fs e1 e2 => ?_⟩⟩
  rw [upd_ne h2] at h1
  refine ⟨rfl, dx, fs, upd_same, by rw [upd_ne h2]; exact upd_same, h1, ?_⟩
  have e : upd (del (upd (upd (upd H1 a (exo a C none)) dx (exd dx fs)) a (exo a C (some dx))) a) dx (.xd fs) = upd H1 dx (.xd fs) := by
    funext b
    by_cases q : b = dx
    · rw [q, upd_same, upd_same]
    · rw [upd_ne q, upd_ne q]
      by_cases q2 : b = a
      · rw [q2, del_same, ha]
      · rw [del_ne q2, upd_ne q2, upd_ne q, upd_ne q2]
  rw [e]
  exact k dx fs h1 e1 e2
end
/-! ### a classmethod by keywords -/
section
variable {X : Cx} {CX : CXT} {C p g : Addr} {mc : Value} {k : Nat} {fd : FuncData} {ps ks : List Str} {sp : Sp} {E : XK} {o : Expr} {kws : List Keyword} {m : Str} {pos apos : Pos} {ta : TE} {tkw : TA} {gU : List Value → List Value → List Value} {gV : List V → List V → List V} {pl : Sem Bool}
theorem pe_cmethK (he : PE X o ta) (r : CRead X.K C mc) (c : CMet X.K C mc m p g) (F : FnOk X.prog X.w X.K X.mg X.base CX k g fd ps sp) (hr : Room k X.A) (hb : KBn X.K fd ps 1 ks gU gV) (hx : Passes CX X E) (hkw : PK X kws tkw)
    (hall : (backToKw pos (keywordEach kws X.env)).all (·.1.isSome) = true := by rfl) (hks : (backToKw pos (keywordEach kws X.env)).filterMap (·.1) = ks := by rfl)
    (hpl : ((backTo pos (starEach [] X.env)).any (·.1) || (backToKw pos (keywordEach kws X.env)).any (·.1.isNone)) = false := by rfl)
    (ht : eval (.Call (.Attribute o m apos) [] kws pos) X.env = (do
      let ov ← eval o X.env
      standAt apos.atName
      let (f, first) ← holding [ov] (getMethod ov m pl)
      callWith pos f first (backTo pos (starEach [] X.env)) (backToKw pos (keywordEach kws X.env))) := by rfl) :
    PE X (.Call (.Attribute o m apos) [] kws pos) (fun σ H Q => ta σ H fun x H1 => x = .ref C ∧ tkw σ H1 fun zs H2 => zs.length = ks.length ∧ sp (gV [.ref C] zs) H2 Q E) := by
  refine ⟨fun pins s σ H Q I h => ?_⟩
  refine PySem.W.methodCall_KW (pl := pl) (thn (he.run pins s σ H _ I h) fun u s1 ⟨x, H1, I1, rx, ex, q⟩ => ?_) ht
  subst ex
  obtain rfl : u = Value.ref C := rx
  refine getmethcm_ok I1 r c fun s2 I2 => ?_
  refine PySem.W.callWith_of (P := PySem.W.MethP X.K s1.heap.objs.size g (.ref C)) hpl (PySem.W.keeps_M c.fi) (evalArgs_kw2_nil hall ?_)
  refine thn (hkw.run pos _ s2 σ H1 _ I2 q) fun ws s3 ⟨zs, H2, I3, rz, l2, q2⟩ => ⟨⟨pin_at I3, I3.kIn⟩, ?_⟩
  rw [hks]
  have hl : ws.length = ks.length := rz.length.symm.trans l2
  have z : wpAny (model X.prog X.w) X.A (call (.ref s1.heap.objs.size) [] (ks.zip ws)) (EP X ((s1.heap.objs.size, PySem.W.methodObj (.ref g) (.ref C)) :: pins) σ Q) X.xe s3 := by
    refine wpAny_call (PySem.W.method_call (pin_at I3) ?_)
    have r2 : Vals (gV [.ref C] zs) (gU [.ref C] ws) := hb.rel (.cons rfl .nil) rz
    refine codeAny_mono (F.run X.A X.stack s3 H2 ⟨[.ref C], ks.zip ws⟩ (gU [.ref C] ws) (gV [.ref C] zs) Q E hr I3.env0 (hb.to s3 [.ref C] ws I3.kIn rfl hl) r2 q2) fun r s' hq => ?_
    cases r with
    | error e => exact hx _ σ H2 s3 e s' I3 hq
    | ok fl =>
      cases fl with
      | ret u => exact I3.after hq
      | next => exact False.elim hq
      | brk => exact False.elim hq
      | cont => exact False.elim hq
  exact thn z fun _ _ y => unpinE y
end
end Lw
namespace Lw
open PySem PySem.Spec PyProof.Rows L2
/-! ### str(x) of an own class -/
section
variable {X : Cx} {C f : Addr} {k j : Nat} {sp : Sp} {E : XK} {pins : List (Addr × Obj)} {σ : L2.St} {H : Hp} {s : Shared}
/-- a method that runs one or two levels further in -/
theorem run_metA {A : Around} {m : Str} {us : List Value} {vs : List V} {Q : VK} (M : MetX X.prog X.w X.K X.mg X.base k C m sp) (hx : Passes (L2.CX X.prog X.w) X E) (hr : Room k A) (e0 : Env0 X.prog X.w X.K X.mg X.base A X.stack s H) (I : Inv X pins σ H s) (r : Vals vs us) (q : sp vs H Q E) :
    ∃ g : Addr, Meth X.K C m g ∧ wpAny (model X.prog X.w) A (call (.ref g) us) (EP X pins σ Q) X.xe s := by
  obtain ⟨g, fd, ps, hm, F, b⟩ := M.ex
  have l : us.length = ps.length := r.length.symm.trans (F.len _ _ _ _ q)
  have b' := b s us I.kIn (by rw [List.append_nil]; exact l)
  rw [List.append_nil] at b'
  refine ⟨g, hm, wpAny_call (codeAny_mono (F.run A X.stack s H ⟨us, []⟩ us vs Q E hr e0 b' r q) fun r s' hq => ?_)⟩
  cases r with
  | error e => exact hx pins σ H s e s' I hq
  | ok fl =>
    cases fl with
    | ret u => exact I.after hq
    | next => exact False.elim hq
    | brk => exact False.elim hq
    | cont => exact False.elim hq
/-- str(x) of an instance -/
def rStrOwn (C : Addr) (sp : Sp) (E : XK) : List V → Hp → VK → Prop := fun xs H Q => ∃ a dx fs, xs = [V.ref a] ∧ H a = some (.ins C dx fs) ∧ sp [.ref a] H (fun z H' => ∃ y, z = .str y ∧ Q z H') E
theorem call_strOwn (M : MetX X.prog X.w X.K X.mg X.base k C "__str__" sp) (hx : Passes (L2.CX X.prog X.w) X E) (hr : Room j X.A) (hk : k + 2 ≤ j) : CallR X (.type "str") (rStrOwn C sp E) := by
  intro pins s σ H xs us Q I r h
  obtain ⟨a, dx, fs, rfl, ha, q⟩ := h
  obtain ⟨u, rfl, ru⟩ := r.one
  cases (show u = Value.ref a from ru)
  obtain ⟨_, _, J⟩ := ins_at I ha
  have hr2 : Room k X.A.in1.in1 := (show Room (k + 1) X.A.in1 from Room.in1 (hr.mono hk)).in1
  obtain ⟨g, hm, w⟩ := run_metA (us := [.ref a]) (vs := [.ref a]) M hx hr2 I.env0.in1.in1 I (.cons rfl .nil) q
  refine PySem.W.kso_call hr2.units0 I.kIn J hm.at_ hm.fn (wpAny_mono w (fun v s' z => ?_) fun _ _ x => x)
  obtain ⟨z', H', I', rz, y, rfl, qz⟩ := z
  obtain ⟨t, rfl⟩ := rz
  exact ⟨.str y, H', I', ⟨t, rfl⟩, qz⟩
end
end Lw
namespace Lw.Ow
open PySem PySem.Spec PyProof.Rows PySem.W PySem.Calls
/-! ### != by the own == -/
theorem sl_obj_ne : Slot "object" "__ne__" "object.__ne__" :=
  .of (owner := "object") (n := "__ne__") (by rw [typeLookup_type, builtinLookup_eq_fast]; kernel_rfl) (by decide +kernel) (by decide +kernel) (by decide +kernel)
    (by first | exact .inl (by decide +kernel) | exact .inr (by decide +kernel)) (by rw [isSubtype_type]; kernel_rfl)
section
variable {prog : Program} {w : World} {A : Around} {E : Value → Shared → Prop} {s : Shared} {K : Frag} {x C f : Addr} {ox : Obj} {od : Option Obj}
theorem ifBound_S {M : Model} {name : Str} {id : String} {args : List Value} {Q : Option Value → Shared → Prop} (X : K.In s.heap) (I : InstAt s.heap x ox C od) (hs : findIn K (.ref C) name = some (some (.builtin id))) (hb : ∀ self, bindSpecial (.builtin id) self = pure (.builtin id, [self]))
    (h : wpAny M A (call (.builtin id) (.ref x :: args)) (fun v => Q (some v)) E s) : wpAny M A (callSpecialIfBound? (.ref x) name args) Q E s := by
  simp only [callSpecialIfBound?, bindSpecialIfBound?]
  refine wpAny_holding (wpAny_bind (wpAny_bind (wpAny_bind (I.type.here ((looks_findIn X hs).here ?_)))))
  refine wpAny_bind (wpAny_askSetting (wpAny_ite ?_))
  have fin : wpAny M A (call (.builtin id) ([.ref x] ++ args) >>= fun v => pure (some v)) Q E s := wpAny_bind (wpAny_mono h (fun v s' h' => wpAny_pure h') fun _ _ h' => h')
  split
  · exact wpAny_bind ((Looks.of_pure (hb _)).here (wpAny_pure (by exact fin)))
  · exact wpAny_tryCatch (wpAny_bind ((Looks.of_pure (hb _)).here (wpAny_pure (by exact fin))))
theorem try_ne {b : Value} {Q : Value → Shared → Prop} (hu : A.in1.units < cLine) (X : K.In s.heap) (I : InstAt s.heap x ox C od) (hm : mroIn K C (.type "object") = some true) (hn : findIn K (.ref C) "__ne__" = some (some (.builtin "object.__ne__"))) (he : findIn K (.ref C) "__eq__" = some (some (.ref f))) (hf : isFn K (.ref f) = true)
    (h : wpAny (model prog w) A.in1 (call (.ref f) [.ref x, b]) (fun v s' => ∃ c, v = .bool c ∧ Q (.bool (!c)) s') E s) : wpAny (model prog w) A (tryCompare (.ref x) "__ne__" b) (fun r s' => ∃ v, r = some v ∧ Q v s') E s := by
  unfold tryCompare
  refine wpAny_bind (ifBound_S X I hn sl_obj_ne.bind (wpAny_call (codeAny_call_builtin sl_obj_ne.plain F.cmpEntry_ne (check_slot (i := "object.__ne__") (owner := "object") (n := "__ne__") F.cmpKind_ne F.cmpSplit_ne (I.type.andThen (looks_mroIn X hm)) (F.cmpArgs_ne _ _) ?_))))
  unfold Builtin.«object.__ne__»
  refine wpAny_bind (wpAny_of_eq (a := (Value.ref x, [b])) rfl ?_)
  refine wpAny_bind (m := cRoomFor _ _) (wpAny_cRoomFor hu ?_)
  refine wpAny_bind (m := callSpecialIfBound? (.ref x) (Str.ofString "__eq__") _) (ifBound_K X I he hf (wpAny_mono h (fun r s' hq => ?_) fun _ _ y => y))
  obtain ⟨c, rfl, q⟩ := hq
  refine wpAny_bind (m := truthy (.bool c)) (wpAny_truthy_bool ?_)
  first | exact wpAny_pure (wpAny_pure ⟨_, rfl, q⟩) | exact wpAny_pure ⟨_, rfl, q⟩ | exact ⟨_, rfl, wpAny_pure ⟨_, rfl, q⟩⟩
theorem cmp_ne {b tb : Value} {Q : Value → Shared → Prop} (hu : A.units < cLine) (X : K.In s.heap) (I : InstAt s.heap x ox C od) (hb : Looks (model prog w) s.heap (typeOf b) tb) (hn : notFirst K C tb = true)
    (one : wpAny (model prog w) A (tryCompare (.ref x) "__ne__" b) (fun r s' => ∃ v, r = some v ∧ Q v s') E s) : wpAny (model prog w) A (richCompare .NotEq (.ref x) b) Q E s := by
  unfold richCompare
  simp only [oneThing_ref]
  refine wpAny_holding (wpAny_bind (wpAny_cRoomFor hu ?_))
  refine wpAny_bind (I.type.here (wpAny_bind (hb.here ?_)))
  split
  · rename_i q
    have e : subIn K tb (.ref C) = some false := by
      rcases Bool.or_eq_true_iff.mp hn with e | e
      · rw [beq_iff_eq.mp e] at q; simp at q
      · exact beq_iff_eq.mp e
    refine wpAny_bind ((looks_subIn X e).here ?_)
    simp only [Bool.false_eq_true, if_false]
    refine wpAny_bind (wpAny_mono one (fun r s' z => ?_) fun _ _ e => e)
    obtain ⟨v, rfl, hq⟩ := z
    exact wpAny_pure hq
  · refine wpAny_bind (wpAny_pure ?_)
    simp only [Bool.false_eq_true, if_false]
    refine wpAny_bind (wpAny_mono one (fun r s' z => ?_) fun _ _ e => e)
    obtain ⟨v, rfl, hq⟩ := z
    exact wpAny_pure hq
end
end Lw.Ow
namespace Lw
open PySem PySem.Spec PyProof.Rows L2 LamX
section
variable {X : Cx} {C f : Addr} {k j : Nat} {sp : Sp} {E : XK} {pins : List (Addr × Obj)} {σ : L2.St} {H : Hp} {s : Shared}
structure NeC (K : PySem.W.Frag) (C : Addr) : Prop where
  m : PySem.W.mroIn K C (.type "object") = some true
  n : PySem.W.findIn K (.ref C) "__ne__" = some (some (.builtin "object.__ne__"))
def Nb (Q : VK) : VK := fun v H => ∃ c, v = .bl c ∧ Q (.bl (!c)) H
def rNR (C : Addr) (sp : Sp) (E : XK) : R2 := fun x y H Q => ∃ a dx fs b dy gs, x = .ref a ∧ H a = some (.ins C dx fs) ∧ y = .ref b ∧ H b = some (.ins C dy gs) ∧ sp [x, y] H (Nb Q) E
theorem op_neR (nc : NeC X.K C) (M : MetX X.prog X.w X.K X.mg X.base k C "__eq__" sp) (hx : Passes (L2.CX X.prog X.w) X E) (hr : Room j X.A) (hk : k + 1 ≤ j) : OpR X (compareOp .NotEq) (rNR C sp E) := by
  intro pins s σ H x y v u Q I rx ry h
  obtain ⟨a, dx, fs, b, dy, gs, rfl, ha, rfl, hb, q⟩ := h
  cases (show v = Value.ref a from rx)
  cases (show u = Value.ref b from ry)
  obtain ⟨_, _, J⟩ := ins_at I ha
  obtain ⟨_, _, J'⟩ := ins_at I hb
  have hr1 : Room k X.A.in1 := Room.in1 (hr.mono hk)
  obtain ⟨g, hm, w⟩ := run_metA (us := [.ref a, .ref b]) (vs := [.ref a, .ref b]) M hx hr1 I.env0.in1 I (.cons rfl (.cons rfl .nil)) q
  refine Ow.cmp_ne hr.units0 I.kIn J J'.type (by simp [PySem.W.notFirst]) (Ow.try_ne hr1.units0 I.kIn J nc.m nc.n hm.at_ hm.fn (wpAny_mono w (fun v s' z => ?_) fun _ _ x => x))
  obtain ⟨z', H', I', rz, c, rfl, qz⟩ := z
  cases (show v = Value.bool c from rz)
  exact ⟨c, rfl, .bl (!c), H', I', rfl, qz⟩
end
theorem TyX.same {K : PySem.W.Frag} {H H' : Hp} {v : V} {t : Value} (s : Same H H') (h : TyX K H v t) : TyX K H' v t := by
  cases h with
  | base h =>
    refine .base ?_
    cases h with
    | non => exact .non
    | bl x => exact .bl x
    | int i => exact .int i
    | str x => exact .str x
    | flt x => exact .flt x
    | lst e => exact .lst (s _ _ e)
    | frz e => exact .frz (s _ _ e)
    | tup e => exact .tup (s _ _ e)
    | dK e => exact .dK (s _ _ e)
    | dT e => exact .dT (s _ _ e)
    | ins e cl ha hn htk hm => exact .ins (s _ _ e) cl ha hn htk hm
  | byt b => exact .byt b
  | set e => exact .set (s _ _ e)
  | kList e c => exact .kList e c
  | kTuple e c => exact .kTuple e c
  | kDict e c => exact .kDict e c
  | fTuple e => exact .fTuple (s _ _ e)
  | fDict e => exact .fDict (s _ _ e)
theorem TyZ.same {K : PySem.W.Frag} {H H' : Hp} {v : V} {t : Value} (s : Same H H') (h : TyZ K H v t) : TyZ K H' v t := by
  cases h with
  | x h => exact .x (Lw.TyX.same s h)
  | fn e => exact .fn (s _ _ e)
theorem Anyv.same {K : PySem.W.Frag} {H H' : Hp} {v : V} (s : Same H H') (h : Anyv K H v) : Anyv K H' v := by
  cases h with
  | int i => exact .int i
  | non => exact .non
  | bl b => exact .bl b
  | str z => exact .str z
  | obj h h1 h2 h3 => exact .obj (Lw.TyZ.same s h) h1 h2 h3
open SX PySem.NumText TL
theorem tl_neg {n : Nat} (h : 0 < n) : (Str.ofString (toString (-((n : Nat) : Int)))).cps.toList = 45 :: numL n := by
  obtain ⟨m, rfl⟩ : ∃ m, n = m + 1 := ⟨n - 1, by omega⟩
  rw [PyProof.Rows.signs_ofString]
  have e : toString (-(((m + 1 : Nat) : Int))) = "-" ++ Nat.repr (m + 1) := rfl
  rw [e, String.toList_append, List.map_append, Nat.toList_repr]
  rfl
theorem str_neg {n : Nat} (h : 0 < n) : Str.ofString (toString (-((n : Nat) : Int))) = S (45 :: numL n) := TL.ext_tl (tl_neg h)
/-- the figures of an integer, its sign ahead -/
def intL (i : Int) : List Nat := if i < 0 then 45 :: numL i.natAbs else numL i.natAbs
theorem str_int (i : Int) : Str.ofString (toString i) = S (intL i) := by
  unfold intL
  by_cases h : i < 0
  · rw [if_pos h]
    obtain ⟨n, rfl⟩ : ∃ n : Nat, i = -((n : Nat) : Int) := ⟨i.natAbs, by omega⟩
    rw [show (-((n : Nat) : Int)).natAbs = n by omega]
    exact str_neg (by omega)
  · rw [if_neg h]
    obtain ⟨n, rfl⟩ : ∃ n : Nat, i = ((n : Nat) : Int) := ⟨i.natAbs, by omega⟩
    rw [Int.natAbs_natCast]
    exact num_S n
open SX PySem.NumText TL LamX
structure DefC (K : PySem.W.Frag) (mg : Str → Option Value) (x : Str) (st : Stmt) (f : Addr) (fd : FuncData) (c : Addr) : Prop where
  ex : ∃ (oc : Value) (od : Option Addr) (dV kV doc pm : Value) (an : Option Addr) (ct : Value) (osl : Array (Option Value)),
    fd = PySem.W.fnOf x x (C8.fnArgs st) (C8.fnBody st) (C8.fnScope st) dV kV doc pm an (.ref c) ct ∧ K.lookup f = some ⟨oc, od, .func fd, osl⟩ ∧ PySem.W.codeIn K (.ref c) x = true
  mgf : mg x = some (.ref f)
  kp : PySem.W.keepIn K (.ref f) = true
theorem calGC {P : Program} {w : World} {K : PySem.W.Frag} {mg : Str → Option Value} {base : Heap} {x : Str} {st : Stmt} {f c : Addr} {fd : FuncData} {N ps : List Str} {ds : List Value} {dvs : List V} {k : Nat} {sp : Sp} (F : DefC K mg x st f fd c) (b : Binds K fd ps ds) (d : Vals dvs ds) (S : FnScope N ps (C8.fnScope st)) (len : ∀ vs H Q E, sp vs H Q E → vs.length = ps.length)
    (body : ∀ (A : Around) (outer : List Env) (s : Shared) (H : Hp) (vs : List V) (Q : VK) (E : XK), (A.deeper (envOfC x (C8.fnScope st) s.heap.objs.size f (.ref c))).guards = some [] → Room k (A.deeper (envOfC x (C8.fnScope st) s.heap.objs.size f (.ref c))) → sp vs H Q E →
      ∃ t, PSs (cxOf C8.CX0 P w K mg base N x (C8.fnScope st) f (.ref c) A outer s H E).nox (C8.fnBody st) t ∧ t { nx := fun _ H' => Q .non H', rt := Q } (start N vs) H) : CalG P w K mg base (k + 1) x sp dvs := by
  refine ⟨f, fd, ps, ds, ⟨len, ?_⟩, F.mgf, F.kp, b, d⟩
  intro A outer s H args us vs Q E hg hr e0 hb r hs
  obtain ⟨oc, od, dV, kV, doc, pm, an, ct, osl, rfl, lk, hcd⟩ := F.ex
  refine LamX.run_ofS lk hcd S hr e0 hb r (len _ _ _ _ hs) fun hr' => ?_
  obtain ⟨t, h1, h2⟩ := body A outer s H vs Q E hg hr' hs
  exact ⟨t, h1.nox, h2⟩
theorem Tabs.put {T : List (Addr × Str)} {H : Hp} {l : Addr} {o : HO} {xs : List V} (t : Tabs T H) (hl : H l = some (.lst xs)) : Tabs T (upd H l o) := by
  intro q hq
  obtain ⟨ps, h1, h2, h3⟩ := t q hq
  refine ⟨ps, ?_, h2, fun pos cv hc => ?_⟩
  · rw [upd_ne (fun e => by rw [e, hl] at h1; cases h1)]; exact h1
  · obtain ⟨c, e1, e2⟩ := h3 pos cv hc
    refine ⟨c, e1, ?_⟩
    rw [upd_ne (fun e => by rw [e, hl] at e2; unfold CodeO at e2; cases e2)]; exact e2
theorem Tabs.kp {T : List (Addr × Str)} {p pl : Addr} {n : Nat} {H H' : Hp} (t : Tabs T H) (hp : Pen H p pl n) (k : Kp p H H') : Tabs T H' := by
  intro q hq
  obtain ⟨ps, h1, h2, h3⟩ := t q hq
  obtain ⟨xs, a, g, hh, _⟩ := hp
  refine ⟨ps, k _ _ (fun e => ?_) h1, h2, fun pos cv hc => ?_⟩
  · rw [e, hh.at_] at h1; cases h1
  · obtain ⟨c, e1, e2⟩ := h3 pos cv hc
    refine ⟨c, e1, k _ _ (fun e => ?_) e2⟩
    rw [e, hh.at_] at e2
    unfold CodeO at e2
    cases e2
theorem Pen.extn {H H' : Hp} {p l : Addr} {n : Nat} (h : Pen H p l n) (e : ExtN H H') : Pen H' p l n := by
  obtain ⟨xs, a, g, ⟨h1, h2, h3, h4, h5⟩, h6⟩ := h
  have nl : ∀ (ys : List V) ps, HO.lst ys ≠ .tbl ps := fun ys ps z => by cases z
  exact ⟨xs, a, g, ⟨e _ _ h1 (nl _), e _ _ h2 (nl _), h3, h4, h5⟩, h6⟩
open ClX StX
/-! ### errors of one field, raised -/
def spE1 (C : Addr) (f1 : Str) : Sp := fun vs H Q _ => ∃ (a : Addr) (v1 : V), vs = [.ref a, v1] ∧ H a = some (exo a C none) ∧ ∀ dx, H dx = none → dx ≠ a → ∀ fs, fs.lookup f1 = some v1 → Q .non (upd (upd H dx (exd dx fs)) a (exo a C (some dx)))
/-- the error's class, ready to be raised -/
structure Err1 (nm f1 : Str) (P : Program) (w : World) (K : PySem.W.Frag) (mg : Str → Option Value) (base : Heap) (D fE : Addr) (fdE : FuncData) : Prop where
  T : OexC K D
  iC : PySem.W.findIn K (.ref D) "__init__" = some (some (.ref fE))
  tI : PySem.W.typeIn K (.ref fE) = some (.type "function")
  F : FnOk P w K mg base C8.CX0 1 fE fdE ["self", f1] (spE1 D f1)
  b : Binds K fdE ["self", f1] []
  hm : mg nm = some (.ref D)
section
variable {X : Cx} {f1 : Str} {C fI : Addr} {fd : FuncData} {W : WX} {j : Nat} {e1 : Expr} {te1 : TE} {p pos pos2 : Pos}
/-- raise X(e1), X such a class -/
def tBad1 (f1 : Str) (C : Addr) (W : WX) (te1 : TE) : TS := fun _ σ H => tMkO C (spE1 C f1) [] (tCons te1 tNil) σ H fun cls d H' => W cls d σ H'
theorem ps_bad1 {x : Str} (hc : X.calm = true) (tk : Takes X W) (T : OexC X.K C) (iC : PySem.W.findIn X.K (.ref C) "__init__" = some (some (.ref fI))) (tI : PySem.W.typeIn X.K (.ref fI) = some (.type "function")) (F : FnOk X.prog X.w X.K X.mg X.base C8.CX0 1 fI fd ["self", f1] (spE1 C f1)) (hr : Room (j + 2) X.A) (hb : Binds X.K fd ["self", f1] [])
    (hg : Gl X x) (hm : X.mg x = some (.ref C)) (he1 : PE X e1 te1) (hst : starEach [e1] X.env = (false, eval e1 X.env) :: starEach [] X.env := by rfl) (hdb : (x == ("__debug__" : Str)) = false := by decide) (hpl : (backTo pos (starEach [] X.env)).any (·.1) = false := by rfl) :
    PS X (.Raise (some (.Call (.Name x p) [e1] [] pos)) none pos2) (tBad1 f1 C W te1) :=
  ps_raise hc tk (pmk_oex T iC tI F (hr.mono (by omega)) hb .nil C8.pass0 hg hm (pa_cons he1 pa_nil hst) hdb hst hpl)
theorem bad_leaf1 {H1 : Hp} {v1 : V} {Q : XK} (k : ∀ d fs, H1 d = none → fs.lookup f1 = some v1 → Q (.ref C) (some d) (upd H1 d (.xd fs))) :
    ([v1] : List V).length ≤ 1000 ∧ ∀ a, H1 a = none → spE1 C f1 (.ref a :: ([v1] ++ [])) (upd H1 a (exo a C none)) (fun z H2 => z = .non ∧ ∃ (d : Addr) (fs : List (Str × V)), H2 a = some (exo a C (some d)) ∧ H2 d = some (exd d fs) ∧ H1 d = none ∧ Q (.ref C) (some d) (upd (del H2 a) d (.xd fs))) (fun _ _ _ => False) := by
  refine ⟨(by show 1 ≤ 1000; decide), fun a ha => ⟨a, v1, rfl, upd_same, fun dx h1 h2 fs e1 => ?_⟩⟩
  rw [upd_ne h2] at h1
  refine ⟨rfl, dx, fs, upd_same, by rw [upd_ne h2]; exact upd_same, h1, ?_⟩
  have e : upd (del (upd (upd (upd H1 a (exo a C none)) dx (exd dx fs)) a (exo a C (some dx))) a) dx (.xd fs) = upd H1 dx (.xd fs) := by
    funext b
    by_cases q : b = dx
    · rw [q, upd_same, upd_same]
    · rw [upd_ne q, upd_ne q]
      by_cases q2 : b = a
      · rw [q2, del_same, ha]
      · rw [del_ne q2, upd_ne q2, upd_ne q, upd_ne q2]
  rw [e]
  exact k dx fs h1 e1
end
/-- refused: the error keeps the value -/
def Bf (D : Addr) (f : Str) (x : V) (H : Hp) (E : XK) : Prop := ∀ d fs H', Same H H' → H' d = none → fs.lookup f = some x → E (.ref D) (some d) (upd H' d (.xd fs))
theorem Bf.of {D : Addr} {f : Str} {x : V} {H H' : Hp} {E : XK} (h : Bf D f x H E) (s : Same H H') : Bf D f x H' E := fun d fs H2 s2 hd f1 => h d fs H2 (s.trans s2) hd f1
abbrev sBnmE : Stmt := inClass (top 10) 0
theorem scBnmE : FnScope ["self", "value"] ["self", "value"] (C8.fnScope sBnmE) := C8.fnScope_by (by decide +kernel)
theorem fn_BnmE {P : Program} {w : World} {K : PySem.W.Frag} {mg : Str → Option Value} {base : Heap} {C f : Addr} {fd : FuncData} (F : C8.Fun K "__init__" "BadName.__init__" sBnmE f fd) (T : OexC K C) (no1 : PySem.W.findIn K (.ref C) "value" = some none) : FnOk P w K mg base C8.CX0 1 f fd ["self", "value"] (spE1 C "value") := by
  refine C8.fn0 F scBnmE (fun vs H Q E h => ?_) (fun cdv A outer st H vs Q E hr h => ?_)
  · obtain ⟨a, v1, rfl, _⟩ := h
    rfl
  · obtain ⟨a, v1, rfl, ha, k⟩ := h
    refine ⟨_, (pss_one (ps_ost (pv 0) (pv 1))), ?_⟩
    exact ⟨_, rfl, _, rfl, a, C, rfl, T, no1, .inl ⟨ha, fun dx h1 h2 => k dx h1 h2 _ (by rw [lookup_put, if_pos rfl])⟩⟩
abbrev sBspE : Stmt := inClass (top 11) 0
theorem scBspE : FnScope ["self", "value"] ["self", "value"] (C8.fnScope sBspE) := C8.fnScope_by (by decide +kernel)
theorem fn_BspE {P : Program} {w : World} {K : PySem.W.Frag} {mg : Str → Option Value} {base : Heap} {C f : Addr} {fd : FuncData} (F : C8.Fun K "__init__" "BadSpeed.__init__" sBspE f fd) (T : OexC K C) (no1 : PySem.W.findIn K (.ref C) "value" = some none) : FnOk P w K mg base C8.CX0 1 f fd ["self", "value"] (spE1 C "value") := by
  refine C8.fn0 F scBspE (fun vs H Q E h => ?_) (fun cdv A outer st H vs Q E hr h => ?_)
  · obtain ⟨a, v1, rfl, _⟩ := h
    rfl
  · obtain ⟨a, v1, rfl, ha, k⟩ := h
    refine ⟨_, (pss_one (ps_ost (pv 0) (pv 1))), ?_⟩
    exact ⟨_, rfl, _, rfl, a, C, rfl, T, no1, .inl ⟨ha, fun dx h1 h2 => k dx h1 h2 _ (by rw [lookup_put, if_pos rfl])⟩⟩
abbrev sBcrE : Stmt := inClass (top 12) 0
theorem scBcrE : FnScope ["self", "part"] ["self", "part"] (C8.fnScope sBcrE) := C8.fnScope_by (by decide +kernel)
theorem fn_BcrE {P : Program} {w : World} {K : PySem.W.Frag} {mg : Str → Option Value} {base : Heap} {C f : Addr} {fd : FuncData} (F : C8.Fun K "__init__" "BadCrew.__init__" sBcrE f fd) (T : OexC K C) (no1 : PySem.W.findIn K (.ref C) "part" = some none) : FnOk P w K mg base C8.CX0 1 f fd ["self", "part"] (spE1 C "part") := by
  refine C8.fn0 F scBcrE (fun vs H Q E h => ?_) (fun cdv A outer st H vs Q E hr h => ?_)
  · obtain ⟨a, v1, rfl, _⟩ := h
    rfl
  · obtain ⟨a, v1, rfl, ha, k⟩ := h
    refine ⟨_, (pss_one (ps_ost (pv 0) (pv 1))), ?_⟩
    exact ⟨_, rfl, _, rfl, a, C, rfl, T, no1, .inl ⟨ha, fun dx h1 h2 => k dx h1 h2 _ (by rw [lookup_put, if_pos rfl])⟩⟩
abbrev sNwkE : Stmt := inClass (top 14) 0
theorem scNwkE : FnScope ["self", "name"] ["self", "name"] (C8.fnScope sNwkE) := C8.fnScope_by (by decide +kernel)
theorem fn_NwkE {P : Program} {w : World} {K : PySem.W.Frag} {mg : Str → Option Value} {base : Heap} {C f : Addr} {fd : FuncData} (F : C8.Fun K "__init__" "NoWorker.__init__" sNwkE f fd) (T : OexC K C) (no1 : PySem.W.findIn K (.ref C) "name" = some none) : FnOk P w K mg base C8.CX0 1 f fd ["self", "name"] (spE1 C "name") := by
  refine C8.fn0 F scNwkE (fun vs H Q E h => ?_) (fun cdv A outer st H vs Q E hr h => ?_)
  · obtain ⟨a, v1, rfl, _⟩ := h
    rfl
  · obtain ⟨a, v1, rfl, ha, k⟩ := h
    refine ⟨_, (pss_one (ps_ost (pv 0) (pv 1))), ?_⟩
    exact ⟨_, rfl, _, rfl, a, C, rfl, T, no1, .inl ⟨ha, fun dx h1 h2 => k dx h1 h2 _ (by rw [lookup_put, if_pos rfl])⟩⟩
section
variable {X : Cx} {CX : CXT} {k : Nat} {f C : Addr} {sp : Sp} {E : XK} {x : Str} {p pos : Pos}
theorem pe_makeR0 (M : Mk X.K C f) (F : FnR X.prog X.w X.K X.mg X.base CX k f sp) (hr : Room (k + 1) X.A) (hg : Gl X x) (hm : X.mg x = some (.ref C)) (hx : Passes CX X E) (hdb : (x == ("__debug__" : Str)) = false := by decide) : PE X (.Call (.Name x p) [] [] pos) (tMakeR C sp E tNil) := by
  refine ⟨fun pins s σ H Q I h => ?_⟩
  refine wpAny_Call_Name_kw (ld_glob I hg hm ?_ hdb)
  exact PySem.W.callWith_K0 I.kIn M.kp (run_makeR M F hr hx I .nil h)
end
/-- neither a list nor a tuple -/
def NoSeq (K : PySem.W.Frag) (H : Hp) (v : V) : Prop := ∃ t, TyX K H v t ∧ PySem.W.kitAny K t [.type "list", .type "tuple"] = some false
theorem NoSeq.same {K : PySem.W.Frag} {H H' : Hp} {v : V} (h : NoSeq K H v) (s : Same H H') : NoSeq K H' v := by
  obtain ⟨t, h1, h2⟩ := h
  exact ⟨t, Lw.TyX.same s h1, h2⟩
end Lw
namespace Lw
open PySem PySem.Spec PyProof.Rows L2
end Lw
namespace Lw.Ow
open PySem PySem.Spec PyProof.Rows PySem.W PySem.Calls
section
variable {prog : Program} {w : World} {A : Around} {E : Value → Shared → Prop} {s : Shared} {K : Frag} {x C f : Addr} {ox : Obj} {od : Option Obj}
theorem len_own {Q : Value → Shared → Prop} (X : K.In s.heap) (I : InstAt s.heap x ox C od) (hs : findIn K (.ref C) "__len__" = some (some (.ref f))) (hf : isFn K (.ref f) = true)
    (h : wpAny (model prog w) A.in1 (call (.ref f) [.ref x]) (fun v s' => ∃ (n : Int) (t : Tok), v = .int n t ∧ 0 ≤ n ∧ n < 2 ^ 63 ∧ ∀ t' tk, Q (.int n t') { s' with toks := tk }) E s) : wpAny (model prog w) A (call (.builtin "len") [.ref x]) Q E s := by
  refine call_function_entry kind_len plain_len entry_len (args_len1 _) ?_
  unfold Builtin.«len»
  refine wpAny_bind (m := oneArg "len" _) (wpAny_pure ?_)
  refine wpAny_bind (m := callSpecial? (.ref x) (Str.ofString "__len__")) (special_fn X I hs (beq_iff_eq.mp hf) (wpAny_mono h (fun r s' hr => ?_) fun _ _ y => y))
  obtain ⟨n, t, rfl, h0, h1, q⟩ := hr
  refine wpAny_bind (wpAny_holding (wpAny_pure ?_))
  refine wpAny_bind (wpAny_letGo ?_)
  show wpAny _ _ (if n < 0 then _ else _) _ _ _
  rw [if_neg (by omega)]
  show wpAny _ _ (if n ≥ 2 ^ 63 then _ else _) _ _ _
  rw [if_neg (by omega)]
  exact wpAny_bind (wpAny_mkInt (wpAny_pure ⟨_, rfl, q _ _⟩))
theorem cmp_eq {b tb : Value} {Q : Value → Shared → Prop} (hu : A.units < cLine) (X : K.In s.heap) (I : InstAt s.heap x ox C od) (hb : Looks (model prog w) s.heap (typeOf b) tb) (hn : notFirst K C tb = true)
    (one : wpAny (model prog w) A (tryCompare (.ref x) "__eq__" b) (fun r s' => ∃ v, r = some v ∧ Q v s') E s) : wpAny (model prog w) A (richCompare .Eq (.ref x) b) Q E s := by
  unfold richCompare
  simp only [oneThing_ref]
  refine wpAny_holding (wpAny_bind (wpAny_cRoomFor hu ?_))
  refine wpAny_bind (I.type.here (wpAny_bind (hb.here ?_)))
  split
  · rename_i q
    have e : subIn K tb (.ref C) = some false := by
      rcases Bool.or_eq_true_iff.mp hn with e | e
      · rw [beq_iff_eq.mp e] at q; simp at q
      · exact beq_iff_eq.mp e
    refine wpAny_bind ((looks_subIn X e).here ?_)
    simp only [Bool.false_eq_true, if_false]
    refine wpAny_bind (wpAny_mono one (fun r s' z => ?_) fun _ _ e => e)
    obtain ⟨v, rfl, hq⟩ := z
    exact wpAny_pure hq
  · refine wpAny_bind (wpAny_pure ?_)
    simp only [Bool.false_eq_true, if_false]
    refine wpAny_bind (wpAny_mono one (fun r s' z => ?_) fun _ _ e => e)
    obtain ⟨v, rfl, hq⟩ := z
    exact wpAny_pure hq
theorem try_ownE {nm : Str} {b : Value} {Q : Value → Shared → Prop} (X : K.In s.heap) (I : InstAt s.heap x ox C od) (hs : findIn K (.ref C) nm = some (some (.ref f))) (hf : isFn K (.ref f) = true) (h : wpAny (model prog w) A (call (.ref f) [.ref x, b]) (PySem.W.CmpBack Q) E s) :
    wpAny (model prog w) A (tryCompare (.ref x) nm b) (fun r s' => ∃ v, r = some v ∧ Q v s') E s := by
  unfold tryCompare
  refine wpAny_bind (ifBound_K X I hs hf (wpAny_mono h (fun v s' hv => ?_) fun _ _ e => e))
  cases v <;> first | exact hv.elim | exact wpAny_pure ⟨_, rfl, hv⟩
end
end Lw.Ow
namespace Lw
open PySem PySem.Spec PyProof.Rows L2 LamX
section
variable {X : Cx} {C f : Addr} {k j : Nat} {sp : Sp} {E : XK} {pins : List (Addr × Obj)} {σ : L2.St} {H : Hp} {s : Shared}
/-- x == y by the own == of both -/
def rER (C : Addr) (sp : Sp) (E : XK) : R2 := fun x y H Q => ∃ a dx fs b dy gs, x = .ref a ∧ H a = some (.ins C dx fs) ∧ y = .ref b ∧ H b = some (.ins C dy gs) ∧ sp [x, y] H Q E
theorem op_eqR (M : MetX X.prog X.w X.K X.mg X.base k C "__eq__" sp) (hx : Passes (L2.CX X.prog X.w) X E) (hr : Room j X.A) (hk : k ≤ j) : OpR X (compareOp .Eq) (rER C sp E) := by
  intro pins s σ H x y v u Q I rx ry h
  obtain ⟨a, dx, fs, b, dy, gs, rfl, ha, rfl, hb, q⟩ := h
  cases (show v = Value.ref a from rx)
  cases (show u = Value.ref b from ry)
  obtain ⟨_, _, J⟩ := ins_at I ha
  obtain ⟨_, _, J'⟩ := ins_at I hb
  obtain ⟨g, hm, w, _⟩ := run_met (us := [.ref a, .ref b]) (vs := [.ref a, .ref b]) M hx hr hk I (.cons rfl (.cons rfl .nil)) q
  exact Ow.cmp_eq hr.units0 I.kIn J J'.type (by simp [PySem.W.notFirst]) (Ow.try_ownE I.kIn J hm.at_ hm.fn w)
/-- len(x) by the own __len__ -/
def rLenOwn (C : Addr) (sp : Sp) (E : XK) : List V → Hp → VK → Prop := fun xs H Q => ∃ a dx fs, xs = [V.ref a] ∧ H a = some (.ins C dx fs) ∧ sp [.ref a] H (fun z H' => ∃ n : Int, z = .int n ∧ 0 ≤ n ∧ n < 2 ^ 63 ∧ Q z H') E
theorem call_lenOwn (M : MetX X.prog X.w X.K X.mg X.base k C "__len__" sp) (hx : Passes (L2.CX X.prog X.w) X E) (hr : Room j X.A) (hk : k + 1 ≤ j) : CallR X (.builtin "len") (rLenOwn C sp E) := by
  intro pins s σ H xs us Q I r h
  obtain ⟨a, dx, fs, rfl, ha, q⟩ := h
  obtain ⟨u, rfl, ru⟩ := r.one
  cases (show u = Value.ref a from ru)
  obtain ⟨_, _, J⟩ := ins_at I ha
  have hr1 : Room k X.A.in1 := Room.in1 (hr.mono hk)
  obtain ⟨g, hm, w⟩ := run_metA (us := [.ref a]) (vs := [.ref a]) M hx hr1 I.env0.in1 I (.cons rfl .nil) q
  refine Ow.len_own I.kIn J hm.at_ hm.fn (wpAny_mono w (fun v s' z => ?_) fun _ _ x => x)
  obtain ⟨z', H', I', rz, n, rfl, h0, h1, qz⟩ := z
  obtain ⟨t, rfl⟩ := rz
  exact ⟨n, t, rfl, h0, h1, fun t' tk => ⟨.int n, H', I'.tok tk, ⟨t', rfl⟩, qz⟩⟩
end
/-! ### a static method by keywords -/
section
variable {X : Cx} {CX : CXT} {C p g : Addr} {k : Nat} {fd : FuncData} {ps ks : List Str} {sp : Sp} {E : XK} {o : Expr} {kws : List Keyword} {m : Str} {pos apos : Pos} {ta : TE} {tkw : TA} {gU : List Value → List Value → List Value} {gV : List V → List V → List V} {pl : Sem Bool}
theorem pe_staticK (he : PE X o ta) (c : SMet X.K C m p g) (F : FnOk X.prog X.w X.K X.mg X.base CX k g fd ps sp) (hr : Room k X.A) (hb : KBn X.K fd ps 0 ks gU gV) (hx : Passes CX X E) (hkw : PK X kws tkw)
    (hall : (backToKw pos (keywordEach kws X.env)).all (·.1.isSome) = true := by rfl) (hks : (backToKw pos (keywordEach kws X.env)).filterMap (·.1) = ks := by rfl)
    (hpl : ((backTo pos (starEach [] X.env)).any (·.1) || (backToKw pos (keywordEach kws X.env)).any (·.1.isNone)) = false := by rfl)
    (ht : eval (.Call (.Attribute o m apos) [] kws pos) X.env = (do
      let ov ← eval o X.env
      standAt apos.atName
      let (f, first) ← holding [ov] (getMethod ov m pl)
      callWith pos f first (backTo pos (starEach [] X.env)) (backToKw pos (keywordEach kws X.env))) := by rfl) :
    PE X (.Call (.Attribute o m apos) [] kws pos) (fun σ H Q => ta σ H fun x H1 => x = .ref C ∧ tkw σ H1 fun zs H2 => zs.length = ks.length ∧ sp (gV [] zs) H2 Q E) := by
  refine ⟨fun pins s σ H Q I h => ?_⟩
  refine PySem.W.methodCall_KW (pl := pl) (thn (he.run pins s σ H _ I h) fun u s1 ⟨x, H1, I1, rx, ex, q⟩ => ?_) ht
  subst ex
  obtain rfl : u = Value.ref C := rx
  obtain ⟨mc, h1, h2, h3⟩ := c.mc
  obtain ⟨rest, h4⟩ := c.rc
  obtain ⟨fm, hF⟩ := I1.fr
  refine PySem.W.method_cls I1.kIn c.ga (PySem.W.cls_sm hF I1.ok.mod.kin h1 h2 h3 h4 rfl ?_)
  have I2 : Inv X pins σ H1 { s1 with toks := s1.toks + 1 } := I1.tok _
  refine PySem.W.callWith_KW0 (h₀ := X.base) I2.ok.mod.kin c.kp hall ?_ hpl
  refine thn (hkw.run pos pins _ σ H1 _ I2 q) fun ws s2 ⟨zs, H2, I3, rz, l2, q2⟩ => ⟨I3.kIn, ?_⟩
  rw [hks]
  exact run_fnN (us := []) (vs := []) F hr hb hx I3 .nil rz rfl l2 q2
end

end Lw
namespace Lw.Ow
open PySem PySem.Spec PyProof.Rows PySem.W PySem.Calls

/-! ### the two halves of an operator, any built-in type beside -/
section
variable {prog : Program} {w : World} {A : Around} {E : Value → Shared → Prop} {s : Shared} {K : Frag} {x C f g : Addr} {ox : Obj} {od : Option Obj}
theorem half_bare {nm : String} {a : Value} {T : String} {Q : Value → Shared → Prop} (X : K.In s.heap) (I : InstAt s.heap x ox C od) (ht : Looks (model prog w) s.heap (typeOf a) (.type T)) (hc : selfFirst K C = true) (hs : findIn K (.ref C) (PySem.dunder nm) = some (some (.ref f))) (hr : findIn K (.ref C) (dunderR nm) = some (some (.ref g)))
    (hg : isFn K (.ref g) = true) (hL : fillsNumberSlot (.type T) nm = pure false) (h : wpAny (model prog w) A (call (.ref g) [.ref x, a]) (PySem.W.CmpBack Q) E s) : wpAny (model prog w) A (binaryOp1 nm a (.ref x)) (Told Q) E s := by
  obtain ⟨cd, rest, hcd, hm⟩ := ksp_first hc
  have one := ksp_try X I hr hg h
  obtain ⟨hh, gg, d, tt, os⟩ := s
  have L2 : Looks (model prog w) hh (typeOf (.ref x)) (.ref C) := I.type
  have L3 : Looks (model prog w) hh (fillsNumberSlot (.ref C) nm) true := fills_K X hcd hm hs
  have hne : (Value.type T == Value.ref C) = false := Bool.eq_false_iff.mpr fun q => by cases beq_iff_eq.mp q
  unfold binaryOp1
  refine wpAny_bind (ht.at (wpAny_bind (L2.at (wpAny_bind (wpAny_of_eq hL ?_)))))
  simp only [hne, Bool.false_eq_true, if_false]
  refine wpAny_bind (L3.at ?_)
  simp only [Bool.false_and, Bool.false_eq_true, if_false, pure_bind, Bool.not_false, Bool.and_true, if_true]
  refine wpAny_bind (wpAny_mono one (fun r s' hr' => ?_) fun _ _ e => e)
  obtain ⟨v, rfl, hq⟩ := hr'
  exact wpAny_bind (wpAny_rule (wpAny_pure ⟨v, rfl, hq⟩))
theorem op_half {op : Operator} {a b : Value} {Q : Value → Shared → Prop} (h : wpAny (model prog w) A (binaryOp1 op.info.2 a b) (Told Q) E s) : wpAny (model prog w) A (binaryOp op a b) Q E s := by
  rcases hi : op.info with ⟨sym, nm⟩
  rw [hi] at h
  dsimp only at h
  simp only [binaryOp, hi]
  refine wpAny_holding (wpAny_bind (wpAny_mono h (fun r s' z => ?_) fun _ _ e => e))
  obtain ⟨v, rfl, hq⟩ := z
  exact wpAny_pure hq
theorem inplace_bare {op : Operator} {a b : Value} {T : String} {Q : Value → Shared → Prop} (ht : Looks (model prog w) s.heap (typeOf a) (.type T)) (hI : fillsInplaceSlot (.type T) op.info.2 (op == .Add) = pure false) (h : wpAny (model prog w) A (binaryOp1 op.info.2 a b) (Told Q) E s) : wpAny (model prog w) A (inplaceOp op a b) Q E s := by
  unfold inplaceOp
  refine wpAny_holding ?_
  refine wpAny_bind (ht.here (wpAny_bind (wpAny_of_eq hI ?_)))
  simp only [Bool.false_eq_true, if_false, pure_bind]
  refine wpAny_bind (wpAny_mono h (fun r s' z => ?_) fun _ _ e => e)
  obtain ⟨v, rfl, hq⟩ := z
  exact wpAny_pure hq
theorem binary_noB {nm : String} {f : Int → Int → Sem Fin} {b : Bool} {x : Addr} {o : Obj} {Q : Value → Shared → Prop} (ho : s.heap.get? x = some o) (hp : o.data = .plain) (h : Q .notImplemented s) :
    wpAny (model prog w) A (Builtin.Int.intBinary nm f false ⟨[.bool b, .ref x], []⟩) (fun fin s' => ∃ v, fin = .done (.ret v) ∧ Q v s') E s := by
  unfold Builtin.Int.intBinary
  refine wpAny_bind (wpAny_of_eq (a := (Value.bool b, [Value.ref x])) rfl ?_)
  refine wpAny_bind (wpAny_of_eq (a := (if b = true then (1 : Int) else 0)) (by cases b <;> rfl) ?_)
  refine wpAny_bind ?_
  show wpAny _ _ (load x >>= fun ob => match ob.data with | .prim (.int i _) => pure (some i) | _ => pure none) _ _ _
  refine wpAny_bind (wpAny_load ho ?_)
  rw [hp]
  exact wpAny_pure (wpAny_bind (wpAny_rule (wpAny_pure ⟨_, rfl, h⟩)))
theorem slot_bool_add : Slot "bool" (PySem.dunder "add") "int.__add__" :=
  .of (owner := "int") (n := "__add__") (by rw [typeLookup_type, builtinLookup_eq_fast]; kernel_rfl) (by decide +kernel) (by decide +kernel) (by decide +kernel)
    (by first | exact .inl (by decide +kernel) | exact .inr (by decide +kernel)) (by rw [isSubtype_type]; kernel_rfl)
theorem slot_bool_sub : Slot "bool" (PySem.dunder "sub") "int.__sub__" :=
  .of (owner := "int") (n := "__sub__") (by rw [typeLookup_type, builtinLookup_eq_fast]; kernel_rfl) (by decide +kernel) (by decide +kernel) (by decide +kernel)
    (by first | exact .inl (by decide +kernel) | exact .inr (by decide +kernel)) (by rw [isSubtype_type]; kernel_rfl)
theorem slot_bool_mul : Slot "bool" (PySem.dunder "mul") "int.__mul__" :=
  .of (owner := "int") (n := "__mul__") (by rw [typeLookup_type, builtinLookup_eq_fast]; kernel_rfl) (by decide +kernel) (by decide +kernel) (by decide +kernel)
    (by first | exact .inl (by decide +kernel) | exact .inr (by decide +kernel)) (by rw [isSubtype_type]; kernel_rfl)
theorem noB_add {b : Bool} {x : Addr} {o : Obj} {Q : Value → Shared → Prop} (ho : s.heap.get? x = some o) (hp : o.data = .plain) (h : Q .notImplemented s) : wpAny (model prog w) A (call (.builtin "int.__add__") [.bool b, .ref x]) Q E s :=
  wpAny_call_entry slot_bool_add rfl F.entry_int_add (binary_noB ho hp h) (F.args_int_add_2 _ _)
theorem noB_sub {b : Bool} {x : Addr} {o : Obj} {Q : Value → Shared → Prop} (ho : s.heap.get? x = some o) (hp : o.data = .plain) (h : Q .notImplemented s) : wpAny (model prog w) A (call (.builtin "int.__sub__") [.bool b, .ref x]) Q E s :=
  wpAny_call_entry slot_bool_sub rfl F.entry_int_sub (binary_noB ho hp h) (F.args_int_sub_2 _ _)
theorem noB_mul {b : Bool} {x : Addr} {o : Obj} {Q : Value → Shared → Prop} (ho : s.heap.get? x = some o) (hp : o.data = .plain) (h : Q .notImplemented s) : wpAny (model prog w) A (call (.builtin "int.__mul__") [.bool b, .ref x]) Q E s :=
  wpAny_call_entry slot_bool_mul rfl F.entry_int_mul (binary_noB ho hp h) (F.args_int_mul_2 _ _)
end
/-! ### what the table of built-in types tells -/
def BTs : List String := ["int", "bool", "NoneType", "str", "tuple", "list", "dict"]
def Bares : List String := ["NoneType", "str", "tuple", "list", "dict"]
def Nms : List String := ["add", "sub", "mul"]
theorem bt_find {T nm : String} (h : T ∈ BTs) (h2 : nm ∈ Nms) : (∃ fo, fastLookup T (PySem.dunder nm) = some fo) ∧ ∃ ro, fastLookup T (dunderR nm) = some ro := by
  have all : (BTs.all fun T => Nms.all fun nm => (fastLookup T (PySem.dunder nm)).isSome && (fastLookup T (dunderR nm)).isSome) = true := by decide +kernel
  have z := List.all_eq_true.mp (List.all_eq_true.mp all T h) nm h2
  rw [Bool.and_eq_true] at z
  exact ⟨Option.isSome_iff_exists.mp z.1, Option.isSome_iff_exists.mp z.2⟩
theorem bt_sub {K : Frag} {C : Addr} {T : String} (h : T ∈ BTs) : subIn K (.type T) (.ref C) = some false := by
  simp only [BTs, List.mem_cons, List.not_mem_nil, or_false] at h
  rcases h with rfl | rfl | rfl | rfl | rfl | rfl | rfl <;> kernel_rfl
theorem bt_bare {T nm : String} (h : T ∈ Bares) (h2 : nm ∈ Nms) : fillsNumberSlot (.type T) nm = pure false := by
  simp only [Bares, List.mem_cons, List.not_mem_nil, or_false] at h
  simp only [Nms, List.mem_cons, List.not_mem_nil, or_false] at h2
  rcases h with rfl | rfl | rfl | rfl | rfl <;> rcases h2 with rfl | rfl | rfl <;>
  · simp only [fillsNumberSlot, typeLookup_type, builtinLookup_eq_fast]
    kernel_rfl
theorem bt_number {T nm : String} (h : T = "int" ∨ T = "bool") (h2 : nm ∈ Nms) : fillsNumberSlot (.type T) nm = pure true := by
  simp only [Nms, List.mem_cons, List.not_mem_nil, or_false] at h2
  rcases h with rfl | rfl <;> rcases h2 with rfl | rfl | rfl <;>
  · simp only [fillsNumberSlot, typeLookup_type, builtinLookup_eq_fast]
    kernel_rfl
end Lw.Ow
namespace Lw
open PySem PySem.Spec PyProof.Rows L2
end Lw
namespace Lw
open PySem PySem.Spec PyProof.Rows L2

/-- half an operator's reading: what binaryOp1 tells -/
def HalfR (X : Cx) (nm : String) (r : R2) : Prop := ∀ (pins : List (Addr × Obj)) (s : Shared) (σ : L2.St) (H : Hp) (x y : V) (v u : Value) (Q : VK), Inv X pins σ H s → RelV x v → RelV y u → r x y H Q →
  wpAny (model X.prog X.w) X.A (binaryOp1 nm v u) (Ow.Told (EP X pins σ Q)) X.xe s
/-- a value of a built-in type that an own operator may stand beside -/
inductive Bt (K : PySem.W.Frag) (H : Hp) : V → String → Prop where
  | int (i : Int) : Bt K H (.int i) "int"
  | bl (b : Bool) : Bt K H (.bl b) "bool"
  | bare {x : V} {T : String} (h : TyX K H x (.type T)) (hT : T ∈ Ow.Bares) : Bt K H x T
theorem Bt.tyx {K : PySem.W.Frag} {H : Hp} {x : V} {T : String} (h : Bt K H x T) : TyX K H x (.type T) ∧ T ∈ Ow.BTs := by
  cases h with
  | int i => exact ⟨.base (.int i), by decide⟩
  | bl b => exact ⟨.base (.bl b), by decide⟩
  | bare h hT => exact ⟨h, by unfold Ow.Bares at hT; unfold Ow.BTs; simp only [List.mem_cons, List.not_mem_nil, or_false] at hT ⊢; rcases hT with h | h | h | h | h <;> simp [h]⟩
theorem Bt.same {K : PySem.W.Frag} {H H' : Hp} {x : V} {T : String} (s : Same H H') (h : Bt K H x T) : Bt K H' x T := by
  cases h with
  | int i => exact .int i
  | bl b => exact .bl b
  | bare h hT => exact .bare (Lw.TyX.same s h) hT
section
variable {X : Cx} {C f : Addr} {k j : Nat} {sp : Sp} {E : XK} {pins : List (Addr × Obj)} {σ : L2.St} {H : Hp} {s : Shared} {nm : String} {r r1 r2 : R2}
theorem Bt.looks {x : V} {T : String} {u : Value} (I : Inv X pins σ H s) (rx : RelV x u) (h : Bt X.K H x T) : PySem.W.Looks (model X.prog X.w) s.heap (typeOf u) (.type T) := by
  obtain ⟨W, Z, p, _⟩ := kit_of I rx h.tyx.1
  exact Z.ty _ _ I.kIn p
theorem half_or (h1 : HalfR X nm r1) (h2 : HalfR X nm r2) : HalfR X nm (fun x y H Q => r1 x y H Q ∨ r2 x y H Q) := fun pins s σ H x y v u Q I rx ry h => h.elim (h1 pins s σ H x y v u Q I rx ry) (h2 pins s σ H x y v u Q I rx ry)
theorem half_imp {r' : R2} (h : HalfR X nm r) (g : ∀ x y H Q, r' x y H Q → r x y H Q) : HalfR X nm r' := fun pins s σ H x y v u Q I rx ry z => h pins s σ H x y v u Q I rx ry (g _ _ _ _ z)
theorem op_of {op : Operator} (h : HalfR X op.info.2 r) : OpR X (binaryOp op) r := fun pins s σ H x y v u Q I rx ry z => Ow.op_half (h pins s σ H x y v u Q I rx ry z)
/-- what op= asks of the value on the left -/
inductive LeftNo (C : Addr) (H : Hp) : V → Prop where
  | own {a dx : Addr} {fs : List (Str × V)} (h : H a = some (.ins C dx fs)) : LeftNo C H (.ref a)
  | int (i : Int) : LeftNo C H (.int i)
theorem iop_of {op : Operator} (h : HalfR X op.info.2 r) (ni : NoInplace X.K C op) (hI : fillsInplaceSlot (.type "int") op.info.2 (op == .Add) = pure false) : OpR X (inplaceOp op) (fun x y H Q => LeftNo C H x ∧ r x y H Q) := by
  intro pins s σ H x y v u Q I rx ry z
  have w := h pins s σ H x y v u Q I rx ry z.2
  cases z.1 with
  | own ha =>
    cases (show v = Value.ref _ from rx)
    obtain ⟨_, _, J⟩ := ins_at I ha
    obtain ⟨cd, h1, h2⟩ := ni.mro
    exact Ow.inplace_of I.kIn J h1 h2 ni.own ni.obj w
  | int i =>
    obtain ⟨t, rfl⟩ := (show ∃ t, v = Value.int i t from rx)
    exact Ow.inplace_bare (PySem.W.Looks.of_pure rfl) hI w
def rOwn (C : Addr) (sp : Sp) (E : XK) : R2 := fun x y H Q => ∃ a dx fs b dy gs, x = .ref a ∧ y = .ref b ∧ H a = some (.ins C dx fs) ∧ H b = some (.ins C dy gs) ∧ sp [x, y] H Q E
theorem half_own (M : MetX X.prog X.w X.K X.mg X.base k C (PySem.dunder nm) sp) (hx : Passes (L2.CX X.prog X.w) X E) (hc : PySem.W.selfFirst X.K C = true) (hr : Room j X.A) (hk : k ≤ j) : HalfR X nm (rOwn C sp E) := by
  intro pins s σ H x y v u Q I rx ry h
  obtain ⟨a, dx, fs, b, dy, gs, rfl, rfl, ha, hb, q⟩ := h
  cases (show v = Value.ref a from rx)
  cases (show u = Value.ref b from ry)
  obtain ⟨_, _, J⟩ := ins_at I ha
  obtain ⟨_, _, J'⟩ := ins_at I hb
  obtain ⟨g, hm, w, _⟩ := run_met (us := [.ref a, .ref b]) (vs := [.ref a, .ref b]) M hx hr hk I (.cons rfl (.cons rfl .nil)) q
  exact Ow.half_same I.kIn J J'.type hc hm.at_ hm.fn w
def rLeft (K : PySem.W.Frag) (C : Addr) (sp : Sp) (E : XK) : R2 := fun x y H Q => ∃ a dx fs T, x = .ref a ∧ H a = some (.ins C dx fs) ∧ Bt K H y T ∧ sp [x, y] H Q E
theorem half_lft (M : MetX X.prog X.w X.K X.mg X.base k C (PySem.dunder nm) sp) (hx : Passes (L2.CX X.prog X.w) X E) (hc : PySem.W.selfFirst X.K C = true) (hb : ∃ g : Addr, PySem.W.findIn X.K (.ref C) (dunderR nm) = some (some (.ref g))) (hn : nm ∈ Ow.Nms) (hr : Room j X.A) (hk : k ≤ j) : HalfR X nm (rLeft X.K C sp E) := by
  intro pins s σ H x y v u Q I rx ry h
  obtain ⟨a, dx, fs, T, rfl, ha, hT, q⟩ := h
  cases (show v = Value.ref a from rx)
  obtain ⟨_, _, J⟩ := ins_at I ha
  obtain ⟨g, hm, w, _⟩ := run_met (us := [.ref a, u]) (vs := [.ref a, y]) M hx hr hk I (.cons rfl (.cons ry .nil)) q
  obtain ⟨g2, h2⟩ := hb
  have hB := hT.tyx.2
  obtain ⟨⟨fo, h3⟩, ⟨ro, h4⟩⟩ := Ow.bt_find hB hn
  exact Ow.half_left I.kIn J (hT.looks I ry) hc hm.at_ hm.fn h2 (.inr ⟨g2, rfl⟩) h3 h4 (Ow.bt_sub hB) w
def rRght (K : PySem.W.Frag) (C : Addr) (sp : Sp) (E : XK) : R2 := fun x y H Q => ∃ a dx fs T, y = .ref a ∧ H a = some (.ins C dx fs) ∧ Bt K H x T ∧ sp [y, x] H Q E
/-- the int's own methods have no answer -/
structure NoNum (nm : String) : Prop where
  i : ∃ id, Slot "int" (PySem.dunder nm) id ∧ ∀ {prog : Program} {w : World} {A : Around} {E : Value → Shared → Prop} {s : Shared} {i : Int} {t : Tok} {x : Addr} {o : Obj} {Q' : Value → Shared → Prop}, s.heap.get? x = some o → o.data = .plain → Q' .notImplemented s → wpAny (model prog w) A (call (.builtin id) [.int i t, .ref x]) Q' E s
  b : ∃ id, Slot "bool" (PySem.dunder nm) id ∧ ∀ {prog : Program} {w : World} {A : Around} {E : Value → Shared → Prop} {s : Shared} {i : Bool} {x : Addr} {o : Obj} {Q' : Value → Shared → Prop}, s.heap.get? x = some o → o.data = .plain → Q' .notImplemented s → wpAny (model prog w) A (call (.builtin id) [.bool i, .ref x]) Q' E s
theorem nn_add : NoNum "add" := ⟨⟨_, F.slot_int_add, fun h1 h2 q => Ow.no_add h1 h2 q⟩, ⟨_, Ow.slot_bool_add, fun h1 h2 q => Ow.noB_add h1 h2 q⟩⟩
theorem nn_sub : NoNum "sub" := ⟨⟨_, F.slot_int_sub, fun h1 h2 q => Ow.no_sub h1 h2 q⟩, ⟨_, Ow.slot_bool_sub, fun h1 h2 q => Ow.noB_sub h1 h2 q⟩⟩
theorem nn_mul : NoNum "mul" := ⟨⟨_, F.slot_int_mul, fun h1 h2 q => Ow.no_mul h1 h2 q⟩, ⟨_, Ow.slot_bool_mul, fun h1 h2 q => Ow.noB_mul h1 h2 q⟩⟩
theorem half_rgt (M : MetX X.prog X.w X.K X.mg X.base k C (dunderR nm) sp) (hx : Passes (L2.CX X.prog X.w) X E) (hc : PySem.W.selfFirst X.K C = true) (hf : ∃ g : Addr, PySem.W.findIn X.K (.ref C) (PySem.dunder nm) = some (some (.ref g))) (hn : nm ∈ Ow.Nms) (nn : NoNum nm) (hs1 : PySem.W.subIn X.K (.ref C) (.type "int") = some false) (hs2 : PySem.W.subIn X.K (.ref C) (.type "bool") = some false)
    (hr : Room j X.A) (hk : k ≤ j) : HalfR X nm (rRght X.K C sp E) := by
  intro pins s σ H x y v u Q I rx ry h
  obtain ⟨a, dx, fs, T, rfl, ha, hT, q⟩ := h
  cases (show u = Value.ref a from ry)
  obtain ⟨ox, od, J, h1, h2⟩ := ins_plain I ha
  obtain ⟨g, hm, w, _⟩ := run_met (us := [.ref a, v]) (vs := [.ref a, x]) M hx hr hk I (.cons rfl (.cons rx .nil)) q
  obtain ⟨g2, hs⟩ := hf
  have look := hT.looks I rx
  cases hT with
  | int i =>
    obtain ⟨t, rfl⟩ := (show ∃ t, v = Value.int i t from rx)
    obtain ⟨id, sl, hd⟩ := nn.i
    exact Ow.half_number I.kIn J rfl (typeIs_int s i t) hc hs hm.at_ hm.fn (Ow.bt_number (.inl rfl) hn) hs1 sl (fun Q' z => hd h1 h2 z) w
  | bl b =>
    cases (show v = Value.bool b from rx)
    obtain ⟨id, sl, hd⟩ := nn.b
    exact Ow.half_number I.kIn J rfl rfl hc hs hm.at_ hm.fn (Ow.bt_number (.inr rfl) hn) hs2 sl (fun Q' z => hd h1 h2 z) w
  | bare h hB => exact Ow.half_bare I.kIn J look hc hs hm.at_ hm.fn (Ow.bt_bare hB hn) w
end
end Lw
namespace Lw
open PySem PySem.Spec PyProof.Rows L2
end Lw
/-! ### dicts merged into dicts; keywords by ** and **keywords -/
namespace Lw.Md
open PySem PySem.Spec PySem.Calls PyProof.Rows PySem.W L2
section
variable {prog : Program} {w : World} {A : Around} {E : Value → Shared → Prop} {s : Shared}
abbrev Dk (prog : Program) (w : World) (h : Heap) (d : Addr) (xs : List (Key × Value)) : Prop := h.DictOf (mixKind prog w) d xs
theorem arr_idx {α : Type} (es : Array α) (p : α → Bool) : es.toList.findIdx? p = es.findIdx? p := by
  obtain ⟨l⟩ := es
  simp
/-- a pair put whose hash is told -/
theorem put_of {d : Addr} {xs : List (Key × Value)} {k : Key} {u v : Value} {Q : Unit → Shared → Prop} (hu : (mixKind prog w).is k u = true) (M : Dk prog w s.heap d xs) (l : xs.length ≤ sizeLine)
    (q : ∀ g, Dk prog w g d (stored xs k v) → Heap.SameBut d s.heap g → Q () { s with heap := g }) : wpAny (model prog w) A (dictPut d ((mixKind prog w).hash k) u v) Q E s := by
  obtain ⟨ob, es, n, e1, e2, e3, e4, e5, e6⟩ := M
  have ln : es.size = xs.length := by rw [← e5.length, Array.length_toList]
  have ix : (es.findIdx? fun z => (mixKind prog w).is k z.key) = xs.findIdx? fun z => decide (z.1 = k) := by rw [← e5.findIdx k, arr_idx]
  unfold dictPut
  refine wpAny_bind (wpAny_dictFind_of hu e1 e3 e4 ?_)
  rw [ix]
  cases c : xs.findIdx? fun z => decide (z.1 = k) with
  | some i =>
    have yes : stored xs k v = xs.map fun z => if z.1 = k then (z.1, v) else z := if_pos (any_of_findIdx_some c)
    rw [yes] at q
    have pr := e5.modify e6 (by rw [arr_idx, ix, c]) v
    refine wpAny_updateDict e1 e3 (q _ ⟨_, _, n, Heap.get?_update_self _ e1 (Obj.isFreed_of_dict (Obj.data_mapDict e3 _)), e2.mapDict _, Obj.data_mapDict e3 _, e4.modify _ _, ?_, by rw [keys_map_store]; exact e6⟩ (Heap.SameBut.update ..))
    rw [Array.toList_modify]
    exact pr
  | none =>
    have out : k ∉ xs.map (·.1) := not_mem_of_findIdx_none c
    have no : stored xs k v = xs ++ [(k, v)] := if_neg fun z => by
      obtain ⟨y, y1, y2⟩ := List.any_eq_true.mp z
      exact out (List.mem_map.mpr ⟨y, y1, of_decide_eq_true y2⟩)
    rw [no] at q
    refine wpAny_updateDictKeys (hz := ln ▸ l) e1 e3 (q _ ⟨_, _, n + 1, Heap.get?_update_self _ e1 (Obj.isFreed_of_dict (Obj.data_mapDictKeys e3 _)), e2.mapDictKeys _, Obj.data_mapDictKeys e3 _, e4.push hu _, ?_, ?_⟩ (Heap.SameBut.update ..))
    · rw [Array.toList_push]
      exact e5.append hu _ v
    · rw [List.map_append, List.map_singleton]
      exact List.nodup_append.mpr ⟨e6, by simp, fun a ha b hb e => out (by have z := List.mem_singleton.mp hb; rw [z] at e; have e' : a = k := e; rw [← e']; exact ha)⟩
theorem mem_merged {k : Key} : ∀ {ys xs : List (Key × Value)}, k ∈ (merged xs ys).map (·.1) → k ∈ xs.map (·.1) ∨ k ∈ ys.map (·.1)
  | [], xs, h => .inl h
  | y :: r, xs, h => by
    have z : k ∈ (merged (stored xs y.1 y.2) r).map (·.1) := h
    rcases mem_merged z with z | z
    · unfold stored at z
      split at z
      · rw [keys_map_store] at z; exact .inl z
      · rw [List.map_append] at z
        rcases List.mem_append.mp z with z | z
        · exact .inl z
        · exact .inr (by rw [List.map_cons]; rw [List.map_singleton] at z; exact List.mem_cons.mpr (.inl (List.mem_singleton.mp z)))
    · exact .inr (List.mem_cons_of_mem _ z)
theorem take_out {ys : List (Key × Value)} (hn : (ys.map (·.1)).Nodup) {i : Nat} {y : Key × Value} (h : ys[i]? = some y) : y.1 ∉ (ys.take i).map (·.1) := by
  intro z
  obtain ⟨u, u1, u2⟩ := List.mem_map.mp z
  obtain ⟨j, j1⟩ := List.mem_iff_getElem?.mp u1
  rw [List.getElem?_take] at j1
  split at j1
  · rename_i ji
    have a1 : (ys.map (·.1))[j]? = some y.1 := by rw [List.getElem?_map, j1, ← u2]; rfl
    have a2 : (ys.map (·.1))[i]? = some y.1 := by rw [List.getElem?_map, h]; rfl
    obtain ⟨b1, c1⟩ := List.getElem?_eq_some_iff.mp a1
    obtain ⟨b2, c2⟩ := List.getElem?_eq_some_iff.mp a2
    exact List.pairwise_iff_getElem.mp hn j i b1 b2 ji (c1.trans c2.symm)
  · cases j1
/-- looks ahead of what is done either way -/
theorem pre_or {M : Model} {α β γ : Type} {c : Prop} [Decidable c] {p : Sem α} {g : α → Sem β} {t : Sem γ} {Q : γ → Shared → Prop} (h : c → wpAny M A p (fun x s' => ∃ y, (∀ R : β → Shared → Prop, (∀ z, R z s) → wpAny M A (g y) R E s) ∧ x = y ∧ s' = s) E s) (q : wpAny M A t Q E s) :
    wpAny M A (if c then p >>= fun x => g x >>= fun _ => t else t) Q E s := by
  split
  · rename_i hc
    refine wpAny_bind (wpAny_mono (h hc) (fun x s' hx => ?_) fun _ _ e => e)
    obtain ⟨y, hy, rfl, rfl⟩ := hx
    exact wpAny_bind (hy _ fun _ => q)
  · exact q
/-- what a merge of a dict into another one leaves; uni: where no key may stand twice, none of them stands there yet -/
theorem merge_of {d a : Addr} {xs ys : List (Key × Value)} {uni : Bool} {Q : Unit → Shared → Prop} (ne : d ≠ a) (ns : (a == sysModules) = false) (M : Dk prog w s.heap d xs) (N : Dk prog w s.heap a ys) (hu : uni = true → ∀ y ∈ ys, y.1 ∉ xs.map (·.1)) (l : xs.length + ys.length ≤ sizeLine)
    (q : ∀ g, Dk prog w g d (merged xs ys) → Dk prog w g a ys → Heap.SameBut d s.heap g → Q () { s with heap := g }) : wpAny (model prog w) A (mergeMapping d (.ref a) uni) Q E s := by
  obtain ⟨oa, fs, m, f1, f2, f3, f4, f5, f6⟩ := id N
  obtain ⟨od, es, n, e1, e2, e3, e4, e5, e6⟩ := id M
  have ln : fs.size = ys.length := by rw [← f5.length, Array.length_toList]
  have plain : ∀ z ∈ fs, (∃ i t, z.key = .int i t) ∨ ∃ x t, z.key = .str x t := fun z hz => by
    obtain ⟨k, k1, _⟩ := f4 z hz
    rcases keyIs_shape (show keyIs k z.key = true from k1) with ⟨i, t, _, e⟩ | ⟨x, t, _, e⟩
    · exact .inl ⟨i, t, e⟩
    · exact .inr ⟨x, t, e⟩
  unfold mergeMapping
  refine wpAny_bind (m := isInstance (.ref a) (.type "dict")) (wpAny_isInstance N.typeIs isSubtype_dict_dict ?_)
  rw [if_pos rfl]
  refine wpAny_bind (m := specialOf (.ref a) "__iter__") (wpAny_specialOf N.typeIs PySem.F.slot_dict_iter.lookup ?_)
  rw [beq_self_eq_true]
  refine wpAny_bind (wpAny_pure ?_)
  dsimp only
  rw [if_neg (show ¬ (a == sysModules) = true by rw [ns]; exact Bool.false_ne_true)]
  refine wpAny_bind (wpAny_dictEntries e1 e3 (pre_or (fun _ => wpAny_dictEntries f1 f3 ⟨fs, ?_, rfl, rfl⟩) ?_))
  · intro R hR
    rw [← Array.forIn_toList]
    refine wpAny_forIn_list _ (fun rest _ s' => s' = s ∧ ∀ z ∈ rest, z ∈ fs) _ ?_ ?_ _ _ ⟨rfl, fun z hz => Array.mem_toList_iff.mp hz⟩
    · rintro ⟨hh, kk, vv⟩ rest b s' ⟨rfl, hr⟩
      rcases plain _ (hr _ List.mem_cons_self) with ⟨i, t, e⟩ | ⟨x, t, e⟩
      · have e : kk = .int i t := e
        subst e
        exact wpAny_pure ⟨rfl, fun z hz => hr z (List.mem_cons_of_mem _ hz)⟩
      · have e : kk = .str x t := e
        subst e
        exact wpAny_pure ⟨rfl, fun z hz => hr z (List.mem_cons_of_mem _ hz)⟩
    · rintro b s' ⟨rfl, _⟩
      exact hR b
  · refine wpAny_bind (wpAny_dictEntries f1 f3 (wpAny_bind (wpAny_dictEpoch f1 f3 (wpAny_bind ?_))))
    rw [List.range_eq_range']
    refine wpAny_forIn_list _ (fun rest _ s' => ∃ g i, s' = { s with heap := g } ∧ rest = List.range' i (fs.size - i) ∧ i ≤ fs.size ∧ Dk prog w g d (merged xs (ys.take i)) ∧ g.get? a = some oa ∧ Heap.SameBut d s.heap g) _ ?_ ?_ _ _
      ⟨s.heap, 0, rfl, rfl, Nat.zero_le _, M, f1, Heap.SameBut.refl _ _⟩
    · rintro j rest b s' ⟨g, i, rfl, hr, hi, hd, ha, hs⟩
      have lt : i < fs.size := by
        apply Nat.lt_of_not_le
        intro z
        rw [Nat.sub_eq_zero_of_le z] at hr
        cases hr
      obtain ⟨rfl, rfl⟩ : j = i ∧ rest = List.range' (i + 1) (fs.size - (i + 1)) := by
        rw [show fs.size - i = fs.size - (i + 1) + 1 by omega, List.range'_succ] at hr
        exact List.cons.inj hr
      obtain ⟨y, hy⟩ : ∃ y, ys[j]? = some y := ⟨_, List.getElem?_eq_getElem (by rw [← ln]; exact lt)⟩
      obtain ⟨p1, p2⟩ := f5.get? (e := fs[j]) (by simp [lt]) hy
      obtain ⟨k', p3, p4⟩ := f4 fs[j] (Array.getElem_mem lt)
      obtain rfl : k' = y.1 := (mixKind prog w).inj _ _ _ p3 p1
      have room : (merged xs (ys.take j)).length ≤ sizeLine := by
        have z := merged_length_le xs (ys.take j)
        rw [List.length_take] at z
        omega
      have step : merged xs (ys.take (j + 1)) = stored (merged xs (ys.take j)) y.1 y.2 := merged_take_succ xs ys j y hy
      have put : wpAny (model prog w) A (dictPut d fs[j].hash fs[j].key fs[j].val) (fun _ s' => ∃ g', s' = { s with heap := g' } ∧ Dk prog w g' d (merged xs (ys.take (j + 1))) ∧ g'.get? a = some oa ∧ Heap.SameBut d s.heap g') E { s with heap := g } := by
        rw [p4, p2]
        exact put_of (s := { s with heap := g }) p1 hd room fun g' h1 h2 => ⟨g', rfl, by rw [step]; exact h1, (h2.2 a (Ne.symm ne)).trans ha, hs.trans h2⟩
      refine wpAny_bind (wpAny_dictEntries (s := { s with heap := g }) ha f3 ?_)
      rw [Array.getElem?_eq_getElem lt]
      refine wpAny_bind (wpAny_holding ?_)
      have both : ∀ {R : Unit → Shared → Prop}, (∀ g', Dk prog w g' d (merged xs (ys.take (j + 1))) → g'.get? a = some oa → Heap.SameBut d s.heap g' → R () { s with heap := g' }) → wpAny (model prog w) A (dictPut d fs[j].hash fs[j].key fs[j].val) R E { s with heap := g } := fun hR =>
        wpAny_mono put (fun _ s' ⟨g', e, h1, h2, h3⟩ => by rw [e]; exact hR g' h1 h2 h3) fun _ _ e => e
      cases uni with
      | false =>
        refine both fun g' h1 h2 h3 => ?_
        refine wpAny_bind (wpAny_dictEpoch (s := { s with heap := g' }) h2 f3 ?_)
        rw [if_neg (show ¬ (m != m) = true by simp)]
        exact wpAny_pure ⟨g', j + 1, rfl, rfl, lt, h1, h2, h3⟩
      | true =>
        obtain ⟨_, es', n', q1, q2, q3, q4, q5, q6⟩ := id hd
        have out : y.1 ∉ (merged xs (ys.take j)).map (·.1) := fun z => by
          rcases mem_merged z with z | z
          · exact hu rfl y (List.mem_of_getElem? hy) z
          · exact take_out f6 hy z
        have nofind : (es'.findIdx? fun z => (mixKind prog w).is y.1 z.key) = none := by
          rw [← arr_idx, q5.findIdx y.1, List.findIdx?_eq_none_iff]
          exact fun z hz => decide_eq_false fun e => out (List.mem_map.mpr ⟨z, hz, e⟩)
        have fnd : wpAny (model prog w) A (dictFind d fs[j].key fs[j].hash) (fun r s' => r = none ∧ s' = { s with heap := g }) E { s with heap := g } := by
          rw [p4]
          exact wpAny_dictFind_of (s := { s with heap := g }) p1 q1 q3 q4 (by rw [nofind]; exact ⟨rfl, rfl⟩)
        refine wpAny_bind (wpAny_mono fnd (fun r s' hr => ?_) fun _ _ e => e)
        obtain ⟨rfl, rfl⟩ := hr
        refine both fun g' h1 h2 h3 => ?_
        refine wpAny_bind (wpAny_dictEpoch (s := { s with heap := g' }) h2 f3 ?_)
        rw [if_neg (show ¬ (m != m) = true by simp)]
        exact wpAny_pure ⟨g', j + 1, rfl, rfl, lt, h1, h2, h3⟩
    · rintro b s' ⟨g, i, rfl, hr, hi, hd, ha, hs⟩
      have e : i = fs.size := by
        apply Nat.le_antisymm hi
        apply Nat.le_of_not_lt
        intro z
        rw [show fs.size - i = fs.size - (i + 1) + 1 by omega, List.range'_succ] at hr
        cases hr
      rw [e, ln, List.take_length] at hd
      exact wpAny_pure (q g hd ⟨oa, fs, m, ha, f2, f3, f4, f5, f6⟩ hs)
/-- the entries of a dict with texts as keys, as keywords -/
theorem kws_in {f : Value} {d : Addr} {kw : List (Str × Value)} {Q : List (Str × Value) → Shared → Prop} (M : Dk prog w s.heap d (kw.map fun p => (Sum.inr p.1, p.2))) (q : Q kw s) : wpAny (model prog w) A (keywordsIn f d) Q E s := by
  obtain ⟨ob, es, n, e1, e2, e3, e4, e5, e6⟩ := M
  unfold keywordsIn
  refine wpAny_bind (wpAny_dictEntries e1 e3 ?_)
  rw [← Array.forIn_toList]
  refine wpAny_bind (wpAny_forIn_list _ (fun rest acc s' => s' = s ∧ ∃ more, acc ++ more = kw ∧ Pairs (mixKind prog w) rest (more.map fun p => (Sum.inr p.1, p.2))) _ ?_ ?_ _ _ ⟨rfl, kw, List.nil_append _, e5⟩)
  · rintro z rest acc s' ⟨rfl, more, h1, h2⟩
    cases more with
    | nil => cases h2
    | cons p r =>
      obtain ⟨hh, kk, vv⟩ := z
      cases h2 with
      | cons y1 y2 y3 =>
        rcases keyIs_shape (show keyIs (Sum.inr p.1) kk = true from y1) with ⟨_, _, e, _⟩ | ⟨x, t, e, rfl⟩
        · cases e
        · cases (Sum.inr.inj e)
          have y2 : vv = p.2 := y2
          subst y2
          exact wpAny_pure ⟨rfl, r, by rw [List.append_assoc]; exact h1, y3⟩
  · rintro acc s' ⟨rfl, more, h1, h2⟩
    cases more with
    | nil => rw [List.append_nil] at h1; subst h1; exact wpAny_pure q
    | cons p r => cases h2
/-- f(**x): the keywords that the call hands on -/
theorem mkw_of {f : Value} {x : Sem Value} {Q : Addr → Shared → Prop} (h : wpAny (model prog w) A x (fun v s1 => ∃ a ys, v = .ref a ∧ (a == sysModules) = false ∧ s.heap.objs.size ≠ a ∧ Dk prog w s1.heap s.heap.objs.size [] ∧ Dk prog w s1.heap a ys ∧ ys.length ≤ sizeLine ∧
      ∀ g, Dk prog w g s.heap.objs.size ys → Heap.SameBut s.heap.objs.size s1.heap g → Q s.heap.objs.size { s1 with heap := g }) E { s with heap := s.heap.push { cls := .type "dict", data := .dict #[] } }) :
    wpAny (model prog w) A (mergedKeywords f [(none, x)]) Q E s := by
  unfold mergedKeywords
  refine wpAny_bind (wpAny_alloc (wpAny_bind (wpAny_holding ?_)))
  dsimp only
  rw [List.forIn_cons]
  refine wpAny_bind (wpAny_bind ?_)
  dsimp only
  rw [if_pos (show (List.nil : List (Str × Sem Value)).isEmpty = true from rfl)]
  refine wpAny_bind (wpAny_pure ?_)
  refine wpAny_bind (wpAny_mono h (fun v s1 hv => ?_) fun _ _ e => e)
  obtain ⟨a, ys, rfl, h1, h2, h3, h4, h5, hq⟩ := hv
  obtain ⟨_, fs, _, _, _, _, _, f5, _⟩ := id h4
  refine wpAny_bind (wpAny_onRaise (wpAny_holding (wpAny_tryCatch (wpAny_onRaise (merge_of h2 h1 h3 h4 (fun _ y _ z => by cases z) (by rw [List.length_nil]; omega) fun g g1 g2 g3 => ?_)))))
  refine wpAny_pure ?_
  dsimp only
  rw [List.forIn_nil]
  refine wpAny_pure ?_
  rw [if_pos (show (List.nil : List (Str × Sem Value)).isEmpty = true from rfl)]
  refine wpAny_pure (wpAny_pure ?_)
  rw [merged_nil_of_nodup ys (by obtain ⟨_, _, _, _, _, _, _, _, z⟩ := h4; exact z)] at g1
  exact hq g g1 g3
theorem forIn_kw {sl : List (Str × Value)} (f : Str × Value → List (Str × Value) × List (Str × Value) → Sem (ForInStep (List (Str × Value) × List (Str × Value)))) : ∀ (kw ex : List (Str × Value)), (∀ p ∈ kw, ∀ ex, f p (sl, ex) = pure (.yield (sl, ex ++ [p]))) →
    forIn kw (sl, ex) f = pure (sl, ex ++ kw)
  | [], ex, _ => by rw [List.forIn_nil, List.append_nil]
  | p :: r, ex, h => by
    have z := forIn_kw (sl := sl) f r (ex ++ [p]) fun q hq => h q (List.mem_cons_of_mem _ hq)
    rw [List.append_assoc] at z
    rw [List.forIn_cons, h p List.mem_cons_self ex, pure_bind]
    exact z
/-- the binding of a def with one name and **keywords -/
theorem bind_kw {fd : FuncData} {u : Value} {kw : List (Str × Value)} {nm : Str} {ar : Arg} (h1 : fd.params.posonlyargs = []) (h2 : fd.params.args.map (·.arg) = [nm]) (h3 : fd.params.kwonlyargs = []) (h4 : fd.params.vararg = none) (h5 : fd.params.kwarg = some ar) (h6 : fd.defaults = .none)
    (hk : ∀ p ∈ kw, p.1 ≠ nm) (hz : kw.length ≤ sizeLine + 1) :
    bindArgs fd ⟨[u], kw⟩ = (do
      let d ← alloc { cls := .type "dict", data := .dict #[] }
      let _ ← forIn kw PUnit.unit fun p _ => (do nsSet d p.1 p.2; pure (ForInStep.yield PUnit.unit) : Sem (ForInStep PUnit))
      pure [(nm, u), (ar.arg, Value.ref d)]) := by
  unfold bindArgs
  simp only [h1, h2, h3, h4, h5, h6, List.map_nil, List.nil_append]
  rw [forIn_kw _ kw [] fun p hp ex => by
    rw [if_neg (by simpa using hk p hp)]
    rfl]
  rw [pure_bind, show seqItems? Value.none = pure Option.none from rfl, pure_bind]
  have lk : List.lookup nm [(nm, u)] = some u := by simp [List.lookup]
  have big : ¬ kw.length > sizeLine + 1 := by omega
  simp [lk, big]
theorem eargs_of {f : Value} {x : Sem Value} {Q : Args → Shared → Prop} (h : wpAny (model prog w) A (mergedKeywords f [(none, x)]) (fun d s1 => wpAny (model prog w) A (keywordsIn f d) (fun kw s2 => Q ⟨[], kw⟩ s2) E s1) E s) :
    wpAny (model prog w) A (evalArgs f true [] [(none, x)]) Q E s := by
  unfold evalArgs
  refine wpAny_bind (m := spliced []) (wpAny_pure ?_)
  refine wpAny_bind (wpAny_pure ?_)
  refine wpAny_holding ?_
  dsimp only
  rw [if_neg (show ¬ ([((none : Option Str), x)].all (·.1.isSome)) = true by simp)]
  refine wpAny_bind (wpAny_mono h (fun d s1 h1 => ?_) fun _ _ e => e)
  refine wpAny_bind (wpAny_pure ?_)
  exact wpAny_bind (wpAny_holding (wpAny_mono h1 (fun kw s2 h2 => wpAny_pure h2) fun _ _ e => e))
theorem call_dstar {K : PySem.W.Frag} {f : Value} {pos kp : Pos} {env : Env} {e : Expr} {Q : Value → Shared → Prop} (hk : keepIn K f = true)
    (h : wpAny (model prog w) A (evalArgs f true [] [(none, do let v ← eval e env; standAt pos; pure v)]) (fun z s1 => K.In s1.heap ∧ wpAny (model prog w) A (call f z.pos z.kw) Q E s1) E s) :
    wpAny (model prog w) A (callWith pos f [] (backTo pos (starEach [] env)) (backToKw pos (keywordEach [⟨none, e, kp⟩] env))) Q E s := by
  unfold callWith
  refine wpAny_bind (wpAny_holding (wpAny_mono h (fun z s1 h1 => wpAny_bind (wpAny_standAt ?_)) fun _ _ e => e))
  have st : ((backTo pos (starEach [] env)).any (·.1) || (backToKw pos (keywordEach [⟨none, e, kp⟩] env)).any (·.1.isNone)) = true := rfl
  obtain ⟨kk, hkk, L⟩ := keeps_K (M := model prog w) hk _ h1.1
  have tail : ∀ {t : Sem Value}, wpAny (model prog w) A t Q E s1 → wpAny (model prog w) A (t >>= fun r => holding [r] point >>= fun _ => pure r) Q E s1 :=
    fun ht => wpAny_bind (wpAny_mono ht (fun r s2 hr => wpAny_bind (wpAny_holding (wpAny_point (wpAny_pure hr)))) fun _ _ e => e)
  refine wpAny_bind (L.here ?_)
  rw [st]
  have marked : ∀ mk : Value, wpAny (model prog w) A (callMarked mk f ([] ++ z.pos) z.kw) Q E s1 := fun mk => by
    unfold callMarked
    exact wpAny_keep h1.2
  rcases hkk with rfl | rfl | rfl
  · exact tail (marked _)
  · exact tail (wpAny_operating h1.2)
  · exact tail (wpAny_operating h1.2)
theorem pairs_at {z : DictEntry} : ∀ {l : List DictEntry} {ys : List (Key × Value)}, Pairs (mixKind prog w) l ys → z ∈ l → ∃ y ∈ ys, (mixKind prog w).is y.1 z.key = true
  | _, _, .nil, h => by cases h
  | _, _, .cons a b r, h => by
    rcases List.mem_cons.mp h with rfl | h
    · exact ⟨_, List.mem_cons_self, a⟩
    · obtain ⟨y, y1, y2⟩ := pairs_at r h
      exact ⟨y, List.mem_cons_of_mem _ y1, y2⟩
/-- one name more in a dict of names -/
theorem ns_put {d : Addr} {xs : List (Str × Value)} {k : Str} {v : Value} {Q : Unit → Shared → Prop} (M : Dk prog w s.heap d (xs.map fun p => (Sum.inr p.1, p.2))) (out : k ∉ xs.map (·.1))
    (q : ∀ g, Dk prog w g d ((xs ++ [(k, v)]).map fun p => (Sum.inr p.1, p.2)) → Heap.SameBut d s.heap g → Q () { s with heap := g, toks := s.toks + 1 }) : wpAny (model prog w) A (nsSet d k v) Q E s := by
  obtain ⟨⟨c, dd, dt, sl⟩, es, n, e1, e2, e3, e4, e5, e6⟩ := M
  have e3 : dt = .dict es n := e3
  subst e3
  have keys : ∀ z ∈ es, ∃ x t, z.key = .str x t ∧ x ≠ k := fun z hz => by
    obtain ⟨y, hy, is⟩ := pairs_at e5 (Array.mem_toList_iff.mpr hz)
    obtain ⟨p, hp, rfl⟩ := List.mem_map.mp hy
    rcases keyIs_shape (show keyIs (Sum.inr p.1) z.key = true from is) with ⟨_, _, e, _⟩ | ⟨x, t, e, e'⟩
    · cases e
    · cases Sum.inr.inj e
      exact ⟨p.1, t, e', fun e => out (List.mem_map.mpr ⟨p, hp, e⟩)⟩
  have notk : ∀ z ∈ es, z.key.isStr k = false := fun z hz => by
    obtain ⟨x, t, e, ne⟩ := keys z hz
    rw [e]
    exact beq_eq_false_iff_ne.mpr ne
  have none1 : (es.findIdx? fun z => z.key.isStr k) = none := by
    rw [← arr_idx, List.findIdx?_eq_none_iff]
    exact fun z hz => notk z (Array.mem_toList_iff.mp hz)
  have c0 : aRefKeyMayBeTheName k es = false := by
    rw [aRefKeyMayBeTheName_at]
    have : (es.any (·.refKey)) = false := by
      rw [← Array.any_toList, List.any_eq_false]
      intro z hz
      obtain ⟨x, t, e, _⟩ := keys z (Array.mem_toList_iff.mp hz)
      rw [show z.refKey = false by unfold DictEntry.refKey; rw [e]]
      exact Bool.false_ne_true
    rw [this, Bool.and_false]
  unfold nsSet
  refine wpAny_bind (wpAny_bind (wpAny_askSetting (wpAny_pure (wpAny_bind (wpAny_mkText (wpAny_bind (wpAny_loadPart e1 ?_)))))))
  dsimp only
  rw [c0, if_neg Bool.false_ne_true]
  refine wpAny_updatePart e1 (q _ ⟨_, es.push ⟨(mixKind prog w).hash (Sum.inr k), .str k s.toks, v⟩, n + 1, Heap.get?_update_self _ e1 (by simp only [Obj.putName_eq, Obj.putNameByArray, none1]; rfl), ?_, ?_, e4.push (mixKind_str prog w k s.toks) _, ?_, ?_⟩ (Heap.SameBut.update ..))
  · simp only [Obj.putName_eq, Obj.putNameByArray, none1]
    exact e2
  · simp only [Obj.putName_eq, Obj.putNameByArray, none1]
    rfl
  · rw [Array.toList_push, List.map_append]
    exact e5.append (mixKind_str prog w k s.toks) _ v
  · rw [List.map_append, List.map_append]
    refine List.nodup_append.mpr ⟨e6, by simp, fun a ha b hb e => ?_⟩
    have hb : b = Sum.inr k := List.mem_singleton.mp hb
    subst hb
    rw [List.map_map] at ha
    obtain ⟨p, hp, e'⟩ := List.mem_map.mp ha
    have e' : Sum.inr p.1 = a := e'
    rw [e] at e'
    exact out (List.mem_map.mpr ⟨p, hp, Sum.inr.inj e'⟩)
theorem ns_fill {d : Addr} {Q : PUnit → Shared → Prop} : ∀ (kw xs : List (Str × Value)) (s : Shared), Dk prog w s.heap d (xs.map fun p => (Sum.inr p.1, p.2)) → ((xs ++ kw).map (·.1)).Nodup →
    (∀ g tk, Dk prog w g d ((xs ++ kw).map fun p => (Sum.inr p.1, p.2)) → Heap.SameBut d s.heap g → Q PUnit.unit { s with heap := g, toks := tk }) →
    wpAny (model prog w) A (forIn kw PUnit.unit fun p _ => (do nsSet d p.1 p.2; pure (ForInStep.yield PUnit.unit) : Sem (ForInStep PUnit))) Q E s
  | [], xs, s, M, _, q => by
    rw [List.forIn_nil]
    rw [List.append_nil] at q
    exact wpAny_pure (q s.heap s.toks M (Heap.SameBut.refl _ _))
  | p :: r, xs, s, M, nd, q => by
    rw [List.forIn_cons]
    have out : p.1 ∉ xs.map (·.1) := fun z => by
      rw [List.map_append, List.nodup_append] at nd
      exact nd.2.2 _ z _ (by rw [List.map_cons]; exact List.mem_cons_self) rfl
    refine wpAny_bind (wpAny_bind (ns_put M out fun g g1 g2 => wpAny_pure ?_))
    refine ns_fill r (xs ++ [(p.1, p.2)]) { s with heap := g, toks := s.toks + 1 } g1 (by rw [List.append_assoc]; exact nd) fun g' tk h1 h2 => ?_
    exact q g' tk (by rw [List.append_assoc] at h1; exact h1) (g2.trans h2)
end
end Lw.Md
namespace Lw
open PySem PySem.Spec PyProof.Rows L2 StX
/-! ### a def (self, **d) -/
abbrev KwR (ks : List (Str × V)) (kw : List (Str × Value)) : Prop := Paired (fun p q => p.1 = q.1 ∧ RelV p.2 q.2) ks kw
abbrev SpK := V → List (Str × V) → Hp → VK → XK → Prop
/-- the pairs of a dict with texts as keys -/
abbrev dkOf (ks : List (Str × V)) : List (L2.Key × V) := ks.map fun p => (Sum.inr p.1, p.2)
theorem KwR.names : ∀ {ks : List (Str × V)} {kw : List (Str × Value)}, KwR ks kw → ks.map (·.1) = kw.map (·.1)
  | _, _, .nil => rfl
  | _, _, .cons a r => by rw [List.map_cons, List.map_cons, a.1, KwR.names r]
theorem KwR.kv : ∀ {ks : List (Str × V)} {kw : List (Str × Value)}, KwR ks kw → KV (dkOf ks) (kw.map fun p => ((Sum.inr p.1 : L2.Key), p.2))
  | _, _, .nil => .nil
  | _, _, .cons a r => .cons ⟨congrArg Sum.inr a.1, a.2⟩ (KwR.kv r)
def FnKw (P : Program) (w : World) (K : PySem.W.Frag) (mg : Str → Option Value) (base : Heap) (CX : CXT) (k : Nat) (f : Addr) (sp : SpK) : Prop := ∀ (A : Around) (outer : List Env) (s : Shared) (H : Hp) (u : Value) (kw : List (Str × Value)) (x : V) (ks : List (Str × V)) (Q : VK) (E : XK),
  Room k A → Env0 P w K mg base A outer s H → RelV x u → KwR ks kw → (ks.map (·.1)).Nodup → sp x ks H Q E → codeAny (model P w) A (.call (.ref f) ⟨[u], kw⟩) (CR CX outer P w H s Q E) s
section
variable {CX : CXT} {P : Program} {w : World} {K : PySem.W.Frag} {mg : Str → Option Value} {base : Heap} {k : Nat} {f : Addr} {name qual : Str} {params : Arguments} {body : List Stmt} {scope : Scope} {dV kV doc pm cdv ct oc : Value} {an od : Option Addr}
  {osl : Array (Option Value)} {N : List Str} {sp : SpK} {nm dn : Str}
theorem env0_more {A : Around} {outer : List Env} {s : Shared} {H : Hp} {g : Heap} {tk : Nat} {u : HO} (e0 : Env0 P w K mg base A outer s H) (kp : ∀ b x, s.heap.get? b = some x → g.get? b = some x) (new : ObjOk P w (upd H s.heap.objs.size u) g s.heap.objs.size u) (there : ∃ o, g.get? s.heap.objs.size = some o) :
    Env0 P w K mg base A outer { s with heap := g, toks := tk } (upd H s.heap.objs.size u) := by
  have sz : s.heap.objs.size ≤ g.objs.size := by
    obtain ⟨o, ho⟩ := there
    exact Nat.le_of_lt (Heap.lt_size ho)
  refine ⟨e0.frames, e0.mod, fun b x e => ⟨kp b x (e0.bs b x e).1, ?_⟩, Nat.le_trans e0.bsz sz, Heap.FunFrames.of_keeps (fun b x e _ => ⟨x, kp b x e, rfl⟩) e0.funs, fun b hb => ?_, e0.hok.laid kp (Nat.le_refl _) new, e0.bare⟩
  · rw [upd_ne (Nat.ne_of_lt (Heap.lt_size (e0.bs b x e).1))]
    exact (e0.bs b x e).2
  · obtain ⟨_, x, hx, _⟩ := e0.funs.mem hb
    rw [upd_ne (Nat.ne_of_lt (Heap.lt_size hx))]
    exact e0.frf b hb
theorem fn_kw {ar : Arg} (lk : K.lookup f = some ⟨oc, od, .func (PySem.W.fnOf name qual params body scope dV kV doc pm an cdv ct), osl⟩) (hcd : PySem.W.codeIn K cdv qual = true) (S : FnScope N [nm, ar.arg] scope) (hCX : CXUp CX)
    (h1 : params.posonlyargs = []) (h2 : params.args.map (·.arg) = [nm]) (h3 : params.kwonlyargs = []) (h4 : params.vararg = none) (h5 : params.kwarg = some ar) (h6 : dV = .none) (hk : ∀ x ks H Q E, sp x ks H Q E → (∀ p ∈ ks, p.1 ≠ nm) ∧ ks.length ≤ sizeLine)
    (hbody : ∀ (A : Around) (outer : List Env) (s : Shared) (H : Hp) (x : V) (d : Addr) (ks : List (Str × V)) (Q : VK) (E : XK), Room k (A.deeper (envOfC qual scope s.heap.objs.size f cdv)) → H d = none → (ks.map (·.1)).Nodup → sp x ks H Q E →
      ∃ t, PSs (cxOf CX P w K mg base N qual scope f cdv A outer s (upd H d (.dK (dkOf ks))) E) body t ∧ t { nx := fun _ H' => Q .non H', rt := Q } (start N [x, .ref d]) (upd H d (.dK (dkOf ks)))) : FnKw P w K mg base CX (k + 1) f sp := by
  intro A outer s H u kw x ks Q E hr e0 rx rk nd hsp
  obtain ⟨hnm, hz⟩ := hk _ _ _ _ _ hsp
  have hn : H s.heap.objs.size = Option.none := e0.hok.fresh (Nat.le_refl _)
  have lk2 : kw.length = ks.length := by have z := congrArg List.length rk.names; rw [List.length_map, List.length_map] at z; exact z.symm
  refine run_bnd lk hcd S hr e0 (G := fun xs H2 => ∃ d, H d = none ∧ xs = [x, V.ref d] ∧ H2 = upd H d (.dK (dkOf ks))) (fun A' Ex Q' h => ?_) fun s2 H2 xs ⟨d, hd, ex, eH⟩ hr' => ?_
  · rw [Md.bind_kw (nm := nm) (ar := ar) h1 h2 h3 h4 h5 h6 (fun p hp => ?_) (by omega)]
    · refine wpAny_bind (wpAny_alloc (wpAny_bind (Md.ns_fill kw [] _ (Heap.DictOf.new _) (by rw [List.nil_append, ← rk.names]; exact nd) fun g tk g1 g2 => wpAny_pure ?_)))
      have kp : ∀ b o, s.heap.get? b = some o → g.get? b = some o := fun b o e => (g2.2 b (Nat.ne_of_lt (Heap.lt_size e))).trans (Heap.get?_push_of_some _ e)
      have new : ObjOk P w (upd H s.heap.objs.size (.dK (dkOf ks))) g s.heap.objs.size (.dK (dkOf ks)) := ⟨by rw [List.length_map]; exact hz, beq_eq_false_iff_ne.mpr (Nat.ne_of_gt (env0_big e0)), _, rk.kv, g1⟩
      have un : Un (frs outer) [] H (upd H s.heap.objs.size (.dK (dkOf ks))) s.heap g := Un.laid kp (Nat.le_refl _) hn
      have z := h _ _ [x, V.ref s.heap.objs.size] [u, Value.ref s.heap.objs.size] (env0_more (tk := tk) e0 kp new (by obtain ⟨o, _, _, ho, _⟩ := g1; exact ⟨o, ho⟩)) un rfl (fun e s' => hCX outer s H _ _ E e s' un kp rfl) (.cons rx (.cons rfl .nil)) rfl ⟨_, hn, rfl, rfl⟩
      exact z
    · obtain ⟨q, hq, e⟩ : ∃ q ∈ ks, q.1 = p.1 := by
        have z : p.1 ∈ ks.map (·.1) := by rw [rk.names]; exact List.mem_map_of_mem hp
        obtain ⟨q, hq, e⟩ := List.mem_map.mp z
        exact ⟨q, hq, e⟩
      rw [← e]
      exact hnm q hq
  · subst ex eH
    exact hbody A outer s2 H x d ks Q E hr' hd nd hsp
end
/-! ### C(**d), C(a = e, ..), C() -/
section
variable {X : Cx} {CX : CXT} {k : Nat} {f C : Addr} {sp : SpK} {E : XK} {x : Str} {p pos kp : Pos} {e : Expr} {te : TE}
def MakK (C : Addr) (sp : SpK) (E : XK) (ks : List (Str × V)) (H : Hp) (Q : VK) : Prop := ∀ x dx, H x = none → H dx = none → dx ≠ x → sp (V.ref x) ks (upd (upd H dx (.own x)) x (.ins C dx [])) (fun v H2 => v = .non ∧ Q (.ref x) H2) E
theorem run_makeK {pins : List (Addr × Obj)} {σ : L2.St} {H : Hp} {s : Shared} {Q : VK} {kw : List (Str × Value)} {ks : List (Str × V)} (M : Mk X.K C f) (F : FnKw X.prog X.w X.K X.mg X.base CX k f sp) (hr : Room (k + 1) X.A) (hx : Passes CX X E) (I : Inv X pins σ H s) (r : KwR ks kw)
    (nd : (ks.map (·.1)).Nodup) (h : MakK C sp E ks H Q) : wpAny (model X.prog X.w) X.A (call (.ref C) [] kw) (EP X pins σ Q) X.xe s := by
  have hq := h (s.heap.objs.size + 1) s.heap.objs.size (I.hok.fresh (Nat.le_succ _)) (I.hok.fresh (Nat.le_refl _)) (Nat.ne_of_lt (Nat.lt_succ_self _))
  have I2 := Inv.made (C := C) I
  refine wpAny_call (make_map (f := f) I.kIn M.makes M.init (beq_iff_eq.mp M.fn) (codeAny_mono (F _ X.stack _ _ (Value.ref (s.heap.objs.size + 1)) kw (V.ref (s.heap.objs.size + 1)) ks _ E (hr.make C [] kw) (I2.env0.make C [] kw) rfl r nd hq) fun z s' hz => ?_))
  cases z with
  | error e => exact hx pins σ _ _ e s' I2 hz
  | ok fl =>
    cases fl with
    | ret u =>
      obtain ⟨v, H', I3, rv, rfl, q3⟩ := I2.after hz
      exact ⟨rv, ⟨V.ref (s.heap.objs.size + 1), H', I3, rfl, q3⟩⟩
    | next => exact False.elim hz
    | brk => exact False.elim hz
    | cont => exact False.elim hz
/-- C(**e) -/
def tMakeKD (C : Addr) (sp : SpK) (E : XK) (te : TE) : TE := fun σ H Q => ∀ D, H D = none → te σ (upd H D (.dK [])) fun y H1 => ∃ (a : Addr) (ks : List (Str × V)), y = .ref a ∧ H1 D = some (.dK []) ∧ D ≠ a ∧ H1 a = some (.dK (dkOf ks)) ∧ MakK C sp E ks (upd H1 D (.dK (dkOf ks))) Q
theorem dk_names {pins : List (Addr × Obj)} {σ : L2.St} {H : Hp} {s : Shared} {a : Addr} {ks : List (Str × V)} (I : Inv X pins σ H s) (h : H a = some (.dK (dkOf ks))) : ∃ kw : List (Str × Value), KwR ks kw ∧ (ks.map (·.1)).Nodup ∧ Md.Dk X.prog X.w s.heap a (kw.map fun p => (Sum.inr p.1, p.2)) ∧ kw.length ≤ sizeLine ∧ (a == sysModules) = false := by
  obtain ⟨z, lo, vs, rel, dd⟩ := dk_of I.hok h
  have go : ∀ {ks : List (Str × V)} {vs : List (L2.Key × Value)}, KV (dkOf ks) vs → ∃ kw : List (Str × Value), KwR ks kw ∧ vs = kw.map fun p => (Sum.inr p.1, p.2) := by
    intro ks
    induction ks with
    | nil => intro vs r; cases r; exact ⟨[], .nil, rfl⟩
    | cons p r ih =>
      intro vs rr
      cases rr with
      | @cons _ q _ qs a b =>
        obtain ⟨kw, h1, rfl⟩ := ih b
        obtain ⟨q1, q2⟩ := q
        obtain ⟨a1, a2⟩ := a
        have a1 : Sum.inr p.1 = q1 := a1
        subst a1
        exact ⟨(p.1, q2) :: kw, .cons ⟨rfl, a2⟩ h1, rfl⟩
  obtain ⟨kw, h1, rfl⟩ := go rel
  refine ⟨kw, h1, ?_, dd, ?_, lo⟩
  · obtain ⟨_, _, _, _, _, _, _, _, nd⟩ := dd
    rw [h1.names]
    rw [List.map_map] at nd
    exact List.Pairwise.of_map (S := (· ≠ ·)) (f := fun z : Str => (Sum.inr z : L2.Key)) (fun a b n e => n (congrArg Sum.inr e)) (by rw [List.map_map]; exact nd)
  · have e := congrArg List.length h1.names
    rw [List.length_map, List.length_map] at e
    rw [List.length_map] at z
    omega
theorem pe_makeKD (M : Mk X.K C f) (F : FnKw X.prog X.w X.K X.mg X.base CX k f sp) (hr : Room (k + 1) X.A) (hg : Gl X x) (hm : X.mg x = some (.ref C)) (hx : Passes CX X E) (he : PE X e te) (hdb : (x == ("__debug__" : Str)) = false := by decide) :
    PE X (.Call (.Name x p) [] [⟨none, e, kp⟩] pos) (tMakeKD C sp E te) := by
  refine ⟨fun pins s σ H Q I h => ?_⟩
  refine wpAny_Call_Name_kw (ld_glob I hg hm ?_ hdb)
  refine Md.call_dstar (K := X.K) M.kp (Md.eargs_of (Md.mkw_of ?_))
  have hn := I.hok.fresh (Nat.le_refl s.heap.objs.size)
  have I1 := I.laid (a := s.heap.objs.size) (o := .dK []) (h' := s.heap.push { cls := .type "dict", data := .dict #[] }) (t' := s.toks) (fun _ _ q => Heap.get?_push_of_some _ q) (Nat.le_refl _) (dk_empty s.heap I.big)
  refine wpAny_bind (thn (he.run pins _ σ _ _ I1 (h _ hn)) fun v s2 ⟨y, H2, I2, ry, a, ks, ey, eD, ne, ea, q⟩ => wpAny_bind (wpAny_standAt (wpAny_pure ?_)))
  subst ey
  cases (show v = Value.ref a from ry)
  obtain ⟨kw, rk, nd, dd, lz, lo⟩ := dk_names I2 ea
  obtain ⟨_, hD, vs0, r0, d0⟩ := dk_of I2.hok eD
  cases r0
  refine ⟨a, _, rfl, lo, ne, d0, dd, by rw [List.length_map]; exact lz, fun g g1 g2 => ?_⟩
  have I3 : Inv X pins σ (upd H2 s.heap.objs.size (.dK (dkOf ks))) { s2 with heap := g } := d_write (t' := s2.toks) I2 (by rw [eD]; exact True.intro) g2 (by obtain ⟨o, _, _, ho, _⟩ := g1; exact ⟨o, ho⟩) ⟨by rw [List.length_map]; have e := congrArg List.length rk.names; rw [List.length_map, List.length_map] at e; omega, hD, _, rk.kv, g1⟩
  exact Md.kws_in g1 ⟨I3.kIn, run_makeK M F hr hx I3 rk nd q⟩
/-- C(a = e, ..), C() -/
def tMakeKN (C : Addr) (sp : SpK) (E : XK) (ks : List Str) (t : TA) : TE := fun σ H Q => t σ H fun zs H1 => zs.length = ks.length ∧ MakK C sp E (ks.zip zs) H1 Q
theorem pe_makeKN {kws : List Keyword} {ks : List Str} {tkw : TA} (M : Mk X.K C f) (F : FnKw X.prog X.w X.K X.mg X.base CX k f sp) (hr : Room (k + 1) X.A) (hg : Gl X x) (hm : X.mg x = some (.ref C)) (hx : Passes CX X E) (hkw : PK X kws tkw) (nd : ks.Nodup) (hdb : (x == ("__debug__" : Str)) = false := by decide)
    (hall : (backToKw pos (keywordEach kws X.env)).all (·.1.isSome) = true := by rfl) (hks : (backToKw pos (keywordEach kws X.env)).filterMap (·.1) = ks := by rfl)
    (hpl : ((backTo pos (starEach [] X.env)).any (·.1) || (backToKw pos (keywordEach kws X.env)).any (·.1.isNone)) = false := by rfl) :
    PE X (.Call (.Name x p) [] kws pos) (tMakeKN C sp E ks tkw) := by
  refine ⟨fun pins s σ H Q I h => ?_⟩
  refine wpAny_Call_Name_kw (ld_glob I hg hm ?_ hdb)
  refine PySem.W.callWith_KW0 (h₀ := X.base) I.ok.mod.kin M.kp hall ?_ hpl
  refine thn (hkw.run pos pins s σ H _ I h) fun ws s2 ⟨zs, H2, I2, rz, l2, q⟩ => ⟨I2.kIn, ?_⟩
  rw [hks]
  have both : ∀ {ks : List Str} {zs : List V} {ws : List Value}, Vals zs ws → zs.length = ks.length → KwR (ks.zip zs) (ks.zip ws) ∧ (ks.zip zs).map (·.1) = ks := by
    intro ks
    induction ks with
    | nil => intro zs ws _ _; exact ⟨.nil, rfl⟩
    | cons k r ih =>
      intro zs ws rz l
      cases rz with
      | nil => cases l
      | cons a b =>
        obtain ⟨h1, h2⟩ := ih b (by simpa using l)
        exact ⟨.cons ⟨rfl, a⟩ h1, by rw [List.zip_cons_cons, List.map_cons, h2]⟩
  obtain ⟨h1, h2⟩ := both rz l2
  exact run_makeK M F hr hx I2 h1 (by rw [h2]; exact nd) q
end
end Lw
namespace Lw
end Lw
namespace Lw
open PySem PySem.Spec PyProof.Rows L2
end Lw
/-! ### d[k] = v where k is None, a bool, or a tuple of keys, d a dict with texts as keys -/
namespace Lw.Od
open PySem PySem.Spec PySem.Calls PyProof.Rows PySem.W L2
section
variable {prog : Program} {w : World} {A : Around} {E : Value → Shared → Prop} {s : Shared}
inductive OddK (prog : Program) (w : World) (h : Heap) : Value → Prop
  | non : OddK prog w h .none
  | bl (b : Bool) : OddK prog w h (.bool b)
  | tup {a : Addr} {ks : List Key} (t : (tupleKind (mixKind prog w)).is h ks a) : OddK prog w h (.ref a)
theorem walk_no {d : Addr} {ob : Obj} {es : Array DictEntry} {n : Nat} {key : Value} {hh : Int} {Q : Option Nat → Shared → Prop} (e1 : s.heap.get? d = some ob) (e3 : ob.data = .dict es n) (str : ∀ z ∈ es, ∃ x t, z.key = .str x t)
    (ne : ∀ {x : Str} {t : Tok} {R : Bool → Shared → Prop}, R false s → wpAny (model prog w) A (eqBool (.str x t) key) R E s) (q : Q none s) (places : List Nat) : wpAny (model prog w) A (dictWalkPlain d key hh es places) Q E s := by
  unfold dictWalkPlain
  refine wpAny_bind (wpAny_forIn_list _ (fun _ b s' => s' = s ∧ b = (none, PUnit.unit)) _ ?_ ?_ _ _ ⟨rfl, rfl⟩)
  · rintro i rest b s' ⟨rfl, rfl⟩
    cases hi : es[i]? with
    | none => exact wpAny_pure ⟨rfl, rfl⟩
    | some z =>
      dsimp only
      split
      · obtain ⟨x, t, e⟩ := str z (Array.mem_of_getElem? hi)
        rw [e]
        refine wpAny_bind (wpAny_dictEpoch e1 e3 (wpAny_bind (ne (wpAny_bind (wpAny_dictEpoch e1 e3 ?_)))))
        rw [if_neg (show ¬ (n != n) = true by simp)]
        exact wpAny_bind (wpAny_rule (wpAny_pure ⟨rfl, rfl⟩))
      · exact wpAny_pure ⟨rfl, rfl⟩
  · rintro b s' ⟨rfl, rfl⟩
    exact wpAny_pure q
theorem quiet_strs {a : Addr} {ks : List Key} {stored : List Value} {Q : Bool → Shared → Prop} (t : (tupleKind (mixKind prog w)).is s.heap ks a) (h : ∀ v ∈ stored, ∃ x t, v = .str x t) (q : Q false s) : wpAny (model prog w) A (tableMayTell (.ref a) stored) Q E s := by
  unfold tableMayTell
  split
  · exact wpAny_pure q
  refine wpAny_bind ((tupleKind (mixKind prog w)).quiet t ?_)
  rw [if_neg (show ¬ (!true) = true by decide)]
  refine wpAny_bind (wpAny_forIn_list _ (fun rest b s' => s' = s ∧ b = (none, PUnit.unit) ∧ ∀ v ∈ rest, ∃ x t, v = .str x t) _ ?_ ?_ _ _ ⟨rfl, rfl, h⟩)
  · rintro v rest b s' ⟨rfl, rfl, hv⟩
    obtain ⟨x, t, rfl⟩ := hv v List.mem_cons_self
    rw [eqIsQuiet_byValue 8 rfl]
    refine wpAny_bind (wpAny_pure ?_)
    rw [if_neg (show ¬ (!true) = true by decide)]
    exact wpAny_pure ⟨rfl, rfl, fun u hu => hv u (List.mem_cons_of_mem _ hu)⟩
  · rintro b s' ⟨rfl, rfl, _⟩
    exact wpAny_pure q
theorem find_odd {d : Addr} {ob : Obj} {es : Array DictEntry} {n : Nat} {key : Value} {hh : Int} {Q : Option Nat → Shared → Prop} (hu : A.units < cLine) (e1 : s.heap.get? d = some ob) (e3 : ob.data = .dict es n) (str : ∀ z ∈ es, ∃ x t, z.key = .str x t) (o : OddK prog w s.heap key) (q : Q none s) :
    wpAny (model prog w) A (dictFind d key hh) Q E s := by
  have ne : ∀ {x : Str} {t : Tok} {R : Bool → Shared → Prop}, R false s → wpAny (model prog w) A (eqBool (.str x t) key) R E s := fun {x t R} hR => by
    cases o with
    | non => exact SeqAt.EqAt.str_none x t prog w E R hR
    | bl b => exact SeqAt.EqAt.str_bool x t b prog w E R hR
    | @tup a ks t' =>
      obtain ⟨o, its, m, h1, h2, h3, _⟩ := (show IsTupleKey (mixKind prog w) s.heap ks a from t')
      exact SeqAt.EqAt.str_tuple x t (show s.heap.IsTuple a its from ⟨o, h1, h2, m, h3⟩) hu prog w E R hR
  have st : ∀ v ∈ (placesWithHash es.size (fun i => Option.map (fun x => x.hash) es[i]?) hh).filterMap (fun i => Option.map (fun x => x.key) es[i]?), ∃ x t, v = .str x t := fun v hv => by
    obtain ⟨i, _, hi⟩ := List.mem_filterMap.mp hv
    cases hz : es[i]? with
    | none => rw [hz] at hi; cases hi
    | some z =>
      rw [hz] at hi
      obtain ⟨x, t, e⟩ := str z (Array.mem_of_getElem? hz)
      have hi : z.key = v := Option.some.inj hi
      exact ⟨x, t, hi ▸ e⟩
  have allc : ((placesWithHash es.size (fun i => Option.map (fun x => x.hash) es[i]?) hh).filterMap (fun i => Option.map (fun x => x.key) es[i]?)).all carriedByValue = true := by
    rw [List.all_eq_true]
    intro v hv
    obtain ⟨x, t, rfl⟩ := st v hv
    rfl
  unfold dictFind
  refine wpAny_holding (wpAny_bind (wpAny_dictEntries e1 e3 ?_))
  cases o with
  | non =>
    dsimp only
    rw [List.all_cons, allc, if_pos (show (carriedByValue Value.none && true) = true from rfl)]
    exact walk_no e1 e3 str ne q _
  | bl b =>
    dsimp only
    rw [List.all_cons, allc, if_pos (show (carriedByValue (Value.bool b) && true) = true from rfl)]
    exact walk_no e1 e3 str ne q _
  | @tup a ks t' =>
    dsimp only
    rw [List.all_cons, if_neg (show ¬ (carriedByValue (Value.ref a) && _) = true from Bool.false_ne_true)]
    have hany : ¬ (es.any fun z => z.key == Value.ref a && z.hash != hh) = true := by
      rw [← Array.any_toList, List.any_eq_true]
      rintro ⟨z, hz, hc⟩
      obtain ⟨x, t, e⟩ := str z (Array.mem_toList_iff.mp hz)
      rw [e] at hc
      cases hc
    rw [if_neg hany]
    have hone : ¬ ((placesWithHash es.size (fun i => Option.map (fun x => x.hash) es[i]?) hh).filterMap (fun i => Option.map (fun x => x.key) es[i]?) == [Value.ref a]) = true := fun z => by
      have e := eq_of_beq z
      obtain ⟨x, t, h⟩ := st (.ref a) (by rw [e]; exact List.mem_singleton.mpr rfl)
      cases h
    rw [if_neg hone]
    refine wpAny_bind (quiet_strs t' st ?_)
    rw [if_neg (show ¬ (false && _) = true from Bool.false_ne_true)]
    refine wpAny_bind (wpAny_forIn_list _ (fun _ b s' => s' = s ∧ b = (none, none)) _ ?_ ?_ _ _ ⟨rfl, rfl⟩)
    · rintro i rest b s' ⟨rfl, rfl⟩
      cases hi : es[i]? with
      | none => exact wpAny_pure ⟨rfl, rfl⟩
      | some z =>
        dsimp only
        split
        · obtain ⟨x, t, e⟩ := str z (Array.mem_of_getElem? hi)
          rw [e]
          refine wpAny_bind (wpAny_dictEpoch e1 e3 (wpAny_bind (ne (wpAny_bind (wpAny_dictEpoch e1 e3 ?_)))))
          rw [if_neg (show ¬ (n != n) = true by simp)]
          exact wpAny_bind (wpAny_rule (wpAny_pure ⟨rfl, rfl⟩))
        · exact wpAny_pure ⟨rfl, rfl⟩
    · rintro b s' ⟨rfl, rfl⟩
      exact wpAny_pure q
theorem hash_odd {key : Value} {Q : Int → Shared → Prop} (hu : A.units < cLine) (o : OddK prog w s.heap key) (q : ∀ h tk, Q h { s with toks := tk }) : wpAny (model prog w) A (pyHash key) Q E s := by
  cases o with
  | non =>
    have ty : s.TypeIs .none "NoneType" := rfl
    show wpAny _ _ (pyHashByItsType .none) _ _ _
    unfold pyHashByItsType cRoomFor
    rw [if_neg (show ¬ ([Value.none].any Value.onHeap) = true by decide)]
    refine wpAny_bind (wpAny_pure (wpAny_bind (m := specialOf .none "__hash__") (wpAny_specialOf ty PySem.F.slot_NoneType_hash.lookup ?_)))
    rw [if_neg (show ¬ (some (Value.builtin "NoneType.__hash__") == some Value.none) = true by decide)]
    refine wpAny_bind (m := specialOf .none "__hash__") (wpAny_specialOf ty PySem.F.slot_NoneType_hash.lookup ?_)
    rw [if_neg (show ¬ (some (Value.builtin "NoneType.__hash__")).isNone = true by decide)]
    refine wpAny_bind (wpAny_callSpecialIfBoundUnlessNone?_slot ty PySem.F.slot_NoneType_hash (wpAny_call_entry PySem.F.slot_NoneType_hash ty PySem.F.entry_NoneType_hash ?_ (PySem.F.args_NoneType_hash_1 _)))
    refine (show wpAny _ _ (do ret (← mkInt 0xFCA86420)) _ _ s from wpAny_bind (wpAny_mkInt (wpAny_pure ⟨_, rfl, ?_⟩)))
    show wpAny _ _ (pyHashByItsType.reduced 0xFCA86420) _ _ _
    unfold pyHashByItsType.reduced
    rw [if_pos (show (decide (-(2 ^ 63 : Int) ≤ 0xFCA86420) && decide ((0xFCA86420 : Int) < 2 ^ 63)) = true by decide)]
    exact wpAny_pure (q _ _)
  | bl b => exact PpSet.pyHash_bool (q _ _)
  | tup t => exact (tupleKind (mixKind prog w)).pyHash hu t (q _ _)
/-- the dict at d: its keys in order -/
def KeysAt (h : Heap) (d : Addr) (us : List Value) : Prop := ∃ (ob : Obj) (es : Array DictEntry) (n : Nat), h.get? d = some ob ∧ ob.ExactDict ∧ ob.data = .dict es n ∧ es.toList.map (·.key) = us
theorem KeysAt.typeIs {d : Addr} {us : List Value} (h : KeysAt s.heap d us) : s.TypeIs (.ref d) "dict" := by
  obtain ⟨ob, _, _, h1, h2, _⟩ := h
  exact ⟨ob, h1, h2.1⟩
theorem set_odd {d : Addr} {ob : Obj} {es : Array DictEntry} {n : Nat} {key v : Value} {Q : Unit → Shared → Prop} (hu : A.in1.units < cLine) (e1 : s.heap.get? d = some ob) (e2 : ob.ExactDict) (e3 : ob.data = .dict es n) (hz : es.size ≤ sizeLine) (str : ∀ z ∈ es, ∃ x t, z.key = .str x t) (o : OddK prog w s.heap key)
    (q : ∀ g tk, KeysAt g d (es.toList.map (·.key) ++ [key]) → Heap.SameBut d s.heap g → Q () { s with heap := g, toks := tk }) : wpAny (model prog w) A (setItem (.ref d) key v) Q E s := by
  have ty : s.TypeIs (.ref d) "dict" := ⟨ob, e1, e2.1⟩
  unfold setItem
  refine wpAny_holding ?_
  refine wpAny_bind (wpAny_sequenceKey ty (by decide) ?_)
  refine wpAny_bind (wpAny_callSpecial?_slot (name := Str.ofString "__setitem__") ty slot_dict_setitem (wpAny_call_entry slot_dict_setitem ty entry_dict_setitem ?_ (args_dict_setitem _ _ _)))
  show wpAny _ _ (Builtin.Dict.notOrdered "__setitem__" ⟨[.ref d, key, v], []⟩ >>= _) _ _ s
  refine wpAny_bind (wpAny_notOrdered_dict ty ?_)
  show wpAny _ _ (dictSet d key v >>= _) _ _ s
  refine wpAny_bind ?_
  unfold dictSet
  refine wpAny_holding (wpAny_bind (hash_odd hu o fun hh tk => ?_))
  unfold dictSetHashed
  have o' : OddK prog w ({ s with toks := tk } : Shared).heap key := o
  refine wpAny_holding (wpAny_bind (find_odd (s := { s with toks := tk }) hu e1 e3 str o' ?_))
  refine wpAny_bind (wpAny_rule (wpAny_updateDictKeys (s := { s with toks := tk }) (hz := hz) e1 e3 (wpAny_pure ⟨.none, rfl, wpAny_pure (q _ _ ⟨_, _, n + 1, Heap.get?_update_self _ e1 (Obj.isFreed_of_dict (Obj.data_mapDictKeys e3 _)), e2.mapDictKeys _, Obj.data_mapDictKeys e3 _, ?_⟩ (Heap.SameBut.update ..))⟩)))
  rw [Array.toList_push, List.map_append]
  rfl
theorem src_raw {d : Addr} {es : Array DictEntry} {ep : Nat} (lo : (d == sysModules) = false) : KdlSrc prog w "dict" d d es.size (fun i v => ∃ hi : i < es.size, v = es[i].key) (fun h => h.DictRaw d es ep) where
  type := fun _ hm => hm.typeIs
  there := fun _ hm => by obtain ⟨o, ho, _⟩ := hm; exact ⟨Heap.lt_size ho, Heap.lt_size ho⟩
  keep := fun _ _ hm hk => hm.at fun o e => hk d (.inl rfl) o e
  notList := by decide
  notTuple := by decide
  hint := fun _ _ _ _ hm hq => kdl_hint_dict hm.typeIs hq
  iter := fun _ s hh hm => by
    have lt : d < s.heap.objs.size := by obtain ⟨o, ho, _⟩ := hm; exact Heap.lt_size ho
    exact ⟨_, _, (fun _ _ hq => wpAny_pyIter_dict_raw lo hm hq), Walks.rawKeys hh _ d (Nat.ne_of_lt lt) es ep, ⟨⟨_, Heap.get?_push_size _ rfl, rfl, rfl⟩, hm.at fun o e => Heap.get?_push_of_some _ e⟩⟩
end
end Lw.Od
namespace Lw
open PySem PySem.Spec PyProof.Rows L2 LamX
/-- a dict with odd keys: its keys in order -/
def OdD (d : Addr) (ks : List V) : HO := .ext fun h => (d == sysModules) = false ∧ ∃ (es : Array DictEntry) (ep : Nat), h.DictRaw d es ep ∧ es.size ≤ sizeLine ∧ Vals ks (es.toList.map (·.key))
/-- what has no text as a key's value -/
inductive OddV (H : Hp) : V → Prop
  | non : OddV H .non
  | bl (b : Bool) : OddV H (.bl b)
  | tup {a : Addr} {ks : List L2.Key} (e : H a = some (.tup (ks.map kV))) : OddV H (.ref a)
section
variable {X : Cx} {pins : List (Addr × Obj)} {σ : L2.St} {H : Hp} {s : Shared}
theorem OddV.k {x : V} {u : Value} (o : OddV H x) (I : Inv X pins σ H s) (r : RelV x u) : Od.OddK X.prog X.w s.heap u := by
  cases o with
  | non => cases (show u = Value.none from r); exact .non
  | bl b => cases (show u = Value.bool b from r); exact .bl b
  | tup e => cases r; exact .tup (key_of I.hok e)
/-- d[x] = v: x a text or an int, or (of a dict with texts as keys) an odd value -/
def rSetDO : TSet := fun o i v H Q => (∃ a H', o = .ref a ∧ DPut H a i v H' ∧ Q H') ∨
  ∃ (a : Addr) (ks : List (Str × V)), o = .ref a ∧ H a = some (.dK (dkOf ks)) ∧ ks.length < sizeLine ∧ OddV H i ∧ Q (upd H a (OdD a (ks.map (fun p => V.str p.1) ++ [i])))
theorem set_dictO (hu : X.A.units + 1 < cLine) : PSet X rSetDO := by
  intro pins s σ H o i v ov iv u Q I ro ri rv h
  rcases h with h | ⟨a, ks, rfl, ha, kl, od, q⟩
  · exact set_dict hu pins s σ H o i v ov iv u Q I ro ri rv h
  · cases (show ov = Value.ref a from ro)
    obtain ⟨z, lo, vs, rel, dd⟩ := dk_of I.hok ha
    have hu2 : X.A.in1.units < cLine := by show X.A.units + 1 < cLine; omega
    obtain ⟨ob, es, n, e1, e2, e3, e4, e5, e6⟩ := id dd
    have str : ∀ z ∈ es, ∃ x t, z.key = .str x t := fun z hz => by
      obtain ⟨y, hy, is⟩ := Md.pairs_at e5 (Array.mem_toList_iff.mpr hz)
      have hk : y.1 ∈ vs.map (·.1) := List.mem_map_of_mem hy
      rw [← rel.keys, List.map_map] at hk
      obtain ⟨p, _, ep⟩ := List.mem_map.mp hk
      rw [← ep] at is
      rcases keyIs_shape (show keyIs (Sum.inr p.1) z.key = true from is) with ⟨_, _, e, _⟩ | ⟨x, t, e, e'⟩
      · cases e
      · exact ⟨x, t, e'⟩
    have ln : es.size = ks.length := by
      have h1 := e5.length
      have h2 := rel.length
      rw [Array.length_toList] at h1
      rw [List.length_map] at h2
      omega
    have kv : Vals (ks.map fun p => V.str p.1) (es.toList.map (·.key)) := by
      have go : ∀ {l : List DictEntry} {vs : List (L2.Key × Value)} {ks : List (Str × V)}, Pairs (mixKind X.prog X.w) l vs → KV (dkOf ks) vs → Vals (ks.map fun p => V.str p.1) (l.map (·.key)) := by
        intro l
        induction l with
        | nil =>
          intro vs ks p r
          cases p
          cases ks with
          | nil => exact .nil
          | cons _ _ => cases r
        | cons z l ih =>
          intro vs ks p r
          cases p with
          | @cons _ kv _ kvs p1 p2 p3 =>
            cases ks with
            | nil => cases r
            | cons q ks =>
              cases r with
              | cons r1 r2 =>
                obtain ⟨a1, _⟩ := r1
                have a1 : Sum.inr q.1 = kv.1 := a1
                rw [← a1] at p1
                rcases keyIs_shape (show keyIs (Sum.inr q.1) z.key = true from p1) with ⟨_, _, e, _⟩ | ⟨x, t, e, e'⟩
                · cases e
                · cases Sum.inr.inj e
                  exact .cons ⟨t, e'⟩ (ih p3 r2)
      exact go e5 rel
    refine Od.set_odd (prog := X.prog) (w := X.w) hu2 e1 e2 e3 (by rw [List.length_map] at z; omega) str (od.k I ri) fun g tk g1 g2 => ?_
    obtain ⟨ob2, es2, n2, h1, h2, h3, h4⟩ := g1
    have sz2 : es2.size = es.size + 1 := by
      have e := congrArg List.length h4
      rw [List.length_map, Array.length_toList, List.length_append, List.length_map, Array.length_toList] at e
      exact e
    refine ⟨_, d_write (t' := tk) I (by rw [ha]; exact True.intro) g2 ⟨_, h1⟩ (ob := OdD a (ks.map (fun p => V.str p.1) ++ [i])) ⟨⟨lo, es2, n2, ⟨ob2, h1, h2, h3⟩, by rw [List.length_map] at z; omega, by rw [h4]; exact Paired.snoc kv ri⟩, ⟨_, h1⟩, fun h1' h2' p kk => ?_⟩, q⟩
    obtain ⟨lo, es3, n3, ⟨ob3, y1, y2, y3⟩, y4⟩ := p
    exact ⟨lo, es3, n3, ⟨ob3, kk _ y1, y2, y3⟩, y4⟩
/-- isinstance: of a dict with odd keys, too -/
inductive TyO (K : PySem.W.Frag) (H : Hp) : V → Value → Prop where
  | z {v : V} {t : Value} (h : TyZ K H v t) : TyO K H v t
  | od {a : Addr} {ks : List V} (e : H a = some (OdD a ks)) : TyO K H (.ref a) (.type "dict")
def rIsO (K : PySem.W.Frag) : List V → Hp → VK → Prop := fun xs H Q => ∃ (x c : V) (t u : Value) (b : Bool), xs = [x, c] ∧ ClsV c u ∧ TyO K H x t ∧ PySem.W.kitOne K t u = some b ∧ Q (.bl b) H
theorem call_isO : CallR X (.builtin "isinstance") (rIsO X.K) := by
  intro pins s σ H xs us Q I r h
  obtain ⟨x, c, t, u, b, rfl, k, ty, e, q⟩ := h
  cases ty with
  | z ty => exact call_isz pins s σ H _ us Q I r ⟨x, c, t, u, b, rfl, k, ty, e, q⟩
  | @od a ks ea =>
    obtain ⟨w1, w2, rfl, r1, r2⟩ := vals2 r
    obtain rfl := k.eq r2
    obtain rfl : w1 = Value.ref a := r1
    obtain ⟨⟨_, es, ep, ⟨o, h1, h2, _⟩, _⟩, _⟩ := I.hok a _ ea
    exact PySem.W.kia_one PySem.W.kitx_dict I.kIn ⟨o, h1, h2.1⟩ e (fun z => by cases z) fun tk => ⟨.bl b, H, I.tok tk, rfl, q⟩
/-- list(d): the keys, odd ones, too -/
def rListO : List V → Hp → VK → Prop := fun xs H Q => ∃ (a : Addr) (ks : List V), xs = [.ref a] ∧ ((∃ kvs : List (L2.Key × V), Rd H a (.dK kvs) ∧ ks = kvs.map fun kv => kV kv.1) ∨ H a = some (OdD a ks)) ∧ ∀ p, H p = none → Q (.ref p) (upd H p (.lst ks))
theorem call_listO (hcalm : X.calm = true) : CallR X (.type "list") rListO := by
  intro pins s σ H xs us Q I r h
  obtain ⟨a, ks, rfl, h | ha, q⟩ := h
  · obtain ⟨kvs, hd, rfl⟩ := h
    exact call_listD hcalm pins s σ H _ us Q I r ⟨a, kvs, rfl, hd, q⟩
  · obtain ⟨u, rfl, rx⟩ := vals1 r
    cases rx
    obtain ⟨⟨lo, es, ep, dr, sz, vv⟩, _⟩ := I.hok a _ ha
    refine PySem.W.kdl_call (Od.src_raw lo) (I.ok.hd hcalm) dr sz fun h' tk acc c' hk hD hacc => ?_
    have e : acc.toList = es.toList.map (·.key) := by
      apply List.ext_getElem?
      intro j
      rw [List.getElem?_map, Array.getElem?_toList, Array.getElem?_toList]
      cases hj : acc[j]? with
      | none =>
        have lt : acc.size ≤ j := Array.getElem?_eq_none_iff.mp hj
        rw [Array.getElem?_eq_none_iff.mpr (by rw [← hacc.1]; exact lt)]
        rfl
      | some v =>
        obtain ⟨hi, rfl⟩ := hacc.2 j v hj
        rw [Array.getElem?_eq_getElem hi]
        rfl
    have sz2 : ks.length ≤ sizeLine := by
      rw [show ks.length = es.size from by rw [vv.length, List.length_map, Array.length_toList]]
      exact sz
    refine ⟨.ref s.heap.objs.size, upd H s.heap.objs.size (.lst ks), I.laid (t' := tk) hk (Nat.le_refl _) ⟨sz2, acc.toList, c', by rw [e]; exact vv, by rw [Array.toArray_toList]; exact hD⟩, rfl, q _ (I.hok.fresh (Nat.le_refl _))⟩
end
end Lw
namespace Lw
open PySem PySem.Spec PyProof.Rows L2

/-! ### try: body / except X as n: suite, the caught exception held behind the suite -/
/-- an exception's object: its class, its dict -/
def ExO (a : Addr) (cls : Value) (d : Option Addr) : HO := .ext fun h => ∃ o, h.get? a = some o ∧ Zc cls d o ∧ ∃ vs, o.data = .fields vs
section
variable {X : Cx} {pins : List (Addr × Obj)} {σ : L2.St} {H : Hp} {s : Shared}
/-- a pinned object is tracked from now on -/
theorem promote {a : Addr} {o : Obj} {cls : Value} {d : Option Addr} (I : Inv X ((a, o) :: pins) σ H s) (hz : Zc cls d o) (hf : ∃ vs, o.data = .fields vs) (new : X.s_0.heap.get? a = none) (apart : ∀ p ∈ X.pn ++ pins, p.1 ≠ a) : Inv X pins σ (upd H a (ExO a cls d)) s := by
  obtain ⟨ha, na, nL, nF, nC⟩ := I.pin (a, o) (List.mem_append_right _ List.mem_cons_self)
  have here : ∀ b, b ≠ a → upd H a (ExO a cls d) b = H b := fun b n => upd_ne n
  have known : ∀ b u, H b = some u → b ≠ a := fun b u e z => by rw [z, na] at e; cases e
  have old : ∀ b u, X.s_0.heap.get? b = some u → b ≠ a := fun b u e z => by rw [z, new] at e; cases e
  refine ⟨I.ok, I.os, I.bare, ⟨I.base.keep, I.base.slot, fun b u e n hx => ?_, I.base.there, fun b xs e => ?_, fun b u v e => ?_, fun b ps e => ?_⟩, I.loc, I.cell, ?_, fun y c e => ?_, fun p hp => ?_, fun b u e => ?_, I.len⟩
  · rw [here b (old b u e)]
    exact I.base.free b u e n hx
  · have z := I.base.tups b xs e
    rw [here b (known b _ z)]
    exact z
  · have z := I.base.frzs b u v e
    rw [here b (known b _ z)]
    exact z
  · obtain ⟨more, z⟩ := I.base.tbls b ps e
    exact ⟨more, by rw [here b (known b _ z)]; exact z⟩
  · rw [here _ nL.symm]
    exact I.free
  · have ne : c ≠ a := fun z => by
      obtain ⟨v, oc, hoc, hdc⟩ := I.cell y c e
      rw [z, ha] at hoc
      cases hoc
      exact nC v hdc
    rw [here c ne]
    exact I.freeC y c e
  · have hp2 : p ∈ X.pn ++ ((a, o) :: pins) := by
      rcases List.mem_append.mp hp with h | h
      · exact List.mem_append_left _ h
      · exact List.mem_append_right _ (List.mem_cons_of_mem _ h)
    obtain ⟨e1, e2, e3⟩ := I.pin p hp2
    exact ⟨e1, by rw [here _ (apart p hp)]; exact e2, e3⟩
  · by_cases q : b = a
    · subst q
      rw [upd_same] at e
      cases e
      refine ⟨⟨o, ha, hz, hf⟩, ⟨o, ha⟩, ?_⟩
      rintro h1 h2 ⟨u, e1, e2⟩ st
      exact ⟨u, st u e1, e2⟩
    · rw [here b q] at e
      exact (I.hok b u e).stay (fun _ _ _ z => z) (fun c z => by rw [here c (known c _ z)]; exact z) fun c xs z => by rw [here c (known c _ z)]; exact z
end
end Lw
namespace Lw
open PySem PySem.Spec PyProof.Rows L2

/-- what the body's exceptions must be: of the class that is named; the suite ends plainly, and the exception stays known behind it -/
def wHeld (K : PySem.W.Frag) (c : Value) (i n : Nat) (ts : Addr → Value → Option Addr → TS) (D : Ends) : WX := fun cls d σ H => σ.length = n →
  PySem.W.exmOne K cls c = some true ∧ ∀ a, H a = none → ts a cls d { nx := fun σ' H' => H' a = none → D.nx (σ'.set i none) (upd H' a (ExO a cls d)), rt := fun _ _ => False, bk := fun _ _ => False, ct := fun _ _ => False } (σ.set i (some (.ref a))) H
section
variable {X : Cx} {x n : Str} {c : Value} {i : Nat} {body suite : List Stmt} {b₀ : Stmt} {np pos pos' : Pos} {tb : WX → TS} {ts : Addr → Value → Option Addr → TS}
theorem ps_try_held (stk : X.stack = X.env :: X.outer) (frm : X.env.frame = some X.env.locals) (hN : X.N.Nodup) (hi : X.N[i]? = some n) (loc : X.env.kindOf n = some .local) (nm : Names X x c) (noex : X.ex = [])
    (hb : ∀ (W : WX) (pn : List (Addr × Obj)) (xe : Value → Shared → Prop), Takes (X.tr pn xe) W → PassesOwn (model X.prog X.w) X.A X.env xe → PSs (X.tr pn xe) body (tb W))
    (hsu : ∀ (a : Addr) (oe : Obj) (cls : Value) (d : Option Addr) (pn : List (Addr × Obj)), Zc cls d oe → (∃ vs, oe.data = .fields vs) → PSs (X.suite a ((a, oe) :: pn)) (b₀ :: suite) (ts a cls d)) :
    PS X (.Try body [.ExceptHandler (some (.Name x np)) (some n) (b₀ :: suite) pos'] [] [] pos) (fun D σ H => tb (wHeld X.K c i X.N.length ts D) D σ H) := by
  refine ⟨fun pins s σ H D I h => ?_⟩
  have ok := I.ok
  have frames : X.A.frames = some (X.env :: X.outer) := by rw [ok.frames, stk]
  refine wpAny_Try_except ?_
  refine wpAny_mono ((hb (wHeld X.K c i X.N.length ts D) (X.pn ++ pins) (fun e s₁ => wpAny (model X.prog X.w) X.A (noteFrame e X.env) (fun _ s₂ => wpAny (model X.prog X.w) X.A (setFlight e none) (fun _ s₃ =>
    wpAny (model X.prog X.w) X.A (handleBy e X.env [.ExceptHandler (some (.Name x np)) (some n) (b₀ :: suite) pos']) (SP X pins D) X.xe s₃) X.xe s₂) X.xe s₁) (fun u s' air => ?_) PassesOwn.looking).run [] s σ H D (I.toTry _) h) (fun f s1 q => ?_) (fun e s1 q => q)
  · obtain ⟨a, B, sI, pins', σ', H', cls, d, rfl, JT, nb, up, sky, na, os, ag, hw⟩ := air
    have J : Inv X pins σ' H' sI := JT.ofTry ok
    obtain ⟨ours, go⟩ := hw J.len
    rw [stk] at sky
    show wpAny (model X.prog X.w) X.A (noteFrame (.ref a) X.env) _ _ _
    refine Sky.land Zc.steady frames frm sky fun hA flA upA => ?_
    have JA : Inv X pins σ' H' { s' with heap := hA } := J.landed nb flA.1 (up.trans upA) os ag
    obtain ⟨oA, vsA, eA, zA, dA⟩ := flA.there
    -- the exception's object is no frame, and it is new
    have noFrame : a ∉ frs (X.env :: X.outer) := fun hm => by
      obtain ⟨_, o', e', hnf⟩ := flA.2.2.1.mem hm
      rw [eA] at e'
      cases e'
      exact hnf _ dA
    have nL : a ≠ X.env.locals := fun z => noFrame (List.mem_filterMap.mpr ⟨X.env, List.mem_cons_self, by rw [frm, z]⟩)
    have nF : a ∉ X.fs := fun hm => by
      obtain ⟨e, he, q⟩ := List.mem_filterMap.mp hm
      exact noFrame (List.mem_filterMap.mpr ⟨e, List.mem_cons_of_mem _ he, q⟩)
    have nB : B.get? a = none := flA.2.1
    have ground : ∀ b o, sI.heap.get? b = some o → b ≠ a := fun b o e z => by
      rw [z] at e
      have k := nb a o e (by rw [stk]; exact noFrame)
      rw [nB] at k
      cases k
    have fresh : X.s_0.heap.get? a = none := by
      cases e : X.s_0.heap.get? a with
      | none => rfl
      | some o =>
        obtain ⟨o', e'⟩ := J.base.there a o e (by rw [noex]; simp)
        exact absurd rfl (ground a o' e')
    have apart : ∀ p ∈ X.pn ++ pins, p.1 ≠ a := fun p hp => ground p.1 p.2 (J.pin p hp).1
    refine wpAny_handleBy_cons (codeAny_handlers_test ?_) (by intro q; cases q)
    have LT : PySem.W.Looks (model X.prog X.w) hA (typeOf (.ref a)) cls := fun A Q E s k q => wpAny_typeOf_ref (k _ _ eA) (by rw [zA.1]; exact q)
    have LM := PySem.W.exm_one (M := model X.prog X.w) JA.kIn LT ours
    have SA := JA.suite eA dA na nL nF
    have look : ∀ {Q : Value → Shared → Prop} {E : Value → Shared → Prop}, Q c { s' with heap := hA } → wpAny (model X.prog X.w) (X.A.mark (some (.ref a))) (eval (.Name x np) X.env) Q E { s' with heap := hA } := fun {Q E} q => by
      rcases nm with ⟨g1, g2, g3 | ⟨g3, g4, g5⟩⟩
      · exact ld_glob (X := X.suite a ((a, oA) :: (X.pn ++ pins))) SA g1 g3 q g2
      · exact ld_blt (X := X.suite a ((a, oA) :: (X.pn ++ pins))) SA g1 g3 g4 q g5 g2
    refine look (LM.here ?_)
    refine codeAny_handlers_suite_as ?_
    refine HandSPX.lands_againZ flA fun hB flB upB => ?_
    have JB : Inv X pins σ' H' { s' with heap := hB } := J.landed nb flB.1 ((up.trans upA).trans upB) os ag
    obtain ⟨oB, vsB, eB, zB, dB⟩ := flB.there
    refine store_ok (X := X.suite a ((a, oB) :: (X.pn ++ pins))) (v := .ref a) (JB.suite eB dB na nL nF) hN hi (.inl loc) rfl (fun s5 S5 => ?_) (.inr loc)
    refine wpAny_mono ((hsu a oB cls d (X.pn ++ pins) zB ⟨_, dB⟩).run [] s5 _ H' _ S5 (go a na)) (fun f s6 q => ?_) (fun _ _ z => False.elim z)
    cases f with
    | next =>
      obtain ⟨σ6, H6, S6, q6⟩ := q
      have held : Inv X ((a, oB) :: pins) σ6 H6 s6 := ⟨ok, S6.os, S6.bare, S6.base, S6.loc, S6.cell, S6.free, S6.freeC, fun p hp => by
        refine S6.pin p (List.mem_append_left _ ?_)
        show p ∈ (a, oB) :: (X.pn ++ pins)
        rcases List.mem_append.mp hp with h | h
        · exact List.mem_cons_of_mem _ (List.mem_append_left _ h)
        · rcases List.mem_cons.mp h with h | h
          · rw [h]; exact List.mem_cons_self
          · exact List.mem_cons_of_mem _ (List.mem_append_right _ h), S6.hok, S6.len⟩
      refine gone_ok held hN hi loc fun s7 I7 => ?_
      exact ⟨_, _, promote I7 zB ⟨_, dB⟩ fresh apart, q6 (I7.pin (a, oB) (List.mem_append_right _ List.mem_cons_self)).2.1⟩
    | brk =>
      obtain ⟨_, _, _, z⟩ := q
      exact z.elim
    | cont =>
      obtain ⟨_, _, _, z⟩ := q
      exact z.elim
    | ret u =>
      obtain ⟨_, _, _, _, _, z⟩ := q
      exact z.elim
  · cases f with
    | next =>
      obtain ⟨σ1, H1, I1, q1⟩ := q
      exact wpAny_execs_nil ⟨σ1, H1, I1.ofTry ok, q1⟩
    | brk =>
      obtain ⟨σ1, H1, I1, q1⟩ := q
      exact ⟨σ1, H1, I1.ofTry ok, q1⟩
    | cont =>
      obtain ⟨σ1, H1, I1, q1⟩ := q
      exact ⟨σ1, H1, I1.ofTry ok, q1⟩
    | ret u =>
      obtain ⟨v1, σ1, H1, I1, r1, q1⟩ := q
      exact ⟨v1, σ1, H1, I1.ofTry ok, r1, q1⟩
end
end Lw
namespace Lw
open PySem PySem.Spec PyProof.Rows L2

section
variable {X : Cx} {pins : List (Addr × Obj)} {σ : L2.St} {H : Hp} {s : Shared}
theorem held_at {a : Addr} {cls : Value} {d : Option Addr} (I : Inv X pins σ H s) (h : H a = some (ExO a cls d)) : ∃ o vs, s.heap.get? a = some o ∧ o.cls = cls ∧ o.dict = d ∧ o.data = .fields vs := by
  obtain ⟨⟨o, h1, h2, vs, h3⟩, _⟩ := (show ObjOk X.prog X.w H s.heap a (ExO a cls d) from I.hok a _ h)
  exact ⟨o, vs, h1, h2.1, h2.2, h3⟩
/-- the exception as an instance, its attributes known -/
theorem held_inst {a C dd : Addr} {fs : List (Str × V)} (I : Inv X pins σ H s) (h : H a = some (ExO a (.ref C) (some dd))) (hd : H dd = some (.xd fs)) : ∃ o od, PySem.W.InstAt s.heap a o C (some od) ∧ ∀ f v, fs.lookup f = some v → ∃ u, PySem.W.lookIn f od = some (some u) ∧ RelV v u := by
  obtain ⟨o, vs, h1, h2, h3, h4⟩ := held_at I h
  obtain ⟨mA, hns, hr⟩ := (show ObjOk X.prog X.w H s.heap dd (.xd fs) from I.hok dd _ hd)
  obtain ⟨od, ho, hl⟩ := lookIn_ns hns
  refine ⟨o, od, ⟨h1, h2, by unfold PySem.W.notCls; rw [h4] <;> rfl, by rw [h3]; exact ho⟩, fun f v e => ?_⟩
  obtain ⟨u, hu, ru⟩ := RelO.some_of (v := v) (o := mA f) (by rw [← e]; exact hr f)
  exact ⟨u, by rw [hl, hu], ru⟩
/-- e.f of an exception that is held -/
def tHeld (C : Addr) (f : Str) (te : TE) : TE := fun σ H Q => te σ H fun x H1 => ∃ (a dd : Addr) (fs : List (Str × V)) (v : V), x = .ref a ∧ H1 a = some (ExO a (.ref C) (some dd)) ∧ H1 dd = some (.xd fs) ∧ fs.lookup f = some v ∧ Q v H1
theorem pe_held {C : Addr} {e : Expr} {te : TE} {pos : Pos} {f : Str} (T : XfC X.K C) (hno : PySem.W.findIn X.K (.ref C) f = some none) (he : PE X e te) (hb : attributeBase e f X.env (eval e X.env) = eval e X.env := by rfl) : PE X (.Attribute e f pos) (tHeld C f te) := by
  refine ⟨fun pins s σ H Q I q => attr_of hb (thn (he.run pins s σ H _ I q) fun u s1 got => ?_)⟩
  obtain ⟨x, H1, I1, rx, a, dd, fs, v, rfl, ha, hd, hl, q⟩ := got
  obtain rfl : u = Value.ref a := rx
  obtain ⟨o, od, J, fld⟩ := held_inst I1 ha hd
  obtain ⟨u, hu, ru⟩ := fld f v hl
  exact HandSPX.exc_get I1.kIn J T.ga T.gg T.exC (PySem.W.findObj_own T.hdC hno rfl hu) (handed_of ru) ⟨v, H1, I1.tok _, ru, q⟩
end
end Lw
namespace Lw.Hx
open PySem PySem.Spec PySem.Calls PyProof.Rows PySem.W

/-! ### isinstance of an exception that has attributes -/
/-- what isinstance asks of the exception's class -/
structure XCls (K : Frag) (D : Addr) : Prop where
  ga : findIn K (.ref D) "__getattribute__" = some (some (.builtin "BaseException.__getattribute__"))
  gt : findIn K (.ref D) "__getattr__" = some none
  sub : subIn K (.ref D) (.type "BaseException") = some true
  dct : hasDictIn K D = true
  ca : findIn K (.ref D) "__class__" = some (some (.builtin "object.__class__"))
  cn : specialIn K (.builtin "object.__class__") "__get__" = some (some (.builtin "getset_descriptor.__get__"))
  ct : takesIn K (.builtin "object.__class__") = some true
  cm : mroIn K D (.type "object") = some true
section
variable {prog : Program} {w : World} {A : Around} {E : Value → Shared → Prop} {s : Shared} {K : Frag} {x D : Addr} {ox : Obj} {od : Option Obj}
theorem finds (c : XCls K D) : findObj K D od "__class__" = some (.bind (.builtin "getset_descriptor.__get__") (.builtin "object.__class__")) := by
  obtain ⟨cd, hc, _⟩ := any_some c.dct
  unfold findObj
  rw [hc, Option.bind_some, c.ca, Option.bind_some]
  simp only [c.cn, c.ct, Option.bind_some]
theorem class_of (c : XCls K D) {Q : Option Value → Shared → Prop} (X : K.In s.heap) (I : InstAt s.heap x ox D od) (h : Q (some (.ref D)) { s with toks := s.toks + 1 }) : wpAny (model prog w) A (getAttr? (.ref x) "__class__") Q E s := by
  have found := finds (od := od) c
  obtain ⟨hp, gs, dr, tk, os⟩ := s
  have kind := I.type (M := model prog w)
  have asks := looks_findIn (M := model prog w) X c.ga
  have more := looks_findIn (M := model prog w) X c.gt
  have seen := looks_find (M := model prog w) X I found
  have under : Looks (model prog w) hp (isInstance (.ref x) (.type "BaseException")) true := kind.andThen (looks_subIn X c.sub)
  have n2 : (Value.builtin "BaseException.__getattribute__" == Value.builtin "object.__getattribute__") = false := by decide +kernel
  have n1 : (onTheHeap (Value.ref D) && Value.builtin "BaseException.__getattribute__" == Value.builtin "object.__getattribute__") = false := by rw [n2]; rfl
  unfold getAttr? getAttrBy? getAttrBy
  refine wpAny_bind (wpAny_mkText (wpAny_bind (wpAny_attempt (wpAny_holding (wpAny_bind (kind.at (wpAny_bind (asks.at ?_))))))))
  show wpAny _ _ (ite ((onTheHeap (Value.ref D) && Value.builtin "BaseException.__getattribute__" == Value.builtin "object.__getattribute__") = true) _ _) _ _ _
  rw [n1, if_neg (by decide)]
  unfold getAttrByItsOwn hookBefore
  refine wpAny_bind ?_
  rw [if_pos (show onTheHeap (.ref D) = true from rfl)]
  refine more.at (wpAny_bind (wpAny_attempt (wpAny_holding ?_)))
  unfold callGetattribute
  rw [if_neg (show ¬ (false && onTheHeap (Value.builtin "BaseException.__getattribute__")) = true from by decide)]
  unfold boundAndCalled
  rw [PySem.F.excAttr_ValueError.ga.bind (.ref x)]
  refine wpAny_bind (wpAny_pure ?_)
  show wpAny _ _ (call (.builtin "BaseException.__getattribute__") [.ref x, .str "__class__" tk]) _ _ _
  refine wpAny_call (codeAny_call_builtin PySem.F.excAttr_ValueError.ga.plain PySem.F.entry_bexc_ga ?_)
  refine @check_slot (model prog w) _ _ ⟨hp, gs, dr, tk + 1, os⟩ "BaseException.__getattribute__" "BaseException" "__getattribute__" (.ref x) [.str "__class__" tk] [] _ (by decide +kernel) (by decide +kernel) under (PySem.F.args_bexc_ga (.ref x) (.str "__class__" tk)) ?_
  unfold Builtin.«object.__getattribute__»
  refine wpAny_bind (wpAny_of_eq (a := ((Value.ref x : Value), [Value.str "__class__" tk])) (by first | rfl | (simp only [slotArgs] <;> rfl)) ?_)
  refine wpAny_bind (wpAny_pure (wpAny_bind (kind.at (wpAny_bind (seen.at ?_)))))
  show wpAny _ _ (holding [Value.builtin "object.__class__"] (call (.builtin "getset_descriptor.__get__") [.builtin "object.__class__", .ref x, .ref D]) >>= ret) _ _ _
  refine wpAny_bind (wpAny_holding (wpAny_call (class_get (s := ⟨hp, gs, dr, tk + 1, os⟩) X I c.cm ?_)))
  refine wpAny_pure ?_
  show wpAny _ _ (handedOut (.ref D)) _ _ _
  rw [handedOut_of (v := .ref D) rfl]
  first
    | exact wpAny_pure (wpAny_pure h)
    | exact wpAny_pure h
    | exact wpAny_pure (wpAny_bind (wpAny_pure (wpAny_pure h)))
theorem no_list (c : XCls K D) : ∃ o cd, K.lookup D = some o ∧ o.data = .cls cd := by
  obtain ⟨cd, hc, _⟩ := any_some c.dct
  unfold clsIn at hc
  split at hc
  · rename_i c' d' cd' sl' ho
    exact ⟨_, _, ho, rfl⟩
  · cases hc
theorem kitx_held (c : XCls K D) : KitX K (.ref x) (.ref D) (fun h => InstAt h x ox D od) where
  ty := fun _ _ _ I => I.type
  it := fun _ _ X _ => by
    obtain ⟨o, cd, ho, hd⟩ := no_list c
    intro A' Q' E' s' k q
    unfold isType loadHead
    refine wpAny_bind (wpAny_loadPart (k _ _ (X _ _ ho)) ?_)
    rw [hd]
    exact wpAny_pure q
  ne := fun h tp dd its n sl X htp => by
    refine Bool.eq_false_iff.mpr fun q => ?_
    have e : D = tp := Value.ref.inj (beq_iff_eq.mp q)
    obtain ⟨o, cd, ho, hd⟩ := no_list c
    have z := X _ _ ho
    rw [e, htp] at z
    cases z
    cases hd
  ca := fun X I k => class_of c X I k
end
end Lw.Hx
namespace Lw
open PySem PySem.Spec PyProof.Rows L2

/-- a value's kind: an exception's that is held, too -/
inductive TyW (K : PySem.W.Frag) (H : Hp) : V → Value → Prop where
  | z {v : V} {t : Value} (h : TyZ K H v t) : TyW K H v t
  | held {a D dd : Addr} {fs : List (Str × V)} (e : H a = some (ExO a (.ref D) (some dd))) (hd : H dd = some (.xd fs)) (c : Hx.XCls K D) : TyW K H (.ref a) (.ref D)
def rIsw (K : PySem.W.Frag) : List V → Hp → VK → Prop := fun xs H Q => ∃ (x c : V) (t u : Value) (b : Bool), xs = [x, c] ∧ ClsV c u ∧ TyW K H x t ∧ PySem.W.kitOne K t u = some b ∧ Q (.bl b) H
theorem call_isw {X : Cx} : CallR X (.builtin "isinstance") (rIsw X.K) := by
  intro pins s σ H xs us Q I r h
  obtain ⟨x, c, t, u, b, rfl, k, ty, e, q⟩ := h
  cases ty with
  | z ty => exact call_isz pins s σ H _ us Q I r ⟨x, c, t, u, b, rfl, k, ty, e, q⟩
  | @held a D dd fs ea hd cl =>
    obtain ⟨w1, w2, rfl, r1, r2⟩ := vals2 r
    obtain rfl := k.eq r2
    obtain rfl : w1 = Value.ref a := r1
    obtain ⟨o, od, J, _⟩ := held_inst I ea hd
    exact PySem.W.kia_one (Hx.kitx_held cl) I.kIn J e (fun z => by cases z) fun tk => ⟨.bl b, H, I.tok tk, rfl, q⟩
end Lw
namespace Lw
open PySem PySem.Spec PyProof.Rows L2
open LamX
/-! ### repr of any value of the drawn ones -/
theorem SqL.sames {K : PySem.W.Frag} {a : Addr} {H H' : Hp} {ys : List V} (s : Same H H') (h : SqL K H a ys) : SqL K H' a ys := by
  rcases h with (h | ⟨o, h⟩) | h
  · exact .inl (.inl (s _ _ h))
  · exact .inl (.inr ⟨o, s _ _ h⟩)
  · exact .inr h
theorem SqT.sames {K : PySem.W.Frag} {a : Addr} {H H' : Hp} {ys : List V} (s : Same H H') (h : SqT K H a ys) : SqT K H' a ys := by
  rcases h with (h | ⟨o, h⟩) | h
  · exact .inl (.inl (s _ _ h))
  · exact .inl (.inr ⟨o, s _ _ h⟩)
  · exact .inr h
mutual
theorem Dp.sames {K : PySem.W.Frag} {H H' : Hp} (s : Same H H') : ∀ {v : V} {d : PyData}, Dp K H v d → Dp K H' v d
  | _, _, .non => .non
  | _, _, .bl b => .bl b
  | _, _, .int i => .int i
  | _, _, .str x => .str x
  | _, _, .lst h hs => .lst (SqL.sames s h) (DpAll.sames s hs)
  | _, _, .tup h hs => .tup (SqT.sames s h) (DpAll.sames s hs)
theorem DpAll.sames {K : PySem.W.Frag} {H H' : Hp} (s : Same H H') : ∀ {vs : List V} {ds : List PyData}, DpAll K H vs ds → DpAll K H' vs ds
  | _, _, .nil => .nil
  | _, _, .cons h hs => .cons (Dp.sames s h) (DpAll.sames s hs)
end
inductive Rp (K : PySem.W.Frag) (H : Hp) : V → Str → Prop where
  | non : Rp K H .non "None"
  | bl (b : Bool) : Rp K H (.bl b) (if b then "True" else "False")
  | str (z : Str) (h : (reprText z).length ≤ sizeLine) : Rp K H (.str z) (reprText z)
  | int (i : Int) (h : i.natAbs.log2 < 1920) : Rp K H (.int i) (toString i)
  | data {a : Addr} {d : PyData} (h : Dp K H (.ref a) d) (h1 : d.showable = true) (h2 : d.hasDict = false) (h3 : d.depth ≤ 100) (h4 : d.shown.length ≤ sizeLine) : Rp K H (.ref a) d.shown
  | dnil {a : Addr} (h : H a = some (.dK [])) : Rp K H (.ref a) (PyData.dict []).shown
  | dks {a : Addr} {ks : List (Str × Int)} (h : H a = some (.dK (ks.map fun q => ((Sum.inr q.1 : L2.Key), V.int q.2)))) (h1 : (PyData.dict (ks.map fun q => (PyData.str q.1, PyData.int q.2))).showable = true)
    (h2 : (PyData.dict (ks.map fun q => (PyData.str q.1, PyData.int q.2))).depth ≤ 2) (h4 : (PyData.dict (ks.map fun q => (PyData.str q.1, PyData.int q.2))).shown.length ≤ sizeLine) : Rp K H (.ref a) (PyData.dict (ks.map fun q => (PyData.str q.1, PyData.int q.2))).shown
theorem Rp.same {K : PySem.W.Frag} {H H' : Hp} {v : V} {r : Str} (s : Same H H') (h : Rp K H v r) : Rp K H' v r := by
  cases h with
  | non => exact .non
  | bl b => exact .bl b
  | str z h => exact .str z h
  | int i h => exact .int i h
  | data h h1 h2 h3 h4 => exact .data (Lw.Dp.sames s h) h1 h2 h3 h4
  | dnil h => exact .dnil (s _ _ h)
  | dks h h1 h2 h4 => exact .dks (s _ _ h) h1 h2 h4
theorem reads_si {P : Program} {w : World} {h : Heap} : ∀ {ks : List (Str × Int)} {vs : List (L2.Key × Value)} {l : List DictEntry}, KV (ks.map fun q => ((Sum.inr q.1 : L2.Key), V.int q.2)) vs → Pairs (mixKind P w) l vs →
    ReadsAll h (l.map (·.key)) ((ks.map fun q => (PyData.str q.1, PyData.int q.2)).map (·.1)) [] ∧ ReadsAll h (l.map (·.val)) ((ks.map fun q => (PyData.str q.1, PyData.int q.2)).map (·.2)) []
  | [], _, _, kv, pr => by
    cases kv
    cases pr
    exact ⟨.nil, .nil⟩
  | q :: r, _, _, kv, pr => by
    cases kv with
    | @cons q1 q2 _ _ hq r0 =>
      obtain ⟨k2, v2⟩ := q2
      obtain ⟨e1, e2⟩ := hq
      have e1 : (Sum.inr q.1 : L2.Key) = k2 := e1
      subst e1
      obtain ⟨tv, rfl⟩ := (show ∃ t, v2 = Value.int q.2 t from e2)
      generalize hv2 : Value.int q.2 tv = v2 at pr
      cases pr with
      | cons he hr =>
        rename_i e0 l0 rest0
        have ev : e0.val = v2 := hr
        obtain ⟨h1, h2⟩ := reads_si (h := h) r0 rest0
        have he : keyIs (.inr q.1) e0.key = true := he
        rcases keyIs_shape he with ⟨i, t, ei, ek⟩ | ⟨x, t, ei, ek⟩
        · cases ei
        · cases ei
          refine ⟨?_, ?_⟩
          · show ReadsAll h (e0.key :: _) (PyData.str q.1 :: _) []
            rw [ek]
            exact .cons (.str _ t) h1
          · show ReadsAll h (e0.val :: _) (PyData.int q.2 :: _) []
            rw [ev, ← hv2]
            exact .cons (.int _ tv) h2
def rRpx (K : PySem.W.Frag) : List V → Hp → VK → Prop := fun xs H Q => ∃ (v : V) (r : Str), xs = [v] ∧ Rp K H v r ∧ Q (.str r) H
section
variable {X : Cx}
theorem call_reprX (hG : X.A.guards = some []) (hr : Room 0 X.A) : CallR X (.builtin "repr") (rRpx X.K) := by
  intro pins s σ H xs us Q I r h
  obtain ⟨v, z, rfl, hv, q⟩ := h
  obtain ⟨u, rfl, ru⟩ := vals1 r
  have hun := hr.un
  cases hv with
  | non =>
    cases (show u = Value.none from ru)
    exact PySem.P.repr_of_none ⟨.str "None", H, I.tok _, ⟨_, rfl⟩, q⟩
  | int i h =>
    obtain ⟨t, rfl⟩ := (show ∃ t, u = Value.int i t from ru)
    exact PySem.P.repr_of_int h ⟨.str (toString i), H, I.tok _, ⟨_, rfl⟩, q⟩
  | bl b =>
    cases (show u = Value.bool b from ru)
    refine PySem.P.repr_of_bool ⟨.str (if b then "True" else "False"), H, I.tok _, ⟨_, rfl⟩, ?_⟩
    cases b <;> exact q
  | str z h =>
    obtain ⟨t, rfl⟩ := (show ∃ t, u = Value.str z t from ru)
    exact PySem.P.repr_of_str ⟨.str (reprText z), H, I.tok _, ⟨_, rfl⟩, q⟩ h
  | @data a d h h1 h2 h3 h4 =>
    cases (show u = Value.ref a from ru)
    obtain ⟨as, rd⟩ := Dp.reads I d _ _ h rfl
    exact repr_of_reads' rd h1 (fun z => by rw [h2] at z; cases z) hG (by omega) (fun _ _ e => e) (fun h' u' tk kp => ⟨.str d.shown, H, I.kept kp, ⟨u', rfl⟩, q⟩) h4
  | @dnil a h =>
    cases (show u = Value.ref a from ru)
    obtain ⟨_, hm, vs, kv, o, es, ep, ho, hx, hd, _, pr, _⟩ := dk_of I.hok h
    have e0 : vs = [] := by cases kv; rfl
    subst e0
    have e1 : es.toList = [] := by
      generalize es.toList = l at pr
      cases pr
      rfl
    have rd : Reads s.heap (.ref a) (.dict []) [a] := Reads.dict (as := []) (bs := []) ho hx.1 hd (by rw [e1]; exact .nil) (by rw [e1]; exact .nil)
    refine repr_of_reads' rd rfl (fun _ z => ?_) hG (by show _ + ((PyData.dict []).depth + 1) < cLine; have : (PyData.dict []).depth ≤ 1 := by decide
                                                        omega) (fun _ _ e => e) (fun h' u' tk kp => ⟨.str _, H, I.kept kp, ⟨u', rfl⟩, q⟩) (by decide)
    rw [List.mem_singleton] at z
    rw [← z] at hm
    simp at hm
  | @dks a ks h h1 hd2 h4 =>
    cases (show u = Value.ref a from ru)
    obtain ⟨_, hm, vs, kv, o, es, ep, ho, hx, hd, _, pr, _⟩ := dk_of I.hok h
    obtain ⟨k1, k2⟩ := reads_si (h := s.heap) kv pr
    have rd : Reads s.heap (.ref a) (.dict (ks.map fun q => (PyData.str q.1, PyData.int q.2))) [a] := Reads.dict (as := []) (bs := []) ho hx.1 hd k1 k2
    refine repr_of_reads' rd h1 (fun _ z => ?_) hG (by show _ + ((PyData.dict _).depth + 1) < cLine; omega) (fun _ _ e => e) (fun h' u' tk kp => ⟨.str _, H, I.kept kp, ⟨u', rfl⟩, q⟩) h4
    rw [List.mem_singleton] at z
    rw [← z] at hm
    simp at hm
end
end Lw
namespace Lw
open PySem PySem.Spec PyProof.Rows L2
open SX PySem.NumText TL LamX ClX
abbrev sHea : Stmt := top 34
/-- a caught error's class -/
structure HrdC (K : PySem.W.Frag) (D L : Addr) : Prop where
  xf : XfC K D
  xc : Hx.XCls K D
  me : PySem.W.kitOne K (.ref D) (.ref D) = some true
  va : PySem.W.kitOne K (.ref D) (.type "ValueError") = some true
  ex : PySem.W.exmOne K (.ref D) (.ref L) = some true
structure Hrd (K : PySem.W.Frag) (mg : Str → Option Value) (DC DN DS DW DX DM L : Addr) : Prop where
  ml : mg "LateError" = some (.ref L)
  mv : mg "ValueError" = none
  cDC : HrdC K DC L
  mDC : mg "BadCrew" = some (.ref DC)
  nDC_part : PySem.W.findIn K (.ref DC) "part" = some none
  kDC_DN : PySem.W.kitOne K (.ref DC) (.ref DN) = some false
  kDC_DS : PySem.W.kitOne K (.ref DC) (.ref DS) = some false
  kDC_DW : PySem.W.kitOne K (.ref DC) (.ref DW) = some false
  kDC_DX : PySem.W.kitOne K (.ref DC) (.ref DX) = some false
  kDC_DM : PySem.W.kitOne K (.ref DC) (.ref DM) = some false
  cDN : HrdC K DN L
  mDN : mg "BadName" = some (.ref DN)
  nDN_value : PySem.W.findIn K (.ref DN) "value" = some none
  kDN_DC : PySem.W.kitOne K (.ref DN) (.ref DC) = some false
  kDN_DS : PySem.W.kitOne K (.ref DN) (.ref DS) = some false
  kDN_DW : PySem.W.kitOne K (.ref DN) (.ref DW) = some false
  kDN_DX : PySem.W.kitOne K (.ref DN) (.ref DX) = some false
  kDN_DM : PySem.W.kitOne K (.ref DN) (.ref DM) = some false
  cDS : HrdC K DS L
  mDS : mg "BadSpeed" = some (.ref DS)
  nDS_value : PySem.W.findIn K (.ref DS) "value" = some none
  kDS_DC : PySem.W.kitOne K (.ref DS) (.ref DC) = some false
  kDS_DN : PySem.W.kitOne K (.ref DS) (.ref DN) = some false
  kDS_DW : PySem.W.kitOne K (.ref DS) (.ref DW) = some false
  kDS_DX : PySem.W.kitOne K (.ref DS) (.ref DX) = some false
  kDS_DM : PySem.W.kitOne K (.ref DS) (.ref DM) = some false
  cDW : HrdC K DW L
  mDW : mg "NoWorker" = some (.ref DW)
  nDW_name : PySem.W.findIn K (.ref DW) "name" = some none
  kDW_DC : PySem.W.kitOne K (.ref DW) (.ref DC) = some false
  kDW_DN : PySem.W.kitOne K (.ref DW) (.ref DN) = some false
  kDW_DS : PySem.W.kitOne K (.ref DW) (.ref DS) = some false
  kDW_DX : PySem.W.kitOne K (.ref DW) (.ref DX) = some false
  kDW_DM : PySem.W.kitOne K (.ref DW) (.ref DM) = some false
  cDX : HrdC K DX L
  mDX : mg "BadText" = some (.ref DX)
  nDX_line : PySem.W.findIn K (.ref DX) "line" = some none
  nDX_word : PySem.W.findIn K (.ref DX) "word" = some none
  kDX_DC : PySem.W.kitOne K (.ref DX) (.ref DC) = some false
  kDX_DN : PySem.W.kitOne K (.ref DX) (.ref DN) = some false
  kDX_DS : PySem.W.kitOne K (.ref DX) (.ref DS) = some false
  kDX_DW : PySem.W.kitOne K (.ref DX) (.ref DW) = some false
  kDX_DM : PySem.W.kitOne K (.ref DX) (.ref DM) = some false
  cDM : HrdC K DM L
  mDM : mg "TooMany" = some (.ref DM)
  nDM_what : PySem.W.findIn K (.ref DM) "what" = some none
  nDM_most : PySem.W.findIn K (.ref DM) "most" = some none
  kDM_DC : PySem.W.kitOne K (.ref DM) (.ref DC) = some false
  kDM_DN : PySem.W.kitOne K (.ref DM) (.ref DN) = some false
  kDM_DS : PySem.W.kitOne K (.ref DM) (.ref DS) = some false
  kDM_DW : PySem.W.kitOne K (.ref DM) (.ref DW) = some false
  kDM_DX : PySem.W.kitOne K (.ref DM) (.ref DX) = some false
/-- what is heard of an exception -/
def HeardX (K : PySem.W.Frag) (DC DN DS DW DX DM : Addr) (Q : VK) (cls : Value) (d : Option Addr) (H1 : Hp) : Prop :=
  (cls = .ref DC ∧ ∃ (dd : Addr) (fs : List (Str × V)) (v0 : V) , d = some dd ∧ H1 dd = some (.xd fs) ∧ fs.lookup ("part" : Str) = some v0 ∧ ∀ t H3, Same H1 H3 → H1 t = none → H3 t = some (.tup [.str (Str.ofString "crew"), v0]) → Q (.ref t) H3) ∨
  (cls = .ref DN ∧ ∃ (dd : Addr) (fs : List (Str × V)) (v0 : V) (z0 : Str), d = some dd ∧ H1 dd = some (.xd fs) ∧ fs.lookup ("value" : Str) = some v0 ∧ Rp K H1 v0 z0 ∧ ∀ t H3, Same H1 H3 → H1 t = none → H3 t = some (.tup [.str (Str.ofString "name"), .str z0]) → Q (.ref t) H3) ∨
  (cls = .ref DS ∧ ∃ (dd : Addr) (fs : List (Str × V)) (v0 : V) (z0 : Str), d = some dd ∧ H1 dd = some (.xd fs) ∧ fs.lookup ("value" : Str) = some v0 ∧ Rp K H1 v0 z0 ∧ ∀ t H3, Same H1 H3 → H1 t = none → H3 t = some (.tup [.str (Str.ofString "speed"), .str z0]) → Q (.ref t) H3) ∨
  (cls = .ref DW ∧ ∃ (dd : Addr) (fs : List (Str × V)) (v0 : V) (z0 : Str), d = some dd ∧ H1 dd = some (.xd fs) ∧ fs.lookup ("name" : Str) = some v0 ∧ Rp K H1 v0 z0 ∧ ∀ t H3, Same H1 H3 → H1 t = none → H3 t = some (.tup [.str (Str.ofString "worker"), .str z0]) → Q (.ref t) H3) ∨
  (cls = .ref DX ∧ ∃ (dd : Addr) (fs : List (Str × V)) (v0 : V) (v1 : V) (z0 : Str) (z1 : Str), d = some dd ∧ H1 dd = some (.xd fs) ∧ fs.lookup ("line" : Str) = some v0 ∧ fs.lookup ("word" : Str) = some v1 ∧ Rp K H1 v0 z0 ∧ Rp K H1 v1 z1 ∧ ∀ t H3, Same H1 H3 → H1 t = none → H3 t = some (.tup [.str (Str.ofString "text"), .str z0, .str z1]) → Q (.ref t) H3) ∨
  (cls = .ref DM ∧ ∃ (dd : Addr) (fs : List (Str × V)) (v0 : V) (v1 : V) , d = some dd ∧ H1 dd = some (.xd fs) ∧ fs.lookup ("what" : Str) = some v0 ∧ fs.lookup ("most" : Str) = some v1 ∧ ∀ t H3, Same H1 H3 → H1 t = none → H3 t = some (.tup [.str (Str.ofString "many"), v0, v1]) → Q (.ref t) H3)
def HeardV (Q : VK) (x : V) (H1 : Hp) : Prop := ∀ t H3, Same H1 H3 → H1 t = none → H3 t = some (.lst [x]) → Q (.ref t) H3
def TTheard (K : PySem.W.Frag) (DC DN DS DW DX DM : Addr) : (XK → Hp → VK → Prop) → Hp → VK → Prop := fun tl H Q => ∀ H2, Same H H2 → tl (HeardX K DC DN DS DW DX DM Q) H2 (HeardV Q)
abbrev NHea : List Str := ["_law_ask", "_law_some", "_law_caught", "_law_found", "error"]
theorem scHea : FnScope NHea ["_law_ask"] (C8.fnScope sHea) := C8.fnScope_by (by decide +kernel)
theorem pe_weak {X : Cx} {e : Expr} {te : TE} (he : PE X e te) : PE X e (fun σ H Q => ∃ Qx : VK, te σ H Qx ∧ ∀ x H1, Qx x H1 → Q x H1) :=
  ⟨fun pins s σ H Q I ⟨Qx, h, m⟩ => wpAny_mono (he.run pins s σ H Qx I h) (fun v s' ⟨x, H', I', r, q⟩ => ⟨x, H', I', r, m _ _ q⟩) (fun _ _ e => e)⟩
theorem heard_gives {X : Cx} {q : Str} {g DC DN DS DW DX DM L : Addr} {cdg : Value} (R : Hrd X.K X.mg DC DN DS DW DX DM L) (T : Txt X.mg) (hG : X.A.guards = some []) (hr0 : Room 1 X.A) :
    GivesTo X NHea "_law_heard" (C8.fnScope sHea) g cdg (C8.fnBody sHea) "_law_ask" q (TTheard X.K DC DN DS DW DX DM) := by
  intro f c' s H Q tl act hc h
  have hr : Room 0 (cxOf C8.CX0 X.prog X.w X.K X.mg X.base NHea "_law_heard" (C8.fnScope sHea) g cdg X.A X.stack s H C8.E0).nox.A := hr0.deeper _
  have hG' : (cxOf C8.CX0 X.prog X.w X.K X.mg X.base NHea "_law_heard" (C8.fnScope sHea) g cdg X.A X.stack s H C8.E0).nox.A.guards = some [] := hG
  refine ⟨_, pss_cons (ps_asg (pe_tup (pa_cons pe_non (pa_cons pe_non pa_nil))) (pg_tup rfl (pgs_cons (pg_name (i := 2) scHea.nd rfl (Or.inl rfl)) (pgs_cons (pg_name (i := 3) scHea.nd rfl (Or.inl rfl)) pgs_nil))))
    (pss_cons (ps_try_held (X := (cxOf C8.CX0 X.prog X.w X.K X.mg X.base NHea "_law_heard" (C8.fnScope sHea) g cdg X.A X.stack s H C8.E0).nox) (c := .ref L) (i := 4)
      (tb := fun W Dn σ H => ∃ Ech : XK, (∀ cls d σ' H', Ech cls d H' → W cls d σ' H') ∧ σ[0]? = some (some (.ref f)) ∧ H c' = some (CodeO c' q) ∧ ∃ Qx : VK, tl Ech H Qx ∧ ∀ x H1, Qx x H1 → Dn.nx (σ.set 3 (some x)) H1)
      rfl rfl scHea.nd rfl (by rfl) ⟨by rfl, by decide, .inl R.ml⟩ rfl (fun W pn xe tk _ => ?_) (fun a oe cls d pn _ _ => pss_one (ps_set (i := 2) scHea.nd rfl (Or.inl rfl) (pv 4))))
    (pss_cons (ps_if (pt_cmpR op_isN (pv 2) pe_non (nomark _)) (pss_one (ps_ret (pe_lst (pa_cons (pv 3) pa_nil)))) pss_nil)
    (pss_cons (ps_set (i := 1) scHea.nd rfl (Or.inl rfl) (pe_lst pa_nil))
    (pss_cons (ps_if (pt_val (pe_callB call_isw (by rfl) T.n_isinstance (by decide +kernel) (pa_cons (pv 2) (pa_cons (pe_glob (v := .ref DC) (by rfl) R.mDC rfl) pa_nil)))) (pss_one (ps_expr (pe_bm PySem.F.plainAttrs_list PySem.F.slot_list_append PySem.F.type_list_append mt_append (pv 1) (pa_cons (pe_tup (pa_cons pe_str (pa_cons (pe_held R.cDC.xf R.nDC_part (pv 2)) pa_nil))) pa_nil)))) pss_nil)
    (pss_cons (ps_if (pt_val (pe_callB call_isw (by rfl) T.n_isinstance (by decide +kernel) (pa_cons (pv 2) (pa_cons (pe_glob (v := .ref DN) (by rfl) R.mDN rfl) pa_nil)))) (pss_one (ps_expr (pe_bm PySem.F.plainAttrs_list PySem.F.slot_list_append PySem.F.type_list_append mt_append (pv 1) (pa_cons (pe_tup (pa_cons pe_str (pa_cons (pe_callB (call_reprX hG' hr) (by rfl) T.n_repr (by decide +kernel) (pa_cons (pe_held R.cDN.xf R.nDN_value (pv 2)) pa_nil)) pa_nil))) pa_nil)))) pss_nil)
    (pss_cons (ps_if (pt_val (pe_callB call_isw (by rfl) T.n_isinstance (by decide +kernel) (pa_cons (pv 2) (pa_cons (pe_glob (v := .ref DS) (by rfl) R.mDS rfl) pa_nil)))) (pss_one (ps_expr (pe_bm PySem.F.plainAttrs_list PySem.F.slot_list_append PySem.F.type_list_append mt_append (pv 1) (pa_cons (pe_tup (pa_cons pe_str (pa_cons (pe_callB (call_reprX hG' hr) (by rfl) T.n_repr (by decide +kernel) (pa_cons (pe_held R.cDS.xf R.nDS_value (pv 2)) pa_nil)) pa_nil))) pa_nil)))) pss_nil)
    (pss_cons (ps_if (pt_val (pe_callB call_isw (by rfl) T.n_isinstance (by decide +kernel) (pa_cons (pv 2) (pa_cons (pe_glob (v := .ref DW) (by rfl) R.mDW rfl) pa_nil)))) (pss_one (ps_expr (pe_bm PySem.F.plainAttrs_list PySem.F.slot_list_append PySem.F.type_list_append mt_append (pv 1) (pa_cons (pe_tup (pa_cons pe_str (pa_cons (pe_callB (call_reprX hG' hr) (by rfl) T.n_repr (by decide +kernel) (pa_cons (pe_held R.cDW.xf R.nDW_name (pv 2)) pa_nil)) pa_nil))) pa_nil)))) pss_nil)
    (pss_cons (ps_if (pt_val (pe_callB call_isw (by rfl) T.n_isinstance (by decide +kernel) (pa_cons (pv 2) (pa_cons (pe_glob (v := .ref DX) (by rfl) R.mDX rfl) pa_nil)))) (pss_one (ps_expr (pe_bm PySem.F.plainAttrs_list PySem.F.slot_list_append PySem.F.type_list_append mt_append (pv 1) (pa_cons (pe_tup (pa_cons pe_str (pa_cons (pe_callB (call_reprX hG' hr) (by rfl) T.n_repr (by decide +kernel) (pa_cons (pe_held R.cDX.xf R.nDX_line (pv 2)) pa_nil)) (pa_cons (pe_callB (call_reprX hG' hr) (by rfl) T.n_repr (by decide +kernel) (pa_cons (pe_held R.cDX.xf R.nDX_word (pv 2)) pa_nil)) pa_nil)))) pa_nil)))) pss_nil)
    (pss_cons (ps_if (pt_val (pe_callB call_isw (by rfl) T.n_isinstance (by decide +kernel) (pa_cons (pv 2) (pa_cons (pe_glob (v := .ref DM) (by rfl) R.mDM rfl) pa_nil)))) (pss_one (ps_expr (pe_bm PySem.F.plainAttrs_list PySem.F.slot_list_append PySem.F.type_list_append mt_append (pv 1) (pa_cons (pe_tup (pa_cons pe_str (pa_cons (pe_held R.cDM.xf R.nDM_what (pv 2)) (pa_cons (pe_held R.cDM.xf R.nDM_most (pv 2)) pa_nil)))) pa_nil)))) pss_nil)
    (pss_one (ps_ret (pe_ifExp (PW.pt (pw_and (pt_cmpR op_eq (pe_callB call_len_seq (by rfl) T.n_len (by decide +kernel) (pa_cons (pv 1) pa_nil)) pe_int (nomark _)) (pw_and1 (pt_val (pe_callB call_isw (by rfl) T.n_isinstance (by decide +kernel) (pa_cons (pv 2) (pa_cons (pe_bltn (v := .ty "ValueError") (by rfl) R.mv (by decide +kernel) rfl) pa_nil))))))) (pe_ix ix_list (pv 1) pe_int (fun _ _ => rfl)) (pe_tup (pa_cons pe_str pa_nil)))))))))))))), ?_⟩
  · refine ⟨fun pins s' σ H' Dn I h' => ?_⟩
    obtain ⟨Ech, hW, h1, h2, h3⟩ := h'
    obtain ⟨Qx, h3, h4⟩ := h3
    refine PSs.run (t := tAsg (fun σ H Q => ∃ Qx : VK, (fun σZ HZ Q => σZ[0]? = some (some (V.ref f)) ∧ HZ c' = some (CodeO c' q) ∧ tl Ech HZ Q) σ H Qx ∧ ∀ x H1, Qx x H1 → Q x H1) (gName 3)) ?hp pins s' σ H' Dn I ⟨Qx, ⟨h1, h2, h3⟩, h4⟩
    case hp => exact pss_one (ps_set (i := 3) scHea.nd rfl (Or.inl rfl) (pe_weak (act W pn xe Ech _ _ tk hW)))
  · refine ⟨(by show 2 ≤ sizeLine; decide), fun tt ft0 => ⟨tt, _, rfl, SqT.of upd_same, rfl, _, _, rfl, _, _, rfl, rfl, ?_⟩⟩
    have s0 := same_new (o := HO.tup [V.non, V.non]) ft0
    have hc0 := s0 _ _ hc
    have h0 := h _ s0
    refine ⟨HeardX X.K DC DN DS DW DX DM Q, fun cls d σ' H' z => ?_, rfl, hc0, ?_⟩
    · intro hl
      obtain ⟨x0, x1, x2, x3, x4, rfl⟩ : ∃ x0 x1 x2 x3 x4, σ' = [x0, x1, x2, x3, x4] := by
        match σ', hl with
        | [x0, x1, x2, x3, x4], _ => exact ⟨x0, x1, x2, x3, x4, rfl⟩
      rcases z with ⟨rfl, dd, fs, v0, rfl, e1, f0, go⟩ | ⟨rfl, dd, fs, v0, z0, rfl, e1, f0, p0, go⟩ | ⟨rfl, dd, fs, v0, z0, rfl, e1, f0, p0, go⟩ | ⟨rfl, dd, fs, v0, z0, rfl, e1, f0, p0, go⟩ | ⟨rfl, dd, fs, v0, v1, z0, z1, rfl, e1, f0, f1, p0, p1, go⟩ | ⟨rfl, dd, fs, v0, v1, rfl, e1, f0, f1, go⟩
      · refine ⟨R.cDC.ex, fun a na => ⟨_, rfl, fun na' => ?_⟩⟩
        have s1 : Same H' (upd H' a (ExO a (.ref DC) (some dd))) := same_new na
        have ea : upd H' a (ExO a (.ref DC) (some dd)) a = some (ExO a (.ref DC) (some dd)) := upd_same
        have ed := s1 _ _ e1
        generalize upd H' a (ExO a (.ref DC) (some dd)) = H1 at s1 ea ed ⊢
        refine ⟨_, rfl, rfl, _, rfl, iteF ⟨(by show 0 ≤ sizeLine; decide), fun p np => ?_⟩⟩
        have s2 := same_new (o := HO.lst []) np
        have ep : upd H1 p (.lst []) p = some (.lst []) := upd_same
        have ea2 := s2 _ _ ea
        have ed2 := s2 _ _ ed
        have np' : H' p = none := s1.free np
        generalize upd H1 p (.lst []) = H2 at s2 ep ea2 ed2 ⊢
        refine ⟨_, rfl, _, .ref DC, .ref DC, .ref DC, true, rfl, .own DC, .held ea2 ed2 R.cDC.xc, R.cDC.me, _, rfl, iteT ⟨_, rfl, .inl ⟨rfl, _, SqL.of ep⟩, _, rfl, a, dd, _, _, rfl, ea2, ed2, f0, (by show 2 ≤ sizeLine; decide), fun t ft => ?_⟩⟩
        have s3 := same_new (o := HO.tup [V.str (Str.ofString "crew"), v0]) ft
        refine ⟨p, _, _, rfl, rfl, s3 _ _ ep, (by show 0 < sizeLine; decide), ?_⟩
        have tp : t ≠ p := fun e => by rw [e, ep] at ft; cases ft
        have ap : a ≠ p := fun e => by rw [e, ep] at ea2; cases ea2
        have dp : dd ≠ p := fun e => by rw [e, ep] at ed2; cases ed2
        have s4 : Same H' (upd (upd H2 t (.tup [V.str (Str.ofString "crew"), v0])) p (.lst ([] ++ [V.ref t]))) := fun b o e => by
          rw [upd_ne (ne_of_none e np')]
          exact s3 _ _ (s2 _ _ (s1 _ _ e))
        have ft' : H' t = none := (s1.trans s2).free ft
        have et : upd (upd H2 t (.tup [V.str (Str.ofString "crew"), v0])) p (.lst ([] ++ [V.ref t])) t = some (.tup [V.str (Str.ofString "crew"), v0]) := by rw [upd_ne tp]; exact upd_same
        have ea3 : upd (upd H2 t (.tup [V.str (Str.ofString "crew"), v0])) p (.lst ([] ++ [V.ref t])) a = some (ExO a (.ref DC) (some dd)) := by rw [upd_ne ap]; exact s3 _ _ ea2
        have ed3 : upd (upd H2 t (.tup [V.str (Str.ofString "crew"), v0])) p (.lst ([] ++ [V.ref t])) dd = some (.xd fs) := by rw [upd_ne dp]; exact s3 _ _ ed2
        have ep3 : upd (upd H2 t (.tup [V.str (Str.ofString "crew"), v0])) p (.lst ([] ++ [V.ref t])) p = some (.lst [V.ref t]) := upd_same
        generalize upd (upd H2 t (.tup [V.str (Str.ofString "crew"), v0])) p (.lst ([] ++ [V.ref t])) = H3 at s4 et ea3 ed3 ep3 ⊢
        refine ⟨_, rfl, _, .ref DN, .ref DC, .ref DN, false, rfl, .own DN, .held ea3 ed3 R.cDC.xc, R.kDC_DN, _, rfl, iteF ?_⟩
        refine ⟨_, rfl, _, .ref DS, .ref DC, .ref DS, false, rfl, .own DS, .held ea3 ed3 R.cDC.xc, R.kDC_DS, _, rfl, iteF ?_⟩
        refine ⟨_, rfl, _, .ref DW, .ref DC, .ref DW, false, rfl, .own DW, .held ea3 ed3 R.cDC.xc, R.kDC_DW, _, rfl, iteF ?_⟩
        refine ⟨_, rfl, _, .ref DX, .ref DC, .ref DX, false, rfl, .own DX, .held ea3 ed3 R.cDC.xc, R.kDC_DX, _, rfl, iteF ?_⟩
        refine ⟨_, rfl, _, .ref DM, .ref DC, .ref DM, false, rfl, .own DM, .held ea3 ed3 R.cDC.xc, R.kDC_DM, _, rfl, iteF ?_⟩
        refine ⟨_, rfl, p, _, rfl, .inl (SqL.of ep3), rfl, _, rfl, iteT ⟨_, rfl, _, .ty "ValueError", .ref DC, .type "ValueError", true, rfl, .ty _, .held ea3 ed3 R.cDC.xc, R.cDC.va, _, rfl, iteT ⟨_, rfl, p, _, 0, _, rfl, rfl, SqL.of ep3, atI_nat (j := 0) rfl, ?_⟩⟩⟩
        exact go t H3 s4 ft' et
      · refine ⟨R.cDN.ex, fun a na => ⟨_, rfl, fun na' => ?_⟩⟩
        have s1 : Same H' (upd H' a (ExO a (.ref DN) (some dd))) := same_new na
        have ea : upd H' a (ExO a (.ref DN) (some dd)) a = some (ExO a (.ref DN) (some dd)) := upd_same
        have ed := s1 _ _ e1
        generalize upd H' a (ExO a (.ref DN) (some dd)) = H1 at s1 ea ed ⊢
        refine ⟨_, rfl, rfl, _, rfl, iteF ⟨(by show 0 ≤ sizeLine; decide), fun p np => ?_⟩⟩
        have s2 := same_new (o := HO.lst []) np
        have ep : upd H1 p (.lst []) p = some (.lst []) := upd_same
        have ea2 := s2 _ _ ea
        have ed2 := s2 _ _ ed
        have np' : H' p = none := s1.free np
        generalize upd H1 p (.lst []) = H2 at s2 ep ea2 ed2 ⊢
        refine ⟨_, rfl, _, .ref DC, .ref DN, .ref DC, false, rfl, .own DC, .held ea2 ed2 R.cDN.xc, R.kDN_DC, _, rfl, iteF ?_⟩
        refine ⟨_, rfl, _, .ref DN, .ref DN, .ref DN, true, rfl, .own DN, .held ea2 ed2 R.cDN.xc, R.cDN.me, _, rfl, iteT ⟨_, rfl, .inl ⟨rfl, _, SqL.of ep⟩, _, rfl, a, dd, _, _, rfl, ea2, ed2, f0, v0, z0, rfl, Rp.same (s1.trans s2) p0, (by show 2 ≤ sizeLine; decide), fun t ft => ?_⟩⟩
        have s3 := same_new (o := HO.tup [V.str (Str.ofString "name"), V.str z0]) ft
        refine ⟨p, _, _, rfl, rfl, s3 _ _ ep, (by show 0 < sizeLine; decide), ?_⟩
        have tp : t ≠ p := fun e => by rw [e, ep] at ft; cases ft
        have ap : a ≠ p := fun e => by rw [e, ep] at ea2; cases ea2
        have dp : dd ≠ p := fun e => by rw [e, ep] at ed2; cases ed2
        have s4 : Same H' (upd (upd H2 t (.tup [V.str (Str.ofString "name"), V.str z0])) p (.lst ([] ++ [V.ref t]))) := fun b o e => by
          rw [upd_ne (ne_of_none e np')]
          exact s3 _ _ (s2 _ _ (s1 _ _ e))
        have ft' : H' t = none := (s1.trans s2).free ft
        have et : upd (upd H2 t (.tup [V.str (Str.ofString "name"), V.str z0])) p (.lst ([] ++ [V.ref t])) t = some (.tup [V.str (Str.ofString "name"), V.str z0]) := by rw [upd_ne tp]; exact upd_same
        have ea3 : upd (upd H2 t (.tup [V.str (Str.ofString "name"), V.str z0])) p (.lst ([] ++ [V.ref t])) a = some (ExO a (.ref DN) (some dd)) := by rw [upd_ne ap]; exact s3 _ _ ea2
        have ed3 : upd (upd H2 t (.tup [V.str (Str.ofString "name"), V.str z0])) p (.lst ([] ++ [V.ref t])) dd = some (.xd fs) := by rw [upd_ne dp]; exact s3 _ _ ed2
        have ep3 : upd (upd H2 t (.tup [V.str (Str.ofString "name"), V.str z0])) p (.lst ([] ++ [V.ref t])) p = some (.lst [V.ref t]) := upd_same
        generalize upd (upd H2 t (.tup [V.str (Str.ofString "name"), V.str z0])) p (.lst ([] ++ [V.ref t])) = H3 at s4 et ea3 ed3 ep3 ⊢
        refine ⟨_, rfl, _, .ref DS, .ref DN, .ref DS, false, rfl, .own DS, .held ea3 ed3 R.cDN.xc, R.kDN_DS, _, rfl, iteF ?_⟩
        refine ⟨_, rfl, _, .ref DW, .ref DN, .ref DW, false, rfl, .own DW, .held ea3 ed3 R.cDN.xc, R.kDN_DW, _, rfl, iteF ?_⟩
        refine ⟨_, rfl, _, .ref DX, .ref DN, .ref DX, false, rfl, .own DX, .held ea3 ed3 R.cDN.xc, R.kDN_DX, _, rfl, iteF ?_⟩
        refine ⟨_, rfl, _, .ref DM, .ref DN, .ref DM, false, rfl, .own DM, .held ea3 ed3 R.cDN.xc, R.kDN_DM, _, rfl, iteF ?_⟩
        refine ⟨_, rfl, p, _, rfl, .inl (SqL.of ep3), rfl, _, rfl, iteT ⟨_, rfl, _, .ty "ValueError", .ref DN, .type "ValueError", true, rfl, .ty _, .held ea3 ed3 R.cDN.xc, R.cDN.va, _, rfl, iteT ⟨_, rfl, p, _, 0, _, rfl, rfl, SqL.of ep3, atI_nat (j := 0) rfl, ?_⟩⟩⟩
        exact go t H3 s4 ft' et
      · refine ⟨R.cDS.ex, fun a na => ⟨_, rfl, fun na' => ?_⟩⟩
        have s1 : Same H' (upd H' a (ExO a (.ref DS) (some dd))) := same_new na
        have ea : upd H' a (ExO a (.ref DS) (some dd)) a = some (ExO a (.ref DS) (some dd)) := upd_same
        have ed := s1 _ _ e1
        generalize upd H' a (ExO a (.ref DS) (some dd)) = H1 at s1 ea ed ⊢
        refine ⟨_, rfl, rfl, _, rfl, iteF ⟨(by show 0 ≤ sizeLine; decide), fun p np => ?_⟩⟩
        have s2 := same_new (o := HO.lst []) np
        have ep : upd H1 p (.lst []) p = some (.lst []) := upd_same
        have ea2 := s2 _ _ ea
        have ed2 := s2 _ _ ed
        have np' : H' p = none := s1.free np
        generalize upd H1 p (.lst []) = H2 at s2 ep ea2 ed2 ⊢
        refine ⟨_, rfl, _, .ref DC, .ref DS, .ref DC, false, rfl, .own DC, .held ea2 ed2 R.cDS.xc, R.kDS_DC, _, rfl, iteF ?_⟩
        refine ⟨_, rfl, _, .ref DN, .ref DS, .ref DN, false, rfl, .own DN, .held ea2 ed2 R.cDS.xc, R.kDS_DN, _, rfl, iteF ?_⟩
        refine ⟨_, rfl, _, .ref DS, .ref DS, .ref DS, true, rfl, .own DS, .held ea2 ed2 R.cDS.xc, R.cDS.me, _, rfl, iteT ⟨_, rfl, .inl ⟨rfl, _, SqL.of ep⟩, _, rfl, a, dd, _, _, rfl, ea2, ed2, f0, v0, z0, rfl, Rp.same (s1.trans s2) p0, (by show 2 ≤ sizeLine; decide), fun t ft => ?_⟩⟩
        have s3 := same_new (o := HO.tup [V.str (Str.ofString "speed"), V.str z0]) ft
        refine ⟨p, _, _, rfl, rfl, s3 _ _ ep, (by show 0 < sizeLine; decide), ?_⟩
        have tp : t ≠ p := fun e => by rw [e, ep] at ft; cases ft
        have ap : a ≠ p := fun e => by rw [e, ep] at ea2; cases ea2
        have dp : dd ≠ p := fun e => by rw [e, ep] at ed2; cases ed2
        have s4 : Same H' (upd (upd H2 t (.tup [V.str (Str.ofString "speed"), V.str z0])) p (.lst ([] ++ [V.ref t]))) := fun b o e => by
          rw [upd_ne (ne_of_none e np')]
          exact s3 _ _ (s2 _ _ (s1 _ _ e))
        have ft' : H' t = none := (s1.trans s2).free ft
        have et : upd (upd H2 t (.tup [V.str (Str.ofString "speed"), V.str z0])) p (.lst ([] ++ [V.ref t])) t = some (.tup [V.str (Str.ofString "speed"), V.str z0]) := by rw [upd_ne tp]; exact upd_same
        have ea3 : upd (upd H2 t (.tup [V.str (Str.ofString "speed"), V.str z0])) p (.lst ([] ++ [V.ref t])) a = some (ExO a (.ref DS) (some dd)) := by rw [upd_ne ap]; exact s3 _ _ ea2
        have ed3 : upd (upd H2 t (.tup [V.str (Str.ofString "speed"), V.str z0])) p (.lst ([] ++ [V.ref t])) dd = some (.xd fs) := by rw [upd_ne dp]; exact s3 _ _ ed2
        have ep3 : upd (upd H2 t (.tup [V.str (Str.ofString "speed"), V.str z0])) p (.lst ([] ++ [V.ref t])) p = some (.lst [V.ref t]) := upd_same
        generalize upd (upd H2 t (.tup [V.str (Str.ofString "speed"), V.str z0])) p (.lst ([] ++ [V.ref t])) = H3 at s4 et ea3 ed3 ep3 ⊢
        refine ⟨_, rfl, _, .ref DW, .ref DS, .ref DW, false, rfl, .own DW, .held ea3 ed3 R.cDS.xc, R.kDS_DW, _, rfl, iteF ?_⟩
        refine ⟨_, rfl, _, .ref DX, .ref DS, .ref DX, false, rfl, .own DX, .held ea3 ed3 R.cDS.xc, R.kDS_DX, _, rfl, iteF ?_⟩
        refine ⟨_, rfl, _, .ref DM, .ref DS, .ref DM, false, rfl, .own DM, .held ea3 ed3 R.cDS.xc, R.kDS_DM, _, rfl, iteF ?_⟩
        refine ⟨_, rfl, p, _, rfl, .inl (SqL.of ep3), rfl, _, rfl, iteT ⟨_, rfl, _, .ty "ValueError", .ref DS, .type "ValueError", true, rfl, .ty _, .held ea3 ed3 R.cDS.xc, R.cDS.va, _, rfl, iteT ⟨_, rfl, p, _, 0, _, rfl, rfl, SqL.of ep3, atI_nat (j := 0) rfl, ?_⟩⟩⟩
        exact go t H3 s4 ft' et
      · refine ⟨R.cDW.ex, fun a na => ⟨_, rfl, fun na' => ?_⟩⟩
        have s1 : Same H' (upd H' a (ExO a (.ref DW) (some dd))) := same_new na
        have ea : upd H' a (ExO a (.ref DW) (some dd)) a = some (ExO a (.ref DW) (some dd)) := upd_same
        have ed := s1 _ _ e1
        generalize upd H' a (ExO a (.ref DW) (some dd)) = H1 at s1 ea ed ⊢
        refine ⟨_, rfl, rfl, _, rfl, iteF ⟨(by show 0 ≤ sizeLine; decide), fun p np => ?_⟩⟩
        have s2 := same_new (o := HO.lst []) np
        have ep : upd H1 p (.lst []) p = some (.lst []) := upd_same
        have ea2 := s2 _ _ ea
        have ed2 := s2 _ _ ed
        have np' : H' p = none := s1.free np
        generalize upd H1 p (.lst []) = H2 at s2 ep ea2 ed2 ⊢
        refine ⟨_, rfl, _, .ref DC, .ref DW, .ref DC, false, rfl, .own DC, .held ea2 ed2 R.cDW.xc, R.kDW_DC, _, rfl, iteF ?_⟩
        refine ⟨_, rfl, _, .ref DN, .ref DW, .ref DN, false, rfl, .own DN, .held ea2 ed2 R.cDW.xc, R.kDW_DN, _, rfl, iteF ?_⟩
        refine ⟨_, rfl, _, .ref DS, .ref DW, .ref DS, false, rfl, .own DS, .held ea2 ed2 R.cDW.xc, R.kDW_DS, _, rfl, iteF ?_⟩
        refine ⟨_, rfl, _, .ref DW, .ref DW, .ref DW, true, rfl, .own DW, .held ea2 ed2 R.cDW.xc, R.cDW.me, _, rfl, iteT ⟨_, rfl, .inl ⟨rfl, _, SqL.of ep⟩, _, rfl, a, dd, _, _, rfl, ea2, ed2, f0, v0, z0, rfl, Rp.same (s1.trans s2) p0, (by show 2 ≤ sizeLine; decide), fun t ft => ?_⟩⟩
        have s3 := same_new (o := HO.tup [V.str (Str.ofString "worker"), V.str z0]) ft
        refine ⟨p, _, _, rfl, rfl, s3 _ _ ep, (by show 0 < sizeLine; decide), ?_⟩
        have tp : t ≠ p := fun e => by rw [e, ep] at ft; cases ft
        have ap : a ≠ p := fun e => by rw [e, ep] at ea2; cases ea2
        have dp : dd ≠ p := fun e => by rw [e, ep] at ed2; cases ed2
        have s4 : Same H' (upd (upd H2 t (.tup [V.str (Str.ofString "worker"), V.str z0])) p (.lst ([] ++ [V.ref t]))) := fun b o e => by
          rw [upd_ne (ne_of_none e np')]
          exact s3 _ _ (s2 _ _ (s1 _ _ e))
        have ft' : H' t = none := (s1.trans s2).free ft
        have et : upd (upd H2 t (.tup [V.str (Str.ofString "worker"), V.str z0])) p (.lst ([] ++ [V.ref t])) t = some (.tup [V.str (Str.ofString "worker"), V.str z0]) := by rw [upd_ne tp]; exact upd_same
        have ea3 : upd (upd H2 t (.tup [V.str (Str.ofString "worker"), V.str z0])) p (.lst ([] ++ [V.ref t])) a = some (ExO a (.ref DW) (some dd)) := by rw [upd_ne ap]; exact s3 _ _ ea2
        have ed3 : upd (upd H2 t (.tup [V.str (Str.ofString "worker"), V.str z0])) p (.lst ([] ++ [V.ref t])) dd = some (.xd fs) := by rw [upd_ne dp]; exact s3 _ _ ed2
        have ep3 : upd (upd H2 t (.tup [V.str (Str.ofString "worker"), V.str z0])) p (.lst ([] ++ [V.ref t])) p = some (.lst [V.ref t]) := upd_same
        generalize upd (upd H2 t (.tup [V.str (Str.ofString "worker"), V.str z0])) p (.lst ([] ++ [V.ref t])) = H3 at s4 et ea3 ed3 ep3 ⊢
        refine ⟨_, rfl, _, .ref DX, .ref DW, .ref DX, false, rfl, .own DX, .held ea3 ed3 R.cDW.xc, R.kDW_DX, _, rfl, iteF ?_⟩
        refine ⟨_, rfl, _, .ref DM, .ref DW, .ref DM, false, rfl, .own DM, .held ea3 ed3 R.cDW.xc, R.kDW_DM, _, rfl, iteF ?_⟩
        refine ⟨_, rfl, p, _, rfl, .inl (SqL.of ep3), rfl, _, rfl, iteT ⟨_, rfl, _, .ty "ValueError", .ref DW, .type "ValueError", true, rfl, .ty _, .held ea3 ed3 R.cDW.xc, R.cDW.va, _, rfl, iteT ⟨_, rfl, p, _, 0, _, rfl, rfl, SqL.of ep3, atI_nat (j := 0) rfl, ?_⟩⟩⟩
        exact go t H3 s4 ft' et
      · refine ⟨R.cDX.ex, fun a na => ⟨_, rfl, fun na' => ?_⟩⟩
        have s1 : Same H' (upd H' a (ExO a (.ref DX) (some dd))) := same_new na
        have ea : upd H' a (ExO a (.ref DX) (some dd)) a = some (ExO a (.ref DX) (some dd)) := upd_same
        have ed := s1 _ _ e1
        generalize upd H' a (ExO a (.ref DX) (some dd)) = H1 at s1 ea ed ⊢
        refine ⟨_, rfl, rfl, _, rfl, iteF ⟨(by show 0 ≤ sizeLine; decide), fun p np => ?_⟩⟩
        have s2 := same_new (o := HO.lst []) np
        have ep : upd H1 p (.lst []) p = some (.lst []) := upd_same
        have ea2 := s2 _ _ ea
        have ed2 := s2 _ _ ed
        have np' : H' p = none := s1.free np
        generalize upd H1 p (.lst []) = H2 at s2 ep ea2 ed2 ⊢
        refine ⟨_, rfl, _, .ref DC, .ref DX, .ref DC, false, rfl, .own DC, .held ea2 ed2 R.cDX.xc, R.kDX_DC, _, rfl, iteF ?_⟩
        refine ⟨_, rfl, _, .ref DN, .ref DX, .ref DN, false, rfl, .own DN, .held ea2 ed2 R.cDX.xc, R.kDX_DN, _, rfl, iteF ?_⟩
        refine ⟨_, rfl, _, .ref DS, .ref DX, .ref DS, false, rfl, .own DS, .held ea2 ed2 R.cDX.xc, R.kDX_DS, _, rfl, iteF ?_⟩
        refine ⟨_, rfl, _, .ref DW, .ref DX, .ref DW, false, rfl, .own DW, .held ea2 ed2 R.cDX.xc, R.kDX_DW, _, rfl, iteF ?_⟩
        refine ⟨_, rfl, _, .ref DX, .ref DX, .ref DX, true, rfl, .own DX, .held ea2 ed2 R.cDX.xc, R.cDX.me, _, rfl, iteT ⟨_, rfl, .inl ⟨rfl, _, SqL.of ep⟩, _, rfl, a, dd, _, _, rfl, ea2, ed2, f0, v0, z0, rfl, Rp.same (s1.trans s2) p0, _, rfl, a, dd, _, _, rfl, ea2, ed2, f1, v1, z1, rfl, Rp.same (s1.trans s2) p1, (by show 3 ≤ sizeLine; decide), fun t ft => ?_⟩⟩
        have s3 := same_new (o := HO.tup [V.str (Str.ofString "text"), V.str z0, V.str z1]) ft
        refine ⟨p, _, _, rfl, rfl, s3 _ _ ep, (by show 0 < sizeLine; decide), ?_⟩
        have tp : t ≠ p := fun e => by rw [e, ep] at ft; cases ft
        have ap : a ≠ p := fun e => by rw [e, ep] at ea2; cases ea2
        have dp : dd ≠ p := fun e => by rw [e, ep] at ed2; cases ed2
        have s4 : Same H' (upd (upd H2 t (.tup [V.str (Str.ofString "text"), V.str z0, V.str z1])) p (.lst ([] ++ [V.ref t]))) := fun b o e => by
          rw [upd_ne (ne_of_none e np')]
          exact s3 _ _ (s2 _ _ (s1 _ _ e))
        have ft' : H' t = none := (s1.trans s2).free ft
        have et : upd (upd H2 t (.tup [V.str (Str.ofString "text"), V.str z0, V.str z1])) p (.lst ([] ++ [V.ref t])) t = some (.tup [V.str (Str.ofString "text"), V.str z0, V.str z1]) := by rw [upd_ne tp]; exact upd_same
        have ea3 : upd (upd H2 t (.tup [V.str (Str.ofString "text"), V.str z0, V.str z1])) p (.lst ([] ++ [V.ref t])) a = some (ExO a (.ref DX) (some dd)) := by rw [upd_ne ap]; exact s3 _ _ ea2
        have ed3 : upd (upd H2 t (.tup [V.str (Str.ofString "text"), V.str z0, V.str z1])) p (.lst ([] ++ [V.ref t])) dd = some (.xd fs) := by rw [upd_ne dp]; exact s3 _ _ ed2
        have ep3 : upd (upd H2 t (.tup [V.str (Str.ofString "text"), V.str z0, V.str z1])) p (.lst ([] ++ [V.ref t])) p = some (.lst [V.ref t]) := upd_same
        generalize upd (upd H2 t (.tup [V.str (Str.ofString "text"), V.str z0, V.str z1])) p (.lst ([] ++ [V.ref t])) = H3 at s4 et ea3 ed3 ep3 ⊢
        refine ⟨_, rfl, _, .ref DM, .ref DX, .ref DM, false, rfl, .own DM, .held ea3 ed3 R.cDX.xc, R.kDX_DM, _, rfl, iteF ?_⟩
        refine ⟨_, rfl, p, _, rfl, .inl (SqL.of ep3), rfl, _, rfl, iteT ⟨_, rfl, _, .ty "ValueError", .ref DX, .type "ValueError", true, rfl, .ty _, .held ea3 ed3 R.cDX.xc, R.cDX.va, _, rfl, iteT ⟨_, rfl, p, _, 0, _, rfl, rfl, SqL.of ep3, atI_nat (j := 0) rfl, ?_⟩⟩⟩
        exact go t H3 s4 ft' et
      · refine ⟨R.cDM.ex, fun a na => ⟨_, rfl, fun na' => ?_⟩⟩
        have s1 : Same H' (upd H' a (ExO a (.ref DM) (some dd))) := same_new na
        have ea : upd H' a (ExO a (.ref DM) (some dd)) a = some (ExO a (.ref DM) (some dd)) := upd_same
        have ed := s1 _ _ e1
        generalize upd H' a (ExO a (.ref DM) (some dd)) = H1 at s1 ea ed ⊢
        refine ⟨_, rfl, rfl, _, rfl, iteF ⟨(by show 0 ≤ sizeLine; decide), fun p np => ?_⟩⟩
        have s2 := same_new (o := HO.lst []) np
        have ep : upd H1 p (.lst []) p = some (.lst []) := upd_same
        have ea2 := s2 _ _ ea
        have ed2 := s2 _ _ ed
        have np' : H' p = none := s1.free np
        generalize upd H1 p (.lst []) = H2 at s2 ep ea2 ed2 ⊢
        refine ⟨_, rfl, _, .ref DC, .ref DM, .ref DC, false, rfl, .own DC, .held ea2 ed2 R.cDM.xc, R.kDM_DC, _, rfl, iteF ?_⟩
        refine ⟨_, rfl, _, .ref DN, .ref DM, .ref DN, false, rfl, .own DN, .held ea2 ed2 R.cDM.xc, R.kDM_DN, _, rfl, iteF ?_⟩
        refine ⟨_, rfl, _, .ref DS, .ref DM, .ref DS, false, rfl, .own DS, .held ea2 ed2 R.cDM.xc, R.kDM_DS, _, rfl, iteF ?_⟩
        refine ⟨_, rfl, _, .ref DW, .ref DM, .ref DW, false, rfl, .own DW, .held ea2 ed2 R.cDM.xc, R.kDM_DW, _, rfl, iteF ?_⟩
        refine ⟨_, rfl, _, .ref DX, .ref DM, .ref DX, false, rfl, .own DX, .held ea2 ed2 R.cDM.xc, R.kDM_DX, _, rfl, iteF ?_⟩
        refine ⟨_, rfl, _, .ref DM, .ref DM, .ref DM, true, rfl, .own DM, .held ea2 ed2 R.cDM.xc, R.cDM.me, _, rfl, iteT ⟨_, rfl, .inl ⟨rfl, _, SqL.of ep⟩, _, rfl, a, dd, _, _, rfl, ea2, ed2, f0, _, rfl, a, dd, _, _, rfl, ea2, ed2, f1, (by show 3 ≤ sizeLine; decide), fun t ft => ?_⟩⟩
        have s3 := same_new (o := HO.tup [V.str (Str.ofString "many"), v0, v1]) ft
        refine ⟨p, _, _, rfl, rfl, s3 _ _ ep, (by show 0 < sizeLine; decide), ?_⟩
        have tp : t ≠ p := fun e => by rw [e, ep] at ft; cases ft
        have ap : a ≠ p := fun e => by rw [e, ep] at ea2; cases ea2
        have dp : dd ≠ p := fun e => by rw [e, ep] at ed2; cases ed2
        have s4 : Same H' (upd (upd H2 t (.tup [V.str (Str.ofString "many"), v0, v1])) p (.lst ([] ++ [V.ref t]))) := fun b o e => by
          rw [upd_ne (ne_of_none e np')]
          exact s3 _ _ (s2 _ _ (s1 _ _ e))
        have ft' : H' t = none := (s1.trans s2).free ft
        have et : upd (upd H2 t (.tup [V.str (Str.ofString "many"), v0, v1])) p (.lst ([] ++ [V.ref t])) t = some (.tup [V.str (Str.ofString "many"), v0, v1]) := by rw [upd_ne tp]; exact upd_same
        have ea3 : upd (upd H2 t (.tup [V.str (Str.ofString "many"), v0, v1])) p (.lst ([] ++ [V.ref t])) a = some (ExO a (.ref DM) (some dd)) := by rw [upd_ne ap]; exact s3 _ _ ea2
        have ed3 : upd (upd H2 t (.tup [V.str (Str.ofString "many"), v0, v1])) p (.lst ([] ++ [V.ref t])) dd = some (.xd fs) := by rw [upd_ne dp]; exact s3 _ _ ed2
        have ep3 : upd (upd H2 t (.tup [V.str (Str.ofString "many"), v0, v1])) p (.lst ([] ++ [V.ref t])) p = some (.lst [V.ref t]) := upd_same
        generalize upd (upd H2 t (.tup [V.str (Str.ofString "many"), v0, v1])) p (.lst ([] ++ [V.ref t])) = H3 at s4 et ea3 ed3 ep3 ⊢
        refine ⟨_, rfl, p, _, rfl, .inl (SqL.of ep3), rfl, _, rfl, iteT ⟨_, rfl, _, .ty "ValueError", .ref DM, .type "ValueError", true, rfl, .ty _, .held ea3 ed3 R.cDM.xc, R.cDM.va, _, rfl, iteT ⟨_, rfl, p, _, 0, _, rfl, rfl, SqL.of ep3, atI_nat (j := 0) rfl, ?_⟩⟩⟩
        exact go t H3 s4 ft' et
    · refine ⟨_, h0, ?_⟩
      rintro x H1 go
      refine ⟨_, rfl, rfl, _, rfl, iteT ?_⟩
      refine ⟨_, rfl, (by show 1 ≤ sizeLine; decide), fun t ft => ?_⟩
      exact go t _ (same_new ft) ft upd_same
end Lw
namespace Lw.Ow
open PySem PySem.Spec PyProof.Rows PySem.W PySem.Calls
section
variable {prog : Program} {w : World} {A : Around} {E : Value → Shared → Prop} {s : Shared}
theorem call_iterTup {t : Addr} {items : Array Value} {Q : Value → Shared → Prop} (ht : s.heap.IsTuple t items) (h : Q (.ref s.heap.objs.size) { s with heap := s.heap.push { cls := .type "tuple_iterator", data := .fields #[.ref t, .int 0 0] } }) : wpAny (model prog w) A (call (.builtin "iter") [.ref t]) Q E s := by
  refine Calls.call_function_entry (by decide +kernel) (by decide +kernel) PySem.W.kdk_entry_iter (PySem.W.kdk_args_iter _) ?_
  unfold Builtin.«iter»
  refine wpAny_bind (m := someArgs "iter" 1 2 _) (wpAny_of_eq (a := [Value.ref t]) (by first | rfl | kernel_rfl!) ?_)
  show wpAny _ _ (pyIter (.ref t) >>= _) _ _ _
  exact wpAny_bind (wpAny_pyIter_tuple ht (wpAny_pure ⟨_, rfl, h⟩))
end
end Lw.Ow
namespace Lw
open PySem PySem.Spec PyProof.Rows L2 LamX
/-- a tuple's iterator, at its begin -/
def ItT0 (p it : Addr) : HO := .ext fun h => h.get? it = some { cls := .type "tuple_iterator", data := .fields #[.ref p, .int 0 0] }
theorem itT0_ok {P : Program} {w : World} {H : Hp} {h : Heap} {p it : Addr} (e : h.get? it = some { cls := .type "tuple_iterator", data := .fields #[.ref p, .int 0 0] }) : ObjOk P w H h it (ItT0 p it) := ⟨e, ⟨_, e⟩, fun h1 h2 q k => k _ q⟩
section
variable {X : Cx} {pins : List (Addr × Obj)} {σ : L2.St} {H : Hp} {s : Shared}
theorem hp_lt (I : Inv X pins σ H s) {a : Addr} {o : HO} (e : H a = some o) : a < s.heap.objs.size := by
  apply Nat.lt_of_not_le
  intro z
  rw [I.hok.fresh z] at e
  cases e
/-- iter(t), t a tuple: the iterator stands above all that is tracked -/
def rIterT (K : PySem.W.Frag) : List V → Hp → VK → Prop := fun xs H Q => ∃ (p : Addr) (zs : List V), xs = [.ref p] ∧ SqT K H p zs ∧ ∀ it, H it = none → (∀ a o, H a = some o → a < it) → Q (.ref it) (upd H it (ItT0 p it))
theorem call_iterT : CallR X (.builtin "iter") (rIterT X.K) := by
  intro pins s σ H xs us Q I r h
  obtain ⟨p, zs, rfl, hq, q⟩ := h
  obtain rfl := Vals.ref1 r
  obtain ⟨its, rv, pl, hz⟩ := I.tuple hq
  refine Ow.call_iterTup (show s.heap.IsTuple p its.toArray from pl) ?_
  exact ⟨.ref s.heap.objs.size, _, I.laid (t' := s.toks) (fun b u e => Heap.get?_push_of_some _ e) (Nat.le_refl _) (itT0_ok (Heap.get?_push_size _ rfl)), rfl, q _ (I.hok.fresh (Nat.le_refl _)) fun a o e => hp_lt I e⟩
variable {tg e : Expr} {te : TE} {k j : Nat} {E : XK}
/-- a walk over an instance by its own __iter__; y: a tracked thing of this frame -/
def iOwnT (P : Program) (w : World) (K : PySem.W.Frag) (mg : Str → Option Value) (base : Heap) (k n : Nat) (E : XK) (te : TE) : TI := fun σ H R => te σ H fun x H1 => ∃ (C a dx : Addr) (fs : List (Str × V)) (sp : Sp) (y : Addr) (o : HO), x = .ref a ∧ H1 a = some (.ins C dx fs) ∧ MetX P w K mg base k C "__iter__" sp ∧ H1 y = some o ∧ n ≤ y ∧
  sp [.ref a] H1 (fun v H2 => ∃ it p, v = .ref it ∧ H2 it = some (ItT0 p it) ∧ y < it ∧ R (Itt K p) (ItX.dropH H2 it)) E
theorem pi_ownT (he : PE X e te) (hx : Passes (L2.CX X.prog X.w) X E) (hr : Room j X.A) (hk : k ≤ j) : PI X tg e (iOwnT X.prog X.w X.K X.mg X.base k X.s_0.heap.objs.size E te) := by
  refine ⟨fun pins s σ H R I h => ?_⟩
  refine thn (he.run pins s σ H _ I h) fun u s1 ⟨x, H1, I1, rx, C, a, dx, fs, sp, y, o, ex, ha, M, hy, ny, q⟩ => ?_
  subst ex
  cases (show u = Value.ref a from rx)
  obtain ⟨_, _, J⟩ := ins_at I1 ha
  obtain ⟨g, hm, _, w2⟩ := run_met (us := [.ref a]) (vs := [.ref a]) M hx hr hk I1 (.cons rfl .nil) q
  obtain ⟨m, F⟩ := I1.fr
  refine PySem.W.owit_iter F I1.ok.mod.kin J hm.at_ hm.fn (wpAny_mono w2 (fun v s2 z => ?_) fun _ _ e => e)
  obtain ⟨v', H2, I2, rv, it, p, rfl, hit, yt, hR⟩ := z
  cases (show v = Value.ref it from rv)
  have eo : s2.heap.get? it = some { cls := .type "tuple_iterator", data := .fields #[.ref p, .int 0 0] } := (I2.hok it _ hit).1
  have hit' := hit
  unfold ItT0 at hit'
  unfold PySem.W.OwitIt
  refine wpAny_specialOf (name := "__next__") (⟨_, eo, rfl⟩ : s2.TypeIs (.ref it) "tuple_iterator") PySem.F.slot_tuple_iterator_next.lookup ?_
  refine ⟨it, [it], _, _, ItX.dropH H2 it, rfl, ItX.inv_drop I2 hit', turn_tuple p it, ⟨_, eo, rfl, rfl⟩, fun b hb => ?_, hR⟩
  have e : b = it := by simpa using hb
  rw [e]
  exact ItX.inv_fp I2 hit' (Nat.le_trans ny (Nat.le_of_lt yt))
end
end Lw
namespace Lw
open PySem PySem.Spec PyProof.Rows L2
open LamX
/-! ### x in y, x not in y, y[x]: y an instance with its own defs -/
section
variable {X : Cx} {pins : List (Addr × Obj)} {σ : L2.St} {H : Hp} {s : Shared} {e a b : Expr} {te ta tb : TE} {k j : Nat} {E : XK} {pos : Pos}
/-- x in y (neg: x not in y) -/
def rInOwn (P : Program) (w : World) (K : PySem.W.Frag) (mg : Str → Option Value) (base : Heap) (k : Nat) (neg : Bool) (E : XK) : R2 := fun x y H Q => ∃ (C a dx : Addr) (fs : List (Str × V)) (sp : Sp), y = .ref a ∧ H a = some (.ins C dx fs) ∧ MetX P w K mg base k C "__contains__" sp ∧ sp [.ref a, x] H (fun v H' => ∃ c, v = .bl c ∧ Q (.bl (if neg then !c else c)) H') E
theorem op_inOwn (hx : Passes (L2.CX X.prog X.w) X E) (hr : Room j X.A) (hk : k ≤ j) : OpR X (compareOp .In) (rInOwn X.prog X.w X.K X.mg X.base k false E) := by
  intro pins s σ H x y v u Q I rx ry h
  obtain ⟨C, a, dx, fs, sp, rfl, ha, M, q⟩ := h
  cases (show u = Value.ref a from ry)
  obtain ⟨_, _, J⟩ := ins_at I ha
  obtain ⟨g, hm, _, w2⟩ := run_met (us := [.ref a, v]) (vs := [.ref a, x]) M hx hr hk I (.cons rfl (.cons rx .nil)) q
  obtain ⟨m, F⟩ := I.fr
  refine PySem.W.in_K F I.ok.mod.kin J hm.at_ hm.fn (wpAny_mono w2 (fun r s' z => ?_) fun _ _ e => e)
  obtain ⟨v', H', I', rv, c, rfl, qz⟩ := z
  cases (show r = Value.bool c from rv)
  unfold truthy
  exact wpAny_pure ⟨.bl c, H', I', rfl, qz⟩
theorem op_notInOwn (hx : Passes (L2.CX X.prog X.w) X E) (hr : Room j X.A) (hk : k ≤ j) : OpR X (compareOp .NotIn) (rInOwn X.prog X.w X.K X.mg X.base k true E) := by
  intro pins s σ H x y v u Q I rx ry h
  obtain ⟨C, a, dx, fs, sp, rfl, ha, M, q⟩ := h
  cases (show u = Value.ref a from ry)
  obtain ⟨_, _, J⟩ := ins_at I ha
  obtain ⟨g, hm, _, w2⟩ := run_met (us := [.ref a, v]) (vs := [.ref a, x]) M hx hr hk I (.cons rfl (.cons rx .nil)) q
  obtain ⟨m, F⟩ := I.fr
  refine PySem.W.notIn_K F I.ok.mod.kin J hm.at_ hm.fn (wpAny_mono w2 (fun r s' z => ?_) fun _ _ e => e)
  obtain ⟨v', H', I', rv, c, rfl, qz⟩ := z
  cases (show r = Value.bool c from rv)
  unfold truthy
  exact wpAny_pure ⟨.bl (!c), H', I', rfl, qz⟩
/-- a class's own __getitem__ -/
structure MetG (P : Program) (w : World) (K : PySem.W.Frag) (mg : Str → Option Value) (base : Heap) (k : Nat) (C : Addr) (sp : Sp) : Prop where
  ex : ∃ (g : Addr) (fd : FuncData) (ps : List Str), Meth K C "__getitem__" g ∧ PySem.W.fnIn K g = true ∧ FnOk P w K mg base (L2.CX P w) k g fd ps sp ∧ Binds K fd ps []
  seq : PySem.W.noSeq K C = true
theorem run_getA {A : Around} {C : Addr} {sp : Sp} {us : List Value} {vs : List V} {Q : VK} (M : MetG X.prog X.w X.K X.mg X.base k C sp) (hx : Passes (L2.CX X.prog X.w) X E) (hr : Room k A) (e0 : Env0 X.prog X.w X.K X.mg X.base A X.stack s H) (I : Inv X pins σ H s) (r : Vals vs us) (q : sp vs H Q E) :
    ∃ g : Addr, Meth X.K C "__getitem__" g ∧ PySem.W.fnIn X.K g = true ∧ wpAny (model X.prog X.w) A (call (.ref g) us) (EP X pins σ Q) X.xe s := by
  obtain ⟨g, fd, ps, hm, hf, F, b⟩ := M.ex
  have l : us.length = ps.length := r.length.symm.trans (F.len _ _ _ _ q)
  have b' := b s us I.kIn (by rw [List.append_nil]; exact l)
  rw [List.append_nil] at b'
  refine ⟨g, hm, hf, wpAny_call (codeAny_mono (F.run A X.stack s H ⟨us, []⟩ us vs Q E hr e0 b' r q) fun r s' hq => ?_)⟩
  cases r with
  | error e => exact hx pins σ H s e s' I hq
  | ok fl =>
    cases fl with
    | ret u => exact I.after hq
    | next => exact False.elim hq
    | brk => exact False.elim hq
    | cont => exact False.elim hq
/-- y[x] by the own __getitem__, x no slice -/
def rSubOwn (P : Program) (w : World) (K : PySem.W.Frag) (mg : Str → Option Value) (base : Heap) (k : Nat) (E : XK) : R2 := fun x y H Q => ∃ (C a dx : Addr) (fs : List (Str × V)) (sp : Sp), x = .ref a ∧ H a = some (.ins C dx fs) ∧ MetG P w K mg base k C sp ∧ sp [.ref a, y] H Q E
theorem pe_subOwn (ha : PE X a ta) (hb : PE X b tb) (hx : Passes (L2.CX X.prog X.w) X E) (hr : Room j X.A) (hk : k + 1 ≤ j) (hs : ∀ (o : Addr) (i : Value), subscripted b true (.ref o) i = runValue (.builtin "lifetime.subscript" ⟨[.ref o, i], []⟩) := by intros; with_unfolding_all rfl) :
    PE X (.Subscript a b pos) (tOp (rSubOwn X.prog X.w X.K X.mg X.base k E) ta tb) := by
  refine ⟨fun pins s σ H Q I h => Subscript_ (binT ha hb I h fun v u s2 x y H2 I2 rx ry q => ?_)⟩
  obtain ⟨C, o, dx, fs, sp, rfl, ho, M, q⟩ := q
  cases (show v = Value.ref o from rx)
  obtain ⟨_, _, J⟩ := ins_at I2 ho
  have hr1 : Room k X.A.in1 := Room.in1 (hr.mono hk)
  obtain ⟨g, hm, hf, w2⟩ := run_getA (us := [.ref o, u]) (vs := [.ref o, y]) M hx hr1 I2.env0.in1 I2 (.cons rfl (.cons ry .nil)) q
  obtain ⟨m, F⟩ := I2.fr
  exact PySem.W.sub_K F I2.ok.mod.kin J hm.at_ hf hm.fn w2 (hs o u)
end
end Lw
namespace Lw
open PySem PySem.Spec PyProof.Rows L2
open SX PySem.NumText TL LamX ClX StX
section
variable {X : Cx} {C : Addr} {k j : Nat} {sp spI spL : Sp} {pins : List (Addr × Obj)} {σ : L2.St} {H : Hp} {s : Shared}
/-- a method that raises nothing: any exception's side -/
theorem run_metN {A : Around} {m : Str} {us : List Value} {vs : List V} {Q : VK} {Ev : Value → Shared → Prop} (M : MetX X.prog X.w X.K X.mg X.base k C m sp) (hr : Room k A) (e0 : Env0 X.prog X.w X.K X.mg X.base A X.stack s H) (I : Inv X pins σ H s) (r : Vals vs us) (q : sp vs H Q C8.E0) :
    ∃ g : Addr, Meth X.K C m g ∧ wpAny (model X.prog X.w) A (call (.ref g) us) (EP X pins σ Q) Ev s := by
  obtain ⟨g, fd, ps, hm, F, b⟩ := M.ex
  have l : us.length = ps.length := r.length.symm.trans (F.len _ _ _ _ q)
  have b' := b s us I.kIn (by rw [List.append_nil]; exact l)
  rw [List.append_nil] at b'
  refine ⟨g, hm, wpAny_call (codeAny_mono (F.run A X.stack s H ⟨us, []⟩ us vs Q C8.E0 hr e0 b' r q) fun r s' hq => ?_)⟩
  cases r with
  | error e =>
    obtain ⟨_, _, _, _, _, _, _, _, _, _, _, _, z⟩ := hq
    exact z.elim
  | ok fl =>
    cases fl with
    | ret u => exact I.after hq
    | next => exact False.elim hq
    | brk => exact False.elim hq
    | cont => exact False.elim hq
/-- list(x), x an instance: its own __iter__ gives a tuple's iterator, its own __len__ the hint -/
def rListOwn (C : Addr) (spI spL : Sp) : List V → Hp → VK → Prop := fun xs H Q => ∃ (a dx : Addr) (fs : List (Str × V)), xs = [.ref a] ∧ H a = some (.ins C dx fs) ∧ ∀ S, H S = none → S ≠ a →
  spI [.ref a] (upd H S (.lst [])) (fun v H2 => ∃ (it p dy : Addr) (gs : List (Str × V)) (zs : List V), v = .ref it ∧ H2 it = some (ItT0 p it) ∧ S < it ∧ H2 a = some (.ins C dy gs) ∧
    spL [.ref a] H2 (fun z H3 => ∃ n : Int, z = .int n ∧ 0 ≤ n ∧ n < 1000000 ∧ H3 it = some (ItT0 p it) ∧ H3 S = some (.lst []) ∧ H3 p = some (.tup zs) ∧ zs.length ≤ 1000000 ∧ Q (.ref S) (upd (ItX.dropH H3 it) S (.lst zs))) C8.E0) C8.E0
theorem call_listOwn (MI : MetX X.prog X.w X.K X.mg X.base k C "__iter__" spI) (ML : MetX X.prog X.w X.K X.mg X.base k C "__len__" spL) (hc : X.calm = true) (hr : Room j X.A) (hk : k + 3 ≤ j) : CallR X (.type "list") (rListOwn C spI spL) := by
  intro pins s σ H xs us Q I r h
  obtain ⟨a, dx, fs, rfl, ha, q⟩ := h
  obtain ⟨u, rfl, ru⟩ := r.one
  cases (show u = Value.ref a from ru)
  have hh := I.ok.hd hc
  have la := hp_lt I ha
  have big : (1000000 : Nat) ≤ sizeLine := by decide
  obtain ⟨S, eS⟩ : ∃ S, S = s.heap.objs.size := ⟨_, rfl⟩
  have Sa : S ≠ a := by rw [eS]; exact Nat.ne_of_gt la
  have sz := I.sz
  refine callType_codes (Q₁ := fun obj s₁ => obj = .ref S ∧ s₁ = { s with heap := s.heap.push { cls := .type "list", data := .seq #[] } }) PySem.F.called_list (PySem.F.typeCall_list_1 _) PySem.F.entry_list_init
    (code_list_new _ ⟨by rw [eS], rfl⟩) fun obj s₁ h₁ => ?_
  obtain ⟨rfl, rfl⟩ := h₁
  have hS : (s.heap.push { cls := .type "list", data := .seq #[] }).get? S = some { cls := .type "list", data := .seq #[] } := by rw [eS]; exact Heap.get?_push_size _ rfl
  have I1 : Inv X pins σ (upd H S (.lst [])) { s with heap := s.heap.push { cls := .type "list", data := .seq #[] } } := by
    rw [eS]
    exact I.lnew (its := []) (t' := s.toks) .nil (Nat.zero_le _)
  refine ⟨⟨_, hS, rfl⟩, PySem.F.args_list_init_2 _ _, ?_⟩
  show wpAny _ _ (do let old ← Builtin.List.listItems (.ref S); Builtin.List.listUpdate (.ref S) (fun _ => #[]); letGo old.toList.reverse; Builtin.List.listExtendWith (.ref S) (.ref a) .none) _ _ _
  refine wpAny_bind ?_
  unfold Builtin.List.listItems
  refine wpAny_bind (wpAny_seqItems hS rfl (wpAny_pure ?_))
  show wpAny _ _ (updateSeq S (fun _ => #[]) >>= fun _ => letGo (#[] : Array Value).toList.reverse >>= fun _ => Builtin.List.listExtendWith (.ref S) (.ref a) .none) _ _ _
  refine wpAny_bind (wpAny_updateSeq hS rfl ?_)
  refine wpAny_bind (wpAny_letGo ?_)
  have I2 := I1.lset (its := []) (its' := []) (f := fun _ => #[]) (t' := s.toks) upd_same hS rfl .nil (Nat.zero_le _)
  rw [upd_upd] at I2
  have ha2 : upd H S (.lst []) a = some (.ins C dx fs) := by rw [upd_ne Sa.symm]; exact ha
  obtain ⟨_, _, J⟩ := ins_at I2 ha2
  have fS : H S = none := by rw [eS]; exact I.hok.fresh (Nat.le_refl _)
  have q1 := q S fS Sa
  have lS : X.s_0.heap.objs.size ≤ S := by rw [eS]; exact sz
  have hr2 : Room k X.A.in1.in1 := Room.in1 (Room.in1 (hr.mono (Nat.le_trans (Nat.le_succ _) hk)))
  have hr3 : Room k X.A.in1.in1.in1 := Room.in1 (Room.in1 (Room.in1 (hr.mono hk)))
  unfold Builtin.List.listExtendWith
  refine wpAny_bind (J.type.here ?_)
  have h1 : Builtin.List.listSameRef (.ref S) (.ref a) = false := by simp [Builtin.List.listSameRef, Sa]
  have h2 : (Value.ref C == Value.type "list") = false := rfl
  have h3 : (Value.ref C == Value.type "tuple") = false := rfl
  simp only [h1, h2, h3, Bool.or_false, Bool.false_eq_true, if_false]
  obtain ⟨gI, hmI, wI⟩ := run_metN (us := [.ref a]) (vs := [.ref a]) MI hr2 I2.env0.in1.in1 I2 (.cons rfl .nil) q1
  obtain ⟨mm, F⟩ := I2.fr
  refine wpAny_bind (PySem.W.owit_iter F I2.ok.mod.kin J hmI.at_ hmI.fn (wpAny_mono wI (fun v s2 z => ?_) fun _ _ e => e))
  obtain ⟨v', H2, I3, rv, it, p, dy, gs, zs, rfl, hit, Sit, ha3, q2⟩ := z
  cases (show v = Value.ref it from rv)
  have eo : s2.heap.get? it = some { cls := .type "tuple_iterator", data := .fields #[.ref p, .int 0 0] } := (I3.hok it _ hit).1
  unfold PySem.W.OwitIt
  refine wpAny_specialOf (name := "__next__") (⟨_, eo, rfl⟩ : s2.TypeIs (.ref it) "tuple_iterator") PySem.F.slot_tuple_iterator_next.lookup ?_
  show wpAny _ _ _ _ _ _
  obtain ⟨_, _, J3⟩ := ins_at I3 ha3
  obtain ⟨gL, hmL, wL⟩ := run_metN (Ev := fun _ _ => False) (us := [.ref a]) (vs := [.ref a]) ML hr3 I3.env0.in1.in1.in1 I3 (.cons rfl .nil) q2
  refine wpAny_bind (wpAny_holding ?_)
  have hint : ∀ (Qh : Bool → Shared → Prop) (Eh : Value → Shared → Prop), (∀ b s', (∃ (H3 : Hp) (n : Int), Inv X pins σ H3 s' ∧ H3 it = some (ItT0 p it) ∧ H3 S = some (.lst []) ∧ H3 p = some (.tup zs) ∧ zs.length ≤ 1000000 ∧ Q (.ref S) (upd (ItX.dropH H3 it) S (.lst zs))) → Qh b s') →
      wpAny (model X.prog X.w) X.A.in1.in1 (Builtin.List.listLengthHint (.ref a)) Qh Eh s2 := fun Qh Eh hq => by
    unfold Builtin.List.listLengthHint
    refine wpAny_bind (wpAny_bind (J3.type.here ((PySem.W.looks_findIn I3.kIn hmL.at_).here ?_)))
    refine wpAny_ite_split (fun z => ?_) (fun _ => ?_)
    · exact absurd z Bool.false_ne_true
    refine wpAny_ite_split (fun _ => ?_) (fun z => absurd rfl z)
    refine wpAny_bind (wpAny_rule ?_)
    refine wpAny_bind (wpAny_attempt (Ow.len_own I3.kIn J3 hmL.at_ hmL.fn (wpAny_mono wL (fun v s' z => ?_) fun _ _ x => x.elim)))
    obtain ⟨z', H3, I4, rz, n, rfl, h0, h1, hit4, hS4, hp4, hz4, q3⟩ := z
    obtain ⟨t, rfl⟩ := rz
    refine ⟨n, t, rfl, h0, Int.lt_trans h1 (by decide), fun t' tk => ?_⟩
    have fin : ∀ b, Qh b { s' with toks := tk } := fun b => hq b _ ⟨H3, n, I4.tok tk, hit4, hS4, hp4, hz4, q3⟩
    refine wpAny_bind (m := asInt? (Value.int n t')) (wpAny_pure ?_)
    show wpAny _ _ (if Builtin.List.listTooLong n.toNat = true then _ else _) _ _ _
    rw [if_neg (by
      unfold Builtin.List.listTooLong
      have : ¬ n.toNat > sizeLine := by
        have : n.toNat < 1000000 := by omega
        omega
      simp [this])]
    exact wpAny_pure (fin _)
  refine hint _ _ fun b s3 z => ?_
  obtain ⟨H3, n, I4, hit4, hS4, hp4, hz4, q3⟩ := z
  have I5 := ItX.inv_drop I4 (show H3 it = some (.ext _) from hit4)
  have fp := ItX.inv_fp I4 hit4 (Nat.le_trans lS (Nat.le_of_lt Sit))
  have nSi : it ≠ S := Nat.ne_of_gt Sit
  have hS5 : ItX.dropH H3 it S = some (.lst []) := by rw [ItX.dropH_ne nSi.symm]; exact hS4
  have pit : p ≠ it := fun e => by rw [e, hit4] at hp4; cases hp4
  have pS : p ≠ S := fun e => by rw [e, hS4] at hp4; cases hp4
  obtain ⟨its, rvs, tup, _⟩ := I4.tuple (SqT.of (K := X.K) hp4)
  have tup : s3.heap.IsTuple p its.toArray := tup
  have eo4 : s3.heap.get? it = some { cls := .type "tuple_iterator", data := .fields #[.ref p, .int 0 0] } := (I4.hok it _ hit4).1
  obtain ⟨_, its0, n0, r0, l0, e0⟩ := I5.lstM hS5
  obtain rfl : its0 = [] := List.eq_nil_of_length_eq_zero (by rw [← r0.length]; rfl)
  have go : ∀ (h : Heap) (c₁ : Nat), (∀ b o, b ≠ S → s3.heap.get? b = some o → h.get? b = some o) → h.get? S = some { cls := .type "list", data := .seq #[] c₁ } →
      codeAny (model X.prog X.w) X.A.in1 (.builtin "list.extend.loop" ⟨[.ref S, .ref it, .none], []⟩) (wants (fun r s₂ => r = Value.none ∧ EP X pins σ Q (.ref S) s₂) X.xe) { s3 with heap := h } := fun h c₁ hk hS₁ => by
    have W := (Walks.tuple (prog := X.prog) (w := X.w) (A := X.A.in1.in1) hh it p pit its.toArray).toS
    refine codeAny_extend_loopS W ?_ S ?_ .none its.toArray.size 0 _ #[] c₁ rfl (Nat.zero_le _) ?_ hS₁ (ItemsOf.nil _) fun s' acc' c' hm hS' hacc => ?_
    · rw [List.size_toArray, ← rvs.length]
      exact Nat.le_trans hz4 big
    · simp only [List.mem_cons, List.not_mem_nil, or_false, not_or]
      exact ⟨nSi.symm, pS.symm⟩
    · exact ⟨⟨_, hk _ _ nSi eo4, rfl, rfl⟩, tup.at fun o e => hk p o pS e⟩
    rw [Moved.eq_with hm]
    refine ⟨rfl, .ref S, _, ?_, rfl, q3⟩
    have eacc : acc' = its.toArray := Array.ext_getElem? fun i => by
      cases hi : acc'[i]? with
      | none =>
        have := Array.getElem?_eq_none_iff.mp hi
        rw [hacc.1] at this
        exact (Array.getElem?_eq_none_iff.mpr this).symm
      | some v => exact (hacc.2 i v hi).symm
    subst eacc
    have M := Heap.get?_update_self (fun _ => ({ cls := .type "list", dict := none, data := .seq its.toArray c', slots := #[] } : Obj)) e0 rfl
    have I6 : Inv X pins σ (upd (ItX.dropH H3 it) S (.lst zs)) { s3 with heap := s3.heap.update S fun _ => { cls := .type "list", dict := none, data := .seq its.toArray c', slots := #[] }, toks := s3.toks } :=
      I5.write (x := S) (e := S) (by rw [hS5]; exact True.intro) (.inl rfl) (fun b u hb e => (Heap.get?_update_other _ _ (Ne.symm hb)).trans e) ⟨_, M⟩ ⟨Nat.le_trans hz4 big, its, c', rvs, M⟩
    have fin := I6.turnedL (ch := [it]) (h' := s'.heap) (t' := s'.toks) (fun b o hb e => ?x1) fun b hb => ?x2
    · exact fin
    case x1 =>
      have nb : b ≠ it := fun z => hb (List.mem_singleton.mpr z)
      by_cases bS : b = S
      · rw [bS] at e ⊢
        rw [M] at e
        rw [hS']
        exact e
      · rw [Heap.get?_update_other _ _ (Ne.symm bS)] at e
        exact hm.heap b o (fun z => by
          rcases List.mem_cons.mp z with z | z
          · exact bS z
          · exact nb (List.mem_singleton.mp z)) (hk b o bS e)
    case x2 =>
      rw [List.mem_singleton.mp hb]
      exact ⟨by rw [upd_ne nSi]; exact fp.1, fp.2⟩
  refine wpAny_ite_split (fun _ => ?_) (fun _ => wpAny_pure ⟨plainId_quiet PySem.F.plain_extend_loop _, go _ _ (fun b o _ e => e) e0⟩)
  refine wpAny_bind (wpAny_rule ?_)
  refine wpAny_bind ?_
  show wpAny _ _ (updateSeq S (·.push .none) >>= fun _ => updateSeq S (·.pop)) _ _ _
  refine wpAny_bind (wpAny_updateSeq e0 rfl ?_)
  have hS₂ := Heap.get?_update_self (Obj.mapSeq (·.push Value.none)) e0 rfl
  refine wpAny_updateSeq (hz := by seq_fits) hS₂ rfl ?_
  have hS₃ := Heap.get?_update_self (Obj.mapSeq (·.pop)) hS₂ rfl
  refine wpAny_pure ⟨plainId_quiet PySem.F.plain_extend_loop _, go _ _ (fun b o hb e => ?_) hS₃⟩
  exact (Heap.get?_update_other _ _ (Ne.symm hb)).trans ((Heap.get?_update_other _ _ (Ne.symm hb)).trans e)
end
end Lw
namespace Lw
open PySem PySem.Spec PyProof.Rows L2
open LamX
abbrev sIsName : Stmt := top 7
def letters : Str := "abcdefghijklmnopqrstuvwxyz"
def resW : List Str := ["cost", "fee", "none", "order", "ready", "self", "chunks", "crew", "late", "at"]
/-- whether a text is a name -/
def nameT (z : Str) : Bool := !decide (z ∈ resW) && (decide (1 ≤ z.length) && decide (z.length ≤ 8) && z.cps.toList.all fun c => decide (c ∈ letters.cps.toList))
def nameB : V → Bool
  | .str z => nameT z
  | _ => false
def resV : List V := resW.map V.str
structure TxtK (K : PySem.W.Frag) (mg : Str → Option Value) : Prop extends Txt mg where
  c_LN : ∃ t, mg "LONGEST_NAME" = some (.int 8 t)
  c_LE : ∃ t, mg "LETTERS" = some (.str letters t)
  c_TW : ∃ a, mg "TEXT_WORDS" = some (.ref a) ∧ ∀ H, SqT K H a resV
def spName (K : PySem.W.Frag) : Sp := fun vs H Q _ => ∃ x, vs = [x] ∧ Anyv K H x ∧ (∀ z, x = .str z → z.length ≤ 1000000) ∧ ∀ H', Same H H' → Q (.bl (nameB x)) H'
section
variable {P : Program} {w : World} {K : PySem.W.Frag} {mg : Str → Option Value} {base : Heap}
theorem scIsName : FnScope ["value", "letter"] ["value"] (C8.fnScope sIsName) := C8.fnScope_by (by decide +kernel)
theorem fn_isname {f : Addr} {fd : FuncData} (F : C8.Def K mg "is_name" sIsName f fd) (T : TxtK K mg) : FnOk P w K mg base C8.CX0 1 f fd ["value"] (spName K) := by
  refine C8.fn0 F.fn scIsName (fun vs H Q E h => ?_) (fun cdv A outer st H vs Q E hr h => ?_)
  · obtain ⟨x, rfl, _⟩ := h
    rfl
  · obtain ⟨x, rfl, a, hl, k⟩ := h
    obtain ⟨t1, hLN⟩ := T.c_LN
    obtain ⟨t2, hLE⟩ := T.c_LE
    obtain ⟨aW, hW, hS⟩ := T.c_TW
    refine ⟨_, (pss_cons (ps_if (PW.pt (pw_or (pt_not (pt_val (pe_callB call_isz (by rfl) T.n_isinstance (by decide +kernel) (pa_cons (pv 0) (pa_cons (pe_bltn (v := .ty "str") (by rfl) T.n_str (by decide +kernel) rfl) pa_nil))))) (pw_or1 (pt_cmpR op_in_seq (pv 0) (pe_glob (v := .ref aW) rfl hW rfl) (by rfl))))) (pss_one (ps_ret pe_bl)) pss_nil)
  (pss_one (ps_ret (pe_and (pe_chain op_le op_le pe_int (pe_callB call_len_str (by rfl) T.n_len (by decide +kernel) (pa_cons (pv 0) pa_nil)) (pe_glob (v := .int 8) rfl hLN ⟨_, rfl⟩)) (pe_one (pe_callB (cr_all rfl) (by rfl) T.n_all (by decide +kernel) (pa_cons (pe_lc (own := [("letter", 1)]) (g := gName 1) (tt := tYes) rfl scIsName.nd (pi_str (pv 0)) (blkOk_by (own := [("letter", 1)]) (N := ["value", "letter"]) (sc := (C8.fnScope sIsName)) (by decide +kernel)) (fun _ _ _ _ _ => pg_name (i := 1) scIsName.nd rfl (Or.inl rfl)) (fun _ _ _ _ _ => pts_nil) (fun _ _ _ _ _ => (pe_cmpR op_in_sign (pv 1) (pe_glob (v := .str letters) rfl hLE ⟨_, rfl⟩) (by rfl)))) pa_nil))))))), ?_⟩
    refine ⟨_, rfl, ?_⟩
    dsimp only [tCons, tC, tNil]
    refine isz_str a ⟨_, rfl, ?_⟩
    cases a with
    | str z =>
      have hz := hl z rfl
      have hzl : z.length ≤ sizeLine := Nat.le_trans hz (by decide)
      refine iteF ?_
      refine ⟨_, rfl, aW, resV, rfl, .inr (hS _), rfl, flat_strs _, _, rfl, ite2 (fun c => ?_) (fun c => ?_)⟩
      · have e : nameT z = false := by
          unfold nameT
          rw [show (if false = true then !inV (.str z) resV else inV (.str z) resV) = inV (.str z) resV from rfl, resV, inV_str] at c
          rw [c]; rfl
        have := k H (Same.refl H)
        rw [show nameB (.str z) = nameT z from rfl, e] at this
        exact this
      · have c0 : decide (z ∈ resW) = false := by
          rw [show (if false = true then !inV (.str z) resV else inV (.str z) resV) = inV (.str z) resV from rfl, resV, inV_str] at c
          exact Bool.eq_false_iff.mpr c
        have kk : ∀ (bb : Bool) (H' : Hp), Same H H' → bb = nameT z → Q (.bl bb) H' := fun bb H' s e => by rw [e]; exact k H' s
        refine ⟨_, rfl, _, rfl, hzl, _, _, rfl, rfl, _, rfl, ite2 (fun c1 => ?_) (fun c1 => ?_)⟩
        · refine ⟨_, _, rfl, rfl, _, rfl, ite2 (fun c2 => ?_) (fun c2 => ?_)⟩
          · refine ⟨_, rfl, z, rfl, fun D hD => lc_text (fun c => [some (.str z), some (.str ⟨#[c]⟩)]) (fun _ => true) (fun c => .bl (decide (c ∈ letters.cps.toList))) (fun _ _ _ h => h) (fun _ => rfl) (fun _ _ _ h => h) (fun c _ _ _ h => ⟨_, rfl, c, letters, rfl, rfl, h⟩) hz ?_⟩
            refine ⟨D, z.cps.toList.map fun c => decide (c ∈ letters.cps.toList), rfl, SqL.of ?_, ?_⟩
            · rw [upd_same, List.filter_eq_self.mpr (fun _ _ => rfl), List.map_map]; rfl
            · refine kk _ _ (same_new hD) ?_
              unfold nameT
              rw [c0]
              have e1 : decide (1 ≤ z.length) = true := decide_eq_true (by have := of_decide_eq_true c1; omega)
              have e2 : decide (z.length ≤ 8) = true := decide_eq_true (by have := of_decide_eq_true c2; omega)
              rw [e1, e2, List.all_map]; rfl
          · refine kk _ _ (Same.refl H) ?_
            unfold nameT
            have e2 : decide (z.length ≤ 8) = false := decide_eq_false (by have := of_decide_eq_false (Bool.eq_false_iff.mpr c2); omega)
            rw [e2]; simp
        · refine ⟨_, rfl, iteF (kk _ _ (Same.refl H) ?_)⟩
          unfold nameT
          have e1 : decide (1 ≤ z.length) = false := decide_eq_false (by have := of_decide_eq_false (Bool.eq_false_iff.mpr c1); omega)
          rw [e1]; simp
    | int i => exact iteT (k H (Same.refl H))
    | bl b => exact iteT (k H (Same.refl H))
    | non => exact iteT (k H (Same.refl H))
    | obj h h1 h2 h3 => exact iteT (k H (Same.refl H))
theorem cal_isname {f : Addr} {fd : FuncData} (F : C8.Def K mg "is_name" sIsName f fd) (b : Binds K fd ["value"] []) (T : TxtK K mg) : C8.Cal P w K mg base 1 "is_name" (spName K) [] :=
  ⟨f, fd, _, [], fn_isname F T, F.mgf, F.kp, b, .nil⟩
end
end Lw
namespace Lw
open PySem PySem.Spec PyProof.Rows L2
open SX PySem.NumText TL LamX ClX StX
abbrev sIsp : Stmt := top 27
abbrev sChk : Stmt := top 28
theorem iteT' {A B : Prop} {c : Bool} (hc : c = true) (h : A) : if c = true then A else B := by rw [if_pos hc]; exact h
theorem iteF' {A B : Prop} {c : Bool} (hc : c = false) (h : B) : if c = true then A else B := by rw [if_neg (by rw [hc]; exact Bool.false_ne_true)]; exact h
section
variable {X : Cx} {pins : List (Addr × Obj)} {σ : L2.St} {H : Hp} {s : Shared} {C : Addr} {sp : Sp} {a b : Expr} {ta tb : TE} {k j : Nat} {E : XK} {pos : Pos} {K : PySem.W.Frag}
theorem pe_fldK (K' : PySem.W.Frag) (hK : X.K = K') {e : Expr} {te : TE} {f : Str} {pos : Pos} (he : PE X e te) (hb : attributeBase e f X.env (eval e X.env) = eval e X.env) : PE X (.Attribute e f pos) (tFld K' te f) := by
  subst hK
  exact pe_fld he hb
theorem call_iszK (K' : PySem.W.Frag) (hK : X.K = K') : CallR X (.builtin "isinstance") (rIsz K') := by
  subst hK
  exact call_isz
def rLof (K : PySem.W.Frag) : List V → Hp → VK → Prop := fun xs H Q => ∃ p ys, xs = [.ref p] ∧ (SqL K H p ys ∨ SqT K H p ys) ∧ ∀ l, H l = none → Q (.ref l) (upd H l (.lst ys))
theorem call_list_ofK (K' : PySem.W.Frag) (hK : X.K = K') : CallR X (.type "list") (rLof K') := by
  subst hK
  exact call_list_of
/-- x in y, x not in y: y an instance of C -/
def rInC (C : Addr) (sp : Sp) (neg : Bool) (E : XK) : R2 := fun x y H Q => ∃ (a dx : Addr) (fs : List (Str × V)), y = .ref a ∧ H a = some (.ins C dx fs) ∧ sp [.ref a, x] H (fun v H' => ∃ c, v = .bl c ∧ Q (.bl (if neg then !c else c)) H') E
theorem op_inC (M : MetX X.prog X.w X.K X.mg X.base k C "__contains__" sp) (hx : Passes (L2.CX X.prog X.w) X E) (hr : Room j X.A) (hk : k ≤ j) : OpR X (compareOp .In) (rInC C sp false E) := fun pins s σ H x y v u Q I rx ry h => by
  obtain ⟨a, dx, fs, e, ha, q⟩ := h
  exact op_inOwn hx hr hk pins s σ H x y v u Q I rx ry ⟨C, a, dx, fs, sp, e, ha, M, q⟩
theorem op_notInC (M : MetX X.prog X.w X.K X.mg X.base k C "__contains__" sp) (hx : Passes (L2.CX X.prog X.w) X E) (hr : Room j X.A) (hk : k ≤ j) : OpR X (compareOp .NotIn) (rInC C sp true E) := fun pins s σ H x y v u Q I rx ry h => by
  obtain ⟨a, dx, fs, e, ha, q⟩ := h
  exact op_notInOwn hx hr hk pins s σ H x y v u Q I rx ry ⟨C, a, dx, fs, sp, e, ha, M, q⟩
/-- y[x], y an instance of C, x no slice -/
def rSubC (C : Addr) (sp : Sp) (E : XK) : R2 := fun x y H Q => ∃ (o dx : Addr) (fs : List (Str × V)), x = .ref o ∧ H o = some (.ins C dx fs) ∧ sp [.ref o, y] H Q E
theorem pe_subC (M : MetG X.prog X.w X.K X.mg X.base k C sp) (ha : PE X a ta) (hb : PE X b tb) (hx : Passes (L2.CX X.prog X.w) X E) (hr : Room j X.A) (hk : k + 1 ≤ j) (hs : ∀ (o : Addr) (i : Value), subscripted b true (.ref o) i = runValue (.builtin "lifetime.subscript" ⟨[.ref o, i], []⟩) := by intros; with_unfolding_all rfl) :
    PE X (.Subscript a b pos) (tOp (rSubC C sp E) ta tb) := by
  refine ⟨fun pins s σ H Q I h => Subscript_ (binT ha hb I h fun v u s2 x y H2 I2 rx ry q => ?_)⟩
  obtain ⟨o, dx, fs, rfl, ho, q⟩ := q
  cases (show v = Value.ref o from rx)
  obtain ⟨_, _, J⟩ := ins_at I2 ho
  have hr1 : Room k X.A.in1 := Room.in1 (hr.mono hk)
  obtain ⟨g, hm, hf, w2⟩ := run_getA (us := [.ref o, u]) (vs := [.ref o, y]) M hx hr1 I2.env0.in1 I2 (.cons rfl (.cons ry .nil)) q
  obtain ⟨m, F⟩ := I2.fr
  exact PySem.W.sub_K F I2.ok.mod.kin J hm.at_ hf hm.fn w2 (hs o u)
end

/-- a dict comprehension over what is walked -/
theorem dc_it {J : It} {n : Nat} {G : Hp → Prop} {Y : Nat → Hp → V → Hp → Prop} (w : Walk J n G Y) {g : TG} {tt : TT} {tk tv : TE} {vs : List Nat} {σ : L2.St} {H1 : Hp} {D : Addr} {Qd : Hp → Prop} (Pv : Nat → Hp → Prop) (h0 : Pv 0 (upd H1 D (.dK []))) (hG : ∀ i H, i ≤ n → Pv i H → G H)
    (hs : ∀ i x H H', i < n → Pv i H → Y i H x H' → g x (wipe σ vs) H' fun σ2 H2 => wipe σ2 vs = wipe σ vs ∧ tt σ2 H2 fun b H3 =>
      if b = true then tk σ2 H3 fun y H4 => tv σ2 H4 fun z H5 => ∃ (kvs : List (L2.Key × V)) (k : L2.Key), y = kV k ∧ H5 D = some (.dK kvs) ∧ kvs.length < sizeLine ∧ Pv (i + 1) (upd H5 D (.dK (putK kvs k z))) else Pv (i + 1) H3) (hd : ∀ H, Pv n H → Qd H) :
    ∃ W : Nat → Nat → Hp → Prop, (∃ m, W 0 m (upd H1 D (.dK []))) ∧ ∀ i m H, W i m H →
      (J.stop i H ∧ Qd H) ∨ (J.go i H ∧ ∃ Nx : Hp → Prop, (∀ H', Nx H' → ∃ m', m' < m ∧ W (i + 1) m' H') ∧ ∀ x H', J.yld i H x H' → g x (wipe σ vs) H' fun σ2 H2 => wipe σ2 vs = wipe σ vs ∧ tt σ2 H2 fun b H3 =>
        if b = true then tk σ2 H3 fun y H4 => tv σ2 H4 fun z H5 => ∃ kvs k, y = kV k ∧ H5 D = some (.dK kvs) ∧ kvs.length < sizeLine ∧ Nx (upd H5 D (.dK (putK kvs k z))) else Nx H3) := by
  refine ⟨fun i m H => m = n - i ∧ i ≤ n ∧ Pv i H, ⟨n, by simp, Nat.zero_le _, h0⟩, fun i m H ⟨e, hi, p⟩ => ?_⟩
  subst e
  have q := hG i H hi p
  rcases Nat.lt_or_ge i n with lt | ge
  · exact .inr ⟨w.goes i H lt q, Pv (i + 1), fun H' p' => ⟨n - (i + 1), by omega, rfl, lt, p'⟩, fun x H' y => hs i x H H' lt p (w.yields i H x H' lt q y)⟩
  · obtain rfl : i = n := Nat.le_antisymm hi ge
    exact .inl ⟨w.stops H q, hd H p⟩
theorem val_dk (n : Str) : ∀ ks : List (Str × V), valV (dkOf ks) (Sum.inr n : L2.Key) = ks.lookup n
  | [] => rfl
  | p :: r => by
    by_cases e : p.1 = n
    · rw [show dkOf (p :: r) = (Sum.inr p.1, p.2) :: dkOf r from rfl, valV_pos (p := ((Sum.inr p.1 : L2.Key), p.2)) (congrArg Sum.inr e)]
      obtain ⟨a, b⟩ := p
      have e : a = n := e
      subst e
      simp [List.lookup]
    · rw [show dkOf (p :: r) = (Sum.inr p.1, p.2) :: dkOf r from rfl, valV_neg (p := ((Sum.inr p.1 : L2.Key), p.2)) (fun z => e (Sum.inr.inj z)), val_dk n r]
      obtain ⟨a, b⟩ := p
      have e : ¬ a = n := e
      have e2 : (n == a) = false := beq_eq_false_iff_ne.mpr fun z => e z.symm
      simp [List.lookup, e2]
theorem d_look {H : Hp} {d : Addr} {ks : List (Str × V)} {n : Str} {v : V} (h : H d = some (.dK (dkOf ks))) (l : ks.lookup n = some v) : DGet H d (.str n) (some v) := by
  rw [← l, ← val_dk n ks]
  exact DGet.k (k := Sum.inr n) h
/-- [str(name) for name in d] -/
theorem names_of {i j : Nat} {σ : L2.St} {H : Hp} {Q : VK} {d : Addr} {ks : List (Str × V)} (hi : σ[i]? = some (some (V.ref d))) (lj : j < σ.length) (hd : H d = some (.dK (dkOf ks))) (hz : ks.length ≤ 5000)
    (q : ∀ D H', Same H H' → H D = none → H' D = some (.lst (ks.map fun p => V.str p.1)) → Q (.ref D) H') :
    tLockE (tLc (iKeys (tVar i)) (gName j) tYes (tCB (fun xs H Q => ∃ a, xs = [V.str a] ∧ Q (V.str a) H) (tCons (tVar j) tNil)) [j]) σ H Q := by
  refine ⟨d, _, hd, trivial, fun od => ⟨_, hi, d, od, rfl, .inl ⟨_, upd_same, fun D hD => ?_⟩⟩⟩
  have ne : D ≠ d := fun e => by rw [e, upd_same] at hD; cases hD
  rw [upd_ne ne] at hD
  refine lc_it walk_keys (fun n H' => H' = upd (upd H d (.frz od (.dK (dkOf ks)))) D (.lst ((ks.take n).map fun p => V.str p.1))) rfl (fun n H' _ e => by rw [e, upd_ne ne.symm, upd_same]) ?_ ?_
  · rintro n x H' H'' hn e ⟨rfl, k, v, hk, rfl⟩
    rw [List.getElem?_map] at hk
    obtain ⟨p, hp, e2⟩ := Option.map_eq_some_iff.mp hk
    have e3 : k = Sum.inr p.1 := (congrArg Prod.fst e2).symm
    subst e3
    refine ⟨by simp [wipe, List.set_set], ?_⟩
    dsimp only [tYes]
    rw [if_pos rfl]
    have gt : ((wipe σ [j]).set j (some (V.str p.1)))[j]? = some (some (V.str p.1)) := by
      rw [List.getElem?_set_self]
      simpa [wipe] using lj
    refine ⟨_, gt, p.1, rfl, _, by rw [e, upd_same], ?_, ?_⟩
    · rw [List.length_map]
      exact Nat.lt_of_le_of_lt (Nat.le_trans (List.length_take_le' _ _) hz) (by decide)
    · rw [e, upd_upd, List.take_add_one, hp, List.map_append]; rfl
  · rintro H' e
    rw [List.length_map, List.take_of_length_le (Nat.le_refl _)] at e
    refine ⟨by rw [e, upd_ne ne.symm, upd_same], q D _ (fun b o hb => ?_) hD ?_⟩
    · by_cases bd : b = d
      · rw [bd] at hb ⊢
        rw [upd_same, ← hd]
        exact hb
      · rw [upd_ne bd, e, upd_ne (ne_of_none hb hD), upd_ne bd]
        exact hb
    · rw [upd_ne ne, e, upd_same]
/-! ### is_speed, check_speeds -/
def isSp (v : V) : Bool := inB v 1 60
def spIsp (K : PySem.W.Frag) : Sp := fun vs H Q _ => ∃ x, vs = [x] ∧ Anyv K H x ∧ Q (.bl (isSp x)) H
/-- what check_speeds comes to: the first name that is none, then the first speed that is none -/
def ChkR (K : PySem.W.Frag) (DN DS d : Addr) (xs : List V) (H : Hp) (Q : VK) (E : XK) : Prop :=
  (∀ (i : Nat) x, xs[i]? = some x → (∀ (j : Nat) y, j < i → xs[j]? = some y → nameB y = true) → nameB x = false → Bf DN "value" x H E) ∧
  ((∀ x ∈ xs, nameB x = true) → ∃ (ns : List Str) (ks : List (Str × V)), xs = ns.map V.str ∧ H d = some (.dK (dkOf ks)) ∧ (∀ n ∈ ns, ∃ v, ks.lookup n = some v ∧ Anyv K H v) ∧
    (∀ (i : Nat) n v, ns[i]? = some n → ks.lookup n = some v → (∀ (j : Nat) m u, j < i → ns[j]? = some m → ks.lookup m = some u → isSp u = true) → isSp v = false → Bf DS "value" v H E) ∧
    ((∀ n ∈ ns, ∀ v, ks.lookup n = some v → isSp v = true) → ∀ H', Same H H' → Q .non H'))
def spChk (K : PySem.W.Frag) (DN DS : Addr) : Sp := fun vs H Q E => ∃ (l d : Addr) (xs : List V), vs = [.ref l, .ref d] ∧ H l = some (.lst xs) ∧ (∀ x ∈ xs, Anyv K H x ∧ ∀ z, x = .str z → z.length ≤ 1000000) ∧ ChkR K DN DS d xs H Q E
section
variable {P : Program} {w : World} {K : PySem.W.Frag} {mg : Str → Option Value} {base : Heap}
theorem scIsp : FnScope ["value"] ["value"] (C8.fnScope sIsp) := C8.fnScope_by (by decide +kernel)
theorem cal_isp {f : Addr} {fd : FuncData} (F : C8.Def K mg "is_speed" sIsp f fd) (b : Binds K fd ["value"] []) (hG : ∃ t, mg "GREATEST_SPEED" = some (.int 60 t)) (DW : C8.Cal P w K mg base 2 "is_within" (spWithin K) []) : C8.Cal P w K mg base 3 "is_speed" (spIsp K) [] := by
  refine C8.cal0 F b .nil scIsp (fun vs H Q E h => ?_) (fun cdv A outer st H vs Q E hr h => ?_)
  · obtain ⟨x, rfl, _⟩ := h
    rfl
  · obtain ⟨x, rfl, a, k⟩ := h
    obtain ⟨t, hG⟩ := hG
    refine ⟨_, (pss_one (ps_ret (C8.pe_c DW hr (by decide) (by rfl) (pa_cons (pv 0) (pa_cons pe_int (pa_cons (pe_glob (v := .int 60) rfl hG ⟨_, rfl⟩) pa_nil)))))), ?_⟩
    exact ⟨_, rfl, x, 1, 60, rfl, a, k⟩
theorem scChk : FnScope ["names", "speeds", "name"] ["names", "speeds"] (C8.fnScope sChk) := C8.fnScope_by (by decide +kernel)
theorem fn_chk {DN DS fN fS f : Addr} {fd fdN fdS : FuncData} (F : C8.Def K mg "check_speeds" sChk f fd) (EN : Err1 "BadName" "value" P w K mg base DN fN fdN) (ES : Err1 "BadSpeed" "value" P w K mg base DS fS fdS) (DNm : C8.Cal P w K mg base 1 "is_name" (spName K) []) (DSp : C8.Cal P w K mg base 3 "is_speed" (spIsp K) []) :
    FnOk P w K mg base (L2.CX P w) 4 f fd ["names", "speeds"] (spChk K DN DS) := by
  obtain ⟨oc, od, dV, kV, doc, pm, an, cdv, ct, osl, rfl, lk, hcd⟩ := F.fn.ex
  refine fn_of lk hcd scChk (fun vs H Q E h => ?_) fun A outer s H vs Q E hr h => ?_
  · obtain ⟨l, d, xs, rfl, _⟩ := h
    rfl
  · obtain ⟨l, d, xs, rfl, hl, av, h1, h2⟩ := h
    have tk : Takes (cxOf (L2.CX P w) P w K mg base ["names", "speeds", "name"] "check_speeds" (C8.fnScope sChk) f cdv A outer s H E) (fun cls d _ H' => E cls d H') := takes_of rfl rfl rfl rfl
    refine ⟨_, (pss_cons (ps_for (passes_of rfl) rfl (pi_list (pv 0)) (pg_name (i := 2) scChk.nd rfl (Or.inl rfl)) (pss_one (ps_if (pt_not (pt_val (C8.pe_c DNm hr (by decide) (by rfl) (pa_cons (pv 2) pa_nil)))) (pss_one (ps_bad1 (x := "BadName") rfl tk EN.T EN.iC EN.tI EN.F hr EN.b (by rfl) EN.hm (pv 2))) pss_nil)))
  (pss_one (ps_for (passes_of rfl) rfl (pi_list (pv 0)) (pg_name (i := 2) scChk.nd rfl (Or.inl rfl)) (pss_one (ps_if (pt_not (pt_val (C8.pe_c DSp hr (by decide) (by rfl) (pa_cons (pe_dget (hu_of hr) (pv 1) (pv 2) (fun _ _ => rfl)) pa_nil)))) (pss_one (ps_bad1 (x := "BadSpeed") rfl tk ES.T ES.iC ES.tI ES.F hr ES.b (by rfl) ES.hm (pe_dget (hu_of hr) (pv 1) (pv 2) (fun _ _ => rfl)))) pss_nil))))), ?_⟩
    dsimp only [gName, tSeq]
    refine ⟨_, rfl, l, rfl, ⟨_, SqL.of hl⟩, for_list (xs := xs) (fun i σ' H' => ∃ v, σ' = [some (.ref l), some (.ref d), v] ∧ Same H H' ∧ ∀ (j : Nat) y, j < i → xs[j]? = some y → nameB y = true) ⟨_, rfl, Same.refl _, fun j y hj => absurd hj (Nat.not_lt_zero _)⟩ (fun i σ' H' _ h => by obtain ⟨_, _, s', _⟩ := h; exact SqL.of (s' _ _ hl)) ?_ ?_⟩
    · rintro i y σ' H' hy ⟨v, rfl, s', good⟩
      obtain ⟨ay, ly⟩ := av y (List.mem_of_getElem? hy)
      refine ⟨_, rfl, y, rfl, Lw.Anyv.same s' ay, ly, fun H2 s2 => ⟨_, rfl, ?_⟩⟩
      show if (!nameB y) = true then _ else _
      cases hn : nameB y with
      | false => exact iteT ⟨_, rfl, bad_leaf1 fun e fs hd e1 => h1 i y hy good hn e fs H2 (s'.trans s2) hd e1⟩
      | true =>
        refine iteF ⟨_, rfl, s'.trans s2, fun j z hj hz => ?_⟩
        rcases Nat.lt_or_ge j i with lt | ge
        · exact good j z lt hz
        · obtain rfl : j = i := by omega
          rw [hy] at hz
          cases hz
          exact hn
    · rintro σ1 H1 ⟨v1, rfl, s1, good⟩
      obtain ⟨ns, ks, rfl, hd, look, h3, h4⟩ := h2 fun x hx => by
        obtain ⟨i, hi, e⟩ := List.mem_iff_getElem.mp hx
        exact good i x hi (by rw [← e]; exact List.getElem?_eq_getElem hi)
      refine ⟨_, rfl, l, rfl, ⟨_, SqL.of (s1 _ _ hl)⟩, for_list (xs := ns.map V.str) (fun i σ' H' => ∃ v, σ' = [some (.ref l), some (.ref d), v] ∧ H' = H1 ∧ ∀ (j : Nat) m u, j < i → ns[j]? = some m → ks.lookup m = some u → isSp u = true) ⟨_, rfl, rfl, fun j m u hj => absurd hj (Nat.not_lt_zero _)⟩ (fun i σ' H' _ h => by obtain ⟨_, _, rfl, _⟩ := h; exact SqL.of (s1 _ _ hl)) ?_ ?_⟩
      · rintro i y σ' H' hy ⟨v, rfl, rfl, fine⟩
        rw [List.getElem?_map] at hy
        obtain ⟨n, hn, rfl⟩ := Option.map_eq_some_iff.mp hy
        obtain ⟨u, hu, au⟩ := look n (List.mem_of_getElem? hn)
        have dg : DGet H' d (.str n) (some u) := d_look (s1 _ _ hd) hu
        refine ⟨_, rfl, _, rfl, d, u, rfl, dg, u, rfl, Lw.Anyv.same s1 au, _, rfl, ?_⟩
        show if (!isSp u) = true then _ else _
        cases hs : isSp u with
        | false => exact iteT ⟨_, rfl, _, rfl, d, u, rfl, dg, bad_leaf1 fun e fs hd e1 => h3 i n u hn hu fine hs e fs H' s1 hd e1⟩
        | true =>
          refine iteF ⟨_, rfl, rfl, fun j m w hj hm hw => ?_⟩
          rcases Nat.lt_or_ge j i with lt | ge
          · exact fine j m w lt hm hw
          · obtain rfl : j = i := by omega
            rw [hn] at hm
            cases hm
            rw [hu] at hw
            cases hw
            exact hs
      · rintro σ2 H2 ⟨v2, rfl, rfl, fine⟩
        refine h4 (fun n hn v hv => ?_) _ s1
        obtain ⟨i, hi, e⟩ := List.mem_iff_getElem.mp hn
        exact fine i n v (by rw [List.length_map]; exact hi) (by rw [← e]; exact List.getElem?_eq_getElem hi) hv
end
end Lw
namespace Lw
open PySem PySem.Spec PyProof.Rows L2
open SX PySem.NumText TL LamX ClX StX
abbrev sCrI : Stmt := inClass (top 26) 0
/-- pairs as tuples -/
abbrev PrT (H : Hp) (ts : List Addr) (ps : List (Str × Int)) : Prop := Paired (fun t q => H t = some (.tup [.str q.1, .int q.2])) ts ps
theorem PrT.len : ∀ {H : Hp} {ts : List Addr} {ps : List (Str × Int)}, PrT H ts ps → ts.length = ps.length
  | _, _, _, .nil => rfl
  | _, _, _, .cons _ r => congrArg Nat.succ (PrT.len r)
theorem PrT.at : ∀ {H : Hp} {ts : List Addr} {ps : List (Str × Int)} {i : Nat} {x : V}, PrT H ts ps → (ts.map V.ref)[i]? = some x → ∃ t q, x = .ref t ∧ ps[i]? = some q ∧ H t = some (.tup [.str q.1, .int q.2])
  | _, _, _, _, _, .nil, e => by simp at e
  | _, _, _, 0, _, .cons h _, e => by simp at e; exact ⟨_, _, e.symm, rfl, h⟩
  | _, _, _, i + 1, x, .cons _ r, e => by
    obtain ⟨t, q, h1, h2, h3⟩ := PrT.at (i := i) (x := x) r (by simpa using e)
    exact ⟨t, q, h1, by simpa using h2, h3⟩
theorem PrT.mono {H H' : Hp} (k : ∀ b xs, H b = some (.tup xs) → H' b = some (.tup xs)) : ∀ {ts : List Addr} {ps : List (Str × Int)}, PrT H ts ps → PrT H' ts ps
  | _, _, .nil => .nil
  | _, _, .cons h r => .cons (k _ _ h) (PrT.mono k r)
theorem PrT.same {H H' : Hp} {ts : List Addr} {ps : List (Str × Int)} (h : PrT H ts ps) (s : Same H H') : PrT H' ts ps := h.mono fun b _ e => s b _ e
/-- a list comprehension over pairs, target a tuple of two names, whose test and element leave the heap as it is -/
theorem lc_pairs {K : PySem.W.Frag} {J : It} {G : Hp → Prop} {ts : List Addr} {ps : List (Str × Int)} (w : Walk J (ts.map V.ref).length G (YAt (ts.map V.ref))) {a b : Nat} {tt : TT} {te : TE} {vs : List Nat} {σ : L2.St} {H : Hp} {D : Addr} {Qd : Hp → Prop} (flt : Str × Int → Bool) (f : Str × Int → V)
    (pr : PrT H ts ps) (hG : ∀ xs, G (upd H D (.lst xs))) (hD : H D = none) (hz : ps.length ≤ 5000) (hw : ∀ q : Str × Int, wipe (((wipe σ vs).set a (some (.str q.1))).set b (some (.int q.2))) vs = wipe σ vs)
    (ht : ∀ q xs (R : Bool → Hp → Prop), q ∈ ps → R (flt q) (upd H D (.lst xs)) → tt (((wipe σ vs).set a (some (.str q.1))).set b (some (.int q.2))) (upd H D (.lst xs)) R)
    (he : ∀ q xs (R : V → Hp → Prop), q ∈ ps → flt q = true → R (f q) (upd H D (.lst xs)) → te (((wipe σ vs).set a (some (.str q.1))).set b (some (.int q.2))) (upd H D (.lst xs)) R) (hd : Qd (upd H D (.lst ((ps.filter flt).map f)))) :
    ∃ W : Nat → Nat → Hp → Prop, (∃ m, W 0 m (upd H D (.lst []))) ∧ ∀ i m H, W i m H →
      (J.stop i H ∧ Qd H) ∨ (J.go i H ∧ ∃ Nx : Hp → Prop, (∀ H', Nx H' → ∃ m', m' < m ∧ W (i + 1) m' H') ∧ ∀ x H', J.yld i H x H' → gTup K 2 (gCons (gName a) (gCons (gName b) gNil)) x (wipe σ vs) H' fun σ2 H2 => wipe σ2 vs = wipe σ vs ∧ tt σ2 H2 fun b H3 =>
        if b = true then te σ2 H3 fun y H4 => ∃ acc, H4 D = some (.lst acc) ∧ acc.length < sizeLine ∧ Nx (upd H4 D (.lst (acc ++ [y]))) else Nx H3) := by
  refine lc_it w (fun i H' => H' = upd H D (.lst (((ps.take i).filter flt).map f))) rfl (fun i H' _ e => by rw [e]; exact hG _) ?_ ?_
  · rintro i x H' H'' hi e ⟨rfl, hx⟩
    obtain ⟨t, q, rfl, hq, h3⟩ := pr.at hx
    have hm := List.mem_of_getElem? hq
    have h3' : H'' t = some (.tup [.str q.1, .int q.2]) := by rw [e, upd_ne (ne_of_none h3 hD)]; exact h3
    refine ⟨t, _, rfl, SqT.of h3', rfl, _, _, rfl, _, _, rfl, rfl, hw q, ?_⟩
    have tk : ps.take (i + 1) = ps.take i ++ [q] := by rw [List.take_add_one, hq]; rfl
    rw [e]
    refine ht q _ _ hm ?_
    cases hf : flt q with
    | true =>
      refine iteT (he q _ _ hm hf ⟨_, upd_same, ?_, ?_⟩)
      · rw [List.length_map]
        exact Nat.lt_of_le_of_lt (Nat.le_trans (List.length_filter_le _ _) (Nat.le_trans (List.length_take_le' _ _) hz)) (by decide)
      · rw [upd_upd, tk, List.filter_append, List.map_append]
        simp [hf]
    | false =>
      refine iteF ?_
      rw [tk, List.filter_append, List.map_append]
      simp [hf]
  · rintro H' e
    rw [List.length_map, pr.len, List.take_of_length_le (Nat.le_refl _)] at e
    rw [e]
    exact hd
theorem putK_out {ks : List (Str × V)} {n : Str} {v : V} (h : n ∉ ks.map (·.1)) : putK (dkOf ks) (Sum.inr n : L2.Key) v = dkOf (ks ++ [(n, v)]) := by
  have e : valV (dkOf ks) (Sum.inr n : L2.Key) = none := by
    rw [val_dk]
    cases hl : ks.lookup n with
    | none => rfl
    | some u =>
      exfalso
      clear v
      induction ks with
      | nil => cases hl
      | cons p r ih =>
        obtain ⟨m, x⟩ := p
        by_cases e : n = m
        · exact h (by rw [e]; exact List.mem_cons_self)
        · have e2 : (n == m) = false := beq_eq_false_iff_ne.mpr e
          simp only [List.lookup, e2] at hl
          exact ih (fun z => h (List.mem_cons_of_mem _ z)) hl
  rw [putK_new v e]
  simp [dkOf]
/-- the same of a dict comprehension whose key is the name -/
theorem dc_pairs {K : PySem.W.Frag} {J : It} {G : Hp → Prop} {ts : List Addr} {ps : List (Str × Int)} (w : Walk J (ts.map V.ref).length G (YAt (ts.map V.ref))) {a b : Nat} {tt : TT} {tk tv : TE} {vs : List Nat} {σ : L2.St} {H : Hp} {D : Addr} {Qd : Hp → Prop} (flt : Str × Int → Bool) (f : Str × Int → V)
    (nd : (ps.map (·.1)).Nodup) (pr : PrT H ts ps) (hG : ∀ xs, G (upd H D (.dK xs))) (hD : H D = none) (hz : ps.length ≤ 5000) (hw : ∀ q : Str × Int, wipe (((wipe σ vs).set a (some (.str q.1))).set b (some (.int q.2))) vs = wipe σ vs)
    (ht : ∀ q xs (R : Bool → Hp → Prop), q ∈ ps → R (flt q) (upd H D (.dK xs)) → tt (((wipe σ vs).set a (some (.str q.1))).set b (some (.int q.2))) (upd H D (.dK xs)) R)
    (hk : ∀ q xs (R : V → Hp → Prop), q ∈ ps → flt q = true → R (.str q.1) (upd H D (.dK xs)) → tk (((wipe σ vs).set a (some (.str q.1))).set b (some (.int q.2))) (upd H D (.dK xs)) R)
    (he : ∀ q xs (R : V → Hp → Prop), q ∈ ps → flt q = true → R (f q) (upd H D (.dK xs)) → tv (((wipe σ vs).set a (some (.str q.1))).set b (some (.int q.2))) (upd H D (.dK xs)) R) (hd : Qd (upd H D (.dK (dkOf ((ps.filter flt).map fun q => (q.1, f q)))))) :
    ∃ W : Nat → Nat → Hp → Prop, (∃ m, W 0 m (upd H D (.dK []))) ∧ ∀ i m H, W i m H →
      (J.stop i H ∧ Qd H) ∨ (J.go i H ∧ ∃ Nx : Hp → Prop, (∀ H', Nx H' → ∃ m', m' < m ∧ W (i + 1) m' H') ∧ ∀ x H', J.yld i H x H' → gTup K 2 (gCons (gName a) (gCons (gName b) gNil)) x (wipe σ vs) H' fun σ2 H2 => wipe σ2 vs = wipe σ vs ∧ tt σ2 H2 fun b H3 =>
        if b = true then tk σ2 H3 fun y H4 => tv σ2 H4 fun z H5 => ∃ kvs k, y = kV k ∧ H5 D = some (.dK kvs) ∧ kvs.length < sizeLine ∧ Nx (upd H5 D (.dK (putK kvs k z))) else Nx H3) := by
  refine dc_it w (fun i H' => H' = upd H D (.dK (dkOf (((ps.take i).filter flt).map fun q => (q.1, f q))))) rfl (fun i H' _ e => by rw [e]; exact hG _) ?_ ?_
  · rintro i x H' H'' hi e ⟨rfl, hx⟩
    obtain ⟨t, q, rfl, hq, h3⟩ := pr.at hx
    have hm := List.mem_of_getElem? hq
    have h3' : H'' t = some (.tup [.str q.1, .int q.2]) := by rw [e, upd_ne (ne_of_none h3 hD)]; exact h3
    refine ⟨t, _, rfl, SqT.of h3', rfl, _, _, rfl, _, _, rfl, rfl, hw q, ?_⟩
    have tke : ps.take (i + 1) = ps.take i ++ [q] := by rw [List.take_add_one, hq]; rfl
    rw [e]
    refine ht q _ _ hm ?_
    cases hf : flt q with
    | true =>
      refine iteT (hk q _ _ hm hf (he q _ _ hm hf ⟨_, Sum.inr q.1, rfl, upd_same, ?_, ?_⟩))
      · rw [List.length_map, List.length_map]
        exact Nat.lt_of_le_of_lt (Nat.le_trans (List.length_filter_le _ _) (Nat.le_trans (List.length_take_le' _ _) hz)) (by decide)
      · have out : q.1 ∉ (((ps.take i).filter flt).map fun q => (q.1, f q)).map (·.1) := fun z => by
          rw [List.map_map] at z
          obtain ⟨r, hr, e⟩ := List.mem_map.mp z
          have hr2 := (List.mem_filter.mp hr).1
          obtain ⟨j, hj⟩ := List.mem_iff_getElem?.mp hr2
          rw [List.getElem?_take] at hj
          split at hj
          · rename_i ji
            have a1 : (ps.map (·.1))[j]? = some q.1 := by rw [List.getElem?_map, hj]; exact congrArg some e
            have a2 : (ps.map (·.1))[i]? = some q.1 := by rw [List.getElem?_map, hq]; rfl
            obtain ⟨b1, c1⟩ := List.getElem?_eq_some_iff.mp a1
            obtain ⟨b2, c2⟩ := List.getElem?_eq_some_iff.mp a2
            exact List.pairwise_iff_getElem.mp nd j i b1 b2 ji (c1.trans c2.symm)
          · cases hj
        rw [upd_upd, tke, List.filter_append, List.map_append, putK_out out]
        simp [hf]
    | false =>
      refine iteF ?_
      rw [tke, List.filter_append, List.map_append]
      simp [hf]
  · rintro H' e
    rw [List.length_map, pr.len, List.take_of_length_le (Nat.le_refl _)] at e
    rw [e]
    exact hd
/-- a crew's attributes -/
def crF (w : Addr) (s mn mx : Int) (sl fa : Str) (p d : Addr) : List (Str × V) := putF "_speeds" (.ref d) (putF "_pairs" (.ref p) (putF "fastest" (.str fa) (putF "slowest" (.str sl) (putF "greatest_speed" (.int mx) (putF "least_speed" (.int mn) (putF "speed" (.int s) (putF "workers" (.ref w) [])))))))
/-- the first that has this speed -/
def First (ps : List (Str × Int)) (m : Int) (n : Str) : Prop := ∃ i : Nat, ps[i]? = some (n, m) ∧ ∀ (j : Nat) q, j < i → ps[j]? = some q → q.2 ≠ m
abbrev dkI (ps : List (Str × Int)) : List (L2.Key × V) := dkOf (ps.map fun q => (q.1, V.int q.2))
theorem kp_new {a : Addr} {H H' : Hp} {D : Addr} {o : HO} (k : Kp a H H') (hD : H' D = none) : Kp a H (upd H' D o) := fun b u hb e => by rw [upd_ne (ne_of_none (k b u hb e) hD)]; exact k b u hb e
theorem kp_at {a : Addr} {H H' : Hp} {o : HO} (k : Kp a H H') : Kp a H (upd H' a o) := fun b u hb e => by rw [upd_ne hb]; exact k b u hb e
theorem pF_len (f : Str) (v : V) : ∀ fs : List (Str × V), (putF f v fs).length ≤ fs.length + 1
  | [] => Nat.le_refl _
  | (g, x) :: r => by
    unfold putF
    split
    · rw [List.length_cons, List.length_cons]; omega
    · rw [List.length_cons, List.length_cons]
      exact Nat.succ_le_succ (pF_len f v r)
theorem isSp_int {v : V} (h : isSp v = true) : ∃ i, v = .int i ∧ 1 ≤ i ∧ i ≤ 60 := by
  unfold isSp inB at h
  split at h
  · rename_i i
    rw [Bool.and_eq_true, decide_eq_true_eq, decide_eq_true_eq] at h
    exact ⟨i, rfl, h.1, h.2⟩
  · cases h
theorem look_mem {n : Str} : ∀ {ks : List (Str × V)}, n ∈ ks.map (·.1) → ∃ v, ks.lookup n = some v ∧ (n, v) ∈ ks
  | (m, x) :: r, h => by
    by_cases e : n = m
    · subst e
      exact ⟨x, by simp [List.lookup], List.mem_cons_self⟩
    · have e2 : (n == m) = false := beq_eq_false_iff_ne.mpr e
      rcases List.mem_cons.mp h with h | h
      · exact absurd h e
      · obtain ⟨v, h1, h2⟩ := look_mem (ks := r) h
        exact ⟨v, by simp only [List.lookup, e2]; exact h1, List.mem_cons_of_mem _ h2⟩
def spOf (ks : List (Str × V)) (n : Str) : Int := match ks.lookup n with
  | some (.int i) => i
  | _ => 0
theorem first_of {m : Int} : ∀ {ps : List (Str × Int)}, m ∈ ps.map (·.2) → ∃ n, ((ps.filter fun q => decide (V.int q.2 = V.int m)).map fun q => V.str q.1)[0]? = some (.str n) ∧ First ps m n
  | (k, i) :: r, h => by
    by_cases e : i = m
    · subst e
      exact ⟨k, by simp, 0, rfl, fun j q hj => absurd hj (Nat.not_lt_zero _)⟩
    · have hr : m ∈ r.map (·.2) := by
        rcases List.mem_cons.mp h with h | h
        · exact absurd h.symm e
        · exact h
      obtain ⟨n, h1, j, h2, h3⟩ := first_of hr
      have e2 : ¬ V.int i = V.int m := fun z => e (V.int.inj z)
      refine ⟨n, by rw [List.filter_cons, if_neg (by simpa using e)]; exact h1, j + 1, h2, fun k' q hk hq => ?_⟩
      cases k' with
      | zero => cases hq; exact e
      | succ k' => exact h3 k' q (Nat.lt_of_succ_lt_succ hk) hq
theorem DGet.kr {H : Hp} {a : Addr} {kvs : List (L2.Key × V)} {k : L2.Key} (e : L2.Rd H a (.dK kvs)) : DGet H a (kV k) (valV kvs k) := .inl ⟨kvs, k, e, rfl, rfl⟩
def CwAt (CC : Addr) (H : Hp) (c : Addr) (ps : List (Str × Int)) : Prop := ∃ (dx w p d : Addr) (ts : List Addr) (mn mx : Int) (sl fa : Str),
  H c = some (.ins CC dx (crF w (ps.map (·.2)).sum mn mx sl fa p d)) ∧ H w = some (.tup (ps.map fun q => V.str q.1)) ∧ H p = some (.tup (ts.map V.ref)) ∧ PrT H ts ps ∧ L2.Rd H d (.dK (dkI ps)) ∧
  (∀ q ∈ ps, mn ≤ q.2 ∧ q.2 ≤ mx) ∧ First ps mn sl ∧ First ps mx fa
/-- the crew's own dict is none of those before -/
def NewD (H H' : Hp) (c : Addr) : Prop := ∀ D, H D ≠ none → ∀ C dx fs, H' c = some (.ins C dx fs) → fs.lookup ("_speeds" : Str) ≠ some (.ref D)
def Bf2 (D : Addr) (f1 : Str) (v1 : V) (f2 : Str) (v2 : V) (H : Hp) (E : XK) : Prop := ∀ d fs H', Same H H' → H' d = none → fs.lookup f1 = some v1 → fs.lookup f2 = some v2 → E (.ref D) (some d) (upd H' d (.xd fs))
/-- the class and what its __init__ needs of the module -/
structure CrC (K : PySem.W.Frag) (mg : Str → Option Value) (CC : Addr) : Prop where
  cl : Cls K CC
  hm : mg "Crew" = some (.ref CC)
  n1 : PySem.W.findIn K (.ref CC) "workers" = some none
  n2 : PySem.W.findIn K (.ref CC) "speed" = some none
  n3 : PySem.W.findIn K (.ref CC) "least_speed" = some none
  n4 : PySem.W.findIn K (.ref CC) "greatest_speed" = some none
  n5 : PySem.W.findIn K (.ref CC) "slowest" = some none
  n6 : PySem.W.findIn K (.ref CC) "fastest" = some none
  n7 : PySem.W.findIn K (.ref CC) "_pairs" = some none
  n8 : PySem.W.findIn K (.ref CC) "_speeds" = some none
structure TxtC (mg : Str → Option Value) : Prop extends Txt mg where
  n_sorted : mg "sorted" = none
  n_tuple : mg "tuple" = none
  n_sum : mg "sum" = none
  n_min : mg "min" = none
  n_max : mg "max" = none
  n_dict : mg "dict" = none
  n_iter : mg "iter" = none
  c_MW : ∃ t, mg "MOST_WORKERS" = some (.int 8 t)
def spCrI (K : PySem.W.Frag) (CC DN DS DC DM : Addr) : SpK := fun x ks H Q E => ∃ (a dx : Addr), x = .ref a ∧ H a = some (.ins CC dx []) ∧ (∀ p ∈ ks, Anyv K H p.2 ∧ p.1.length ≤ 1000000 ∧ p.1 ≠ "this_crew") ∧ ks.length < 64 ∧
  ∀ ys : List Str, ys.Perm (ks.map (·.1)) → sortedS ys = true →
    (∀ (i : Nat) n, ys[i]? = some n → (∀ (j : Nat) m, j < i → ys[j]? = some m → nameT m = true) → nameT n = false → Bf DN "value" (.str n) H E) ∧
    ((∀ n ∈ ys, nameT n = true) →
      (∀ (i : Nat) n v, ys[i]? = some n → ks.lookup n = some v → (∀ (j : Nat) m u, j < i → ys[j]? = some m → ks.lookup m = some u → isSp u = true) → isSp v = false → Bf DS "value" v H E) ∧
      (∀ ps : List (Str × Int), ps.map (·.1) = ys → (∀ q ∈ ps, ks.lookup q.1 = some (.int q.2) ∧ 1 ≤ q.2 ∧ q.2 ≤ 60) →
        (ps = [] → Bf DC "part" (.str (Str.ofString "empty")) H E) ∧ (8 < ps.length → Bf2 DM "what" (.str (Str.ofString "workers")) "most" (.int 8) H E) ∧
        (ps ≠ [] → ps.length ≤ 8 → ∀ H', Kp a H H' → CwAt CC H' a ps → NewD H H' a → Q .non H')))
section
variable {P : Program} {w : World} {K : PySem.W.Frag} {mg : Str → Option Value} {base : Heap}
theorem scCrI : FnScope ["this_crew", "speeds", "names", "pairs", "name", "speed", "_"] ["this_crew", "speeds"] (C8.fnScope sCrI) := C8.fnScope_by (by decide +kernel)
set_option maxHeartbeats 2000000 in
theorem fn_crI {CC DN DS DC DM fC fM fK f : Addr} {fd fdC fdM fdK : FuncData} (F : C8.Fun K "__init__" "Crew.__init__" sCrI f fd) (df : fd.defaults = .none) (T : TxtC mg) (Z : CrC K mg CC) (EC : Err1 "BadCrew" "part" P w K mg base DC fC fdC) (EM : Err2 "TooMany" "what" "most" P w K mg base DM fM fdM)
    (DK : C8.Def K mg "check_speeds" sChk fK fdK) (bK : Binds K fdK ["names", "speeds"] []) (FK : FnOk P w K mg base (L2.CX P w) 4 fK fdK ["names", "speeds"] (spChk K DN DS)) :
    FnKw P w K mg base (L2.CX P w) 6 f (spCrI K CC DN DS DC DM) := by
  obtain ⟨oc, od, dV, kV, doc, pm, an, cdv, ct, osl, rfl, lk, hcd⟩ := F.ex
  have e0 : dV = .none := df
  subst e0
  obtain ⟨tMW, hMW⟩ := T.c_MW
  refine fn_kw (nm := "this_crew") lk hcd scCrI cxUp rfl rfl rfl rfl rfl rfl (fun x ks H Q E h => ?_) fun A outer s H x d ks Q E hr hd nd h => ?_
  · obtain ⟨a, dx, _, _, h1, h2, _⟩ := h
    exact ⟨fun p hp => (h1 p hp).2.2, Nat.le_of_lt (Nat.lt_trans h2 (by decide))⟩
  · obtain ⟨a, dx, rfl, ha, h1, h2, h3⟩ := h
    have tk : Takes (cxOf (L2.CX P w) P w K mg base ["this_crew", "speeds", "names", "pairs", "name", "speed", "_"] "Crew.__init__" (C8.fnScope sCrI) f cdv A outer s (upd H d (.dK (dkOf ks))) E) (fun cls d _ H' => E cls d H') := takes_of rfl rfl rfl rfl
    refine ⟨_, (pss_cons (ps_set (i := 2) scCrI.nd rfl (Or.inl rfl) (pe_callB cr_sortedS (by rfl) T.n_sorted (by decide +kernel) (pa_cons (pe_lock (pe_lc (own := [("name", 4)]) (g := gName 4) (tt := tYes) rfl scCrI.nd (pi_keys (pv 1)) (blkOk_by (own := [("name", 4)]) (N := ["this_crew", "speeds", "names", "pairs", "name", "speed", "_"]) (sc := (C8.fnScope sCrI)) (by decide +kernel)) (fun _ _ _ _ _ => (pg_name (i := 4) scCrI.nd rfl (Or.inl rfl))) (fun _ _ _ _ _ => pts_nil) (fun _ _ _ _ _ => (pe_callTy SkE.call_str_str (by rfl) T.n_str (by decide +kernel) (pa_cons (pv 4) pa_nil))))) pa_nil)))
  (pss_cons (ps_expr (pe_call FK (hr.mono (by decide)) (by rfl) DK.mgf DK.kp bK .nil (passes_call (takes_of rfl rfl rfl rfl) (fun _ _ _ _ z => z)) (pa_cons (pv 2) (pa_cons (pv 1) pa_nil))))
  (pss_cons (ps_if (pt_not (pt_truth (pv 2) (by intro _; rfl))) (pss_one (ps_bad1 (x := "BadCrew") rfl tk EC.T EC.iC EC.tI EC.F hr EC.b (by rfl) EC.hm pe_str)) pss_nil)
  (pss_cons (ps_if (pt_cmpR op_gt (pe_callB call_len_seq (by rfl) T.n_len (by decide +kernel) (pa_cons (pv 2) pa_nil)) (pe_glob (v := .int 8) rfl hMW ⟨_, rfl⟩) (nomark _)) (pss_one (ps_bad2 (x := "TooMany") rfl tk EM.T EM.iC EM.tI EM.F hr EM.b (by rfl) EM.hm pe_str (pe_glob (v := .int 8) rfl hMW ⟨_, rfl⟩))) pss_nil)
  (pss_cons (ps_setLc (i := 3) (own := [("name", 4)]) (g := gName 4) (tt := tYes) rfl scCrI.nd rfl rfl (sw_true rfl rfl rfl (by decide +kernel)) (pi_list (pv 2)) (blkOk_by (own := [("name", 4)]) (N := ["this_crew", "speeds", "names", "pairs", "name", "speed", "_"]) (sc := (C8.fnScope sCrI)) (by decide +kernel)) (fun _ _ _ _ _ => (pg_name (i := 4) scCrI.nd rfl (Or.inl rfl))) (fun _ _ _ _ _ => pts_nil) (fun _ _ _ _ _ => (pe_tup (pa_cons (pv 4) (pa_cons (pe_dget (hu_of hr) (pv 1) (pv 4) (fun _ _ => rfl)) pa_nil)))))
  (pss_cons (ps_fld (pv 0) (pe_callTy call_tuple_of (by rfl) T.n_tuple (by decide +kernel) (pa_cons (pv 2) pa_nil)) rfl)
  (pss_cons (ps_fld (pv 0) (pe_callB (cr_sum rfl) (by rfl) T.n_sum (by decide +kernel) (pa_cons (pe_lc (own := [("_", 6), ("speed", 5)]) (g := gTup K 2 (gCons (gName 6) (gCons (gName 5) (gNil)))) (tt := tYes) rfl scCrI.nd (pi_list (pv 3)) (blkOk_by (own := [("_", 6), ("speed", 5)]) (N := ["this_crew", "speeds", "names", "pairs", "name", "speed", "_"]) (sc := (C8.fnScope sCrI)) (by decide +kernel)) (fun _ _ _ _ _ => (pg_tup rfl (pgs_cons (pg_name (i := 6) scCrI.nd rfl (Or.inl rfl)) (pgs_cons (pg_name (i := 5) scCrI.nd rfl (Or.inl rfl)) pgs_nil)))) (fun _ _ _ _ _ => pts_nil) (fun _ _ _ _ _ => (pv 5))) pa_nil)) rfl)
  (pss_cons (ps_fld (pv 0) (pe_callB (cr_min rfl) (by rfl) T.n_min (by decide +kernel) (pa_cons (pe_lc (own := [("_", 6), ("speed", 5)]) (g := gTup K 2 (gCons (gName 6) (gCons (gName 5) (gNil)))) (tt := tYes) rfl scCrI.nd (pi_list (pv 3)) (blkOk_by (own := [("_", 6), ("speed", 5)]) (N := ["this_crew", "speeds", "names", "pairs", "name", "speed", "_"]) (sc := (C8.fnScope sCrI)) (by decide +kernel)) (fun _ _ _ _ _ => (pg_tup rfl (pgs_cons (pg_name (i := 6) scCrI.nd rfl (Or.inl rfl)) (pgs_cons (pg_name (i := 5) scCrI.nd rfl (Or.inl rfl)) pgs_nil)))) (fun _ _ _ _ _ => pts_nil) (fun _ _ _ _ _ => (pe_callTy call_int1 (by rfl) T.n_int (by decide +kernel) (pa_cons (pv 5) pa_nil)))) pa_nil)) rfl)
  (pss_cons (ps_fld (pv 0) (pe_callB (cr_max rfl) (by rfl) T.n_max (by decide +kernel) (pa_cons (pe_lc (own := [("_", 6), ("speed", 5)]) (g := gTup K 2 (gCons (gName 6) (gCons (gName 5) (gNil)))) (tt := tYes) rfl scCrI.nd (pi_list (pv 3)) (blkOk_by (own := [("_", 6), ("speed", 5)]) (N := ["this_crew", "speeds", "names", "pairs", "name", "speed", "_"]) (sc := (C8.fnScope sCrI)) (by decide +kernel)) (fun _ _ _ _ _ => (pg_tup rfl (pgs_cons (pg_name (i := 6) scCrI.nd rfl (Or.inl rfl)) (pgs_cons (pg_name (i := 5) scCrI.nd rfl (Or.inl rfl)) pgs_nil)))) (fun _ _ _ _ _ => pts_nil) (fun _ _ _ _ _ => (pe_callTy call_int1 (by rfl) T.n_int (by decide +kernel) (pa_cons (pv 5) pa_nil)))) pa_nil)) rfl)
  (pss_cons (ps_fld (pv 0) (pe_ix ix_list (pe_lc (own := [("name", 4), ("speed", 5)]) (g := gTup K 2 (gCons (gName 4) (gCons (gName 5) (gNil)))) rfl scCrI.nd (pi_list (pv 3)) (blkOk_by (own := [("name", 4), ("speed", 5)]) (N := ["this_crew", "speeds", "names", "pairs", "name", "speed", "_"]) (sc := (C8.fnScope sCrI)) (by decide +kernel)) (fun _ _ _ _ _ => (pg_tup rfl (pgs_cons (pg_name (i := 4) scCrI.nd rfl (Or.inl rfl)) (pgs_cons (pg_name (i := 5) scCrI.nd rfl (Or.inl rfl)) pgs_nil)))) (fun _ _ _ _ _ => pts_one (pt_cmpR op_eq (pv 5) (pe_fldK K rfl (pv 0) rfl) (nomark _))) (fun _ _ _ _ _ => (pv 4))) pe_int (fun _ _ => rfl)) rfl)
  (pss_cons (ps_fld (pv 0) (pe_ix ix_list (pe_lc (own := [("name", 4), ("speed", 5)]) (g := gTup K 2 (gCons (gName 4) (gCons (gName 5) (gNil)))) rfl scCrI.nd (pi_list (pv 3)) (blkOk_by (own := [("name", 4), ("speed", 5)]) (N := ["this_crew", "speeds", "names", "pairs", "name", "speed", "_"]) (sc := (C8.fnScope sCrI)) (by decide +kernel)) (fun _ _ _ _ _ => (pg_tup rfl (pgs_cons (pg_name (i := 4) scCrI.nd rfl (Or.inl rfl)) (pgs_cons (pg_name (i := 5) scCrI.nd rfl (Or.inl rfl)) pgs_nil)))) (fun _ _ _ _ _ => pts_one (pt_cmpR op_eq (pv 5) (pe_fldK K rfl (pv 0) rfl) (nomark _))) (fun _ _ _ _ _ => (pv 4))) pe_int (fun _ _ => rfl)) rfl)
  (pss_cons (ps_fld (pv 0) (pe_callTy call_tuple_of (by rfl) T.n_tuple (by decide +kernel) (pa_cons (pv 3) pa_nil)) rfl)
  (pss_one (ps_fld (pv 0) (pe_dc (own := [("name", 4), ("speed", 5)]) (g := gTup K 2 (gCons (gName 4) (gCons (gName 5) (gNil)))) (tt := tYes) rfl scCrI.nd (pi_list (pv 3)) (blkOk_by (own := [("name", 4), ("speed", 5)]) (N := ["this_crew", "speeds", "names", "pairs", "name", "speed", "_"]) (sc := (C8.fnScope sCrI)) (by decide +kernel)) (fun _ _ _ _ _ => (pg_tup rfl (pgs_cons (pg_name (i := 4) scCrI.nd rfl (Or.inl rfl)) (pgs_cons (pg_name (i := 5) scCrI.nd rfl (Or.inl rfl)) pgs_nil)))) (fun _ _ _ _ _ => pts_nil) (fun _ _ _ _ _ => (pv 4)) (fun _ _ _ _ _ => (pv 5))) rfl)))))))))))))), ?_⟩
    dsimp only [gName, tSeq]
    have hd0 : upd H d (.dK (dkOf ks)) d = some (.dK (dkOf ks)) := upd_same
    have s0 := same_new (o := HO.dK (dkOf ks)) hd
    have ha0 := s0 _ _ ha
    generalize upd H d (.dK (dkOf ks)) = H0 at hd0 s0 ha0 tk ⊢
    refine (show tLockE _ _ _ _ from names_of (d := d) (ks := ks) rfl (by show 4 < 7; decide) hd0 (by omega) fun D H1 s1 fD hD1 => ?_)
    refine ⟨D, ks.map (·.1), rfl, SqL.of (by rw [List.map_map]; exact hD1), by rw [List.length_map]; exact h2, fun ys p pm srt hp => ?_⟩
    obtain ⟨k1, k2⟩ := h3 ys pm srt
    have s2 := s1.trans (same_new (o := HO.lst (ys.map V.str)) hp)
    have hp2 : upd H1 p (.lst (ys.map V.str)) p = some (.lst (ys.map V.str)) := upd_same
    have ap : p ≠ a := fun e => by rw [e, s1 _ _ ha0] at hp; cases hp
    generalize upd H1 p (.lst (ys.map V.str)) = H2 at s2 hp2 ⊢
    have sH := s0.trans s2
    have hd2 := s2 _ _ hd0
    have mem : ∀ n ∈ ys, n ∈ ks.map (·.1) := fun n hn => pm.subset hn
    have ly : ys.length = ks.length := by rw [pm.length_eq, List.length_map]
    dsimp only [gName, tSeq]
    refine ⟨_, rfl, _, rfl, p, d, ys.map V.str, rfl, hp2, fun x hx => ?_, fun i x hx h4 h5 => ?_, fun h4 => ⟨ys, ks, rfl, hd2, fun n hn => ?_, fun i n v hn hv h5 h6 => ?_, fun h5 H3 s3 => ?_⟩⟩
    · obtain ⟨n, hn, rfl⟩ := List.mem_map.mp hx
      obtain ⟨v, _, hv⟩ := look_mem (mem n hn)
      exact ⟨.str n, fun z e => by cases e; exact (h1 _ hv).2.1⟩
    · rw [List.getElem?_map] at hx
      obtain ⟨n, hn, rfl⟩ := Option.map_eq_some_iff.mp hx
      exact (k1 i n hn (fun j m hj hm => h4 j (.str m) hj (by rw [List.getElem?_map, hm]; rfl)) h5).of sH
    · obtain ⟨v, hv, hm⟩ := look_mem (mem n hn)
      exact ⟨v, hv, Lw.Anyv.same sH (h1 _ hm).1⟩
    · exact ((k2 fun m hm => h4 _ (List.mem_map_of_mem hm)).1 i n v hn hv h5 h6).of sH
    have k3 := (k2 fun m hm => h4 _ (List.mem_map_of_mem hm)).2 (ys.map fun n => (n, spOf ks n)) (by rw [List.map_map]; exact List.map_id _) fun q hq => by
      obtain ⟨n, hn, rfl⟩ := List.mem_map.mp hq
      obtain ⟨v, hv, _⟩ := look_mem (mem n hn)
      obtain ⟨i, rfl, l1, l2⟩ := isSp_int (h5 n hn v hv)
      show ks.lookup n = some (.int (spOf ks n)) ∧ 1 ≤ spOf ks n ∧ spOf ks n ≤ 60
      unfold spOf
      rw [hv]
      exact ⟨rfl, l1, l2⟩
    have ndy : ys.Nodup := pm.symm.nodup nd
    have eqv : ∀ n ∈ ys, ks.lookup n = some (.int (spOf ks n)) := fun n hn => by
      obtain ⟨v, hv, _⟩ := look_mem (mem n hn)
      obtain ⟨i, rfl, _, _⟩ := isSp_int (h5 n hn v hv)
      unfold spOf
      rw [hv]
    clear k1 k2 h5 h4 h3 h1 mem
    generalize hps : (ys.map fun n => (n, spOf ks n)) = ps at k3
    have eny : ps.map (·.1) = ys := by rw [← hps, List.map_map]; exact List.map_id _
    have lp : ps.length = ys.length := by rw [← hps, List.length_map]
    obtain ⟨k3, k4, k5⟩ := k3
    have s3' := sH.trans s3
    have hp3 := s3 _ _ hp2
    have hd3 := s3 _ _ hd2
    dsimp only [tNext, tSeq]
    refine ⟨_, rfl, !(ys.map V.str).isEmpty, .inl ⟨_, SqL.of hp3, rfl⟩, ?_⟩
    by_cases cy : ys = []
    · have e : ps = [] := by rw [cy] at lp; exact List.eq_nil_of_length_eq_zero lp
      rw [cy]
      exact iteT (bad_leaf1 fun e1 fs hd e2 => k3 e e1 fs H3 s3' hd e2)
    have ne : (ys.map V.str).isEmpty = false := by
      cases ys with
      | nil => exact absurd rfl cy
      | cons _ _ => rfl
    rw [ne]
    refine iteF ?_
    dsimp only [tNext, tSeq]
    refine ⟨_, rfl, p, _, rfl, .inl (SqL.of hp3), _, _, rfl, rfl, _, rfl, ?_⟩
    rw [List.length_map]
    by_cases c8 : 8 < ys.length
    · exact iteT' (decide_eq_true (by omega)) (bad_leaf2 fun e1 fs hd e2 e3 => k4 (by omega) e1 fs H3 s3' hd e2 e3)
    refine iteF' (decide_eq_false (by omega)) ?_
    have kQ := k5 (fun e => cy (by rw [e] at lp; exact List.eq_nil_of_length_eq_zero lp.symm)) (by omega)
    clear k3 k4 k5
    have c8 : ys.length ≤ 8 := by omega
    have ha3 := s3 _ _ (s2 _ _ ha0)
    dsimp only [tNext, tSeq]
    refine ⟨_, rfl, p, rfl, ⟨_, SqL.of hp3⟩, fun L hL => lc_it walk_list (fun i H' => Same H3 H' ∧ ∃ ts : List Addr, H' L = some (.lst (ts.map V.ref)) ∧ PrT H' ts (ps.take i)) ⟨same_new hL, [], upd_same, .nil⟩ (fun i H' _ h => SqL.of (h.1 _ _ hp3)) ?_ ?_⟩
    · rintro i x H' H'' hi ⟨s', ts, hLt, pr⟩ ⟨rfl, hx⟩
      rw [List.getElem?_map] at hx
      obtain ⟨n, hn, rfl⟩ := Option.map_eq_some_iff.mp hx
      have hm := List.mem_of_getElem? hn
      have hq : ps[i]? = some (n, spOf ks n) := by rw [← hps, List.getElem?_map, hn]; rfl
      refine ⟨rfl, ?_⟩
      dsimp only [tYes]
      rw [if_pos rfl]
      refine ⟨_, rfl, _, rfl, _, rfl, d, .int (spOf ks n), rfl, d_look (s' _ _ hd3) (eqv n hm), (by show 2 ≤ sizeLine; decide), fun T' hT => ?_⟩
      have TL : T' ≠ L := fun e => by rw [e, hLt] at hT; cases hT
      have sT : Same H'' (upd H'' T' (.tup [.str n, .int (spOf ks n)])) := same_new hT
      refine ⟨ts.map V.ref, sT _ _ hLt, ?_, fun b o e => ?_, ts ++ [T'], ?_, ?_⟩
      · rw [List.length_map, pr.len]
        exact Nat.lt_of_le_of_lt (Nat.le_trans (List.length_take_le _ _) (show i ≤ 5000 by rw [List.length_map] at hi; omega)) (by decide)
      · rw [upd_ne (ne_of_none e hL)]
        exact sT _ _ (s' _ _ e)
      · rw [upd_same, List.map_append]; rfl
      · rw [List.take_add_one, hq]
        have k : ∀ b xs, H'' b = some (.tup xs) → upd (upd H'' T' (.tup [.str n, .int (spOf ks n)])) L (.lst (ts.map V.ref ++ [.ref T'])) b = some (.tup xs) := fun b xs e => by
          rw [upd_ne (fun z => by rw [z, hLt] at e; cases e)]
          exact sT _ _ e
        exact Paired.snoc (pr.mono k) (by rw [upd_ne TL]; exact upd_same)
    · rintro H4 ⟨s4, ts, hL4, pr⟩
      rw [List.length_map, ← lp, List.take_of_length_le (Nat.le_refl _)] at pr
      have ha4 := s4 _ _ ha3
      have hp4 := s4 _ _ hp3
      have kH : Kp a H H4 := .of ((s0.trans s2).trans (s3.trans s4))
      clear hp3 hd3 s3' s3 s4 hd2 ha0 hd0 s0 s1 s2 sH hp2 ha3 hD1 fD
      have aL : L ≠ a := fun e => by rw [e, ha4] at hL4; cases hL4
      have notA : ∀ {b : Addr} {xs : List V}, H4 b = some (.tup xs) → b ≠ a := fun {b xs} e z => by rw [z, ha4] at e; cases e
      have hz : ps.length ≤ 5000 := by omega
      have pos : 0 < ps.length := by
        rw [lp]
        exact Nat.pos_of_ne_zero fun e => cy (List.eq_nil_of_length_eq_zero e)
      have tru : ∀ f : Str × Int → V, (ps.filter fun _ => true).map f = ps.map f := fun f => by rw [List.filter_eq_self.mpr fun _ _ => rfl]
      dsimp only [gName, tSeq]
      refine ⟨_, rfl, p, _, rfl, .inl ⟨SqL.of hp4, fun wt hwt => ?_⟩⟩
      have aw : wt ≠ a := fun e => by rw [e, ha4] at hwt; cases hwt
      refine ⟨_, rfl, a, CC, dx, [], rfl, (same_new hwt) _ _ ha4, Z.cl, Z.n1, (by show 0 < 1000; decide), ?_⟩
      have k5 : Kp a H4 (upd (upd H4 wt (.tup (ys.map V.str))) a (.ins CC dx (putF "workers" (.ref wt) []))) := kp_at (kp_new (.of (Same.refl _)) hwt)
      have ha5 : upd (upd H4 wt (.tup (ys.map V.str))) a (.ins CC dx (putF "workers" (.ref wt) [])) a = some (.ins CC dx (putF "workers" (.ref wt) [])) := upd_same
      have hw5 : upd (upd H4 wt (.tup (ys.map V.str))) a (.ins CC dx (putF "workers" (.ref wt) [])) wt = some (.tup (ys.map V.str)) := by rw [upd_ne aw]; exact upd_same
      have l1 : (putF "workers" (.ref wt) []).length ≤ 1 := pF_len _ _ _
      generalize upd (upd H4 wt (.tup (ys.map V.str))) a (.ins CC dx (putF "workers" (.ref wt) [])) = H5 at k5 ha5 hw5 ⊢
      dsimp only [tNext, tSeq]
      have hL5 := k5 _ _ aL hL4
      have pr5 : PrT H5 ts ps := pr.mono fun b xs e => k5 _ _ (notA e) e
      refine ⟨_, rfl, L, rfl, ⟨_, SqL.of hL5⟩, fun D5 hD5 => lc_pairs walk_list (fun _ => true) (fun q => .int q.2) pr5 (fun xs => SqL.of ((same_new hD5) _ _ hL5)) hD5 hz (fun q => rfl) (fun q xs R _ h => h) (fun q xs R _ _ h => ⟨_, rfl, h⟩) ?_⟩
      rw [tru]
      refine ⟨D5, ps.map (·.2), rfl, SqL.of (by rw [List.map_map]; exact upd_same), ?_⟩
      refine ⟨_, rfl, a, CC, dx, _, rfl, (same_new hD5) _ _ ha5, Z.cl, Z.n2, by omega, ?_⟩
      generalize hO : HO.lst (ps.map fun q => V.int q.2) = O5
      clear hO
      have k6 : Kp a H4 (upd (upd H5 D5 O5) a (.ins CC dx (putF "speed" (.int (ps.map (·.2)).sum) (putF "workers" (.ref wt) [])))) := kp_at (kp_new k5 hD5)
      have ha6 : upd (upd H5 D5 O5) a (.ins CC dx (putF "speed" (.int (ps.map (·.2)).sum) (putF "workers" (.ref wt) []))) a = some (.ins CC dx (putF "speed" (.int (ps.map (·.2)).sum) (putF "workers" (.ref wt) []))) := upd_same
      have hw6 : upd (upd H5 D5 O5) a (.ins CC dx (putF "speed" (.int (ps.map (·.2)).sum) (putF "workers" (.ref wt) []))) wt = some (.tup (ys.map V.str)) := by rw [upd_ne aw]; exact (same_new hD5) _ _ hw5
      have l2 : (putF "speed" (.int (ps.map (·.2)).sum) (putF "workers" (.ref wt) [])).length ≤ 2 := Nat.le_trans (pF_len _ _ _) (by omega)
      generalize hf6 : putF "speed" (.int (ps.map (·.2)).sum) (putF "workers" (.ref wt) []) = f6 at k6 ha6 hw6 l2 ⊢
      generalize upd (upd H5 D5 O5) a (.ins CC dx f6) = H6 at k6 ha6 hw6 ⊢
      clear ha5 hw5 k5 hL5 pr5 hD5 D5 O5 H5
      dsimp only [tNext, tSeq]
      have hL6 := k6 _ _ aL hL4
      have pr6 : PrT H6 ts ps := pr.mono fun b xs e => k6 _ _ (notA e) e
      refine ⟨_, rfl, L, rfl, ⟨_, SqL.of hL6⟩, fun D6 hD6 => lc_pairs walk_list (fun _ => true) (fun q => .int q.2) pr6 (fun xs => SqL.of ((same_new hD6) _ _ hL6)) hD6 hz (fun q => rfl) (fun q xs R _ h => h) (fun q xs R _ _ h => ⟨_, rfl, .inl ⟨_, rfl, h⟩⟩) ?_⟩
      rw [tru]
      refine ⟨D6, ps.map (·.2), rfl, SqL.of (by rw [List.map_map]; exact upd_same), by rw [List.length_map]; exact pos, fun mn mn1 mn2 => ?_⟩
      refine ⟨_, rfl, a, CC, dx, f6, rfl, (same_new hD6) _ _ ha6, Z.cl, Z.n3, by omega, ?_⟩
      generalize hO : HO.lst (ps.map fun q => V.int q.2) = O6
      clear hO
      have k7 : Kp a H4 (upd (upd H6 D6 O6) a (.ins CC dx (putF "least_speed" (.int mn) f6))) := kp_at (kp_new k6 hD6)
      have ha7 : (upd (upd H6 D6 O6) a (.ins CC dx (putF "least_speed" (.int mn) f6))) a = some (.ins CC dx (putF "least_speed" (.int mn) f6)) := upd_same
      have hw7 : (upd (upd H6 D6 O6) a (.ins CC dx (putF "least_speed" (.int mn) f6))) wt = some (.tup (ys.map V.str)) := by rw [upd_ne aw]; exact (same_new hD6) _ _ hw6
      have l7 : (putF "least_speed" (.int mn) f6).length ≤ 3 := Nat.le_trans (pF_len _ _ _) (by omega)
      generalize hf7 : putF "least_speed" (.int mn) f6 = f7 at k7 ha7 hw7 l7 ⊢
      generalize upd (upd H6 D6 O6) a (.ins CC dx f7) = H7 at k7 ha7 hw7 ⊢
      clear ha6 hw6 k6 hL6 pr6 hD6 D6 O6 H6
      dsimp only [tNext, tSeq]
      have hL7 := k7 _ _ aL hL4
      have pr7 : PrT H7 ts ps := pr.mono fun b xs e => k7 _ _ (notA e) e
      refine ⟨_, rfl, L, rfl, ⟨_, SqL.of hL7⟩, fun D7 hD7 => lc_pairs walk_list (fun _ => true) (fun q => .int q.2) pr7 (fun xs => SqL.of ((same_new hD7) _ _ hL7)) hD7 hz (fun q => rfl) (fun q xs R _ h => h) (fun q xs R _ _ h => ⟨_, rfl, .inl ⟨_, rfl, h⟩⟩) ?_⟩
      rw [tru]
      refine ⟨D7, ps.map (·.2), rfl, SqL.of (by rw [List.map_map]; exact upd_same), by rw [List.length_map]; exact pos, fun mx mx1 mx2 => ?_⟩
      refine ⟨_, rfl, a, CC, dx, f7, rfl, (same_new hD7) _ _ ha7, Z.cl, Z.n4, by omega, ?_⟩
      generalize hO : HO.lst (ps.map fun q => V.int q.2) = O7
      clear hO
      have k8 : Kp a H4 (upd (upd H7 D7 O7) a (.ins CC dx (putF "greatest_speed" (.int mx) f7))) := kp_at (kp_new k7 hD7)
      have ha8 : (upd (upd H7 D7 O7) a (.ins CC dx (putF "greatest_speed" (.int mx) f7))) a = some (.ins CC dx (putF "greatest_speed" (.int mx) f7)) := upd_same
      have hw8 : (upd (upd H7 D7 O7) a (.ins CC dx (putF "greatest_speed" (.int mx) f7))) wt = some (.tup (ys.map V.str)) := by rw [upd_ne aw]; exact (same_new hD7) _ _ hw7
      have l8 : (putF "greatest_speed" (.int mx) f7).length ≤ 4 := Nat.le_trans (pF_len _ _ _) (by omega)
      generalize hf8 : putF "greatest_speed" (.int mx) f7 = f8 at k8 ha8 hw8 l8 ⊢
      generalize upd (upd H7 D7 O7) a (.ins CC dx f8) = H8 at k8 ha8 hw8 ⊢
      clear ha7 hw7 k7 hL7 pr7 hD7 D7 O7 H7
      dsimp only [tNext, tSeq]
      have hL8 := k8 _ _ aL hL4
      have pr8 : PrT H8 ts ps := pr.mono fun b xs e => k8 _ _ (notA e) e
      obtain ⟨sl, sl1, sl2⟩ := first_of mn1
      obtain ⟨fa, fa1, fa2⟩ := first_of mx1
      have hz8 : f8.lookup ("least_speed" : Str) = some (.int mn) := by
        rw [← hf8, ← hf7]
        first | rw [lookup_putF, if_pos rfl] | rw [lookup_putF, if_neg (by decide +kernel), lookup_putF, if_pos rfl]
      refine ⟨_, rfl, L, rfl, ⟨_, SqL.of hL8⟩, fun D8 hD8 => lc_pairs walk_list (fun q => decide (V.int q.2 = V.int mn)) (fun q => .str q.1) pr8 (fun xs => SqL.of ((same_new hD8) _ _ hL8)) hD8 hz (fun q => rfl)
        (fun q xs R _ h => ⟨_, rfl, _, rfl, a, CC, dx, f8, _, rfl, (same_new hD8) _ _ ha8, Z.cl, Z.n3, hz8, rfl, _, rfl, h⟩) (fun q xs R _ _ h => ⟨_, rfl, h⟩) ?_⟩
      refine ⟨D8, _, 0, _, rfl, rfl, SqL.of upd_same, atI_nat (j := 0) sl1, ?_⟩
      refine ⟨_, rfl, a, CC, dx, f8, rfl, (same_new hD8) _ _ ha8, Z.cl, Z.n5, by omega, ?_⟩
      generalize hO : HO.lst ((ps.filter fun q => decide (V.int q.2 = V.int mn)).map fun q => V.str q.1) = O8
      clear hO
      have k9 : Kp a H4 (upd (upd H8 D8 O8) a (.ins CC dx (putF "slowest" (.str sl) f8))) := kp_at (kp_new k8 hD8)
      have ha9 : (upd (upd H8 D8 O8) a (.ins CC dx (putF "slowest" (.str sl) f8))) a = some (.ins CC dx (putF "slowest" (.str sl) f8)) := upd_same
      have hw9 : (upd (upd H8 D8 O8) a (.ins CC dx (putF "slowest" (.str sl) f8))) wt = some (.tup (ys.map V.str)) := by rw [upd_ne aw]; exact (same_new hD8) _ _ hw8
      have l9 : (putF "slowest" (.str sl) f8).length ≤ 5 := Nat.le_trans (pF_len _ _ _) (by omega)
      generalize hf9 : putF "slowest" (.str sl) f8 = f9 at k9 ha9 hw9 l9 ⊢
      generalize upd (upd H8 D8 O8) a (.ins CC dx f9) = H9 at k9 ha9 hw9 ⊢
      clear ha8 hw8 k8 hL8 pr8 hD8 D8 O8 H8
      dsimp only [tNext, tSeq]
      have hL9 := k9 _ _ aL hL4
      have pr9 : PrT H9 ts ps := pr.mono fun b xs e => k9 _ _ (notA e) e
      have hz9' : f9.lookup ("greatest_speed" : Str) = some (.int mx) := by
        rw [← hf9, ← hf8, lookup_putF, if_neg (by decide +kernel), lookup_putF, if_pos rfl]
      have hz9 : f9.lookup ("greatest_speed" : Str) = some (.int mx) := by
        rw [← hf9, ← hf8]
        first | rw [lookup_putF, if_pos rfl] | rw [lookup_putF, if_neg (by decide +kernel), lookup_putF, if_pos rfl]
      refine ⟨_, rfl, L, rfl, ⟨_, SqL.of hL9⟩, fun D9 hD9 => lc_pairs walk_list (fun q => decide (V.int q.2 = V.int mx)) (fun q => .str q.1) pr9 (fun xs => SqL.of ((same_new hD9) _ _ hL9)) hD9 hz (fun q => rfl)
        (fun q xs R _ h => ⟨_, rfl, _, rfl, a, CC, dx, f9, _, rfl, (same_new hD9) _ _ ha9, Z.cl, Z.n4, hz9, rfl, _, rfl, h⟩) (fun q xs R _ _ h => ⟨_, rfl, h⟩) ?_⟩
      refine ⟨D9, _, 0, _, rfl, rfl, SqL.of upd_same, atI_nat (j := 0) fa1, ?_⟩
      refine ⟨_, rfl, a, CC, dx, f9, rfl, (same_new hD9) _ _ ha9, Z.cl, Z.n6, by omega, ?_⟩
      generalize hO : HO.lst ((ps.filter fun q => decide (V.int q.2 = V.int mx)).map fun q => V.str q.1) = O9
      clear hO
      have k10 : Kp a H4 (upd (upd H9 D9 O9) a (.ins CC dx (putF "fastest" (.str fa) f9))) := kp_at (kp_new k9 hD9)
      have ha10 : (upd (upd H9 D9 O9) a (.ins CC dx (putF "fastest" (.str fa) f9))) a = some (.ins CC dx (putF "fastest" (.str fa) f9)) := upd_same
      have hw10 : (upd (upd H9 D9 O9) a (.ins CC dx (putF "fastest" (.str fa) f9))) wt = some (.tup (ys.map V.str)) := by rw [upd_ne aw]; exact (same_new hD9) _ _ hw9
      have l10 : (putF "fastest" (.str fa) f9).length ≤ 6 := Nat.le_trans (pF_len _ _ _) (by omega)
      generalize hf10 : putF "fastest" (.str fa) f9 = f10 at k10 ha10 hw10 l10 ⊢
      generalize upd (upd H9 D9 O9) a (.ins CC dx f10) = H10 at k10 ha10 hw10 ⊢
      clear ha9 hw9 k9 hL9 pr9 hD9 D9 O9 H9
      dsimp only [tNext, tSeq]
      have hL10 := k10 _ _ aL hL4
      have pr10 : PrT H10 ts ps := pr.mono fun b xs e => k10 _ _ (notA e) e
      refine ⟨_, rfl, L, _, rfl, .inl ⟨SqL.of hL10, fun D10 hD10 => ?_⟩⟩
      refine ⟨_, rfl, a, CC, dx, f10, rfl, (same_new hD10) _ _ ha10, Z.cl, Z.n7, by omega, ?_⟩
      have aD : D10 ≠ a := fun e => by rw [e, ha10] at hD10; cases hD10
      have k11 : Kp a H4 (upd (upd H10 D10 (.tup (ts.map V.ref))) a (.ins CC dx (putF "_pairs" (.ref D10) f10))) := kp_at (kp_new k10 hD10)
      have ha11 : upd (upd H10 D10 (.tup (ts.map V.ref))) a (.ins CC dx (putF "_pairs" (.ref D10) f10)) a = some (.ins CC dx (putF "_pairs" (.ref D10) f10)) := upd_same
      have hw11 : upd (upd H10 D10 (.tup (ts.map V.ref))) a (.ins CC dx (putF "_pairs" (.ref D10) f10)) wt = some (.tup (ys.map V.str)) := by rw [upd_ne aw]; exact (same_new hD10) _ _ hw10
      have hp11 : upd (upd H10 D10 (.tup (ts.map V.ref))) a (.ins CC dx (putF "_pairs" (.ref D10) f10)) D10 = some (.tup (ts.map V.ref)) := by rw [upd_ne aD]; exact upd_same
      have l11 : (putF "_pairs" (.ref D10) f10).length ≤ 8 := Nat.le_trans (pF_len _ _ _) (by omega)
      generalize hf11 : putF "_pairs" (.ref D10) f10 = f11 at k11 ha11 hw11 hp11 l11 ⊢
      generalize upd (upd H10 D10 (.tup (ts.map V.ref))) a (.ins CC dx f11) = H11 at k11 ha11 hw11 hp11 ⊢
      clear ha10 hw10 k10 hL10 pr10 hD10 H10
      dsimp only [tNext, tSeq]
      have hL11 := k11 _ _ aL hL4
      have pr11 : PrT H11 ts ps := pr.mono fun b xs e => k11 _ _ (notA e) e
      refine ⟨_, rfl, L, rfl, ⟨_, SqL.of hL11⟩, fun D11 hD11 => dc_pairs walk_list (fun _ => true) (fun q => .int q.2) (by rw [eny]; exact ndy) pr11 (fun xs => SqL.of ((same_new hD11) _ _ hL11)) hD11 hz (fun q => rfl) (fun q xs R _ h => h) (fun q xs R _ _ h => ⟨_, rfl, h⟩) (fun q xs R _ _ h => ⟨_, rfl, h⟩) ?_⟩
      rw [List.filter_eq_self.mpr fun _ _ => rfl]
      refine ⟨_, rfl, a, CC, dx, f11, rfl, (same_new hD11) _ _ ha11, Z.cl, Z.n8, by omega, ?_⟩
      have aD2 : D11 ≠ a := fun e => by rw [e, ha11] at hD11; cases hD11
      have k12 : Kp a H4 (upd (upd H11 D11 (.dK (dkOf (ps.map fun q => (q.1, V.int q.2))))) a (.ins CC dx (putF "_speeds" (.ref D11) f11))) := kp_at (kp_new k11 hD11)
      refine kQ _ (kH.trans k12) ⟨dx, wt, D10, D11, ts, mn, mx, sl, fa, ?_, ?_, ?_, ?_, ?_, ?_, sl2, fa2⟩ fun D hD C2 dx2 fs2 e z => ?_
      · rw [upd_same, ← hf11, ← hf10, ← hf9, ← hf8, ← hf7, ← hf6]
        rfl
      · rw [upd_ne aw, (same_new hD11) _ _ hw11, ← eny, List.map_map]
        rfl
      · rw [upd_ne aD]
        exact (same_new hD11) _ _ hp11
      · exact pr11.mono fun b xs e => by
          rw [upd_ne (fun z => by rw [z, ha11] at e; cases e)]
          exact (same_new hD11) _ _ e
      · exact .inl (by rw [upd_ne aD2]; exact upd_same)
      · exact fun q hq => ⟨mn2 _ (List.mem_map_of_mem hq), mx2 _ (List.mem_map_of_mem hq)⟩
      · rw [upd_same] at e
        cases e
        have e2 : (putF ("_speeds" : Str) (.ref D11) f11).lookup ("_speeds" : Str) = some (.ref D11) := by simp only [lookup_putF]; rfl
        rw [e2] at z
        cases z
        cases ho : H D11 with
        | none => exact hD ho
        | some o =>
          have := (kH.trans k11) D11 o aD2 ho
          rw [hD11] at this
          cases this
end
end Lw
namespace Lw
open PySem PySem.Spec PyProof.Rows L2
open SX PySem.NumText TL LamX ClX StX
abbrev sCof : Stmt := inClass (top 26) 1
abbrev sCln : Stmt := inClass (top 26) 4
abbrev sCit : Stmt := inClass (top 26) 5
abbrev sCco : Stmt := inClass (top 26) 6
abbrev sCgi : Stmt := inClass (top 26) 7
abbrev sCeq : Stmt := inClass (top 26) 14
section
variable {w p d : Addr} {s mn mx : Int} {sl fa : Str}
theorem crF_workers : (crF w s mn mx sl fa p d).lookup ("workers" : Str) = some (.ref w) := by
  unfold crF
  simp only [lookup_putF]
  rfl
theorem crF_speed : (crF w s mn mx sl fa p d).lookup ("speed" : Str) = some (.int s) := by
  unfold crF
  simp only [lookup_putF]
  rfl
theorem crF_least : (crF w s mn mx sl fa p d).lookup ("least_speed" : Str) = some (.int mn) := by
  unfold crF
  simp only [lookup_putF]
  rfl
theorem crF_great : (crF w s mn mx sl fa p d).lookup ("greatest_speed" : Str) = some (.int mx) := by
  unfold crF
  simp only [lookup_putF]
  rfl
theorem crF_slow : (crF w s mn mx sl fa p d).lookup ("slowest" : Str) = some (.str sl) := by
  unfold crF
  simp only [lookup_putF]
  rfl
theorem crF_fast : (crF w s mn mx sl fa p d).lookup ("fastest" : Str) = some (.str fa) := by
  unfold crF
  simp only [lookup_putF]
  rfl
theorem crF_pairs : (crF w s mn mx sl fa p d).lookup ("_pairs" : Str) = some (.ref p) := by
  unfold crF
  simp only [lookup_putF]
  rfl
theorem crF_speeds : (crF w s mn mx sl fa p d).lookup ("_speeds" : Str) = some (.ref d) := by
  unfold crF
  simp only [lookup_putF]
  rfl
end
theorem CwAt.move {CC : Addr} {H H' : Hp} {c : Addr} {ps : List (Str × Int)} (h : CwAt CC H c ps) (k : ∀ b o, H b = some o → (∀ xs, o ≠ .lst xs) → (∀ ps, o ≠ .tbl ps) → H' b = some o) : CwAt CC H' c ps := by
  obtain ⟨dx, w, p, d, ts, mn, mx, sl, fa, h1, h2, h3, h4, h5, h6⟩ := h
  exact ⟨dx, w, p, d, ts, mn, mx, sl, fa, k _ _ h1 (fun _ z => by cases z) (fun _ z => by cases z), k _ _ h2 (fun _ z => by cases z) (fun _ z => by cases z), k _ _ h3 (fun _ z => by cases z) (fun _ z => by cases z),
    h4.mono fun b xs e => k _ _ e (fun _ z => by cases z) (fun _ z => by cases z), by
      rcases h5 with e | ⟨o, e⟩
      · exact .inl (k _ _ e (fun _ z => by cases z) (fun _ z => by cases z))
      · exact .inr ⟨o, k _ _ e (fun _ z => by cases z) (fun _ z => by cases z)⟩, h6⟩
theorem CwAt.same {CC : Addr} {H H' : Hp} {c : Addr} {ps : List (Str × Int)} (h : CwAt CC H c ps) (s : Same H H') : CwAt CC H' c ps := h.move fun b o e _ _ => s b o e
theorem CwAt.extn {CC : Addr} {H H' : Hp} {c : Addr} {ps : List (Str × Int)} (h : CwAt CC H c ps) (s : ExtN H H') : CwAt CC H' c ps := h.move fun b o e _ n => s b o e n
theorem CwAt.kp {CC : Addr} {H H' : Hp} {c p pl : Addr} {n : Nat} {ps : List (Str × Int)} (h : CwAt CC H c ps) (hp : Pen H p pl n) (k : Kp p H H') : CwAt CC H' c ps := by
  obtain ⟨xs, a, g, hh, _⟩ := hp
  exact h.move fun b o e nl _ => k b o (fun z => by rw [z, hh.at_] at e; exact nl _ (Option.some.inj e).symm) e
theorem Bf2.of {D : Addr} {f1 f2 : Str} {v1 v2 : V} {H H' : Hp} {E : XK} (h : Bf2 D f1 v1 f2 v2 H E) (s : Same H H') : Bf2 D f1 v1 f2 v2 H' E := fun d fs H2 s2 hd a b => h d fs H2 (s.trans s2) hd a b
theorem NewD.of {H H' H2 : Hp} {c : Addr} (h : NewD H' H2 c) (s : Same H H') : NewD H H2 c := fun D hD => h D fun e => hD (s.free e)
/-- what making a crew of these speeds comes to: names and speeds in the order of ks; then the crew, sorted -/
def MkC (K : PySem.W.Frag) (CC DN DS DC DM : Addr) (ks : List (Str × V)) (H : Hp) (Q : VK) (E : XK) : Prop :=
  (∀ (i : Nat) q, ks[i]? = some q → (∀ (j : Nat) r, j < i → ks[j]? = some r → nameT r.1 = true) → nameT q.1 = false → Bf DN "value" (.str q.1) H E) ∧
  ((∀ q ∈ ks, nameT q.1 = true) →
    (∀ (i : Nat) q, ks[i]? = some q → (∀ (j : Nat) r, j < i → ks[j]? = some r → isSp r.2 = true) → isSp q.2 = false → Bf DS "value" q.2 H E) ∧
    ((∀ q ∈ ks, isSp q.2 = true) → ∀ ps : List (Str × Int), (ps.map (·.1)).Perm (ks.map (·.1)) → sortedS (ps.map (·.1)) = true → (∀ q ∈ ps, (q.1, V.int q.2) ∈ ks ∧ nameT q.1 = true ∧ 1 ≤ q.2 ∧ q.2 ≤ 60) →
      (ps = [] → Bf DC "part" (.str (Str.ofString "empty")) H E) ∧ (8 < ps.length → Bf2 DM "what" (.str (Str.ofString "workers")) "most" (.int 8) H E) ∧
      (ps ≠ [] → ps.length ≤ 8 → ∀ c H', Same H H' → H c = none → CwAt CC H' c ps → NewD H H' c → Q (.ref c) H')))
theorem MkC.of {K : PySem.W.Frag} {CC DN DS DC DM : Addr} {ks : List (Str × V)} {H H' : Hp} {Q : VK} {E : XK} (h : MkC K CC DN DS DC DM ks H Q E) (s : Same H H') : MkC K CC DN DS DC DM ks H' Q E :=
  ⟨fun i q a b c => (h.1 i q a b c).of s, fun g => ⟨fun i q a b c => ((h.2 g).1 i q a b c).of s, fun g2 ps a b c => let z := (h.2 g).2 g2 ps a b c; ⟨fun e => (z.1 e).of s, fun e => (z.2.1 e).of s, fun e l cc H2 s2 f h nd => z.2.2 e l cc H2 (s.trans s2) (s.free f) h (nd.of s)⟩⟩⟩
theorem look_of {ks : List (Str × V)} (nd : (ks.map (·.1)).Nodup) {n : Str} {v : V} (h : (n, v) ∈ ks) : ks.lookup n = some v := by
  induction ks with
  | nil => cases h
  | cons p r ih =>
    obtain ⟨m, x⟩ := p
    rcases List.mem_cons.mp h with h | h
    · cases h
      simp [List.lookup]
    · have ne : n ≠ m := fun e => (List.nodup_cons.mp nd).1 (by rw [← e]; exact List.mem_map.mpr ⟨(n, v), h, rfl⟩)
      have e2 : (n == m) = false := beq_eq_false_iff_ne.mpr ne
      simp only [List.lookup, e2]
      exact ih (List.nodup_cons.mp nd).2 h
abbrev DnK (K : PySem.W.Frag) (H : Hp) (ks : List (Str × V)) : Prop := (ks.map (·.1)).Nodup ∧ ks.length < 64 ∧ ∀ p ∈ ks, Anyv K H p.2 ∧ p.1.length ≤ 1000000
/-- a dict's keys, odd ones, too -/
def KeysD (H : Hp) (d : Addr) (xs : List V) : Prop := H d = some (OdD d xs) ∨ ∃ kvs : List (L2.Key × V), H d = some (.dK kvs) ∧ xs = kvs.map fun kv => kV kv.1
def spCof (K : PySem.W.Frag) (CC DN DS DC DM : Addr) : Sp := fun vs H Q E => ∃ v : V, vs = [v] ∧
  ((∃ t, TyO K H v t ∧ PySem.W.kitOne K t (.type "dict") = some false ∧ Bf DC "part" (.str (Str.ofString "speeds")) H E) ∨
   (∃ (d : Addr) (ks : List (Str × V)), v = .ref d ∧ H d = some (.dK (dkOf ks)) ∧ DnK K H ks ∧ MkC K CC DN DS DC DM ks H Q E) ∨
   ∃ (d : Addr) (xs : List V), v = .ref d ∧ KeysD H d xs ∧ (∀ x ∈ xs, Anyv K H x ∧ ∀ z, x = .str z → z.length ≤ 1000000) ∧
     ∃ (i : Nat) (x : V), xs[i]? = some x ∧ (∀ (j : Nat) y, j < i → xs[j]? = some y → nameB y = true) ∧ nameB x = false ∧ Bf DN "value" x H E)
/-- the class, ready to be made -/
structure CrM (P : Program) (w : World) (K : PySem.W.Frag) (mg : Str → Option Value) (base : Heap) (CC DN DS DC DM fI : Addr) : Prop where
  Z : CrC K mg CC
  M : Mk K CC fI
  F : FnKw P w K mg base (L2.CX P w) 6 fI (spCrI K CC DN DS DC DM)
section
variable {P : Program} {w : World} {K : PySem.W.Frag} {mg : Str → Option Value} {base : Heap}
/-- C(**speeds) and C(a = .., ..): the names sorted -/
theorem mk_kw {CC DN DS DC DM : Addr} {ks : List (Str × V)} {H : Hp} {Q : VK} {E : XK} (dn : DnK K H ks) (tc : ∀ p ∈ ks, p.1 ≠ "this_crew")
    (h : ∀ ys : List Str, ys.Perm (ks.map (·.1)) → sortedS ys = true →
      (∀ (i : Nat) n, ys[i]? = some n → (∀ (j : Nat) m, j < i → ys[j]? = some m → nameT m = true) → nameT n = false → Bf DN "value" (.str n) H E) ∧
      ((∀ n ∈ ys, nameT n = true) →
        (∀ (i : Nat) n v, ys[i]? = some n → ks.lookup n = some v → (∀ (j : Nat) m u, j < i → ys[j]? = some m → ks.lookup m = some u → isSp u = true) → isSp v = false → Bf DS "value" v H E) ∧
        (∀ ps : List (Str × Int), ps.map (·.1) = ys → (∀ q ∈ ps, ks.lookup q.1 = some (.int q.2) ∧ 1 ≤ q.2 ∧ q.2 ≤ 60) →
          (ps = [] → Bf DC "part" (.str (Str.ofString "empty")) H E) ∧ (8 < ps.length → Bf2 DM "what" (.str (Str.ofString "workers")) "most" (.int 8) H E) ∧
          (ps ≠ [] → ps.length ≤ 8 → ∀ c H', Same H H' → H c = none → CwAt CC H' c ps → NewD H H' c → Q (.ref c) H')))) : MakK CC (spCrI K CC DN DS DC DM) E ks H Q := by
  intro x dx hx hdx ne
  have s2 : Same H (upd (upd H dx (.own x)) x (.ins CC dx [])) := (same_new hdx).trans (same_new (by rw [upd_ne ne.symm]; exact hx))
  refine ⟨x, dx, rfl, upd_same, fun p hp => ⟨Lw.Anyv.same s2 (dn.2.2 p hp).1, (dn.2.2 p hp).2, tc p hp⟩, dn.2.1, fun ys h1 h2 => ?_⟩
  obtain ⟨k1, k2⟩ := h ys h1 h2
  refine ⟨fun i n a b c => (k1 i n a b c).of s2, fun g => ?_⟩
  obtain ⟨k3, k4⟩ := k2 g
  refine ⟨fun i n v a b c d => (k3 i n v a b c d).of s2, fun ps e1 e2 => ?_⟩
  obtain ⟨k5, k6, k7⟩ := k4 ps e1 e2
  refine ⟨fun e => (k5 e).of s2, fun e => (k6 e).of s2, fun e l H' kp cw nd => ⟨rfl, k7 e l x H' (fun b o hb => kp b o (fun z => by rw [z, hx] at hb; cases hb) (s2 _ _ hb)) hx cw (nd.of s2)⟩⟩
theorem scCof : FnScope ["speeds"] ["speeds"] (C8.fnScope sCof) := C8.fnScope_by (by decide +kernel)
theorem fn_cof {CC DN DS DC DM fI fC fK f : Addr} {fd fdC fdK : FuncData} (F : C8.Fun K "of" "Crew.of" sCof f fd) (T : TxtC mg) (CM : CrM P w K mg base CC DN DS DC DM fI) (EC : Err1 "BadCrew" "part" P w K mg base DC fC fdC)
    (DK : C8.Def K mg "check_speeds" sChk fK fdK) (bK : Binds K fdK ["names", "speeds"] []) (FK : FnOk P w K mg base (L2.CX P w) 4 fK fdK ["names", "speeds"] (spChk K DN DS)) :
    FnOk P w K mg base (L2.CX P w) 8 f fd ["speeds"] (spCof K CC DN DS DC DM) := by
  obtain ⟨oc, od, dV, kV, doc, pm, an, cdv, ct, osl, rfl, lk, hcd⟩ := F.ex
  refine fn_of lk hcd scCof (fun vs H Q E h => ?_) fun A outer s H vs Q E hr h => ?_
  · obtain ⟨v, rfl, _⟩ := h
    rfl
  · obtain ⟨v, rfl, h⟩ := h
    have tk : Takes (cxOf (L2.CX P w) P w K mg base ["speeds"] "Crew.of" (C8.fnScope sCof) f cdv A outer s H E) (fun cls d _ H' => E cls d H') := takes_of rfl rfl rfl rfl
    refine ⟨_, (pss_cons (ps_if (pt_not (pt_val (pe_callB call_isO (by rfl) T.n_isinstance (by decide +kernel) (pa_cons (pv 0) (pa_cons (pe_bltn (v := .ty "dict") (by rfl) T.n_dict (by decide +kernel) rfl) pa_nil))))) (pss_one (ps_bad1 (x := "BadCrew") rfl tk EC.T EC.iC EC.tI EC.F hr EC.b (by rfl) EC.hm pe_str)) pss_nil)
  (pss_cons (ps_expr (pe_call FK (hr.mono (by decide)) (by rfl) DK.mgf DK.kp bK .nil (passes_call (takes_of rfl rfl rfl rfl) (fun _ _ _ _ z => z)) (pa_cons (pe_callTy (call_listO rfl) (by rfl) T.n_list (by decide +kernel) (pa_cons (pv 0) pa_nil)) (pa_cons (pv 0) pa_nil))))
  (pss_one (ps_ret (pe_makeKD CM.M CM.F (hr.mono (by decide)) (by rfl) CM.Z.hm (passes_call (takes_of rfl rfl rfl rfl) (fun _ _ _ _ z => z)) (pv 0)))))), ?_⟩
    rcases h with ⟨t, ht, hk, go⟩ | ⟨d, ks, rfl, hd, dn, mk⟩ | ⟨d, xs, rfl, hd, av, i, x, hx, good, bad, go⟩
    · exact ⟨_, rfl, _, .ty "dict", t, .type "dict", false, rfl, .ty _, ht, hk, _, rfl, iteT (bad_leaf1 fun e fs hd e1 => go e fs H (Same.refl _) hd e1)⟩
    · refine ⟨_, rfl, _, .ty "dict", .type "dict", .type "dict", true, rfl, .ty _, .z (.x (.base (.dK hd))), kit_ty (by decide +kernel), _, rfl, iteF ?_⟩
      obtain ⟨k1, k2⟩ := mk
      refine ⟨_, rfl, d, _, rfl, .inl ⟨_, .inl hd, rfl⟩, fun l hl => ⟨_, rfl, l, d, _, rfl, upd_same, fun x hx => ?_, fun i x hx h4 h5 => ?_, fun h4 => ⟨ks.map (·.1), ks, by rw [List.map_map, List.map_map]; rfl, (same_new hl) _ _ hd, fun n hn => ?_, fun i n v hn hv h5 h6 => ?_, fun h5 H2 s2 => ?_⟩⟩⟩
      · rw [List.map_map] at hx
        obtain ⟨q, hq, rfl⟩ := List.mem_map.mp hx
        exact ⟨.str _, fun z e => by cases e; exact (dn.2.2 q hq).2⟩
      · rw [List.map_map, List.getElem?_map] at hx
        obtain ⟨q, hq, rfl⟩ := Option.map_eq_some_iff.mp hx
        exact (k1 i q hq (fun j r hj hr => h4 j (.str r.1) hj (by rw [List.map_map, List.getElem?_map, hr]; rfl)) h5).of (same_new hl)
      · obtain ⟨v, hv, hm⟩ := look_mem hn
        exact ⟨v, hv, Lw.Anyv.same (same_new hl) (dn.2.2 _ hm).1⟩
      · rw [List.getElem?_map] at hn
        obtain ⟨q, hq, rfl⟩ := Option.map_eq_some_iff.mp hn
        have hv' := look_of dn.1 (List.mem_of_getElem? hq)
        rw [hv'] at hv
        cases hv
        refine ((k2 fun r hr => h4 (.str r.1) (by rw [List.map_map]; exact List.mem_map_of_mem (f := fun z : Str × V => V.str z.1) hr)).1 i q hq (fun j r hj hr => h5 j r.1 r.2 hj (by rw [List.getElem?_map, hr]; rfl) (look_of dn.1 (List.mem_of_getElem? hr))) h6).of (same_new hl)
      · have names : ∀ q ∈ ks, nameT q.1 = true := fun r hr => h4 (.str r.1) (by rw [List.map_map]; exact List.mem_map_of_mem (f := fun z : Str × V => V.str z.1) hr)
        have speeds : ∀ q ∈ ks, isSp q.2 = true := fun r hr => h5 r.1 (List.mem_map_of_mem hr) r.2 (look_of dn.1 hr)
        have k3 := (k2 names).2 speeds
        have sd := (same_new (o := HO.lst ((dkOf ks).map fun kv => L2.kV kv.1)) hl).trans s2
        dsimp only [tNext, tSeq]
        refine fun D hD => ⟨_, rfl, d, ks, rfl, upd_same, fun e => ?_, (same_new hD) _ _ (sd _ _ hd), ?_⟩
        · rw [e, sd _ _ hd] at hD
          cases hD
        have s3 : Same H (upd (upd H2 D (.dK [])) D (.dK (dkOf ks))) := by rw [upd_upd]; exact sd.trans (same_new hD)
        refine mk_kw ⟨dn.1, dn.2.1, fun p hp => ⟨Lw.Anyv.same s3 (dn.2.2 p hp).1, (dn.2.2 p hp).2⟩⟩ (fun p hp e => ?_) fun ys h1 h2 => ⟨fun i n hn _ h6 => ?_, fun g => ⟨fun i n v hn hv _ h6 => ?_, fun ps e1 e2 => ?_⟩⟩
        · have z := names p hp
          rw [e] at z
          exact absurd z (by decide +kernel)
        · obtain ⟨q, hq, e⟩ := List.mem_map.mp (h1.subset (List.mem_of_getElem? hn))
          rw [← e, names q hq] at h6
          cases h6
        · obtain ⟨u, hu, hm⟩ := look_mem (h1.subset (List.mem_of_getElem? hn))
          rw [hu] at hv
          cases hv
          rw [speeds _ hm] at h6
          cases h6
        · obtain ⟨c1, c2, c3⟩ := k3 ps (by rw [e1]; exact h1) (by rw [e1]; exact h2) fun q hq => by
            obtain ⟨l1, l2, l3⟩ := e2 q hq
            obtain ⟨u, hu, hm⟩ := look_mem (ks := ks) (h1.subset (by rw [← e1]; exact List.mem_map_of_mem hq))
            rw [hu] at l1
            cases l1
            exact ⟨hm, names _ hm, l2, l3⟩
          exact ⟨fun e => (c1 e).of s3, fun e => (c2 e).of s3, fun e l6 c H' s4 f cw nd => c3 e l6 c H' (s3.trans s4) (s3.free f) cw (nd.of s3)⟩
    · have tyd : TyO K H (.ref d) (.type "dict") := by
        rcases hd with h | ⟨kvs, h, rfl⟩
        · exact .od h
        · exact .z (.x (.base (.dK h)))
      have rdd : (∃ kvs : List (L2.Key × V), L2.Rd H d (.dK kvs) ∧ xs = kvs.map fun kv => L2.kV kv.1) ∨ H d = some (OdD d xs) := by
        rcases hd with h | ⟨kvs, h, e⟩
        · exact .inr h
        · exact .inl ⟨kvs, .inl h, e⟩
      refine ⟨_, rfl, _, .ty "dict", .type "dict", .type "dict", true, rfl, .ty _, tyd, kit_ty (by decide +kernel), _, rfl, iteF ?_⟩
      refine ⟨_, rfl, d, xs, rfl, rdd, fun l hl => ⟨_, rfl, l, d, xs, rfl, upd_same, fun y hy => ⟨Lw.Anyv.same (same_new hl) (av y hy).1, (av y hy).2⟩, fun j y hy h4 h5 => ?_, fun h4 => ?_⟩⟩
      · have e : j = i := by
          rcases Nat.lt_trichotomy j i with lt | e | gt
          · rw [good j y lt hy] at h5; cases h5
          · exact e
          · rw [h4 i x gt hx] at bad; cases bad
        subst e
        rw [hx] at hy
        cases hy
        exact go.of (same_new hl)
      · rw [h4 x (List.mem_of_getElem? hx)] at bad
        cases bad
end
end Lw
namespace Lw
open PySem PySem.Spec PyProof.Rows L2
open SX PySem.NumText TL LamX ClX StX
/-- whether a value is the name of one of these -/
def isWk (ps : List (Str × Int)) : V → Bool
  | .str z => decide (z ∈ ps.map (·.1))
  | _ => false
theorem dkI_has (ps : List (Str × Int)) (z : Str) : (valV (dkI ps) (Sum.inr z : L2.Key)).isSome = decide (z ∈ ps.map (·.1)) := by
  rw [val_dk]
  induction ps with
  | nil => rfl
  | cons p r ih =>
    obtain ⟨m, x⟩ := p
    by_cases e : z = m
    · subst e
      simp [List.lookup]
    · have e2 : (z == m) = false := beq_eq_false_iff_ne.mpr e
      simp only [List.map_cons, List.lookup, e2, ih]
      exact decide_eq_decide.mpr ⟨fun h => List.mem_cons_of_mem _ h, fun h => (List.mem_cons.mp h).resolve_left e⟩
theorem dkI_get {ps : List (Str × Int)} {z : Str} {i : Int} (nd : (ps.map (·.1)).Nodup) (h : (z, i) ∈ ps) : valV (dkI ps) (Sum.inr z : L2.Key) = some (.int i) := by
  rw [val_dk]
  refine look_of (by rw [List.map_map]; exact nd) (List.mem_map.mpr ⟨(z, i), h, rfl⟩)
/-! ### pairs as data -/
def pdP (q : Str × Int) : PyData := .tuple [.str q.1, .int q.2]
def OkS (z : Str) : Prop := ∀ c ∈ z.cps.toList, c < 1114112
theorem name_ok {z : Str} (h : nameT z = true) : OkS z := fun c hc => by
  unfold nameT at h
  simp only [Bool.and_eq_true, List.all_eq_true, decide_eq_true_eq] at h
  have m := h.2.2 c hc
  have all : ∀ c ∈ letters.cps.toList, c < 1114112 := by decide +kernel
  exact all c m
theorem dp_pairs {K : PySem.W.Frag} {H : Hp} : ∀ {ts : List Addr} {ps : List (Str × Int)}, PrT H ts ps → DpAll K H (ts.map V.ref) (ps.map pdP)
  | _, _, .nil => .nil
  | _, _, .cons a r => .cons (.tup (SqT.of a) (.cons (.str _) (.cons (.int _) .nil))) (dp_pairs r)
theorem lay_str {z : Str} (h : OkS z) : PyData.canLay0 (.str z) = true := by
  show z.cps.all (· < 1114112) = true
  rw [← Array.all_toList, List.all_eq_true]
  exact fun c hc => decide_eq_true (h c hc)
theorem lay_pairs : ∀ {ps : List (Str × Int)}, (∀ q ∈ ps, OkS q.1) → PyData.canLayAll0 (ps.map pdP) = true
  | [], _ => rfl
  | q :: r, h => by
    show (PyData.canLay0 (pdP q) && PyData.canLayAll0 (r.map pdP)) = true
    rw [lay_pairs fun x hx => h x (List.mem_cons_of_mem _ hx)]
    show ((PyData.canLay0 (.str q.1) && (true && true)) && true) = true
    rw [lay_str (h q List.mem_cons_self)]
    rfl
theorem depth_pairs : ∀ ps : List (Str × Int), PyData.depthAll (ps.map pdP) ≤ 1
  | [] => Nat.zero_le _
  | q :: r => by
    show max (PyData.depth (pdP q)) (PyData.depthAll (r.map pdP)) ≤ 1
    exact Nat.max_le.mpr ⟨by show max 0 (max 0 0) + 1 ≤ 1; decide, depth_pairs r⟩
theorem shaped_pairsT {ps : List (Str × Int)} (h : ∀ q ∈ ps, OkS q.1) : SeqAt.shaped (.tuple (ps.map pdP)) = true := by
  unfold SeqAt.shaped
  have h1 : PyData.canLay0 (.tuple (ps.map pdP)) = true := lay_pairs h
  have h2 : PyData.depth (.tuple (ps.map pdP)) ≤ 64 := by
    show PyData.depthAll (ps.map pdP) + 1 ≤ 64
    have := depth_pairs ps
    omega
  rw [h1, decide_eq_true h2]; rfl
theorem shaped_pairsL {ps : List (Str × Int)} (h : ∀ q ∈ ps, OkS q.1) : SeqAt.shaped (.list (ps.map pdP)) = true := by
  unfold SeqAt.shaped
  have h1 : PyData.canLay0 (.list (ps.map pdP)) = true := lay_pairs h
  have h2 : PyData.depth (.list (ps.map pdP)) ≤ 64 := by
    show PyData.depthAll (ps.map pdP) + 1 ≤ 64
    have := depth_pairs ps
    omega
  rw [h1, decide_eq_true h2]; rfl
theorem eqv_pair (a b : Str × Int) : PyData.eqv (pdP a) (pdP b) = decide (a = b) := by
  obtain ⟨x, i⟩ := a
  obtain ⟨y, j⟩ := b
  show ((x == y) && ((i == j) && true)) = _
  rw [Bool.and_true]
  by_cases e1 : x = y
  · by_cases e2 : i = j
    · subst e1 e2; simp
    · rw [decide_eq_false (fun e => e2 (congrArg Prod.snd e)), beq_eq_false_iff_ne.mpr e2, Bool.and_false]
  · rw [decide_eq_false (fun e => e1 (congrArg Prod.fst e)), beq_eq_false_iff_ne.mpr e1, Bool.false_and]
theorem eqvs_pairs : ∀ ps qs : List (Str × Int), PyData.eqvAll (ps.map pdP) (qs.map pdP) = decide (ps = qs)
  | [], [] => rfl
  | [], _ :: _ => rfl
  | _ :: _, [] => rfl
  | p :: r, q :: s => by
    show (PyData.eqv (pdP p) (pdP q) && PyData.eqvAll (r.map pdP) (s.map pdP)) = _
    rw [eqv_pair, eqvs_pairs r s]
    by_cases e1 : p = q
    · by_cases e2 : r = s
      · subst e1 e2; simp
      · rw [decide_eq_false e2, Bool.and_false, decide_eq_false (fun e => e2 (List.cons.inj e).2)]
    · rw [decide_eq_false e1, Bool.false_and, decide_eq_false (fun e => e1 (List.cons.inj e).1)]
def spCln (CC : Addr) : Sp := fun vs H Q _ => ∃ (c : Addr) (ps : List (Str × Int)), vs = [.ref c] ∧ CwAt CC H c ps ∧ Q (.int (ps.length : Int)) H
def spCit (CC : Addr) : Sp := fun vs H Q _ => ∃ (c : Addr) (ps : List (Str × Int)), vs = [.ref c] ∧ CwAt CC H c ps ∧ ∀ p it ts, H p = some (.tup (ts.map V.ref)) → PrT H ts ps → H it = none → (∀ a o, H a = some o → a < it) → Q (.ref it) (upd H it (ItT0 p it))
def spCco (K : PySem.W.Frag) (CC : Addr) : Sp := fun vs H Q _ => ∃ (c : Addr) (ps : List (Str × Int)) (x : V), vs = [.ref c, x] ∧ CwAt CC H c ps ∧ Anyv K H x ∧ Q (.bl (isWk ps x)) H
def spCgi (K : PySem.W.Frag) (CC DW : Addr) : Sp := fun vs H Q E => ∃ (c : Addr) (ps : List (Str × Int)) (x : V), vs = [.ref c, x] ∧ CwAt CC H c ps ∧ Anyv K H x ∧ (isWk ps x = false → Bf DW "name" x H E) ∧ (∀ z v, x = .str z → valV (dkI ps) (Sum.inr z : L2.Key) = some v → Q v H)
def spCeq (K : PySem.W.Frag) (CC : Addr) : Sp := fun vs H Q _ => ∃ (a : Addr) (ps : List (Str × Int)) (y : V), vs = [.ref a, y] ∧ CwAt CC H a ps ∧ ps.length ≤ 8 ∧ (∀ q ∈ ps, nameT q.1 = true) ∧
  ((∃ t, TyZ K H y t ∧ PySem.W.kitOne K t (.ref CC) = some false ∧ Q (.bl false) H) ∨ ∃ (b : Addr) (qs : List (Str × Int)), y = .ref b ∧ CwAt CC H b qs ∧ qs.length ≤ 8 ∧ (∀ q ∈ qs, nameT q.1 = true) ∧ Q (.bl (decide (ps = qs))) H)
section
variable {P : Program} {w : World} {K : PySem.W.Frag} {mg : Str → Option Value} {base : Heap}
theorem scCln : FnScope ["self"] ["self"] (C8.fnScope sCln) := C8.fnScope_by (by decide +kernel)
theorem fn_cln {CC f : Addr} {fd : FuncData} (F : C8.Fun K "__len__" "Crew.__len__" sCln f fd) (T : TxtC mg) (Z : CrC K mg CC) : FnOk P w K mg base (L2.CX P w) 1 f fd ["self"] (spCln CC) := by
  obtain ⟨oc, od, dV, kV, doc, pm, an, cdv, ct, osl, rfl, lk, hcd⟩ := F.ex
  refine fn_of lk hcd scCln (fun vs H Q E h => ?_) fun A outer s H vs Q E hr h => ?_
  · obtain ⟨c, ps, rfl, _⟩ := h
    rfl
  · obtain ⟨c, ps, rfl, ⟨dx, wt, p, d, ts, mn, mx, sl, fa, hc, hw, _⟩, k⟩ := h
    refine ⟨_, (pss_one (ps_ret (pe_callB call_len_seq (by rfl) T.n_len (by decide +kernel) (pa_cons (pe_fld (pv 0) rfl) pa_nil)))), ?_⟩
    refine ⟨_, rfl, c, CC, dx, _, _, rfl, hc, Z.cl, Z.n1, crF_workers, wt, _, rfl, .inr (SqT.of hw), ?_⟩
    rw [List.length_map]
    exact k
theorem scCit : FnScope ["self"] ["self"] (C8.fnScope sCit) := C8.fnScope_by (by decide +kernel)
theorem fn_cit {CC f : Addr} {fd : FuncData} (F : C8.Fun K "__iter__" "Crew.__iter__" sCit f fd) (T : TxtC mg) (Z : CrC K mg CC) : FnOk P w K mg base (L2.CX P w) 1 f fd ["self"] (spCit CC) := by
  obtain ⟨oc, od, dV, kV, doc, pm, an, cdv, ct, osl, rfl, lk, hcd⟩ := F.ex
  refine fn_of lk hcd scCit (fun vs H Q E h => ?_) fun A outer s H vs Q E hr h => ?_
  · obtain ⟨c, ps, rfl, _⟩ := h
    rfl
  · obtain ⟨c, ps, rfl, ⟨dx, wt, p, d, ts, mn, mx, sl, fa, hc, hw, hp, pr, _⟩, k⟩ := h
    refine ⟨_, (pss_one (ps_ret (pe_callB call_iterT (by rfl) T.n_iter (by decide +kernel) (pa_cons (pe_fld (pv 0) rfl) pa_nil)))), ?_⟩
    exact ⟨_, rfl, c, CC, dx, _, _, rfl, hc, Z.cl, Z.n7, crF_pairs, p, _, rfl, SqT.of hp, fun it h1 h2 => k p it ts hp pr h1 h2⟩
theorem scCco : FnScope ["self", "x"] ["self", "x"] (C8.fnScope sCco) := C8.fnScope_by (by decide +kernel)
theorem fn_cco {CC f : Addr} {fd : FuncData} (F : C8.Fun K "__contains__" "Crew.__contains__" sCco f fd) (T : TxtC mg) (Z : CrC K mg CC) : FnOk P w K mg base (L2.CX P w) 1 f fd ["self", "x"] (spCco K CC) := by
  obtain ⟨oc, od, dV, kV, doc, pm, an, cdv, ct, osl, rfl, lk, hcd⟩ := F.ex
  refine fn_of lk hcd scCco (fun vs H Q E h => ?_) fun A outer s H vs Q E hr h => ?_
  · obtain ⟨c, ps, x, rfl, _⟩ := h
    rfl
  · obtain ⟨c, ps, x, rfl, ⟨dx, wt, p, d, ts, mn, mx, sl, fa, hc, hw, hp, pr, hd, _⟩, a, k⟩ := h
    refine ⟨_, (pss_one (ps_ret (pe_and (pe_callB call_isz (by rfl) T.n_isinstance (by decide +kernel) (pa_cons (pv 1) (pa_cons (pe_bltn (v := .ty "str") (by rfl) T.n_str (by decide +kernel) rfl) pa_nil))) (pe_one (pe_cmp (pc_din (hu_of hr) (pv 1) (pe_fld (pv 0) rfl))))))), ?_⟩
    refine ⟨_, rfl, ?_⟩
    dsimp only [tCons, tC, tNil]
    refine isz_str a ⟨_, rfl, ?_⟩
    cases a with
    | str z =>
      refine iteT ⟨_, rfl, _, rfl, c, CC, dx, _, _, rfl, hc, Z.cl, Z.n8, crF_speeds, d, _, rfl, DGet.kr (k := Sum.inr z) hd, ?_⟩
      rw [dkI_has]
      exact k
    | int i => exact iteF k
    | bl b => exact iteF k
    | non => exact iteF k
    | obj h h1 h2 h3 => exact iteF k
theorem scCgi : FnScope ["self", "at"] ["self", "at"] (C8.fnScope sCgi) := C8.fnScope_by (by decide +kernel)
theorem fn_cgi {CC DW fW f : Addr} {fd fdW : FuncData} (F : C8.Fun K "__getitem__" "Crew.__getitem__" sCgi f fd) (T : TxtC mg) (Z : CrC K mg CC) (EW : Err1 "NoWorker" "name" P w K mg base DW fW fdW) (MO : MetX P w K mg base 1 CC "__contains__" (spCco K CC)) : FnOk P w K mg base (L2.CX P w) 3 f fd ["self", "at"] (spCgi K CC DW) := by
  obtain ⟨oc, od, dV, kV, doc, pm, an, cdv, ct, osl, rfl, lk, hcd⟩ := F.ex
  refine fn_of lk hcd scCgi (fun vs H Q E h => ?_) fun A outer s H vs Q E hr h => ?_
  · obtain ⟨c, ps, x, rfl, _⟩ := h
    rfl
  · obtain ⟨c, ps, x, rfl, cw, a, k1, k2⟩ := h
    obtain ⟨dx, wt, p, d, ts, mn, mx, sl, fa, hc, hw, hp, pr, hd, _⟩ := id cw
    have tk : Takes (cxOf (L2.CX P w) P w K mg base ["self", "at"] "Crew.__getitem__" (C8.fnScope sCgi) f cdv A outer s H E) (fun cls d _ H' => E cls d H') := takes_of rfl rfl rfl rfl
    refine ⟨_, (pss_cons (ps_if (pt_cmpR (op_notInC (E := E) MO (passes_call (takes_of rfl rfl rfl rfl) (fun _ _ _ _ z => z)) hr (by decide)) (pv 1) (pv 0) (by rfl)) (pss_one (ps_bad1 (x := "NoWorker") rfl tk EW.T EW.iC EW.tI EW.F hr EW.b (by rfl) EW.hm (pv 1))) pss_nil)
  (pss_one (ps_ret (pe_dget (hu_of hr) (pe_fld (pv 0) rfl) (pv 1) (fun _ _ => rfl))))), ?_⟩
    refine ⟨_, rfl, _, rfl, c, dx, _, rfl, hc, c, ps, x, rfl, cw, a, _, rfl, _, rfl, ?_⟩
    show if (!isWk ps x) = true then _ else _
    cases hb : isWk ps x with
    | false => exact iteT ⟨_, rfl, bad_leaf1 fun e fs hd e1 => k1 hb e fs H (Same.refl _) hd e1⟩
    | true =>
      obtain ⟨z, rfl, hz⟩ : ∃ z, x = .str z ∧ z ∈ ps.map (·.1) := by
        cases x with
        | str z => exact ⟨z, rfl, of_decide_eq_true hb⟩
        | _ => cases hb
      have hs := dkI_has ps z
      rw [decide_eq_true hz] at hs
      obtain ⟨v, hv⟩ := Option.isSome_iff_exists.mp hs
      have dg : DGet H d (.str z) (some v) := by rw [← hv]; exact DGet.kr (k := Sum.inr z) hd
      exact iteF ⟨_, rfl, c, CC, dx, _, _, rfl, hc, Z.cl, Z.n8, crF_speeds, _, rfl, d, v, rfl, dg, k2 z v rfl hv⟩
theorem scCeq : FnScope ["self", "other"] ["self", "other"] (C8.fnScope sCeq) := C8.fnScope_by (by decide +kernel)
theorem fn_ceq {CC f : Addr} {fd : FuncData} (F : C8.Fun K "__eq__" "Crew.__eq__" sCeq f fd) (T : TxtC mg) (Z : CrC K mg CC) (I : C8.InsC K CC) : FnOk P w K mg base (L2.CX P w) 2 f fd ["self", "other"] (spCeq K CC) := by
  obtain ⟨oc, od, dV, kV, doc, pm, an, cdv, ct, osl, rfl, lk, hcd⟩ := F.ex
  refine fn_of lk hcd scCeq (fun vs H Q E h => ?_) fun A outer s H vs Q E hr h => ?_
  · obtain ⟨a, ps, y, rfl, _⟩ := h
    rfl
  · obtain ⟨a, ps, y, rfl, ⟨dx, wt, p, d, ts, mn, mx, sl, fa, hc, hw, hp, pr, hd, _⟩, lp, np, h⟩ := h
    refine ⟨_, (pss_one (ps_ret (pe_and (pe_callB call_isz (by rfl) T.n_isinstance (by decide +kernel) (pa_cons (pv 1) (pa_cons (pe_glob (v := .ref CC) (by rfl) Z.hm rfl) pa_nil))) (pe_one (pe_cmpR (op_eqD hr.units) (pe_fld (pv 0) rfl) (pe_fld (pv 1) rfl) (nomark _)))))), ?_⟩
    rcases h with ⟨t, ty, kt, go⟩ | ⟨b, qs, rfl, ⟨dx2, wt2, p2, d2, ts2, mn2, mx2, sl2, fa2, hc2, hw2, hp2, pr2, hd2, _⟩, lq, nq, go⟩
    · exact ⟨_, rfl, _, .ref CC, t, .ref CC, false, rfl, .own CC, ty, kt, _, rfl, iteF go⟩
    · have ty : TyZ K H (.ref b) (.ref CC) := .x (.base (.ins hc2 I.cl I.ha I.hn I.htk I.hm))
      refine ⟨_, rfl, _, .ref CC, .ref CC, .ref CC, true, rfl, .own CC, ty, I.me, _, rfl, iteT ?_⟩
      refine ⟨_, rfl, a, CC, dx, _, _, rfl, hc, Z.cl, Z.n7, crF_pairs, _, rfl, b, CC, dx2, _, _, rfl, hc2, Z.cl, Z.n7, crF_pairs, .tuple (ps.map pdP), .tuple (qs.map pdP), .tup (SqT.of hp) (dp_pairs pr), .tup (SqT.of hp2) (dp_pairs pr2), shaped_pairsT fun q hq => name_ok (np q hq), shaped_pairsT fun q hq => name_ok (nq q hq), ?_⟩
      rw [show PyData.eqv (.tuple (ps.map pdP)) (.tuple (qs.map pdP)) = decide (ps = qs) from eqvs_pairs ps qs]
      exact go
end
end Lw
namespace Lw
open PySem PySem.Spec PyProof.Rows L2
end Lw
namespace Lw.Md
open PySem PySem.Spec PyProof.Rows PySem.W PySem.Calls L2
section
variable {prog : Program} {w : World} {A : Around} {E : Value → Shared → Prop} {s : Shared}
/-- a dict D and a value to be merged into it -/
def MrgIn (prog : Program) (w : World) (D : Addr) (v : Value) (h : Heap) (Q : Heap → Prop) : Prop := ∃ (a : Addr) (xs ys : List (Key × Value)), v = .ref a ∧ (a == sysModules) = false ∧ D ≠ a ∧ Dk prog w h D xs ∧ Dk prog w h a ys ∧ xs.length + ys.length ≤ sizeLine ∧
  ∀ g, Dk prog w g D (merged xs ys) → Heap.SameBut D h g → Q g
theorem disp_two {v1 v2 : Sem Value} {Q : Value → Shared → Prop}
    (h : wpAny (model prog w) A v1 (fun m s1 => MrgIn prog w s.heap.objs.size m s1.heap fun g => wpAny (model prog w) A v2 (fun m2 s3 => MrgIn prog w s.heap.objs.size m2 s3.heap fun g2 => Q (.ref s.heap.objs.size) { s3 with heap := g2 }) E { s1 with heap := g }) E
      { s with heap := s.heap.push { cls := .type "dict", data := .dict #[] } }) : wpAny (model prog w) A (dictDisplay [(none, v1), (none, v2)]) Q E s := by
  unfold dictDisplay
  simp only [List.forIn_cons, List.forIn_nil]
  refine wpAny_bind (wpAny_bind (wpAny_bind ?_))
  rw [if_pos (show (List.nil : List (Sem Value × Sem Value)).isEmpty = true from rfl)]
  refine wpAny_pure ?_
  dsimp only
  refine wpAny_bind (wpAny_alloc ?_)
  refine wpAny_bind (wpAny_holding (wpAny_mono h (fun m s1 hm => ?_) fun _ _ e => e))
  obtain ⟨a, xs, ys, rfl, h1, h2, h3, h4, h5, hq⟩ := hm
  refine wpAny_bind (wpAny_onRaise (wpAny_tryCatch (wpAny_onRaise (wpAny_holding (merge_of h2 h1 h3 h4 (fun z => by cases z) h5 fun g g1 _ g3 => ?_)))))
  refine wpAny_pure ?_
  dsimp only
  refine wpAny_bind (wpAny_bind ?_)
  rw [if_pos (show (List.nil : List (Sem Value × Sem Value)).isEmpty = true from rfl)]
  refine wpAny_pure ?_
  dsimp only
  refine wpAny_bind (wpAny_pure ?_)
  refine wpAny_bind (wpAny_holding (wpAny_mono (hq g g1 g3) (fun m2 s3 hm2 => ?_) fun _ _ e => e))
  obtain ⟨b, ws, zs, rfl, i1, i2, i3, i4, i5, iq⟩ := hm2
  refine wpAny_bind (wpAny_onRaise (wpAny_tryCatch (wpAny_onRaise (wpAny_holding (merge_of i2 i1 i3 i4 (fun z => by cases z) i5 fun g2 k1 _ k3 => ?_)))))
  refine wpAny_pure ?_
  dsimp only
  refine wpAny_pure ?_
  refine wpAny_bind ?_
  rw [if_pos (show (List.nil : List (Sem Value × Sem Value)).isEmpty = true from rfl)]
  exact wpAny_pure (wpAny_pure (iq g2 k1 k3))
theorem disp_key {v1 k v : Sem Value} {Q : Value → Shared → Prop}
    (h : wpAny (model prog w) A v1 (fun m s1 => MrgIn prog w s.heap.objs.size m s1.heap fun g => wpAny (model prog w) A (subDict [(k, v)]) (fun sub s3 => MrgIn prog w s.heap.objs.size (.ref sub) s3.heap fun g2 => Q (.ref s.heap.objs.size) { s3 with heap := g2 }) E { s1 with heap := g }) E
      { s with heap := s.heap.push { cls := .type "dict", data := .dict #[] } }) : wpAny (model prog w) A (dictDisplay [(none, v1), (some k, v)]) Q E s := by
  unfold dictDisplay
  simp only [List.forIn_cons, List.forIn_nil]
  refine wpAny_bind (wpAny_bind (wpAny_bind ?_))
  rw [if_pos (show (List.nil : List (Sem Value × Sem Value)).isEmpty = true from rfl)]
  refine wpAny_pure ?_
  dsimp only
  refine wpAny_bind (wpAny_alloc ?_)
  refine wpAny_bind (wpAny_holding (wpAny_mono h (fun m s1 hm => ?_) fun _ _ e => e))
  obtain ⟨a, xs, ys, rfl, h1, h2, h3, h4, h5, hq⟩ := hm
  refine wpAny_bind (wpAny_onRaise (wpAny_tryCatch (wpAny_onRaise (wpAny_holding (merge_of h2 h1 h3 h4 (fun z => by cases z) h5 fun g g1 _ g3 => ?_)))))
  refine wpAny_pure ?_
  dsimp only
  refine wpAny_bind ?_
  rw [if_neg (show ¬ (([] ++ [(k, v)] : List (Sem Value × Sem Value)).length == 17) = true from Bool.false_ne_true)]
  refine wpAny_pure ?_
  dsimp only
  refine wpAny_pure ?_
  refine wpAny_bind ?_
  rw [if_neg (show ¬ ([] ++ [(k, v)] : List (Sem Value × Sem Value)).isEmpty = true from Bool.false_ne_true)]
  dsimp only
  refine wpAny_bind (wpAny_holding (wpAny_mono (hq g g1 g3) (fun sub s3 hm2 => ?_) fun _ _ e => e))
  obtain ⟨b, ws, zs, eb, i1, i2, i3, i4, i5, iq⟩ := hm2
  cases eb
  refine wpAny_bind (wpAny_onRaise (wpAny_holding (merge_of i2 i1 i3 i4 (fun z => by cases z) i5 fun g2 k1 _ k3 => ?_)))
  exact wpAny_pure (wpAny_pure (iq g2 k1 k3))
end
end Lw.Md
namespace Lw
open PySem PySem.Spec PyProof.Rows L2
section
variable {X : Cx} {e1 e2 k1 : Expr} {t1 t2 tk : TE} {pos : Pos}
/-- {**a, **b} -/
def tDStar2 (t1 t2 : TE) : TE := fun σ H Q => ∀ D, H D = none → t1 σ (upd H D (.dK [])) fun x H1 => H1 D = some (.dK []) ∧ ∃ (a : Addr) (xs : List (L2.Key × V)), x = .ref a ∧ D ≠ a ∧ Rd H1 a (.dK xs) ∧ xs.length ≤ 1000 ∧
  t2 σ (upd H1 D (.dK (mergeK [] xs))) fun y H2 => H2 D = some (.dK (mergeK [] xs)) ∧ ∃ (b : Addr) (ys : List (L2.Key × V)), y = .ref b ∧ D ≠ b ∧ Rd H2 b (.dK ys) ∧ ys.length ≤ 1000 ∧ Q (.ref D) (upd H2 D (.dK (mergeK (mergeK [] xs) ys)))
theorem pe_dstar2 (h1 : PE X e1 t1) (h2 : PE X e2 t2) : PE X (.Dict [none, none] [e1, e2] pos) (tDStar2 t1 t2) := by
  refine ⟨fun pins s σ H Q I h => ?_⟩
  rw [arm_eval_Dict]
  refine wpAny_bind (wpAny_standAt ?_)
  refine Md.disp_two (v1 := do let x ← eval e1 X.env; standAt pos; pure x) (v2 := do let x ← eval e2 X.env; standAt pos; pure x) ?_
  have hn := I.hok.fresh (Nat.le_refl s.heap.objs.size)
  have I1 := I.laid (a := s.heap.objs.size) (o := .dK []) (h' := s.heap.push { cls := .type "dict", data := .dict #[] }) (t' := s.toks) (fun _ _ q => Heap.get?_push_of_some _ q) (Nat.le_refl _) (dk_empty s.heap I.big)
  refine wpAny_bind (thn (h1.run pins _ σ _ _ I1 (h _ hn)) fun v s1 ⟨y, H1, I2, ry, eD, a, xs, ey, ne, ra, lx, q⟩ => wpAny_bind (wpAny_standAt (wpAny_pure ?_)))
  subst ey
  cases (show v = Value.ref a from ry)
  obtain ⟨z1, lo1, us, rel1, dd1⟩ := dk_rd I2.hok ra
  obtain ⟨_, hD, vs0, r0, d0⟩ := dk_of I2.hok eD
  cases r0
  have big : 2000 ≤ sizeLine := by decide
  have l1 : us.length = xs.length := rel1.length.symm
  refine ⟨a, [], us, rfl, lo1, ne, d0, dd1, by rw [List.length_nil]; omega, fun g g1 g2 => ?_⟩
  have m1 : (mergeK [] xs).length ≤ 1000 := by have := length_mergeK xs []; rw [List.length_nil] at this; omega
  have rk1 : KV (mergeK [] xs) (merged [] us) := rel1.merge .nil
  have I3 : Inv X pins σ (upd H1 s.heap.objs.size (.dK (mergeK [] xs))) { s1 with heap := g } := d_write (t' := s1.toks) I2 (by rw [eD]; exact True.intro) g2 (by obtain ⟨o, _, _, ho, _⟩ := g1; exact ⟨o, ho⟩) (dk_new (by omega) hD rk1 g1)
  refine wpAny_bind (thn (h2.run pins _ σ _ _ I3 q) fun v2 s2 ⟨y2, H2, I4, ry2, eD2, b, ys, ey2, ne2, rb, ly, q2⟩ => wpAny_bind (wpAny_standAt (wpAny_pure ?_)))
  subst ey2
  cases (show v2 = Value.ref b from ry2)
  obtain ⟨z2, lo2, ws, rel2, dd2⟩ := dk_rd I4.hok rb
  obtain ⟨_, _, vs2, r2, d2⟩ := dk_of I4.hok eD2
  have l2 : ws.length = ys.length := rel2.length.symm
  have l3 : vs2.length = (mergeK [] xs).length := r2.length.symm
  refine ⟨b, vs2, ws, rfl, lo2, ne2, d2, dd2, by omega, fun g' k1 k2 => ?_⟩
  have m2 : (mergeK (mergeK [] xs) ys).length ≤ 2000 := by have := length_mergeK ys (mergeK [] xs); omega
  have rk2 : KV (mergeK (mergeK [] xs) ys) (merged vs2 ws) := rel2.merge r2
  have I5 : Inv X pins σ (upd H2 s.heap.objs.size (.dK (mergeK (mergeK [] xs) ys))) { s2 with heap := g' } := d_write (t' := s2.toks) I4 (by rw [eD2]; exact True.intro) k2 (by obtain ⟨o, _, _, ho, _⟩ := k1; exact ⟨o, ho⟩) (dk_new (by omega) hD rk2 k1)
  exact ⟨.ref s.heap.objs.size, _, I5, rfl, q2⟩
/-- {**a, k: v} -/
def tDStarK (t1 tk tv : TE) : TE := fun σ H Q => ∀ D, H D = none → t1 σ (upd H D (.dK [])) fun x H1 => H1 D = some (.dK []) ∧ ∃ (a : Addr) (xs : List (L2.Key × V)), x = .ref a ∧ D ≠ a ∧ Rd H1 a (.dK xs) ∧ xs.length ≤ 1000 ∧ ∀ S, H1 S = none → S ≠ D →
  tk σ (upd (upd H1 D (.dK (mergeK [] xs))) S (.dK [])) fun y H2 => tv σ H2 fun z H3 => H3 S = some (.dK []) ∧ H3 D = some (.dK (mergeK [] xs)) ∧ ∃ k : L2.Key, y = kV k ∧ Q (.ref D) (upd (upd H3 S (.dK [(k, z)])) D (.dK (putK (mergeK [] xs) k z)))
theorem pe_dstarK {tv : TE} (h1 : PE X e1 t1) (hk : PE X k1 tk) (h2 : PE X e2 tv) : PE X (.Dict [none, some k1] [e1, e2] pos) (tDStarK t1 tk tv) := by
  refine ⟨fun pins s σ H Q I h => ?_⟩
  rw [arm_eval_Dict]
  refine wpAny_bind (wpAny_standAt ?_)
  refine Md.disp_key (v1 := do let x ← eval e1 X.env; standAt pos; pure x) (k := eval k1 X.env) (v := do let x ← eval e2 X.env; standAt pos; pure x) ?_
  have hn := I.hok.fresh (Nat.le_refl s.heap.objs.size)
  have I1 := I.laid (a := s.heap.objs.size) (o := .dK []) (h' := s.heap.push { cls := .type "dict", data := .dict #[] }) (t' := s.toks) (fun _ _ q => Heap.get?_push_of_some _ q) (Nat.le_refl _) (dk_empty s.heap I.big)
  refine wpAny_bind (thn (h1.run pins _ σ _ _ I1 (h _ hn)) fun v s1 ⟨y, H1, I2, ry, eD, a, xs, ey, ne, ra, lx, q⟩ => wpAny_bind (wpAny_standAt (wpAny_pure ?_)))
  subst ey
  cases (show v = Value.ref a from ry)
  obtain ⟨z1, lo1, us, rel1, dd1⟩ := dk_rd I2.hok ra
  obtain ⟨_, hD, vs0, r0, d0⟩ := dk_of I2.hok eD
  cases r0
  have big : 2000 ≤ sizeLine := by decide
  have l1 : us.length = xs.length := rel1.length.symm
  refine ⟨a, [], us, rfl, lo1, ne, d0, dd1, by rw [List.length_nil]; omega, fun g g1 g2 => ?_⟩
  have m1 : (mergeK [] xs).length ≤ 1000 := by have := length_mergeK xs []; rw [List.length_nil] at this; omega
  have rk1 : KV (mergeK [] xs) (merged [] us) := rel1.merge .nil
  have I3 : Inv X pins σ (upd H1 s.heap.objs.size (.dK (mergeK [] xs))) { s1 with heap := g } := d_write (t' := s1.toks) I2 (by rw [eD]; exact True.intro) g2 (by obtain ⟨o, _, _, ho, _⟩ := g1; exact ⟨o, ho⟩) (dk_new (by omega) hD rk1 g1)
  have fS := I3.hok.fresh (Nat.le_refl g.objs.size)
  have SD : g.objs.size ≠ s.heap.objs.size := fun e => by rw [e, upd_same] at fS; cases fS
  have fS1 : H1 g.objs.size = none := by rw [upd_ne SD] at fS; exact fS
  have I4 := I3.laid (a := g.objs.size) (o := .dK []) (h' := g.push { cls := .type "dict", data := .dict #[] }) (t' := s1.toks) (fun _ _ q => Heap.get?_push_of_some _ q) (Nat.le_refl _) (dk_empty g I3.big)
  have q' := q g.objs.size fS1 SD
  refine wpAny_subDict (knd := mixKind X.prog X.w) (by show 1 ≤ 15; decide) (evalPairs_cons (thn (hk.run pins _ σ _ _ I4 q') fun kv s2 ⟨y, H2, I5, ry, q2⟩ => wpAny_bind (thn (h2.run pins s2 σ _ _ I5 q2) fun vv s3 ⟨z, H3, I6, rz, eS, eD2, k, ey, q3⟩ => wpAny_bind (wpAny_standAt (wpAny_pure (evalPairs_nil ?_)))))) 
  obtain ⟨_, hdS, vsS, rS, ddS⟩ := dk_of I6.hok eS
  cases rS
  refine ⟨[(k, vv)], ⟨by subst ey; exact kV_is ry, rfl, True.intro⟩, ddS, fun h' d' sb => ?_⟩
  have d1 : Md.Dk X.prog X.w h' g.objs.size [(k, vv)] := d'
  have rkz : KV [(k, z)] [(k, vv)] := .cons ⟨rfl, rz⟩ .nil
  have I7 : Inv X pins σ (upd H3 g.objs.size (.dK [(k, z)])) { s3 with heap := h', toks := s3.toks + 1 } := d_write (t' := s3.toks + 1) I6 (by rw [eS]; exact True.intro) sb (by obtain ⟨o, _, _, ho, _⟩ := d1; exact ⟨o, ho⟩) (dk_new (Nat.le_trans (show 1 ≤ 2000 by decide) big) hdS rkz d1)
  have eD3 : upd H3 g.objs.size (.dK [(k, z)]) s.heap.objs.size = some (.dK (mergeK [] xs)) := by rw [upd_ne SD.symm]; exact eD2
  obtain ⟨_, _, vs2, r2, d2⟩ := dk_of I7.hok eD3
  have l3 : vs2.length = (mergeK [] xs).length := r2.length.symm
  refine ⟨g.objs.size, vs2, [(k, vv)], rfl, hdS, SD.symm, d2, d1, by show vs2.length + 1 ≤ sizeLine; omega, fun g' k1 k2 => ?_⟩
  have rk2 : KV (putK (mergeK [] xs) k z) (merged vs2 [(k, vv)]) := rkz.merge r2
  have lp := length_putK (mergeK [] xs) k z
  have I8 := d_write (ob := .dK (putK (mergeK [] xs) k z)) (t' := s3.toks + 1) I7 (by rw [eD3]; exact True.intro) k2 (by obtain ⟨o, _, _, ho, _⟩ := k1; exact ⟨o, ho⟩) (dk_new (by omega) hD rk2 k1)
  exact ⟨.ref s.heap.objs.size, _, I8, rfl, q3⟩
end
end Lw
namespace Lw
open PySem PySem.Spec PyProof.Rows L2
open SX PySem.NumText TL LamX ClX StX
abbrev sCst : Stmt := inClass (top 26) 15
/-- f'..' -/
def tJ (ts : List TE) : TE := fun σ H Q => tJs ts Str.empty σ H fun out H1 => Q (.str out) H1
theorem pe_joinedJ {X : Cx} {v1 v2 : Expr} {rest : List Expr} {ts : List TE} {pos : Pos} (h : PJ X (v1 :: v2 :: rest) ts) : PE X (.JoinedStr (v1 :: v2 :: rest) pos) (tJ ts) := pe_joined h
/-- one worker's words -/
def wkL (q : Str × Int) : List Nat := q.1.cps.toList ++ 32 :: intL q.2
def crTx (ps : List (Str × Int)) : List Nat := joinL [32] (ps.map wkL)
theorem S_cps (z : Str) : S z.cps.toList = z := by
  obtain ⟨⟨l⟩⟩ := z
  rfl
def CwOk (ps : List (Str × Int)) : Prop := ∀ q ∈ ps, nameT q.1 = true ∧ 1 ≤ q.2 ∧ q.2 ≤ 60
def spCst (CC : Addr) : Sp := fun vs H Q _ => ∃ (c : Addr) (ps : List (Str × Int)), vs = [.ref c] ∧ CwAt CC H c ps ∧ CwOk ps ∧ ps.length ≤ 8 ∧ ∀ H', Same H H' → Q (.str (S (crTx ps))) H'
theorem name_len {z : Str} (h : nameT z = true) : 1 ≤ z.cps.toList.length ∧ z.cps.toList.length ≤ 8 := by
  unfold nameT at h
  simp only [Bool.and_eq_true, decide_eq_true_eq] at h
  have e : z.length = z.cps.toList.length := by rw [Array.length_toList]; rfl
  rw [← e]
  exact ⟨h.2.1.1, h.2.1.2⟩
theorem intL_len2 {i : Int} (h : i.natAbs ≤ 10 ^ 30) : (intL i).length ≤ 32 := by
  have l : (numL i.natAbs).length ≤ 31 := numL_len (k := 31) (by decide) (Nat.lt_of_le_of_lt h (by decide +kernel))
  unfold intL
  split
  · rw [List.length_cons]; omega
  · omega
theorem sum_le {xs : List (List Nat)} {m : Nat} (h : ∀ x ∈ xs, x.length ≤ m) : ((xs.map S).map (·.length)).sum ≤ xs.length * m := by
  induction xs with
  | nil => simp
  | cons x r ih =>
    rw [List.map_cons, List.map_cons, List.sum_cons, List.length_cons, S_len]
    have h1 := h x List.mem_cons_self
    have h2 := ih fun y hy => h y (List.mem_cons_of_mem _ hy)
    rw [Nat.add_mul]
    omega

theorem wk_len {q : Str × Int} (h : nameT q.1 = true ∧ 1 ≤ q.2 ∧ q.2 ≤ 60) : (wkL q).length ≤ 64 := by
  unfold wkL
  rw [List.length_append, List.length_cons]
  have h1 := (name_len h.1).2
  have h2 := intL_len2 (i := q.2) (by have := h.2.1; have := h.2.2; omega)
  omega
section
variable {P : Program} {w : World} {K : PySem.W.Frag} {mg : Str → Option Value} {base : Heap}
theorem scCst : FnScope ["self", "name", "speed"] ["self"] (C8.fnScope sCst) := C8.fnScope_by (by decide +kernel)
theorem fn_cst {CC f : Addr} {fd : FuncData} (F : C8.Fun K "__str__" "Crew.__str__" sCst f fd) (T : TxtC mg) (Z : CrC K mg CC) : FnOk P w K mg base (L2.CX P w) 2 f fd ["self"] (spCst CC) := by
  obtain ⟨oc, od, dV, kV, doc, pm, an, cdv, ct, osl, rfl, lk, hcd⟩ := F.ex
  refine fn_of lk hcd scCst (fun vs H Q E h => ?_) fun A outer s H vs Q E hr h => ?_
  · obtain ⟨c, ps, rfl, _⟩ := h
    rfl
  · obtain ⟨c, ps, rfl, ⟨dx, wt, p, d, ts, mn, mx, sl, fa, hc, hw, hp, pr, hd, _⟩, ok, l8, k⟩ := h
    refine ⟨_, (pss_one (ps_ret (pe_join pe_str (pe_lc (own := [("name", 1), ("speed", 2)]) (g := gTup K 2 (gCons (gName 1) (gCons (gName 2) (gNil)))) (tt := tYes) rfl scCst.nd (pi_tup (pe_fld (pv 0) rfl)) (blkOk_by (own := [("name", 1), ("speed", 2)]) (N := ["self", "name", "speed"]) (sc := (C8.fnScope sCst)) (by decide +kernel)) (fun _ _ _ _ _ => (pg_tup rfl (pgs_cons (pg_name (i := 1) scCst.nd rfl (Or.inl rfl)) (pgs_cons (pg_name (i := 2) scCst.nd rfl (Or.inl rfl)) pgs_nil)))) (fun _ _ _ _ _ => pts_nil) (fun _ _ _ _ _ => (pe_joinedJ (.cons (pe_fmt (pv 1)) (.cons pe_str (.cons (pe_fmt (pv 2)) .nil))))))))), ?_⟩
    refine ⟨⟨_, rfl⟩, _, rfl, c, CC, dx, _, _, rfl, hc, Z.cl, Z.n7, crF_pairs, p, rfl, ⟨_, SqT.of hp⟩, fun D hD => lc_pairs walk_tup (fun _ => true) (fun q => .str (S (wkL q))) pr (fun xs => SqT.of ((same_new hD) _ _ hp)) hD (by omega) (fun q => rfl) (fun q xs R _ h => h) (fun q xs R hq _ h => ?_) ?_⟩
    · obtain ⟨o1, o2, o3⟩ := ok q hq
      have ln := wk_len (ok q hq)
      have e1 : Str.ofString (toString q.2) = S (intL q.2) := str_int q.2
      have nl := (name_len o1).2
      have lS : ∀ l : List Nat, (S l).length = l.length := fun l => rfl
      have aS : ∀ a b : List Nat, S a ++ S b = S (a ++ b) := fun a b => by
        show (⟨_⟩ : Str) = ⟨_⟩
        simp
      have big : 64 ≤ sizeLine := by decide
      unfold wkL at ln h
      rw [List.length_append, List.length_cons] at ln
      rw [← S_cps q.1]
      refine ⟨_, rfl, .inl ⟨_, rfl, by rw [lS]; exact Nat.le_trans (show q.1.cps.toList.length ≤ 64 by omega) big, _, rfl, by rw [show Str.empty = S [] from rfl, aS, lS]; exact Nat.le_trans (show q.1.cps.toList.length ≤ 64 by omega) big, ?_⟩⟩
      rw [show Str.empty = S [] from rfl, aS, List.nil_append]
      refine ⟨_, rfl, by rw [show Str.ofString " " = S [32] from rfl, aS, lS, List.length_append]; exact Nat.le_trans (show q.1.cps.toList.length + 1 ≤ 64 by omega) big, ?_⟩
      rw [show Str.ofString " " = S [32] from rfl, aS]
      refine ⟨_, rfl, .inr ⟨q.2, rfl, ?_, _, rfl, ?_, ?_⟩⟩
      · exact Nat.lt_of_le_of_lt (Nat.log2_le_self _) (by omega)
      · rw [e1, aS, lS, List.length_append, List.length_append]
        exact Nat.le_trans (show q.1.cps.toList.length + 1 + (intL q.2).length ≤ 64 by omega) big
      · rw [e1, aS, List.append_assoc]
        exact h
    · rw [List.filter_eq_self.mpr fun _ _ => rfl]
      refine ⟨_, D, (ps.map wkL).map S, rfl, rfl, .inl (SqL.of (by rw [List.map_map, List.map_map]; exact upd_same)), ?_, ?_⟩
      · have h1 := sum_le (xs := ps.map wkL) (m := 64) fun x hx => by
          obtain ⟨v, hv, rfl⟩ := List.mem_map.mp hx
          exact wk_len (ok v hv)
        rw [List.length_map] at h1
        rw [List.length_map, List.length_map, show (Str.ofString " ").length = 1 from rfl]
        omega
      · rw [show (Str.ofString " ") = S [32] from rfl, join_S]
        exact k _ (same_new hD)
end
end Lw
namespace Lw
open PySem PySem.Spec PyProof.Rows L2
open SX PySem.NumText TL LamX ClX StX
/-- the static method of -/
structure OfC (P : Program) (w : World) (K : PySem.W.Frag) (mg : Str → Option Value) (base : Heap) (CC DN DS DC DM p g : Addr) (fd : FuncData) : Prop where
  S : SMet K CC "of" p g
  F : FnOk P w K mg base (L2.CX P w) 8 g fd ["speeds"] (spCof K CC DN DS DC DM)
  b : Binds K fd ["speeds"] []
end Lw
namespace Lw
open PySem PySem.Spec PyProof.Rows L2
open SX PySem.NumText TL LamX ClX StX
abbrev sCsu : Stmt := inClass (top 26) 9
abbrev sCmu : Stmt := inClass (top 26) 10
abbrev sCad : Stmt := inClass (top 26) 8
abbrev sCws : Stmt := inClass (top 26) 16
/-- a crew that may be asked: few workers, their names told once, names and speeds that are some -/
structure CwG (CC : Addr) (H : Hp) (c : Addr) (ps : List (Str × Int)) : Prop where
  at_ : CwAt CC H c ps
  l8 : ps.length ≤ 8
  ok : CwOk ps
  nd : (ps.map (·.1)).Nodup
abbrev dkP (ps : List (Str × Int)) : List (Str × V) := ps.map fun q => (q.1, V.int q.2)
theorem dn_few {K : PySem.W.Frag} {H : Hp} {ps : List (Str × Int)} (nd : (ps.map (·.1)).Nodup) (l : ps.length ≤ 20) (ok : ∀ q ∈ ps, nameT q.1 = true) : DnK K H (dkP ps) := by
  refine ⟨by rw [List.map_map]; exact nd, by rw [List.length_map]; omega, fun p hp => ?_⟩
  obtain ⟨q, hq, rfl⟩ := List.mem_map.mp hp
  refine ⟨.int _, ?_⟩
  have h := name_len (ok q hq)
  have e : q.1.length = q.1.cps.toList.length := by rw [Array.length_toList]; rfl
  show q.1.length ≤ 1000000
  omega
def spCsu (K : PySem.W.Frag) (CC DN DS DC DM DW : Addr) : Sp := fun vs H Q E => ∃ (c : Addr) (ps : List (Str × Int)) (x : V), vs = [.ref c, x] ∧ CwG CC H c ps ∧ Anyv K H x ∧ (isWk ps x = false → Bf DW "name" x H E) ∧
  ∀ z, x = .str z → z ∈ ps.map (·.1) → MkC K CC DN DS DC DM (dkP (ps.filter fun q => decide (q.1 ≠ z))) H Q E
def spCmu (K : PySem.W.Frag) (CC DN DS DC DM : Addr) : Sp := fun vs H Q E => ∃ (c : Addr) (ps : List (Str × Int)) (x : V), vs = [.ref c, x] ∧ CwG CC H c ps ∧ Anyv K H x ∧ (isSp x = false → Bf DS "value" x H E) ∧
  ∀ m : Int, x = .int m → 1 ≤ m → m ≤ 60 → MkC K CC DN DS DC DM (dkP (ps.map fun q => (q.1, q.2 * m))) H Q E
/-- two dicts of speeds as one -/
def mrgS (ks ls : List (Str × V)) : List (Str × V) := ls.foldl (fun acc q => if q.1 ∈ acc.map (·.1) then acc.map (fun p => if p.1 = q.1 then (p.1, q.2) else p) else acc ++ [q]) ks
theorem putK_dk1 (k0 : List (Str × V)) (n : Str) (v : V) : putK (dkOf k0) (Sum.inr n : L2.Key) v = dkOf (if n ∈ k0.map (·.1) then k0.map (fun p => if p.1 = n then (p.1, v) else p) else k0 ++ [(n, v)]) := by
  by_cases h : n ∈ k0.map (·.1)
  · rw [if_pos h]
    have hany : ((dkOf k0).any fun kv => decide (kv.1 = (Sum.inr n : L2.Key))) = true := by
      obtain ⟨p, hp, e⟩ := List.mem_map.mp h
      rw [List.any_eq_true]
      exact ⟨(Sum.inr p.1, p.2), List.mem_map.mpr ⟨p, hp, rfl⟩, by simp [e]⟩
    unfold putK
    rw [if_pos hany]
    unfold dkOf
    rw [List.map_map, List.map_map]
    refine List.map_congr_left fun p _ => ?_
    show (if (Sum.inr p.1 : L2.Key) = Sum.inr n then ((Sum.inr p.1 : L2.Key), v) else (Sum.inr p.1, p.2)) = ((Sum.inr (if p.1 = n then (p.1, v) else p).1 : L2.Key), (if p.1 = n then (p.1, v) else p).2)
    by_cases e : p.1 = n
    · rw [if_pos (congrArg Sum.inr e), if_pos e]
    · rw [if_neg (fun z => e (Sum.inr.inj z)), if_neg e]
  · rw [if_neg h]
    exact putK_out h
theorem merge_dk : ∀ (ls ks : List (Str × V)), mergeK (dkOf ks) (dkOf ls) = dkOf (mrgS ks ls)
  | [], _ => rfl
  | q :: r, ks => by
    show mergeK (putK (dkOf ks) (Sum.inr q.1) q.2) (dkOf r) = dkOf (mrgS _ r)
    rw [putK_dk1, merge_dk r]
theorem mrgS_out : ∀ (ls ks : List (Str × V)), (ls.map (·.1)).Nodup → (∀ q ∈ ls, q.1 ∉ ks.map (·.1)) → mrgS ks ls = ks ++ ls
  | [], ks, _, _ => (List.append_nil _).symm
  | q :: r, ks, nd, h => by
    have n0 := h q List.mem_cons_self
    show mrgS (if q.1 ∈ ks.map (·.1) then _ else ks ++ [q]) r = _
    rw [if_neg n0, mrgS_out r (ks ++ [q]) (List.nodup_cons.mp nd).2 fun p hp m => ?_, List.append_assoc]
    · rfl
    · rw [List.map_append] at m
      rcases List.mem_append.mp m with m | m
      · exact h p (List.mem_cons_of_mem _ hp) m
      · have e : p.1 = q.1 := List.mem_singleton.mp m
        exact (List.nodup_cons.mp nd).1 (List.mem_map.mpr ⟨p, hp, e⟩)
def spCad (K : PySem.W.Frag) (CC DN DS DC DM : Addr) : Sp := fun vs H Q E => ∃ (c : Addr) (ps : List (Str × Int)) (x : V), vs = [.ref c, x] ∧ CwG CC H c ps ∧
  ((∃ t, TyZ K H x t ∧ PySem.W.kitOne K t (.ref CC) = some false ∧ Bf DC "part" (.str (Str.ofString "other")) H E) ∨ ∃ (b : Addr) (qs : List (Str × Int)), x = .ref b ∧ CwG CC H b qs ∧ ((∃ q ∈ ps, q.1 ∈ qs.map (·.1)) → Bf DC "part" (.str (Str.ofString "twice")) H E) ∧
    ((∀ q ∈ ps, q.1 ∉ qs.map (·.1)) → MkC K CC DN DS DC DM (dkP (ps ++ qs)) H Q E))
def spCws (K : PySem.W.Frag) (CC DN DS DC DM : Addr) : Sp := fun vs H Q E => ∃ (c : Addr) (ps : List (Str × Int)) (x v : V), vs = [.ref c, x, v] ∧ CwG CC H c ps ∧ Anyv K H x ∧ (∀ z, x = .str z → z.length ≤ 1000000) ∧ Anyv K H v ∧ (nameB x = false → Bf DN "value" x H E) ∧
  ∀ z, x = .str z → nameT z = true → MkC K CC DN DS DC DM (mrgS (dkP ps) [(z, v)]) H Q E
theorem mrgS_one {ks : List (Str × V)} {z : Str} {v : V} (nd : (ks.map (·.1)).Nodup) : ((mrgS ks [(z, v)]).map (·.1)).Nodup ∧ (mrgS ks [(z, v)]).length ≤ ks.length + 1 ∧ ∀ q ∈ mrgS ks [(z, v)], (q.1 = z ∧ q.2 = v) ∨ q ∈ ks := by
  show ((if z ∈ ks.map (·.1) then ks.map (fun p => if p.1 = z then (p.1, v) else p) else ks ++ [(z, v)]).map (·.1)).Nodup ∧ (if z ∈ ks.map (·.1) then ks.map (fun p => if p.1 = z then (p.1, v) else p) else ks ++ [(z, v)]).length ≤ ks.length + 1 ∧ ∀ q ∈ (if z ∈ ks.map (·.1) then ks.map (fun p => if p.1 = z then (p.1, v) else p) else ks ++ [(z, v)]), (q.1 = z ∧ q.2 = v) ∨ q ∈ ks
  by_cases h : z ∈ ks.map (·.1)
  · rw [if_pos h]
    refine ⟨?_, by rw [List.length_map]; omega, fun q hq => ?_⟩
    · have e : (ks.map fun p => if p.1 = z then (p.1, v) else p).map (·.1) = ks.map (·.1) := by
        rw [List.map_map]
        refine List.map_congr_left fun p _ => ?_
        show (if p.1 = z then (p.1, v) else p).1 = p.1
        split <;> rfl
      rw [e]; exact nd
    · obtain ⟨p, hp, rfl⟩ := List.mem_map.mp hq
      by_cases e : p.1 = z
      · rw [if_pos e]; exact .inl ⟨e, rfl⟩
      · rw [if_neg e]; exact .inr hp
  · rw [if_neg h]
    refine ⟨?_, by rw [List.length_append]; exact Nat.le_refl _, fun q hq => ?_⟩
    · rw [List.map_append, List.nodup_append]
      refine ⟨nd, by simp, fun a ha b hb e => ?_⟩
      rw [e, List.mem_singleton.mp hb] at ha
      exact h ha
    · rcases List.mem_append.mp hq with m | m
      · exact .inr m
      · rw [List.mem_singleton.mp m]; exact .inl ⟨rfl, rfl⟩
theorem rd_same {H H' : Hp} {a : Addr} {o : HO} (h : L2.Rd H a o) (s : Same H H') : L2.Rd H' a o := by
  rcases h with e | ⟨u, e⟩
  · exact .inl (s _ _ e)
  · exact .inr ⟨u, s _ _ e⟩
theorem rd_ne {H : Hp} {a D : Addr} {o : HO} (h : L2.Rd H a o) (hD : H D = none) : D ≠ a := fun z => by
  rcases h with e | ⟨u, e⟩
  · rw [z, e] at hD; cases hD
  · rw [z, e] at hD; cases hD
theorem merge_own {ps : List (Str × Int)} (nd : (ps.map (·.1)).Nodup) : mergeK [] (dkI ps) = dkI ps := by
  have z := merge_dk (dkP ps) []
  rw [mrgS_out (dkP ps) [] (by rw [List.map_map]; exact nd) (fun _ _ m => by cases m)] at z
  exact z
theorem CwAt.names {CC : Addr} {H : Hp} {c : Addr} {ps : List (Str × Int)} (h : CwAt CC H c ps) : ∃ dx fs w, H c = some (.ins CC dx fs) ∧ fs.lookup ("workers" : Str) = some (.ref w) ∧ H w = some (.tup (ps.map fun q => V.str q.1)) := by
  obtain ⟨dx, wt, p, d, ts, mn, mx, sl, fa, hc, hw, _⟩ := h
  exact ⟨dx, _, wt, hc, crF_workers, hw⟩
theorem CwAt.dict {CC : Addr} {H : Hp} {c : Addr} {ps : List (Str × Int)} (h : CwAt CC H c ps) : ∃ dx fs d, H c = some (.ins CC dx fs) ∧ fs.lookup ("_speeds" : Str) = some (.ref d) ∧ L2.Rd H d (.dK (dkI ps)) := by
  obtain ⟨dx, wt, p, d, ts, mn, mx, sl, fa, hc, _, _, _, hd, _⟩ := h
  exact ⟨dx, _, d, hc, crF_speeds, hd⟩
section
variable {P : Program} {w : World} {K : PySem.W.Frag} {mg : Str → Option Value} {base : Heap}
theorem scCsu : FnScope ["self", "other", "name", "speed"] ["self", "other"] (C8.fnScope sCsu) := C8.fnScope_by (by decide +kernel)
theorem fn_csu {CC DN DS DC DM DW fI pO gO fW f : Addr} {fd fdO fdW : FuncData} (F : C8.Fun K "__sub__" "Crew.__sub__" sCsu f fd) (T : TxtC mg) (CM : CrM P w K mg base CC DN DS DC DM fI) (EW : Err1 "NoWorker" "name" P w K mg base DW fW fdW)
    (OF : OfC P w K mg base CC DN DS DC DM pO gO fdO) (MO : MetX P w K mg base 1 CC "__contains__" (spCco K CC)) : FnOk P w K mg base (L2.CX P w) 9 f fd ["self", "other"] (spCsu K CC DN DS DC DM DW) := by
  have Z := CM.Z
  obtain ⟨oc, od, dV, kV, doc, pm, an, cdv, ct, osl, rfl, lk, hcd⟩ := F.ex
  refine fn_of lk hcd scCsu (fun vs H Q E h => ?_) fun A outer s H vs Q E hr h => ?_
  · obtain ⟨c, ps, x, rfl, _⟩ := h
    rfl
  · obtain ⟨c, ps, x, rfl, g, a, k1, k2⟩ := h
    obtain ⟨dx, wt, p, d, ts, mn, mx, sl, fa, hc, hw, hp, pr, hd, _⟩ := id g.at_
    have tk : Takes (cxOf (L2.CX P w) P w K mg base ["self", "other", "name", "speed"] "Crew.__sub__" (C8.fnScope sCsu) f cdv A outer s H E) (fun cls d _ H' => E cls d H') := takes_of rfl rfl rfl rfl
    refine ⟨_, (pss_cons (ps_if (pt_cmpR (op_notInC (E := E) MO (passes_call (takes_of rfl rfl rfl rfl) (fun _ _ _ _ z => z)) hr (by decide)) (pv 1) (pv 0) (by rfl)) (pss_one (ps_bad1 (x := "NoWorker") rfl tk EW.T EW.iC EW.tI EW.F hr EW.b (by rfl) EW.hm (pv 1))) pss_nil)
  (pss_one (ps_ret (pe_static (pe_glob (v := .ref CC) (by rfl) CM.Z.hm rfl) OF.S OF.F (hr.mono (by decide)) OF.b .nil (passes_call (takes_of rfl rfl rfl rfl) (fun _ _ _ _ z => z)) (pa_cons (pe_dc (own := [("name", 2), ("speed", 3)]) (g := gTup K 2 (gCons (gName 2) (gCons (gName 3) (gNil)))) rfl scCsu.nd (pi_tup (pe_fld (pv 0) rfl)) (blkOk_by (own := [("name", 2), ("speed", 3)]) (N := ["self", "other", "name", "speed"]) (sc := (C8.fnScope sCsu)) (by decide +kernel)) (fun _ _ _ _ _ => (pg_tup rfl (pgs_cons (pg_name (i := 2) scCsu.nd rfl (Or.inl rfl)) (pgs_cons (pg_name (i := 3) scCsu.nd rfl (Or.inl rfl)) pgs_nil)))) (fun _ _ _ _ _ => pts_one (pt_cmpR op_ne (pv 2) (pv 1) (nomark _))) (fun _ _ _ _ _ => (pv 2)) (fun _ _ _ _ _ => (pv 3))) pa_nil))))), ?_⟩
    refine ⟨_, rfl, _, rfl, c, dx, _, rfl, hc, c, ps, x, rfl, g.at_, a, _, rfl, _, rfl, ?_⟩
    show if (!isWk ps x) = true then _ else _
    cases hb : isWk ps x with
    | false => exact iteT ⟨_, rfl, bad_leaf1 fun e fs hd e1 => k1 hb e fs H (Same.refl _) hd e1⟩
    | true =>
      obtain ⟨z, rfl, hz⟩ : ∃ z, x = .str z ∧ z ∈ ps.map (·.1) := by
        cases x with
        | str z => exact ⟨z, rfl, of_decide_eq_true hb⟩
        | _ => cases hb
      refine iteF ?_
      dsimp only [tNext, tSeq]
      have l8 := g.l8
      refine ⟨rfl, _, rfl, c, CC, dx, _, _, rfl, hc, Z.cl, Z.n7, crF_pairs, p, rfl, ⟨_, SqT.of hp⟩, fun D hD => dc_pairs walk_tup (fun q => decide (q.1 ≠ z)) (fun q => .int q.2) g.nd pr (fun xs => SqT.of ((same_new hD) _ _ hp)) hD (by omega) (fun q => rfl) (fun q xs R _ h => ?_) (fun q xs R _ _ h => ⟨_, rfl, h⟩) (fun q xs R _ _ h => ⟨_, rfl, h⟩) ?_⟩
      · have e : (!decide (V.str q.1 = V.str z)) = decide (q.1 ≠ z) := by
          by_cases e : q.1 = z
          · rw [decide_eq_true (congrArg V.str e), decide_eq_false (fun n => n e)]; rfl
          · rw [decide_eq_false (fun w => e (V.str.inj w)), decide_eq_true e]; rfl
        refine ⟨_, rfl, _, rfl, rfl, _, rfl, ?_⟩
        rw [e]
        exact h
      · have sub : ∀ q ∈ ps.filter (fun q => decide (q.1 ≠ z)), q ∈ ps := fun q hq => (List.mem_filter.mp hq).1
        refine ⟨_, rfl, .inr (.inl ⟨D, dkP (ps.filter fun q => decide (q.1 ≠ z)), rfl, upd_same, dn_few (g.nd.sublist (List.filter_sublist.map _)) (Nat.le_trans (List.length_filter_le _ _) (by omega)) (fun q hq => (g.ok q (sub q hq)).1), (k2 z rfl hz).of (same_new hD)⟩)⟩
theorem scCmu : FnScope ["self", "other", "name", "speed"] ["self", "other"] (C8.fnScope sCmu) := C8.fnScope_by (by decide +kernel)
theorem fn_cmu {CC DN DS DC DM fI pO gO fS f : Addr} {fd fdO fdS : FuncData} (F : C8.Fun K "__mul__" "Crew.__mul__" sCmu f fd) (T : TxtC mg) (CM : CrM P w K mg base CC DN DS DC DM fI) (ES : Err1 "BadSpeed" "value" P w K mg base DS fS fdS)
    (OF : OfC P w K mg base CC DN DS DC DM pO gO fdO) (DSp : C8.Cal P w K mg base 3 "is_speed" (spIsp K) []) : FnOk P w K mg base (L2.CX P w) 9 f fd ["self", "other"] (spCmu K CC DN DS DC DM) := by
  have Z := CM.Z
  obtain ⟨oc, od, dV, kV, doc, pm, an, cdv, ct, osl, rfl, lk, hcd⟩ := F.ex
  refine fn_of lk hcd scCmu (fun vs H Q E h => ?_) fun A outer s H vs Q E hr h => ?_
  · obtain ⟨c, ps, x, rfl, _⟩ := h
    rfl
  · obtain ⟨c, ps, x, rfl, g, a, k1, k2⟩ := h
    obtain ⟨dx, wt, p, d, ts, mn, mx, sl, fa, hc, hw, hp, pr, hd, _⟩ := id g.at_
    have tk : Takes (cxOf (L2.CX P w) P w K mg base ["self", "other", "name", "speed"] "Crew.__mul__" (C8.fnScope sCmu) f cdv A outer s H E) (fun cls d _ H' => E cls d H') := takes_of rfl rfl rfl rfl
    refine ⟨_, (pss_cons (ps_if (pt_not (pt_val (C8.pe_c DSp hr (by decide) (by rfl) (pa_cons (pv 1) pa_nil)))) (pss_one (ps_bad1 (x := "BadSpeed") rfl tk ES.T ES.iC ES.tI ES.F hr ES.b (by rfl) ES.hm (pv 1))) pss_nil)
  (pss_one (ps_ret (pe_static (pe_glob (v := .ref CC) (by rfl) CM.Z.hm rfl) OF.S OF.F (hr.mono (by decide)) OF.b .nil (passes_call (takes_of rfl rfl rfl rfl) (fun _ _ _ _ z => z)) (pa_cons (pe_dc (own := [("name", 2), ("speed", 3)]) (g := gTup K 2 (gCons (gName 2) (gCons (gName 3) (gNil)))) (tt := tYes) rfl scCmu.nd (pi_tup (pe_fld (pv 0) rfl)) (blkOk_by (own := [("name", 2), ("speed", 3)]) (N := ["self", "other", "name", "speed"]) (sc := (C8.fnScope sCmu)) (by decide +kernel)) (fun _ _ _ _ _ => (pg_tup rfl (pgs_cons (pg_name (i := 2) scCmu.nd rfl (Or.inl rfl)) (pgs_cons (pg_name (i := 3) scCmu.nd rfl (Or.inl rfl)) pgs_nil)))) (fun _ _ _ _ _ => pts_nil) (fun _ _ _ _ _ => (pv 2)) (fun _ _ _ _ _ => (pe_op op_mulW (pv 3) (pv 1)))) pa_nil))))), ?_⟩
    refine ⟨_, rfl, x, rfl, a, _, rfl, ?_⟩
    show if (!isSp x) = true then _ else _
    cases hb : isSp x with
    | false => exact iteT ⟨_, rfl, bad_leaf1 fun e fs hd e1 => k1 hb e fs H (Same.refl _) hd e1⟩
    | true =>
      obtain ⟨m, rfl, m1, m2⟩ := isSp_int hb
      refine iteF ?_
      dsimp only [tNext, tSeq]
      have l8 := g.l8
      refine ⟨rfl, _, rfl, c, CC, dx, _, _, rfl, hc, Z.cl, Z.n7, crF_pairs, p, rfl, ⟨_, SqT.of hp⟩, fun D hD => dc_pairs walk_tup (fun _ => true) (fun q => .int (q.2 * m)) g.nd pr (fun xs => SqT.of ((same_new hD) _ _ hp)) hD (by omega) (fun q => rfl) (fun q xs R _ h => h) (fun q xs R _ _ h => ⟨_, rfl, h⟩) (fun q xs R hq _ h => ⟨_, rfl, _, rfl, _, _, rfl, rfl, ?_, h⟩) ?_⟩
      · have o := g.ok q hq
        have h1 := Nat.log2_le_self q.2.natAbs
        have h2 := Nat.log2_le_self m.natAbs
        show q.2.natAbs.log2 + m.natAbs.log2 < 1000000
        have := o.2
        omega
      · rw [List.filter_eq_self.mpr fun _ _ => rfl]
        have e : (ps.map fun q => (q.1, V.int (q.2 * m))) = dkP (ps.map fun q => (q.1, q.2 * m)) := by unfold dkP; rw [List.map_map]; rfl
        rw [e]
        have nn : ((ps.map fun q => (q.1, q.2 * m)).map (·.1)) = ps.map (·.1) := by rw [List.map_map]; rfl
        refine ⟨_, rfl, .inr (.inl ⟨D, _, rfl, upd_same, dn_few (by rw [nn]; exact g.nd) (by rw [List.length_map]; omega) (fun q hq => ?_), (k2 m rfl m1 m2).of (same_new hD)⟩)⟩
        obtain ⟨r, hr, rfl⟩ := List.mem_map.mp hq
        exact (g.ok r hr).1
theorem scCad : FnScope ["self", "other", "name"] ["self", "other"] (C8.fnScope sCad) := C8.fnScope_by (by decide +kernel)
theorem fn_cad {CC DN DS DC DM fI pO gO fC f : Addr} {fd fdO fdC : FuncData} (F : C8.Fun K "__add__" "Crew.__add__" sCad f fd) (T : TxtC mg) (ha : mg "any" = none) (CM : CrM P w K mg base CC DN DS DC DM fI) (EC : Err1 "BadCrew" "part" P w K mg base DC fC fdC) (I : C8.InsC K CC)
    (OF : OfC P w K mg base CC DN DS DC DM pO gO fdO) (MO : MetX P w K mg base 1 CC "__contains__" (spCco K CC)) : FnOk P w K mg base (L2.CX P w) 9 f fd ["self", "other"] (spCad K CC DN DS DC DM) := by
  have Z := CM.Z
  obtain ⟨oc, od, dV, kV, doc, pm, an, cdv, ct, osl, rfl, lk, hcd⟩ := F.ex
  refine fn_of lk hcd scCad (fun vs H Q E h => ?_) fun A outer s H vs Q E hr h => ?_
  · obtain ⟨c, ps, x, rfl, _⟩ := h
    rfl
  · obtain ⟨c, ps, x, rfl, g, h⟩ := h
    obtain ⟨dx, wt, p, d, ts, mn, mx, sl, fa, hc, hw, hp, pr, hd, _⟩ := id g.at_
    have tk : Takes (cxOf (L2.CX P w) P w K mg base ["self", "other", "name"] "Crew.__add__" (C8.fnScope sCad) f cdv A outer s H E) (fun cls d _ H' => E cls d H') := takes_of rfl rfl rfl rfl
    refine ⟨_, (pss_cons (ps_if (pt_not (pt_val (pe_callB call_isz (by rfl) T.n_isinstance (by decide +kernel) (pa_cons (pv 1) (pa_cons (pe_glob (v := .ref CC) (by rfl) CM.Z.hm rfl) pa_nil))))) (pss_one (ps_bad1 (x := "BadCrew") rfl tk EC.T EC.iC EC.tI EC.F hr EC.b (by rfl) EC.hm pe_str)) pss_nil)
  (pss_cons (ps_if (pt_val (pe_callB (cr_any rfl) (by rfl) ha (by decide +kernel) (pa_cons (pe_lc (own := [("name", 2)]) (g := gName 2) (tt := tYes) rfl scCad.nd (pi_tup (pe_fld (pv 0) rfl)) (blkOk_by (own := [("name", 2)]) (N := ["self", "other", "name"]) (sc := (C8.fnScope sCad)) (by decide +kernel)) (fun _ _ _ _ _ => (pg_name (i := 2) scCad.nd rfl (Or.inl rfl))) (fun _ _ _ _ _ => pts_nil) (fun _ _ _ _ _ => (pe_cmpR (op_inC (E := C8.E0) MO (passes_call takes0 (fun _ _ _ _ z => z)) hr (by decide)) (pv 2) (pv 1) (by rfl)))) pa_nil))) (pss_one (ps_bad1 (x := "BadCrew") rfl tk EC.T EC.iC EC.tI EC.F hr EC.b (by rfl) EC.hm pe_str)) pss_nil)
  (pss_one (ps_ret (pe_static (pe_glob (v := .ref CC) (by rfl) CM.Z.hm rfl) OF.S OF.F (hr.mono (by decide)) OF.b .nil (passes_call (takes_of rfl rfl rfl rfl) (fun _ _ _ _ z => z)) (pa_cons (pe_dstar2 (pe_fld (pv 0) rfl) (pe_fld (pv 1) rfl)) pa_nil)))))), ?_⟩
    rcases h with ⟨t, ty, kt, go⟩ | ⟨b, qs, rfl, g2, k1, k2⟩
    · exact ⟨_, rfl, _, .ref CC, t, .ref CC, false, rfl, .own CC, ty, kt, _, rfl, iteT (bad_leaf1 fun e fs hd e1 => go e fs H (Same.refl _) hd e1)⟩
    obtain ⟨dxb, wb, pb, db, tsb, mnb, mxb, slb, fab, hcb, _⟩ := id g2.at_
    have ty : TyZ K H (.ref b) (.ref CC) := .x (.base (.ins hcb I.cl I.ha I.hn I.htk I.hm))
    refine ⟨_, rfl, _, .ref CC, .ref CC, .ref CC, true, rfl, .own CC, ty, I.me, _, rfl, iteF ?_⟩
    dsimp only [tNext, tSeq]
    have l8 := g.l8
    refine ⟨_, rfl, c, CC, dx, _, _, rfl, hc, Z.cl, Z.n1, crF_workers, wt, rfl, ⟨_, SqT.of hw⟩, fun D hD => lc_it walk_tup (fun i H' => H' = upd H D (.lst ((ps.take i).map fun q => V.bl (decide (q.1 ∈ qs.map (·.1)))))) rfl (fun i H' _ e => by rw [e]; exact SqT.of ((same_new hD) _ _ hw)) ?_ ?_⟩
    · rintro i x H' H'' hi e ⟨rfl, hx⟩
      rw [List.getElem?_map] at hx
      obtain ⟨q, hq, rfl⟩ := Option.map_eq_some_iff.mp hx
      have s9 : Same H H'' := by rw [e]; exact same_new hD
      refine ⟨rfl, ?_⟩
      dsimp only [tYes]
      rw [if_pos rfl]
      refine ⟨_, rfl, _, rfl, b, dxb, _, rfl, s9 _ _ hcb, b, qs, _, rfl, g2.at_.same s9, .str _, _, rfl, _, by rw [e]; exact upd_same, ?_, ?_⟩
      · rw [List.length_map]
        exact Nat.lt_of_le_of_lt (Nat.le_trans (List.length_take_le' _ _) (show ps.length ≤ 5000 by omega)) (by decide)
      · rw [e, upd_upd, List.take_add_one, hq, List.map_append]; rfl
    · rintro H1 e
      rw [List.length_map, List.take_of_length_le (Nat.le_refl _)] at e
      have s1 : Same H H1 := by rw [e]; exact same_new hD
      have hD1 : H1 D = some (.lst ((ps.map fun q => decide (q.1 ∈ qs.map (·.1))).map V.bl)) := by rw [e, upd_same, List.map_map]; rfl
      refine ⟨D, _, rfl, SqL.of hD1, _, rfl, ?_⟩
      by_cases tw : ∃ q ∈ ps, q.1 ∈ qs.map (·.1)
      · have any1 : ((ps.map fun q => decide (q.1 ∈ qs.map (·.1))).any id) = true := by
          obtain ⟨q, hq, hm⟩ := tw
          rw [List.any_eq_true]
          exact ⟨_, List.mem_map_of_mem hq, decide_eq_true hm⟩
        exact iteT' any1 (bad_leaf1 fun e fs hd e1 => k1 tw e fs H1 s1 hd e1)
      · have any0 : ((ps.map fun q => decide (q.1 ∈ qs.map (·.1))).any id) = false := by
          rw [List.any_eq_false]
          intro z hz
          obtain ⟨q, hq, rfl⟩ := List.mem_map.mp hz
          exact fun e => tw ⟨q, hq, of_decide_eq_true e⟩
        have no : ∀ q ∈ ps, q.1 ∉ qs.map (·.1) := fun q hq m => tw ⟨q, hq, m⟩
        refine iteF' any0 ?_
        dsimp only [tNext, tSeq]
        have g1' := g.at_.same s1
        have g2' := g2.at_.same s1
        refine ⟨rfl, fun R hR => ?_⟩
        have sR := same_new (o := HO.dK []) hR
        obtain ⟨dx1, fs1, d1, hc1, lk1, hd1⟩ := g1'.dict
        refine ⟨_, rfl, c, CC, dx1, _, _, rfl, sR _ _ hc1, Z.cl, Z.n8, lk1, upd_same, d1, dkI ps, rfl, rd_ne hd1 hR, rd_same hd1 sR, by rw [List.length_map, List.length_map]; omega, ?_⟩
        rw [merge_own g.nd, upd_upd]
        have sR2 := same_new (o := HO.dK (dkI ps)) hR
        obtain ⟨dx2, fs2, d2, hc2, lk2, hd2⟩ := g2'.dict
        have l82 := g2.l8
        refine ⟨_, rfl, b, CC, dx2, _, _, rfl, sR2 _ _ hc2, Z.cl, Z.n8, lk2, upd_same, d2, dkI qs, rfl, rd_ne hd2 hR, rd_same hd2 sR2, by rw [List.length_map, List.length_map]; omega, ?_⟩
        have em : mergeK (dkI ps) (dkI qs) = dkOf (dkP (ps ++ qs)) := by
          have z := merge_dk (dkP qs) (dkP ps)
          rw [mrgS_out (dkP qs) (dkP ps) (by rw [List.map_map]; exact g2.nd) (fun q hq m => by
            obtain ⟨q1, h1, rfl⟩ := List.mem_map.mp hq
            obtain ⟨q2, h2, e2⟩ := List.mem_map.mp m
            obtain ⟨q3, h3, rfl⟩ := List.mem_map.mp h2
            have e2 : q3.1 = q1.1 := e2
            exact no q3 h3 (by rw [e2]; exact List.mem_map_of_mem h1))] at z
          rw [z]
          unfold dkP
          rw [List.map_append]
        rw [em, upd_upd]
        refine ⟨_, rfl, .inr (.inl ⟨R, dkP (ps ++ qs), rfl, upd_same, dn_few ?_ (by rw [List.length_append]; omega) (fun q hq => ?_), ((k2 no).of s1).of (same_new hR)⟩)⟩
        · rw [List.map_append, List.nodup_append]
          refine ⟨g.nd, g2.nd, fun a ha b hb e => ?_⟩
          obtain ⟨q, hq, rfl⟩ := List.mem_map.mp ha
          exact no q hq (by rw [e]; exact hb)
        · rcases List.mem_append.mp hq with m | m
          · exact (g.ok q m).1
          · exact (g2.ok q m).1
theorem scCws : FnScope ["self", "name", "speed"] ["self", "name", "speed"] (C8.fnScope sCws) := C8.fnScope_by (by decide +kernel)
theorem fn_cws {CC DN DS DC DM fI pO gO fN f : Addr} {fd fdO fdN : FuncData} (F : C8.Fun K "with_speed" "Crew.with_speed" sCws f fd) (T : TxtC mg) (CM : CrM P w K mg base CC DN DS DC DM fI) (EN : Err1 "BadName" "value" P w K mg base DN fN fdN)
    (OF : OfC P w K mg base CC DN DS DC DM pO gO fdO) (DNm : C8.Cal P w K mg base 1 "is_name" (spName K) []) : FnOk P w K mg base (L2.CX P w) 9 f fd ["self", "name", "speed"] (spCws K CC DN DS DC DM) := by
  have Z := CM.Z
  obtain ⟨oc, od, dV, kV, doc, pm, an, cdv, ct, osl, rfl, lk, hcd⟩ := F.ex
  refine fn_of lk hcd scCws (fun vs H Q E h => ?_) fun A outer s H vs Q E hr h => ?_
  · obtain ⟨c, ps, x, v, rfl, _⟩ := h
    rfl
  · obtain ⟨c, ps, x, v, rfl, g, a, lx, av, k1, k2⟩ := h
    obtain ⟨dx, wt, p, d, ts, mn, mx, sl, fa, hc, hw, hp, pr, hd, _⟩ := id g.at_
    have tk : Takes (cxOf (L2.CX P w) P w K mg base ["self", "name", "speed"] "Crew.with_speed" (C8.fnScope sCws) f cdv A outer s H E) (fun cls d _ H' => E cls d H') := takes_of rfl rfl rfl rfl
    refine ⟨_, (pss_cons (ps_if (pt_not (pt_val (C8.pe_c DNm hr (by decide) (by rfl) (pa_cons (pv 1) pa_nil)))) (pss_one (ps_bad1 (x := "BadName") rfl tk EN.T EN.iC EN.tI EN.F hr EN.b (by rfl) EN.hm (pv 1))) pss_nil)
  (pss_one (ps_ret (pe_static (pe_glob (v := .ref CC) (by rfl) CM.Z.hm rfl) OF.S OF.F (hr.mono (by decide)) OF.b .nil (passes_call (takes_of rfl rfl rfl rfl) (fun _ _ _ _ z => z)) (pa_cons (pe_dstarK (pe_fld (pv 0) rfl) (pv 1) (pv 2)) pa_nil))))), ?_⟩
    refine ⟨_, rfl, x, rfl, a, lx, fun H1 s1 => ⟨_, rfl, ?_⟩⟩
    show if (!nameB x) = true then _ else _
    cases hb : nameB x with
    | false => exact iteT ⟨_, rfl, bad_leaf1 fun e fs hd e1 => k1 hb e fs H1 s1 hd e1⟩
    | true =>
      obtain ⟨z, rfl, hz⟩ : ∃ z, x = .str z ∧ nameT z = true := by
        cases x with
        | str z => exact ⟨z, rfl, hb⟩
        | _ => cases hb
      refine iteF ?_
      dsimp only [tNext, tSeq]
      have l8 := g.l8
      refine ⟨rfl, fun R hR => ?_⟩
      have sR := same_new (o := HO.dK []) hR
      obtain ⟨dx1, fs1, d1, hc1, lk1, hd1⟩ := (g.at_.same s1).dict
      refine ⟨_, rfl, c, CC, dx1, _, _, rfl, sR _ _ hc1, Z.cl, Z.n8, lk1, upd_same, d1, dkI ps, rfl, rd_ne hd1 hR, rd_same hd1 sR, by rw [List.length_map, List.length_map]; omega, fun S hS SR => ?_⟩
      rw [merge_own g.nd, upd_upd]
      have sR2 := same_new (o := HO.dK (dkI ps)) hR
      have fS : upd H1 R (.dK (dkI ps)) S = none := by rw [upd_ne SR] at hS ⊢; exact hS
      have sS := same_new (o := HO.dK []) fS
      refine ⟨_, rfl, _, rfl, upd_same, sS _ _ upd_same, Sum.inr z, rfl, ?_⟩
      have em : putK (dkI ps) (Sum.inr z : L2.Key) v = dkOf (mrgS (dkP ps) [(z, v)]) := merge_dk [(z, v)] (dkP ps)
      obtain ⟨nd1, ln1, sub1⟩ := mrgS_one (ks := dkP ps) (z := z) (v := v) (by rw [List.map_map]; exact g.nd)
      rw [List.length_map] at ln1
      rw [em]
      have sAll : Same H1 (upd (upd (upd (upd H1 R (.dK (dkI ps))) S (.dK [])) S (.dK [(Sum.inr z, v)])) R (.dK (dkOf (mrgS (dkP ps) [(z, v)])))) := by
        refine fun b o e => ?_
        have bR : b ≠ R := ne_of_none e hR
        have bS : b ≠ S := fun w => by rw [upd_ne SR] at fS; rw [w, fS] at e; cases e
        rw [upd_ne bR, upd_ne bS, upd_ne bS, upd_ne bR]
        exact e
      refine ⟨_, rfl, .inr (.inl ⟨R, mrgS (dkP ps) [(z, v)], rfl, upd_same, ⟨nd1, by omega, fun p hp => ?_⟩, (((k2 z rfl hz).of s1).of sAll)⟩)⟩
      rcases sub1 p hp with ⟨e1, e2⟩ | m
      · rw [e1, e2]
        exact ⟨Lw.Anyv.same (s1.trans sAll) av, lx z rfl⟩
      · have z2 := (dn_few (K := K) (H := H) g.nd (by omega) fun q hq => (g.ok q hq).1).2.2 p m
        exact ⟨Lw.Anyv.same (s1.trans sAll) z2.1, z2.2⟩
end
end Lw
namespace Lw
open PySem PySem.Spec PyProof.Rows L2
end Lw
namespace Lw.Sp
open PySem PySem.Spec PyProof.Rows PySem.W L2
section
variable {prog : Program} {w : World} {A : Around} {E : Value → Shared → Prop} {s : Shared}
/-- a tuple of ints and texts -/
abbrev Mt (prog : Program) (w : World) (h : Heap) (k : List Key) (a : Addr) : Prop := IsTupleKey (mixKind prog w) h k a
abbrev mhash (prog : Program) (w : World) (k : List Key) : Int := tupleKeyHash (mixKind prog w) k
inductive Small : Value → Prop
  | int (i : Int) (t : Tok) : Small (.int i t)
  | str (x : Str) (t : Tok) : Small (.str x t)
theorem small_items : ∀ {k : List Key} {vs : List Value}, ItemsAre (mixKind prog w) k vs → ∀ v ∈ vs, Small v
  | _, _, .nil, v, m => by cases m
  | _, _, .cons q r, v, m => by
    rcases List.mem_cons.mp m with rfl | m
    · rcases keyIs_shape q with ⟨i, t, _, rfl⟩ | ⟨x, t, _, rfl⟩
      · exact .int i t
      · exact .str x t
    · exact small_items r v m
theorem Small.noClass {v : Value} (h : Small v) (n : Nat) : ofAClassStatement n v = pure false := by
  cases h <;> cases n <;> rfl
/-- no part of such a tuple is of a class statement -/
theorem mt_noClass {k : List Key} {b : Addr} {Q : Bool → Shared → Prop} (m : Mt prog w s.heap k b) (q : Q false s) : wpAny (model prog w) A (ofAClassStatement 8 (.ref b)) Q E s := by
  have ty := m.typeIs
  obtain ⟨ob, its, n, e1, _, e3, e4⟩ := m
  unfold ofAClassStatement
  refine wpAny_bind (wpAny_typeOf ty ?_)
  dsimp only
  rw [if_pos (show (("tuple" : String) == "tuple") = true by decide)]
  refine wpAny_bind (wpAny_pure ?_)
  rw [if_neg (show ¬ (!true) = true by decide)]
  refine wpAny_bind (wpAny_seqItems e1 e3 ?_)
  dsimp only
  rw [← Array.forIn_toList]
  refine wpAny_bind (wpAny_forIn_list _ (fun rest acc s' => s' = s ∧ acc = (none, PUnit.unit) ∧ ∀ v ∈ rest, Small v) _ ?_ ?_ _ _ ⟨rfl, rfl, small_items e4⟩)
  · rintro v rest acc s' ⟨rfl, rfl, sm⟩
    rw [(sm v List.mem_cons_self).noClass]
    refine wpAny_bind (wpAny_pure ?_)
    rw [if_neg Bool.false_ne_true]
    exact wpAny_pure ⟨rfl, rfl, fun u hu => sm u (List.mem_cons_of_mem _ hu)⟩
  · rintro acc s' ⟨rfl, rfl, _⟩
    exact wpAny_pure q
theorem Small.byVal {v : Value} (h : Small v) (n : Nat) : ∃ b, hashByValue n v = pure b := by
  cases h <;> cases n <;> exact ⟨_, rfl⟩
/-- whether its hash is the same in every run: asked, with some answer -/
theorem mt_byVal {k : List Key} {b : Addr} {Q : Bool → Shared → Prop} (m : Mt prog w s.heap k b) (q : ∀ r, Q r s) : wpAny (model prog w) A (hashByValue 8 (.ref b)) Q E s := by
  have ty := m.typeIs
  obtain ⟨ob, its, n, e1, _, e3, e4⟩ := m
  unfold hashByValue
  refine wpAny_bind (wpAny_specialOf ty PySem.F.slot_tuple_hash.lookup ?_)
  dsimp only
  refine wpAny_bind (wpAny_seqItems e1 e3 ?_)
  refine wpAny_bind ?_
  show wpAny _ _ (forIn its _ _) _ _ s
  rw [← Array.forIn_toList]
  refine wpAny_forIn_list _ (fun rest acc s' => s' = s ∧ ∀ v ∈ rest, Small v) _ ?_ ?_ _ _ ⟨rfl, small_items e4⟩
  · rintro v rest acc s' ⟨rfl, sm⟩
    obtain ⟨r, er⟩ := (sm v List.mem_cons_self).byVal 7
    rw [er]
    refine wpAny_bind (wpAny_pure ?_)
    split
    · refine wpAny_pure ?_
      exact wpAny_pure (q false)
    · exact wpAny_pure ⟨rfl, fun u hu => sm u (List.mem_cons_of_mem _ hu)⟩
  · rintro ⟨r, _⟩ s' ⟨rfl, _⟩
    cases r with
    | none => exact wpAny_pure (q true)
    | some r => exact wpAny_pure (q r)
/-- a search among such tuples shows nothing -/
theorem mt_unseen {k : List Key} {b : Addr} {Q : Bool → Shared → Prop} (m : Mt prog w s.heap k b) {ys : List Value} (all : ∀ y ∈ ys, ∃ k' c, y = Value.ref c ∧ Mt prog w s.heap k' c) (q : Q false s) : wpAny (model prog w) A (searchCouldBeSeen (.ref b) ys) Q E s := by
  unfold searchCouldBeSeen
  refine wpAny_bind (wpAny_forIn_list _ (fun rest acc s' => s' = s ∧ acc = (none, PUnit.unit) ∧ ∀ y ∈ rest, ∃ k' c, y = Value.ref c ∧ Mt prog w s.heap k' c) _ ?_ ?_ _ _ ⟨rfl, rfl, all⟩)
  · rintro v rest acc s' ⟨rfl, rfl, sm⟩
    obtain ⟨k', c, rfl, mc⟩ := sm v List.mem_cons_self
    have go : ∀ y ∈ rest, ∃ k' c, y = Value.ref c ∧ Mt prog w s'.heap k' c := fun u hu => sm u (List.mem_cons_of_mem _ hu)
    dsimp only
    split
    · exact wpAny_pure ⟨rfl, rfl, go⟩
    · refine wpAny_bind (wpAny_eqIsQuiet_tuple m ?_)
      rw [if_neg (show ¬ (!true) = true by decide)]
      refine wpAny_bind (wpAny_eqIsQuiet_tuple mc ?_)
      rw [if_neg (show ¬ (!true) = true by decide)]
      refine wpAny_bind (mt_noClass m ?_)
      rw [if_neg Bool.false_ne_true]
      refine wpAny_bind (mt_noClass mc ?_)
      rw [if_neg Bool.false_ne_true]
      exact wpAny_pure ⟨rfl, rfl, go⟩
  · rintro acc s' ⟨rfl, rfl, _⟩
    exact wpAny_pure q
/-! ### a set of such tuples -/
structure SetM (prog : Program) (w : World) (h : Heap) (a : Addr) (L : List (Addr × List Key)) (es : Array (Int × Value)) (ep : Nat) (t : SetTable) : Prop where
  here : ∃ o, h.get? a = some o ∧ o.ExactSet ∧ o.data = .set es ep t
  rows : es.toList = L.map fun p => (mhash prog w p.2, Value.ref p.1)
  tab : TabOk t (L.map fun p => mhash prog w p.2)
  once : (L.map (·.2)).Nodup
  each : ∀ p ∈ L, Mt prog w h p.2 p.1
  room : L.length * 5 < t.mask * 3
  few : L.length ≤ 20
/-- the c-th step of the way of a hash -/
abbrev stepP (t : SetTable) (hh : Int) (c : Nat) : SetTable.Probe := nth t.mask (runAt t.mask (SetTable.bits hh % (t.mask + 1)) (SetTable.bits hh)) c
theorem nth_plain (m : Nat) : ∀ (n : Nat) (p : SetTable.Probe), p.dummy = none → (nth m p n).dummy = none
  | 0, _, h => h
  | n + 1, p, h => nth_plain m n (adv m p) (by unfold adv; split <;> exact h)
variable {a x : Addr} {L : List (Addr × List Key)} {es : Array (Int × Value)} {ep : Nat} {t : SetTable} {k : List Key}
theorem SetM.size (R : SetM prog w s.heap a L es ep t) : es.size = L.length := by
  have e := congrArg List.length R.rows
  rwa [Array.length_toList, List.length_map] at e
theorem SetM.ok (R : SetM prog w s.heap a L es ep t) : t.fits es.size = true := by
  have e1 := R.tab.sz
  have e2 := R.size
  have e3 := R.room
  rw [List.length_map] at e1
  unfold SetTable.fits SetTable.fill
  rw [R.tab.dm, e1, e2, beq_self_eq_true, Bool.true_and]
  exact decide_eq_true (by show L.length + 0 ≤ t.mask; omega)
theorem SetM.row (R : SetM prog w s.heap a L es ep t) {i : Nat} {p : Addr × List Key} (h : L[i]? = some p) : es[i]? = some (mhash prog w p.2, Value.ref p.1) := by
  have e : es.toList[i]? = some (mhash prog w p.2, Value.ref p.1) := by rw [R.rows, List.getElem?_map, h]; rfl
  rwa [Array.getElem?_toList] at e
theorem SetM.sound (R : SetM prog w s.heap a L es ep t) : ¬ t.gaveWay = true := by
  unfold SetTable.gaveWay
  rcases R.tab.mok with e | e | e <;> rw [e] <;> decide
theorem seek (R : SetM prog w s.heap a L es ep t) (mx : Mt prog w s.heap k x) (hu : A.units < cLine) {K : Nat} (lim : K < 10 * SetTable.turns t.mask) (far : way t.mask (mhash prog w k) K ∉ t.place.toList) (near : ∀ c, c < K → way t.mask (mhash prog w k) c ∈ t.place.toList) {Q : SetFound → Shared → Prop}
    (yes : k ∈ L.map (·.2) → Q (.there none) s) (no : k ∉ L.map (·.2) → Q (.free (way t.mask (mhash prog w k) K) false) s) : ∀ (f c : Nat) (st : Option SetTable.Probe), st.getD (t.probeStart (mhash prog w k)) = stepP t (mhash prog w k) c → c ≤ K → K < c + f →
      (∀ (i : Nat) p, L[i]? = some p → p.2 = k → ∃ d, c ≤ d ∧ d < K ∧ t.place.toList[i]? = some (way t.mask (mhash prog w k) d)) → wpAny (model prog w) A (setSearchFrom a (.ref x) (mhash prog w k) true f st) Q E s
  | 0, c, st, _, h1, h2, _ => absurd h2 (by omega)
  | f + 1, c, st, est, h1, h2, ahead => by
    obtain ⟨o, ho, hex, hd⟩ := R.here
    obtain ⟨hh, eh⟩ : ∃ hh, hh = mhash prog w k := ⟨_, rfl⟩
    rw [setSearchFrom_succ]
    refine wpAny_bind (wpAny_setState_of ho hd R.ok ?_)
    dsimp only
    rw [if_neg R.sound]
    have go : ∀ q, nth t.mask (stepP t hh c) q = stepP t hh (c + q) := fun q => (nth_add t.mask c _ q).symm
    have spec := go_spec t R.tab.ris R.tab.dm (fun i => (es[i]?.map (·.1)).getD 0) hh (10 * SetTable.turns t.mask) (K - c) (stepP t hh c) (nth_plain _ _ _ rfl) (by omega)
      (fun q hq => by rw [go, eh]; exact near (c + q) (by omega)) (by rw [go, eh, Nat.add_sub_cancel' h1]; exact far)
    have lens : t.place.toList.length = L.length := by
      have e := R.tab.sz
      rw [List.length_map] at e
      rw [Array.length_toList, e]
    rw [← eh] at est ⊢
    have hash_of : ∀ {i : Nat} {p : Addr × List Key}, L[i]? = some p → (es[i]?.map (·.1)).getD 0 = mhash prog w p.2 := fun {i p} e => by rw [R.row e]; rfl
    rcases spec with ⟨q, i, q1, q2, q3, q4, pe⟩ | ⟨q4, pe⟩
    · have pe2 : t.probe (fun i => (es[i]?.map (·.1)).getD 0) hh (st.getD (t.probeStart hh)) = some (.candidate (way t.mask hh (c + q)) i (stepP t hh (c + q + 1))) := by
        rw [est]
        refine pe.trans ?_
        rw [go, go]; rfl
      rw [go] at q2
      have il : i < L.length := by rw [← lens]; exact (List.getElem?_eq_some_iff.mp q2).1
      obtain ⟨p, hp⟩ : ∃ p, L[i]? = some p := ⟨_, List.getElem?_eq_getElem il⟩
      have pm := List.mem_of_getElem? hp
      have mp := R.each p pm
      have onward : wpAny (model prog w) A (searchRest a (.ref x) hh true f es t (way t.mask hh (c + q)) i (stepP t hh (c + q + 1))) Q E s := by
        unfold searchRest
        rw [R.row hp]
        refine wpAny_bind (wpAny_holding (wpAny_eqBool_tuple hu mp mx ?_))
        refine wpAny_bind (wpAny_setState_of ho hd R.ok ?_)
        dsimp only
        by_cases same : p.2 = k
        · rw [if_pos (by rw [decide_eq_true same]; rfl)]
          exact wpAny_pure (yes (List.mem_map.mpr ⟨p, pm, same⟩))
        · rw [if_neg (by rw [decide_eq_false same]; decide), sameMem]
          have sl : t.slot (way t.mask hh (c + q)) = .live i := slot_live R.tab.ris q2
          dsimp only
          rw [if_pos rfl, sl]
          dsimp only
          rw [R.row hp]
          dsimp only
          refine wpAny_bind (wpAny_isSame_ref_self (wpAny_bind (wpAny_pure ?_)))
          rw [if_pos rfl]
          dsimp only
          rw [if_neg (by rw [decide_eq_false same]; decide)]
          have again := seek R mx hu lim far near yes no f (c + q + 1) (some (stepP t hh (c + q + 1))) (by rw [← eh]; rfl) (by omega) (by omega) fun j r hr er => ?_
          · rw [← eh] at again
            exact again
          · obtain ⟨d, d1, d2, d3⟩ := ahead j r hr er
            refine ⟨d, ?_, d2, d3⟩
            rcases Nat.lt_trichotomy d (c + q) with lt | eq | gt
            · refine absurd ((hash_of hr).trans (by rw [er, eh])) (q4 (d - c) j (by omega) ?_)
              rw [go, Nat.add_sub_cancel' d1, eh]
              exact d3
            · rw [eq, ← eh] at d3
              have sl2 := slot_live R.tab.ris d3
              rw [sl] at sl2
              have ij : i = j := SetTable.Slot.live.inj sl2
              rw [← ij, hp] at hr
              exact absurd (by rw [Option.some.inj hr]; exact er) same
            · omega
      rw [pe2]
      dsimp only
      split
      · refine wpAny_bind (mt_unseen mx (fun y hy => ?_) ?_)
        · obtain ⟨e, he, rfl⟩ := List.mem_map.mp hy
          have he := (Array.mem_filter.mp (Array.mem_toList_iff.mp he)).1
          have he := Array.mem_toList_iff.mpr he
          rw [R.rows] at he
          obtain ⟨r, hr, rfl⟩ := List.mem_map.mp he
          exact ⟨r.2, r.1, rfl, R.each r hr⟩
        · rw [if_neg Bool.false_ne_true]
          exact onward
      · exact onward
    · have pe2 : t.probe (fun i => (es[i]?.map (·.1)).getD 0) hh (st.getD (t.probeStart hh)) = some (.empty (way t.mask hh K) none) := by
        rw [est]
        refine pe.trans ?_
        rw [go, Nat.add_sub_cancel' h1]
      rw [pe2]
      dsimp only
      rw [eh]
      refine wpAny_pure (no fun mem => ?_)
      obtain ⟨p, pm, ep⟩ := List.mem_map.mp mem
      obtain ⟨i, hi⟩ := List.mem_iff_getElem?.mp pm
      obtain ⟨d, d1, d2, d3⟩ := ahead i p hi ep
      refine absurd ((hash_of hi).trans (by rw [ep, eh])) (q4 (d - c) i (by omega) ?_)
      rw [go, Nat.add_sub_cancel' d1, eh]
      exact d3
/-- the first step of a way that is empty, and the search along it -/
theorem seek_new (R : SetM prog w s.heap a L es ep t) (mx : Mt prog w s.heap k x) (hu : A.units < cLine) {Q : SetFound → Shared → Prop} (yes : k ∈ L.map (·.2) → Q (.there none) s)
    (no : ∀ K, k ∉ L.map (·.2) → way t.mask (mhash prog w k) K ∉ t.place.toList → (∀ c, c < K → way t.mask (mhash prog w k) c ∈ t.place.toList) → Q (.free (way t.mask (mhash prog w k) K) false) s) : wpAny (model prog w) A (setSearch a (.ref x) (mhash prog w k) true) Q E s := by
  have rm := R.room
  obtain ⟨K, lim, far, near⟩ := R.tab.first (by rw [List.length_map]; omega) (mhash prog w k)
  have few : 10 * SetTable.turns t.mask < 100000 := by
    unfold SetTable.turns
    rcases R.tab.mok with e | e | e <;> rw [e] <;> decide
  unfold setSearch
  refine seek R mx hu lim far near yes (fun n => no K n far near) 100000 0 none rfl (Nat.zero_le _) (by omega) fun i p hi ek => ?_
  have sz := R.tab.sz
  rw [List.length_map] at sz
  have il : i < t.place.toList.length := by rw [Array.length_toList, sz]; exact (List.getElem?_eq_some_iff.mp hi).1
  obtain ⟨j, hj⟩ : ∃ j, t.place.toList[i]? = some j := ⟨_, List.getElem?_eq_getElem il⟩
  obtain ⟨d, d1, d2⟩ := R.tab.before far (i := i) (h := mhash prog w k) (by rw [List.getElem?_map, hi, ← ek]; rfl) hj
  exact ⟨d, Nat.zero_le _, d1, by rw [hj, d2]⟩
theorem pick_all {α : Type} : ∀ L : List α, (List.range L.length).filterMap (fun i => L[i]?) = L
  | [] => rfl
  | y :: r => by
    rw [List.length_cons, List.range_succ_eq_map, List.filterMap_cons, List.filterMap_map]
    exact congrArg (List.cons y) (pick_all r)
/-- rows laid in another order -/
theorem reorder {α : Type} (f : α → Int × Value) (L : List α) (es : Array (Int × Value)) (order : Array Nat) (hr : es.toList = L.map f) (hp : order.toList.Perm (List.range L.length)) :
    ∃ L2 : List α, L2.Perm L ∧ (order.filterMap (es[·]?)).toList = L2.map f ∧ (order.toList.map fun i => (es.map (·.1)).getD i 0) = L2.map fun p => (f p).1 := by
  have at_ : ∀ i, es[i]? = (L[i]?).map f := fun i => by rw [← Array.getElem?_toList, hr, List.getElem?_map]
  refine ⟨order.toList.filterMap fun i => L[i]?, ?_, ?_, ?_⟩
  · have z := hp.filterMap fun i => L[i]?
    rwa [pick_all] at z
  · rw [Array.toList_filterMap, List.map_filterMap]
    exact congrArg (fun g => List.filterMap g order.toList) (funext at_)
  · have within : ∀ i ∈ order.toList, i < L.length := fun i hi => List.mem_range.mp (hp.subset hi)
    generalize order.toList = l at within
    induction l with
    | nil => rfl
    | cons i r ih =>
      obtain ⟨p, ep⟩ : ∃ p, L[i]? = some p := ⟨_, List.getElem?_eq_getElem (within i List.mem_cons_self)⟩
      rw [List.map_cons, List.filterMap_cons, ep, List.map_cons, ih fun j hj => within j (List.mem_cons_of_mem _ hj)]
      refine congrArg (· :: _) ?_
      have e : (es.map (·.1))[i]? = some (f p).1 := by rw [Array.getElem?_map, at_, ep]; rfl
      rw [Array.getD_eq_getD_getElem?, e]; rfl
theorem mt_beside {h h' : Heap} {b : Addr} {o : Obj} (m : Mt prog w h k b) (ho : h.get? a = some o) (hd : o.data = .set es ep t) (sb : Heap.SameBut a h h') : Mt prog w h' k b := by
  obtain ⟨ob, its, n, e1, e2, e3, e4⟩ := m
  have ba : b ≠ a := fun z => by
    rw [z, ho] at e1
    cases e1
    rw [hd] at e3
    cases e3
  exact ⟨ob, its, n, (sb.2 b ba).trans e1, e2, e3, e4⟩
/-- a table that is full is laid anew -/
theorem anew {o : Obj} {M wanted : Nat} (ho : s.heap.get? a = some o) (hex : o.ExactSet) (hd : o.data = .set es ep t) (rows : es.toList = L.map fun p => (mhash prog w p.2, Value.ref p.1)) (tab : TabOk t (L.map fun p => mhash prog w p.2)) (fits : L.length ≤ t.mask) (once : (L.map (·.2)).Nodup) (each : ∀ p ∈ L, Mt prog w s.heap p.2 p.1) (few : L.length ≤ 20)
    (hw : SetTable.sizeAbove wanted = M + 1) (hM : MaskOk M) (room : L.length * 5 < M * 3) {Q : Unit → Shared → Prop} (q : ∀ h' L' es' ep' t', Heap.SameBut a s.heap h' → SetM prog w h' a L' es' ep' t' → L'.Perm L → Q () { s with heap := h' }) : wpAny (model prog w) A (setRelay a wanted) Q E s := by
  have sz : es.size = L.length := by
    have e := congrArg List.length rows
    rwa [Array.length_toList, List.length_map] at e
  have psz := tab.sz
  rw [List.length_map] at psz
  have ok : t.fits es.size = true := by
    unfold SetTable.fits SetTable.fill
    rw [tab.dm, psz, sz, beq_self_eq_true, Bool.true_and]
    exact decide_eq_true fits
  have M128 : M + 1 ≤ 128 := by rcases hM with e | e | e <;> omega
  obtain ⟨t2, order, e1, e2, e3, e4, _, _, _⟩ := relaid_ok t (hs := es.map (·.1)) (wanted := wanted) (by rw [hw]; rfl) hM (by rw [Array.size_map, sz]; omega)
  rw [Array.size_map, sz] at e2
  obtain ⟨L2, p1, p2, p3⟩ := reorder (fun p : Addr × List Key => (mhash prog w p.2, Value.ref p.1)) L es order rows e2
  rw [p3] at e3
  have s2 : (order.filterMap (es[·]?)).size = es.size := by
    have e := congrArg List.length p2
    rw [Array.length_toList, List.length_map, p1.length_eq] at e
    rw [e, sz]
  have line : 128 ≤ sizeLine := by decide
  rw [setRelay_eq]
  refine wpAny_bind (wpAny_setState_of ho hd ok ?_)
  dsimp only
  rw [if_neg (by rw [hw]; omega), e1]
  dsimp only
  rw [if_neg (by rw [s2]; simp)]
  refine wpAny_bind (wpAny_pure ?_)
  refine wpAny_storeSet_of ho hd ?_ (by show (order.filterMap (es[·]?)).size ≤ sizeLine; rw [s2, sz]; omega)
  have sb : Heap.SameBut a s.heap (s.heap.update a (Obj.putSet (order.filterMap (es[·]?)) t2)) := Heap.SameBut.update ..
  refine q _ L2 (order.filterMap (es[·]?)) (ep + 1) t2 sb ⟨⟨_, store_at ho hd, ⟨hex.1, hex.2.1, hex.2.2⟩, rfl⟩, p2, e3, ?_, fun p hp => mt_beside (each p (p1.subset hp)) ho hd sb, by rw [p1.length_eq, e4]; exact room, by rw [p1.length_eq]; exact few⟩ p1
  exact (p1.map (·.2)).symm.nodup once
/-- one tuple put into the set -/
theorem put_mt (R : SetM prog w s.heap a L es ep t) (mx : Mt prog w s.heap k x) (hu : A.units < cLine) (few : L.length + 1 ≤ 20) {Q : Bool → Shared → Prop} (old : k ∈ L.map (·.2) → Q false s)
    (new : k ∉ L.map (·.2) → ∀ h' L' es' ep' t', Heap.SameBut a s.heap h' → SetM prog w h' a L' es' ep' t' → L'.Perm ((x, k) :: L) → Q true { s with heap := h' }) : wpAny (model prog w) A (setAddHashed a (.ref x) (mhash prog w k)) Q E s := by
  obtain ⟨o, ho, hex, hd⟩ := R.here
  have sz := R.size
  have rm := R.room
  have line : 128 ≤ sizeLine := by decide
  unfold setAddHashed
  refine wpAny_holding ?_
  rw [show (100000 : Nat) = 99999 + 1 from rfl, setAddHashedIn_succ]
  refine wpAny_bind (wpAny_setState_of ho hd R.ok ?_)
  dsimp only
  rw [if_neg (show ¬ byScan (.ref x) es = true by simp [byScan, Value.scannable])]
  refine wpAny_bind (seek_new R mx hu (fun m => ?_) fun K nm far near => ?_)
  · dsimp only
    exact wpAny_pure (old m)
  · dsimp only
    refine wpAny_bind (wpAny_setState_of ho hd R.ok ?_)
    dsimp only
    obtain ⟨b1, b2, b3, b4, _, _, _, _, b9⟩ := R.tab.put far near
    generalize t.put (way t.mask (mhash prog w k) K) = pt at b1 b3 b4 b9 ⊢
    obtain ⟨t1, i⟩ := pt
    dsimp only at b1 b3 b4 b9 ⊢
    subst b1
    generalize SetTable.below t.place (way t.mask (mhash prog w k) K) = i at b2 b3 ⊢
    obtain ⟨L1, eL1⟩ : ∃ L1, L1 = L.take i ++ (x, k) :: L.drop i := ⟨_, rfl⟩
    have pm : L1.Perm ((x, k) :: L) := by
      rw [eL1]
      refine List.perm_middle.trans ?_
      rw [List.take_append_drop]
    have ln : L1.length = L.length + 1 := pm.length_eq
    have hs1 : (L.map fun p => mhash prog w p.2).take i ++ mhash prog w k :: (L.map fun p => mhash prog w p.2).drop i = L1.map fun p => mhash prog w p.2 := by rw [eL1, List.map_append, List.map_cons, List.map_take, List.map_drop]
    rw [hs1] at b3
    have rows1 : (SetTable.insertAt es i (mhash prog w k, Value.ref x)).toList = L1.map fun p => (mhash prog w p.2, Value.ref p.1) := by rw [SetTable.toList_insertAt, R.rows, eL1, List.map_append, List.map_cons, List.map_take, List.map_drop]
    have once1 : (L1.map (·.2)).Nodup := (pm.map (·.2)).symm.nodup (List.nodup_cons.mpr ⟨nm, R.once⟩)
    have sz1 : (SetTable.insertAt es i (mhash prog w k, Value.ref x)).size = L.length + 1 := by
      have e := congrArg List.length rows1
      rwa [Array.length_toList, List.length_map, ln] at e
    have fill1 : t1.fill = L.length + 1 := by rw [b9, List.length_map]
    generalize SetTable.insertAt es i (mhash prog w k, Value.ref x) = es1 at rows1 sz1 ⊢
    have on : ∀ t2 : SetTable, t2.mask = t1.mask → TabOk t2 (L1.map fun p => mhash prog w p.2) → t2.fill = L.length + 1 → wpAny (model prog w) A (do
        storeSet a es1 t2
        if (!false && t2.tooFull) = true then do
          setRelay a (SetTable.grown (es.size + 1))
          pure true
        else pure true) Q E s := fun t2 em T2 ef => by
      refine wpAny_bind (wpAny_storeSet_of ho hd ?_ (by rw [sz1]; omega))
      have sb : Heap.SameBut a s.heap (s.heap.update a (Obj.putSet es1 t2)) := Heap.SameBut.update ..
      have ho1 := store_at (es' := es1) (t' := t2) ho hd
      generalize s.heap.update a (Obj.putSet es1 t2) = h1 at sb ho1 ⊢
      have each1 : ∀ p ∈ L1, Mt prog w h1 p.2 p.1 := fun p hp => by
        rcases List.mem_cons.mp (pm.subset hp) with e | hp
        · rw [e]; exact mt_beside mx ho hd sb
        · exact mt_beside (R.each p hp) ho hd sb
      have full : t2.tooFull = decide ((L.length + 1) * 5 ≥ t.mask * 3) := by
        unfold SetTable.tooFull
        rw [ef, em, b4]
      by_cases hf : (L.length + 1) * 5 ≥ t.mask * 3
      · rw [full, decide_eq_true hf, if_pos (by decide), sz]
        have big : ∀ M, SetTable.sizeAbove (SetTable.grown (L.length + 1)) = M + 1 → MaskOk M → (L.length + 1) * 5 < M * 3 → wpAny (model prog w) A (setRelay a (SetTable.grown (L.length + 1)) >>= fun _ => pure true) Q E { s with heap := h1 } := fun M z1 z2 z3 =>
          wpAny_bind (anew (s := { s with heap := h1 }) ho1 ⟨hex.1, hex.2.1, hex.2.2⟩ rfl rows1 T2 (by rw [ln, em, b4]; rcases R.tab.mok with e | e | e <;> omega) once1 each1 (by rw [ln]; exact few) z1 z2 (by rw [ln]; exact z3) fun h2 L2 es2 ep2 t3 sb2 R2 p2 =>
            wpAny_pure (new nm h2 L2 es2 ep2 t3 (sb.trans sb2) R2 (p2.trans pm)))
        rcases R.tab.mok with e | e | e
        · have l4 : L.length = 4 := by rw [e] at hf rm; omega
          exact big 31 (by rw [l4, size_20]) (.inr (.inl rfl)) (by omega)
        · have l18 : L.length = 18 := by rw [e] at hf rm; omega
          exact big 127 (by rw [l18, size_76]) (.inr (.inr rfl)) (by omega)
        · rw [e] at hf
          omega
      · rw [full, decide_eq_false hf, if_neg (by decide)]
        exact wpAny_pure (new nm h1 L1 es1 (ep + 1) t2 sb ⟨⟨_, ho1, ⟨hex.1, hex.2.1, hex.2.2⟩, rfl⟩, rows1, T2, once1, each1, by rw [ln, em, b4]; omega, by rw [ln]; exact few⟩ pm)
    split
    · refine wpAny_bind (mt_byVal mx fun r => ?_)
      cases r with
      | true => exact on t1 rfl b3 fill1
      | false => exact on { t1 with plain := false } rfl ⟨b3.ris, b3.dm, b3.sz, b3.mok, b3.bd, b3.reach⟩ fill1
    · refine wpAny_bind (wpAny_pure ?_)
      exact on t1 rfl b3 fill1
theorem Mt.stay {h h' : Heap} {b : Addr} (m : Mt prog w h k b) (kp : ∀ c o, h.get? c = some o → h'.get? c = some o) : Mt prog w h' k b := by
  obtain ⟨ob, its, n, e1, e2⟩ := m
  exact ⟨ob, its, n, kp _ _ e1, e2⟩
theorem SetM.stay {h h' : Heap} (R : SetM prog w h a L es ep t) (ha : ∀ o, h.get? a = some o → h'.get? a = some o) (each : ∀ p ∈ L, Mt prog w h' p.2 p.1) : SetM prog w h' a L es ep t := by
  obtain ⟨⟨o, e, r⟩, r2, r3, r4, _, r6, r7⟩ := R
  exact ⟨⟨o, ha o e, r⟩, r2, r3, r4, each, r6, r7⟩
/-- what was put in of the first i -/
structure Gath (ks : List (Addr × List Key)) (i : Nat) (L : List (Addr × List Key)) : Prop where
  some_ : ∀ p ∈ L, p ∈ ks.take i
  all : ∀ p ∈ ks.take i, p.2 ∈ L.map (·.2)
  len : L.length ≤ i
theorem Gath.more {ks L L' : List (Addr × List Key)} {i : Nat} {p : Addr × List Key} (g : Gath ks i L) (hp : ks[i]? = some p) (pm : L'.Perm (p :: L)) : Gath ks (i + 1) L' := by
  have tk : ks.take (i + 1) = ks.take i ++ [p] := by rw [List.take_add_one, hp]; rfl
  refine ⟨fun q hq => ?_, fun q hq => ?_, by rw [pm.length_eq]; exact Nat.succ_le_succ g.len⟩
  · rw [tk]
    rcases List.mem_cons.mp (pm.subset hq) with rfl | m
    · exact List.mem_append_right _ (List.mem_singleton.mpr rfl)
    · exact List.mem_append_left _ (g.some_ q m)
  · rw [tk] at hq
    refine (pm.map (·.2)).symm.subset ?_
    rcases List.mem_append.mp hq with m | m
    · exact List.mem_cons_of_mem _ (g.all q m)
    · rw [List.mem_singleton.mp m]; exact List.mem_cons_self
theorem Gath.same {ks L : List (Addr × List Key)} {i : Nat} {p : Addr × List Key} (g : Gath ks i L) (hp : ks[i]? = some p) (m : p.2 ∈ L.map (·.2)) : Gath ks (i + 1) L := by
  have tk : ks.take (i + 1) = ks.take i ++ [p] := by rw [List.take_add_one, hp]; rfl
  refine ⟨fun q hq => by rw [tk]; exact List.mem_append_left _ (g.some_ q hq), fun q hq => ?_, Nat.le_succ_of_le g.len⟩
  rw [tk] at hq
  rcases List.mem_append.mp hq with h | h
  · exact g.all q h
  · rw [List.mem_singleton.mp h]; exact m
theorem fill {R : Result → Shared → Prop} {I T S : Addr} {items : Array Value} {ks : List (Addr × List Key)} {h0 : Heap} (hh : A.in1.handled = none) (TI : T ≠ I) (SI : S ≠ I) (ST : S ≠ T) (hu : A.in1.units < cLine) (hit : items.toList = ks.map fun p => Value.ref p.1) (n20 : ks.length < 20) (mts : ∀ p ∈ ks, Mt prog w h0 p.2 p.1) (nS : h0.get? S = none) (nI : h0.get? I = none) :
    ∀ (m i : Nat) (s : Shared), ks.length - i = m → i ≤ ks.length → s.heap.IsTupleIter I T i → s.heap.IsTuple T items → (∀ b o, h0.get? b = some o → s.heap.get? b = some o) → (∃ L es ep t, SetM prog w s.heap S L es ep t ∧ Gath ks i L) →
      (∀ s' L es ep t, Moved [S, I] (fun a b => b = a) s s' → SetM prog w s'.heap S L es ep t → Gath ks ks.length L → R (.ok (.ret .none)) s') → codeAny (model prog w) A (.builtin "set.update.loop" ⟨[.ref S, .ref I], []⟩) R s := by
  have W := (Walks.tuple (prog := prog) (w := w) (A := A.in1) hh I T TI items).toS
  have isz : items.size = ks.length := by
    have e := congrArg List.length hit
    rwa [Array.length_toList, List.length_map] at e
  have keep : ∀ {s s' : Shared}, Moved [I] (fun a b => b = a) s s' → (∀ b o, h0.get? b = some o → s.heap.get? b = some o) → ∀ b o, h0.get? b = some o → s'.heap.get? b = some o := fun hm kp b o e => hm.heap b o (fun z => by rw [List.mem_singleton.mp z, nI] at e; cases e) (kp b o e)
  have SI' : S ∉ [I] := fun z => SI (List.mem_singleton.mp z)
  have wider : ∀ b ∈ [I], b ∈ [S, I] := fun b hb => List.mem_cons_of_mem _ hb
  intro m
  induction m with
  | zero =>
    intro i s e1 e2 hI hT kp ⟨L, es, ep, t, hS, g⟩ q
    obtain rfl : i = ks.length := by omega
    refine codeAny_builtin PyProof.Rows.F.entry_set_update_loop ?_
    rw [Around.under_plainId PyProof.Rows.F.plain_set_update_loop _]
    show wpAny _ A.in1 (pyNext (.ref I) >>= _) _ _ s
    refine wpAny_bind (W.done s _ _ (by rw [isz]; exact ⟨hI, hT⟩) fun s' hm => ?_)
    show wpAny _ A.in1 (ret Value.none) _ _ s'
    exact wpAny_pure (q s' L es ep t (hm.mono wider) (hS.stay (fun o e => hm.heap S o SI' e) fun p hp => Mt.stay (mts p (List.mem_of_mem_take (g.some_ p hp))) (keep hm kp)) g)
  | succ m ih =>
    intro i s e1 e2 hI hT kp ⟨L, es, ep, t, hS, g⟩ q
    have il : i < items.size := by omega
    refine codeAny_builtin PyProof.Rows.F.entry_set_update_loop ?_
    rw [Around.under_plainId PyProof.Rows.F.plain_set_update_loop _]
    show wpAny _ A.in1 (pyNext (.ref I) >>= _) _ _ s
    refine wpAny_bind (W.item i s _ _ il ⟨hI, hT⟩ fun v s' hv st' hm => ?_)
    have hv2 : items.toList[i]? = some v := by rw [Array.getElem?_toList]; exact hv
    rw [hit, List.getElem?_map] at hv2
    obtain ⟨p, hp, rfl⟩ := Option.map_eq_some_iff.mp hv2
    have kp2 := keep hm kp
    have hS2 : SetM prog w s'.heap S L es ep t := hS.stay (fun o e => hm.heap S o SI' e) fun r hr => Mt.stay (mts r (List.mem_of_mem_take (g.some_ r hr))) kp2
    have mp : Mt prog w s'.heap p.2 p.1 := Mt.stay (mts p (List.mem_of_getElem? hp)) kp2
    show wpAny _ A.in1 (holding [Value.ref p.1] (setAdd S (.ref p.1)) >>= _) _ _ s'
    refine wpAny_bind (wpAny_holding ?_)
    unfold setAdd
    refine wpAny_holding (wpAny_bind (wpAny_pyHash_tuple hu mp ?_))
    have rest : ∀ (b : Bool) (h' : Heap) L' es' ep' t', Heap.SameBut S s'.heap h' → SetM prog w h' S L' es' ep' t' → Gath ks (i + 1) L' →
        codeAny (model prog w) A (.builtin "set.update.loop" ⟨[.ref S, .ref I], []⟩) R { s' with heap := h', toks := s'.toks + (p.2.length + 1) } := fun b h' L' es' ep' t' sb hS3 g3 => by
      refine ih (i + 1) _ (by omega) (by omega) ?_ ?_ (fun b o e => ?_) ⟨L', es', ep', t', hS3, g3⟩ fun s'' L2 es2 ep2 t2 hm2 hS4 g4 => q s'' L2 es2 ep2 t2 (Moved.trans (fun _ _ _ h1 h2 => h2.trans h1) ((hm.mono wider).then_heap (Nat.le_add_right _ _) fun b o hb e => ?_) hm2) hS4 g4
      · exact st'.1.at fun o e => (sb.2 I (fun z => SI z.symm)).trans e
      · exact st'.2.at fun o e => (sb.2 T (fun z => ST z.symm)).trans e
      · exact (sb.2 b (fun z => by rw [z, nS] at e; cases e)).trans (kp2 b o e)
      · exact (sb.2 b (fun z => hb (by rw [z]; exact List.mem_cons_self))).trans e
    refine put_mt (s := { s' with toks := s'.toks + (p.2.length + 1) }) hS2 mp hu (by have := g.len; omega) (fun m => ?_) fun nm h' L' es' ep' t' sb hS3 pm => ?_
    · exact wpAny_pure ⟨plainId_quiet PyProof.Rows.F.plain_set_update_loop _, rest false s'.heap L es ep t (Heap.SameBut.refl _ _) hS2 (g.same hp m)⟩
    · exact wpAny_pure ⟨plainId_quiet PyProof.Rows.F.plain_set_update_loop _, rest true h' L' es' ep' t' sb hS3 (g.more hp pm)⟩
end
end Lw.Sp
namespace Lw
open PySem PySem.Spec PyProof.Rows L2
end Lw
namespace Lw.Sp
open PySem PySem.Spec PyProof.Rows PySem.W L2
section
variable {prog : Program} {w : World} {A : Around} {E : Value → Shared → Prop} {s : Shared}
/-- set(x): made, then filled by its own __init__ -/
theorem set_call {x : Value} {Q : Value → Shared → Prop} (run : ∀ S s1, S = s.heap.objs.size → s1 = { s with heap := s.heap.push { cls := .type "set", dict := none, data := .set #[] 0 (.fresh 0 0 (!w.params.followText "set-order")) } } →
    wpAny (model prog w) A.in1.in1 (Builtin.«set.__init__» ⟨[.ref S, x], []⟩) (fun fin s' => match fin with | .done f => wants (fun r s₂ => r = .none ∧ Q (.ref S) s₂) E (.ok f) s' | .again c' => c'.quiet = true ∧ codeAny (model prog w) A.in1 c' (wants (fun r s₂ => r = .none ∧ Q (.ref S) s₂) E) s')
      (fun e s' => wants (fun r s₂ => r = .none ∧ Q (.ref S) s₂) E (.error e) s') s1) : wpAny (model prog w) A (call (.type "set") [x]) Q E s := by
  have FT := F.called_set
  obtain ⟨top, line, way0⟩ := FT.mro
  have m1 := FT.made
  have m2 := FT.sub
  refine wpAny_call (codeAny_of_tree (show wpAny _ _ (callAny (.type "set") _) _ _ _ from wpAny_pure ⟨Code.quiet_builtin _ (by decide +kernel), codeAny_builtin F.entry_type_call ?_⟩))
  rw [Around.under_plain (weight_type_call_type "set" [x] []) rfl]
  have m3 := FT.notType
  have m4 := FT.canCreate
  have m5 := F.typeCall_set_1 x
  (repeat any_goals first | assumption | wp_step)

  refine codeAny_mono (code_set_led1 x (E := E) (Q₁ := fun obj s₁ => obj = .ref s.heap.objs.size ∧ s₁ = { s with heap := s.heap.push { cls := .type "set", dict := none, data := .set #[] 0 (.fresh 0 0 (!w.params.followText "set-order")) } }) ⟨rfl, rfl⟩) fun r s₁ hr => ?_
  cases r with
  | error e => exact hr
  | ok fl =>
    cases fl with
    | ret obj =>
      obtain ⟨rfl, rfl⟩ := hr
      have tyS : Shared.TypeIs { s with heap := s.heap.push { cls := .type "set", dict := none, data := .set #[] 0 (.fresh 0 0 (!w.params.followText "set-order")) } } (.ref s.heap.objs.size) "set" := ⟨_, Heap.get?_push_size _ rfl, rfl⟩
      have m6 := FT.init.lookup
      have m7 := FT.init.bind (.ref s.heap.objs.size)
      (repeat any_goals first | assumption | wp_step)

      refine codeAny_mono (codeAny_call_builtin FT.init.plain F.entry_set_init (check_set_init_1 tyS (run _ _ rfl rfl))) fun r₂ s₂ hr₂ => ?_
      cases r₂ with
      | error e => exact hr₂
      | ok fl₂ =>
        cases fl₂ with
        | ret r =>
          obtain ⟨rfl, hq⟩ := hr₂
          (repeat any_goals first | assumption | wp_step)
        | _ => exact hr₂.elim
    | _ => exact hr.elim
theorem setM_new {h : Heap} {a : Addr} {led : Bool} (ho : h.get? a = some { cls := .type "set", dict := none, data := .set #[] 0 (.fresh 0 0 led) }) : SetM prog w h a [] #[] 0 (.fresh 0 0 led) := by
  refine ⟨⟨_, ho, ⟨rfl, rfl, rfl⟩, rfl⟩, rfl, ⟨List.Pairwise.nil, rfl, rfl, .inl rfl, fun x hx => (by cases hx), fun i hh j hi => (by simp at hi)⟩, List.nodup_nil, fun p hp => (by cases hp), (by show 0 * 5 < 7 * 3; decide), Nat.zero_le _⟩
/-- set(t), t a tuple of such tuples -/
theorem set_of_tup {T : Addr} {items : Array Value} {ks : List (Addr × List Key)} {Q : Value → Shared → Prop} (hh : A.handled = none) (hT : s.heap.IsTuple T items) (hit : items.toList = ks.map fun p => Value.ref p.1) (mts : ∀ p ∈ ks, Mt prog w s.heap p.2 p.1) (n20 : ks.length < 20) (hu : A.units + 3 < cLine)
    (q : ∀ (h' : Heap) (tk : Nat) L es ep t, SetM prog w h' s.heap.objs.size L es ep t → Gath ks ks.length L → (∀ b o, s.heap.get? b = some o → h'.get? b = some o) → Q (.ref s.heap.objs.size) { s with heap := h', toks := tk }) : wpAny (model prog w) A (call (.type "set") [.ref T]) Q E s := by
  obtain ⟨S, eS⟩ : ∃ S, S = s.heap.objs.size := ⟨_, rfl⟩
  have lT : T < s.heap.objs.size := by obtain ⟨o, ho, _⟩ := hT; exact Heap.lt_size ho
  refine set_call fun S' s1 eS' es1 => ?_
  obtain rfl : S = S' := eS.trans eS'.symm
  subst es1
  have hS : (s.heap.push { cls := .type "set", dict := none, data := .set #[] 0 (.fresh 0 0 (!w.params.followText "set-order")) }).get? S = some { cls := .type "set", dict := none, data := .set #[] 0 (.fresh 0 0 (!w.params.followText "set-order")) } := by rw [eS]; exact Heap.get?_push_size _ rfl
  obtain ⟨oT, hoT, hcT, nT, hdT⟩ := id hT
  obtain ⟨c1, d1, da1, sl1⟩ := oT
  simp only at hcT hdT
  subst hcT hdT
  have atT : (s.heap.push { cls := .type "set", dict := none, data := .set #[] 0 (.fresh 0 0 (!w.params.followText "set-order")) }).get? T = some { cls := .type "tuple", dict := d1, data := .seq items nT, slots := sl1 } := Heap.get?_push_of_some _ hoT
  have f1 := F.sub_tuple_set
  have f2 := F.sub_tuple_frozenset
  have f3 : (Value.type "tuple" == Value.type "dict") = false := by decide
  have tyS : Shared.TypeIs { s with heap := s.heap.push { cls := .type "set", dict := none, data := .set #[] 0 (.fresh 0 0 (!w.params.followText "set-order")) } } (.ref S) "set" := ⟨_, hS, rfl⟩
  unfold Builtin.«set.__init__»
  unfold noKeywords
  unfold Builtin.Frozenset.updateFrom
  generalize eI : pyIter = walkIt
  wp_walk
  subst eI
  have tT : (s.heap.push { cls := .type "set", dict := none, data := .set #[] 0 (.fresh 0 0 (!w.params.followText "set-order")) }).IsTuple T items := ⟨_, atT, rfl, nT, rfl⟩
  refine wpAny_pyIter_tuple tT ?_
  refine wpAny_bind (wpAny_runValue ?_)
  have fresh : ∀ b, s.heap.objs.size ≤ b → s.heap.get? b = none := fun b hb => by
    cases e : s.heap.get? b with
    | none => rfl
    | some o => exact absurd (Nat.lt_of_lt_of_le (Heap.lt_size e) hb) (Nat.lt_irrefl _)
  have sz : (s.heap.push { cls := .type "set", dict := none, data := .set #[] 0 (.fresh 0 0 (!w.params.followText "set-order")) }).objs.size = s.heap.objs.size + 1 := Heap.size_push ..
  have hA : A.in1.in1.in1.handled = none := by simp [hh]
  refine fill (A := A.in1.in1) (T := T) (items := items) (ks := ks) (h0 := s.heap) hA ?_ ?_ ?_ hu hit n20 mts (fresh _ (by rw [eS]; exact Nat.le_refl _)) (fresh _ (by show _ ≤ Array.size _; rw [sz]; exact Nat.le_succ _)) ks.length 0 _ (Nat.sub_zero _) (Nat.zero_le _) ?_ ?_ (fun b o e => Heap.get?_push_of_some _ (Heap.get?_push_of_some _ e)) ⟨[], #[], 0, _, setM_new (Heap.get?_push_of_some _ hS), ?_⟩ fun s' L es ep t hm hM g => ?_
  · show T ≠ Array.size _
    rw [show Array.size _ = s.heap.objs.size + 1 from sz]
    exact Nat.ne_of_lt (Nat.lt_succ_of_lt lT)
  · show S ≠ Array.size _
    rw [show Array.size _ = s.heap.objs.size + 1 from sz, eS]
    exact Nat.ne_of_lt (Nat.lt_succ_self _)
  · rw [eS]
    exact Nat.ne_of_gt lT
  · exact ⟨_, Heap.get?_push_size _ rfl, rfl, rfl⟩
  · exact tT.push _
  · exact ⟨fun p hp => (by cases hp), fun p hp => (by simp at hp), Nat.le_refl _⟩
  · rw [Moved.eq_with hm]
    refine wpAny_pure (show wpAny _ _ (ret Value.none) _ _ _ from wpAny_pure ⟨rfl, ?_⟩)
    rw [eS]
    rw [eS] at hM
    refine q s'.heap s'.toks L es ep t hM g fun b o e => ?_
    refine hm.heap b o (fun hb => ?_) (Heap.get?_push_of_some _ (Heap.get?_push_of_some _ e))
    have lb := Heap.lt_size e
    rcases List.mem_cons.mp hb with e1 | e1
    · rw [e1, eS] at lb
      exact Nat.lt_irrefl _ lb
    · have e2 : b = s.heap.objs.size + 1 := (List.mem_singleton.mp e1).trans sz
      rw [e2] at lb
      exact absurd lb (Nat.not_lt_of_le (Nat.le_succ _))
end
end Lw.Sp
namespace Lw
open PySem PySem.Spec PyProof.Rows L2
open SX PySem.NumText TL LamX ClX StX
/-- a pair's key, and back -/
def kz (q : Str × Int) : List L2.Key := [Sum.inr q.1, Sum.inl q.2]
def unk : List L2.Key → Str × Int
  | [Sum.inr n, Sum.inl i] => (n, i)
  | _ => (Str.empty, 0)
theorem unk_kz (q : Str × Int) : unk (kz q) = q := rfl
/-- pairs at their places -/
def atK (ts : List Addr) (ps : List (Str × Int)) : List (Addr × List L2.Key) := (ts.zip ps).map fun z => (z.1, kz z.2)
theorem atK_refs : ∀ {H : Hp} {ts : List Addr} {ps : List (Str × Int)}, PrT H ts ps → (atK ts ps).map (fun p => Value.ref p.1) = ts.map Value.ref
  | _, _, _, .nil => rfl
  | _, t :: ts, q :: ps, .cons _ r => congrArg (List.cons (Value.ref t)) (atK_refs r)
theorem atK_len : ∀ {H : Hp} {ts : List Addr} {ps : List (Str × Int)}, PrT H ts ps → (atK ts ps).length = ps.length
  | _, _, _, .nil => rfl
  | _, _ :: _, _ :: _, .cons _ r => congrArg Nat.succ (atK_len r)
theorem atK_at : ∀ {H : Hp} {ts : List Addr} {ps : List (Str × Int)}, PrT H ts ps → ∀ p ∈ atK ts ps, ∃ q ∈ ps, p.2 = kz q ∧ H p.1 = some (.tup [.str q.1, .int q.2])
  | _, _, _, .nil, p, m => by cases m
  | _, t :: ts, q :: ps, .cons h r, p, m => by
    rcases List.mem_cons.mp (show p ∈ (t, kz q) :: atK ts ps from m) with rfl | m
    · exact ⟨q, List.mem_cons_self, rfl, h⟩
    · obtain ⟨q', m', e⟩ := atK_at r p m
      exact ⟨q', List.mem_cons_of_mem _ m', e⟩
theorem atK_all : ∀ {H : Hp} {ts : List Addr} {ps : List (Str × Int)}, PrT H ts ps → ∀ q ∈ ps, ∃ p ∈ atK ts ps, p.2 = kz q
  | _, _, _, .nil, q, m => by cases m
  | _, t :: ts, q0 :: ps, .cons h r, q, m => by
    rcases List.mem_cons.mp m with rfl | m
    · exact ⟨(t, kz q), List.mem_cons_self, rfl⟩
    · obtain ⟨p, m', e⟩ := atK_all r q m
      exact ⟨p, List.mem_cons_of_mem _ m', e⟩
theorem refs_vals : ∀ {ts : List Addr} {us : List Value}, Vals (ts.map V.ref) us → us = ts.map Value.ref
  | [], _, .nil => rfl
  | t :: ts, _, .cons h r => by
    cases (show _ = Value.ref t from h)
    rw [refs_vals r]; rfl
/-- len(set(t)), t a tuple of pairs -/
def tLenSetP (K : PySem.W.Frag) (ta : TE) : TE := fun σ H Q => ta σ H fun x H1 => ∃ (T : Addr) (ts : List Addr) (ps : List (Str × Int)), x = .ref T ∧ SqT K H1 T (ts.map V.ref) ∧ PrT H1 ts ps ∧ ps.length < 20 ∧ ∀ L : List (Str × Int), L.Nodup → (∀ p, p ∈ L ↔ p ∈ ps) → Q (.int L.length) H1
theorem pe_lenSetP {X : Cx} {a : Expr} {ta : TE} {p p2 q pos : Pos} {j : Nat} (hc : X.calm = true) (hr : Room j X.A) (hg : Gl X "len") (hm : X.mg "len" = none) (hg2 : Gl X "set") (hm2 : X.mg "set" = none) (ha : PE X a ta)
    (na : starEach [a] X.env = (false, eval a X.env) :: starEach [] X.env := by rfl) : PE X (.Call (.Name "len" p) [.Call (.Name "set" p2) [a] [] q] [] pos) (tLenSetP X.K ta) := by
  refine ⟨fun pins s σ H Q I h => Call_ (ld_blt I hg hm PySem.boot_len (PyProof.Rows.callWith_builtin1 (PyProof.Rows.args_cons ?_ rfl) rfl rfl))⟩
  refine Call_ (ld_blt I hg2 hm2 PyProof.Rows.boot_set (PyProof.Rows.callWith_type1 (PyProof.Rows.args_cons (thn (ha.run pins s σ H _ I h) fun v s1 ⟨x, H1, I1, rx, T, ts, ps, ex, hT, pr, l20, go⟩ => PyProof.Rows.args_nil ?_) na) na rfl))
  subst ex
  cases (show v = Value.ref T from rx)
  obtain ⟨its, rv, pl, hz⟩ := I1.tuple hT
  have un := hr.units
  refine Sp.set_of_tup (items := its.toArray) (ks := atK ts ps) (I1.ok.hd hc) (show s1.heap.IsTuple T its.toArray from pl) (by rw [atK_refs pr]; exact refs_vals rv) (fun p hp => ?_) (by rw [atK_len pr]; exact l20) (by omega) fun h' tk L es ep t R g kp => ?_
  · obtain ⟨q, _, e1, e2⟩ := atK_at pr p hp
    rw [e1]
    exact key_of I1.hok (ks := kz q) e2
  refine PyProof.Rows.args_nil ?_
  obtain ⟨o, ho, hex, hd⟩ := R.here
  have I2 : Inv X pins σ H1 { s1 with heap := h', toks := tk } := I1.kept kp
  have sz := Sp.SetM.size (s := { s1 with heap := h', toks := tk }) R
  have few := R.few
  have all := g.all
  have some_ := g.some_
  rw [List.take_length] at all some_
  refine call_len_set ho hex hd (Sp.SetM.ok (s := { s1 with heap := h', toks := tk }) R) (by rw [sz]; omega) ⟨.int es.size, H1, I2.tok _, ⟨_, rfl⟩, ?_⟩
  have z := go (L.map fun p => unk p.2) ?_ fun q => ⟨fun m => ?_, fun m => ?_⟩
  · rw [List.length_map] at z
    rw [sz]
    exact z
  · have inj : ∀ p ∈ L, kz (unk p.2) = p.2 := fun p hp => by
      obtain ⟨q, _, e1, _⟩ := atK_at pr p (some_ p hp)
      rw [e1]; rfl
    have e : (L.map fun p => unk p.2).map kz = L.map (·.2) := by
      rw [List.map_map]
      exact List.map_congr_left inj
    have n := R.once
    rw [← e] at n
    exact List.Pairwise.of_map (S := (· ≠ ·)) kz (fun a b ne e => ne (congrArg kz e)) n
  · obtain ⟨p, hp, rfl⟩ := List.mem_map.mp m
    obtain ⟨q, hq, e1, _⟩ := atK_at pr p (some_ p hp)
    rw [e1]
    exact hq
  · obtain ⟨p, hp, e⟩ := atK_all pr q m
    obtain ⟨r, hr', e2⟩ := List.mem_map.mp (all p hp)
    exact List.mem_map.mpr ⟨r, hr', by rw [e2, e]; rfl⟩
end Lw
namespace Lw
open PySem PySem.Spec PyProof.Rows L2
open SX PySem.NumText TL LamX ClX StX
abbrev sCle : Stmt := inClass (top 26) 12
theorem prt_cat : ∀ {H : Hp} {ts us : List Addr} {ps qs : List (Str × Int)}, PrT H ts ps → PrT H us qs → PrT H (ts ++ us) (ps ++ qs)
  | _, _, _, _, _, .nil, h => h
  | _, _, _, _, _, .cons a r, h => .cons a (prt_cat r h)
theorem nd_pairs {l : List (Str × Int)} (h : (l.map (·.1)).Nodup) : l.Nodup := List.Pairwise.of_map (fun q : Str × Int => q.1) (fun _ _ ne e => ne (congrArg Prod.fst e)) h
theorem nodup_le {α : Type} [DecidableEq α] : ∀ {l m : List α}, l.Nodup → (∀ x ∈ l, x ∈ m) → l.length ≤ m.length
  | [], _, _, _ => Nat.zero_le _
  | y :: l, m, nd, h => by
    have hy := h y List.mem_cons_self
    have ih := nodup_le (l := l) (m := m.erase y) (List.nodup_cons.mp nd).2 fun x hx => (List.mem_erase_of_ne fun e => (List.nodup_cons.mp nd).1 (by rw [← e]; exact hx)).mpr (h x (List.mem_cons_of_mem _ hx))
    rw [List.length_erase_of_mem hy] at ih
    have pos := List.length_pos_of_mem hy
    rw [List.length_cons]
    omega
theorem same_few {L ps qs : List (Str × Int)} (nL : L.Nodup) (nq : qs.Nodup) (h : ∀ p, p ∈ L ↔ p ∈ ps ++ qs) : L.length = qs.length ↔ ∀ p ∈ ps, p ∈ qs := by
  constructor
  · intro e p hp
    by_cases m : p ∈ qs
    · exact m
    · have z := nodup_le (l := p :: qs) (m := L) (List.nodup_cons.mpr ⟨m, nq⟩) fun x hx => by
        rcases List.mem_cons.mp hx with rfl | hx
        · exact (h x).mpr (List.mem_append_left _ hp)
        · exact (h x).mpr (List.mem_append_right _ hx)
      rw [List.length_cons] at z
      omega
  · intro a
    refine ((List.perm_ext_iff_of_nodup nL nq).mpr fun p => ?_).length_eq
    rw [h]
    constructor
    · intro m
      rcases List.mem_append.mp m with m | m
      · exact a p m
      · exact m
    · exact fun m => List.mem_append_right _ m
def spCle (K : PySem.W.Frag) (CC DC : Addr) : Sp := fun vs H Q E => ∃ (c : Addr) (ps : List (Str × Int)) (x : V), vs = [.ref c, x] ∧ CwG CC H c ps ∧
  ((∃ t, TyZ K H x t ∧ PySem.W.kitOne K t (.ref CC) = some false ∧ Bf DC "part" (.str (Str.ofString "other")) H E) ∨ ∃ (b : Addr) (qs : List (Str × Int)), x = .ref b ∧ CwG CC H b qs ∧ ∀ H', Same H H' → Q (.bl (decide (∀ p ∈ ps, p ∈ qs))) H')
section
variable {P : Program} {w : World} {K : PySem.W.Frag} {mg : Str → Option Value} {base : Heap}
theorem scCle : FnScope ["self", "other"] ["self", "other"] (C8.fnScope sCle) := C8.fnScope_by (by decide +kernel)
theorem fn_cle {CC DC fC f : Addr} {fd fdC : FuncData} (F : C8.Fun K "__le__" "Crew.__le__" sCle f fd) (T : TxtC mg) (hset : mg "set" = none) (Z : CrC K mg CC) (EC : Err1 "BadCrew" "part" P w K mg base DC fC fdC) (I : C8.InsC K CC) : FnOk P w K mg base (L2.CX P w) 3 f fd ["self", "other"] (spCle K CC DC) := by
  obtain ⟨oc, od, dV, kV, doc, pm, an, cdv, ct, osl, rfl, lk, hcd⟩ := F.ex
  refine fn_of lk hcd scCle (fun vs H Q E h => ?_) fun A outer s H vs Q E hr h => ?_
  · obtain ⟨c, ps, x, rfl, _⟩ := h
    rfl
  · obtain ⟨c, ps, x, rfl, g, h⟩ := h
    obtain ⟨dx, wt, p, d, ts, mn, mx, sl, fa, hc, hw, hp, pr, hd, _⟩ := id g.at_
    have tk : Takes (cxOf (L2.CX P w) P w K mg base ["self", "other"] "Crew.__le__" (C8.fnScope sCle) f cdv A outer s H E) (fun cls d _ H' => E cls d H') := takes_of rfl rfl rfl rfl
    refine ⟨_, (pss_cons (ps_if (pt_not (pt_val (pe_callB call_isz (by rfl) T.n_isinstance (by decide +kernel) (pa_cons (pv 1) (pa_cons (pe_glob (v := .ref CC) (by rfl) Z.hm rfl) pa_nil))))) (pss_one (ps_bad1 (x := "BadCrew") rfl tk EC.T EC.iC EC.tI EC.F hr EC.b (by rfl) EC.hm pe_str)) pss_nil)
  (pss_one (ps_ret (pe_cmpR op_eq (pe_lenSetP rfl hr (by rfl) T.n_len (by rfl) hset (pe_op op_catT (pe_fld (pv 0) rfl) (pe_fld (pv 1) rfl))) (pe_callB call_len_seq (by rfl) T.n_len (by decide +kernel) (pa_cons (pe_fld (pv 1) rfl) pa_nil)) (nomark _))))), ?_⟩
    rcases h with ⟨t, ty, kt, go⟩ | ⟨b, qs, rfl, g2, k⟩
    · exact ⟨_, rfl, _, .ref CC, t, .ref CC, false, rfl, .own CC, ty, kt, _, rfl, iteT (bad_leaf1 fun e fs hd e1 => go e fs H (Same.refl _) hd e1)⟩
    obtain ⟨dxb, wb, pb, db, tsb, mnb, mxb, slb, fab, hcb, _, hpb, prb, _⟩ := id g2.at_
    have ty : TyZ K H (.ref b) (.ref CC) := .x (.base (.ins hcb I.cl I.ha I.hn I.htk I.hm))
    refine ⟨_, rfl, _, .ref CC, .ref CC, .ref CC, true, rfl, .own CC, ty, I.me, _, rfl, iteF ?_⟩
    dsimp only [tNext, tSeq]
    have l8 := g.l8
    have l82 := g2.l8
    obtain ⟨dx1, w1, p1, d1, ts1, mn1, mx1, sl1, fa1, _, _, _, _, _, _, ⟨i1, f1, _⟩, _⟩ := id g.at_
    obtain ⟨dx2, w2, p2, d2, ts2, mn2, mx2, sl2, fa2, _, _, _, _, _, _, ⟨i2, f2, _⟩, _⟩ := id g2.at_
    have n1 : ps ≠ [] := fun e => by rw [e] at f1; cases f1
    have n2 : qs ≠ [] := fun e => by rw [e] at f2; cases f2
    have t1 : ts.map V.ref ≠ [] := fun e => by
      have z := congrArg List.length e
      rw [List.length_map, pr.len] at z
      exact n1 (List.eq_nil_of_length_eq_zero z)
    have t2 : tsb.map V.ref ≠ [] := fun e => by
      have z := congrArg List.length e
      rw [List.length_map, prb.len] at z
      exact n2 (List.eq_nil_of_length_eq_zero z)
    refine ⟨_, rfl, c, CC, dx, _, _, rfl, hc, Z.cl, Z.n7, crF_pairs, _, rfl, b, CC, dxb, _, _, rfl, hcb, Z.cl, Z.n7, crF_pairs, p, pb, _, _, rfl, rfl, SqT.of hp, SqT.of hpb, t1, ?_, fun e => absurd e t2, fun _ R hR => ?_⟩
    · rw [List.length_map, List.length_map, pr.len, prb.len]
      exact Nat.le_trans (show ps.length + qs.length ≤ 16 by omega) (by decide)
    have sR := same_new (o := HO.tup (ts.map V.ref ++ tsb.map V.ref)) hR
    have hR1 : upd H R (.tup (ts.map V.ref ++ tsb.map V.ref)) R = some (.tup ((ts ++ tsb).map V.ref)) := by rw [upd_same, List.map_append]
    refine ⟨R, ts ++ tsb, ps ++ qs, rfl, SqT.of hR1, (prt_cat (pr.same sR) (prb.same sR)), by rw [List.length_append]; omega, fun L nL hL => ?_⟩
    refine ⟨_, rfl, b, CC, dxb, _, _, rfl, sR _ _ hcb, Z.cl, Z.n7, crF_pairs, pb, _, rfl, .inr (SqT.of (sR _ _ hpb)), rfl, ?_⟩
    have key := same_few nL (nd_pairs g2.nd) hL
    have e : decide (V.int (L.length : Int) = V.int ((tsb.map V.ref).length : Int)) = decide (∀ p ∈ ps, p ∈ qs) := by
      rw [List.length_map, prb.len]
      refine decide_eq_decide.mpr ⟨fun z => key.mp (by have := V.int.inj z; omega), fun z => by rw [key.mpr z]⟩
    rw [e]
    exact k _ sR
end
end Lw
namespace Lw
open PySem PySem.Spec PyProof.Rows L2
open SX PySem.NumText TL LamX ClX StX
abbrev sClt : Stmt := inClass (top 26) 13
abbrev sCrm : Stmt := inClass (top 26) 11
/-! ### own operators, an own comparison -/
section
variable {X : Cx} {C f : Addr} {k j : Nat} {sp : Sp} {E : XK} {pins : List (Addr × Obj)} {σ : L2.St} {H : Hp} {s : Shared} {nm : String} {op : CmpOp}
theorem half_lftN (M : MetX X.prog X.w X.K X.mg X.base k C (PySem.dunder nm) sp) (hx : Passes (L2.CX X.prog X.w) X E) (hc : PySem.W.selfFirst X.K C = true) (hb : PySem.W.findIn X.K (.ref C) (dunderR nm) = some none) (hn : nm ∈ Ow.Nms) (hr : Room j X.A) (hk : k ≤ j) : HalfR X nm (rLeft X.K C sp E) := by
  intro pins s σ H x y v u Q I rx ry h
  obtain ⟨a, dx, fs, T, rfl, ha, hT, q⟩ := h
  cases (show v = Value.ref a from rx)
  obtain ⟨_, _, J⟩ := ins_at I ha
  obtain ⟨g, hm, w, _⟩ := run_met (us := [.ref a, u]) (vs := [.ref a, y]) M hx hr hk I (.cons rfl (.cons ry .nil)) q
  have hB := hT.tyx.2
  obtain ⟨⟨fo, h3⟩, ⟨ro, h4⟩⟩ := Ow.bt_find hB hn
  exact Ow.half_left I.kIn J (hT.looks I ry) hc hm.at_ hm.fn hb (.inl rfl) h3 h4 (Ow.bt_sub hB) w
/-- x op y by x's own method, whatever stands on the right -/
def rCX (K : PySem.W.Frag) (C : Addr) (sp : Sp) (E : XK) : R2 := fun x y H Q => ∃ a dx fs t, x = .ref a ∧ H a = some (.ins C dx fs) ∧ TyX K H y t ∧ PySem.W.notFirst K C t = true ∧ sp [x, y] H Q E
theorem op_cmpX (hop : ∀ a b, compareOp op a b = richCompare op a b) (M : MetX X.prog X.w X.K X.mg X.base k C (cmpInfo op).2.1 sp) (hx : Passes (L2.CX X.prog X.w) X E) (hr : Room j X.A) (hk : k ≤ j) : OpR X (compareOp op) (rCX X.K C sp E) := by
  intro pins s σ H x y v u Q I rx ry h
  obtain ⟨a, dx, fs, t, rfl, ha, hy, hn, q⟩ := h
  cases (show v = Value.ref a from rx)
  obtain ⟨_, _, J⟩ := ins_at I ha
  obtain ⟨W, Z, p, _⟩ := kit_of I ry hy
  obtain ⟨g, hm, w, _⟩ := run_met (us := [.ref a, u]) (vs := [.ref a, y]) M hx hr hk I (.cons rfl (.cons ry .nil)) q
  obtain ⟨m, hF⟩ := I.fr
  rw [hop]
  exact PySem.W.cmp_K hr.units0 hF I.ok.mod.kin J (Z.ty _ _ I.kIn p) hn hm.at_ hm.fn w
end
def spClt (K : PySem.W.Frag) (CC DC : Addr) : Sp := fun vs H Q E => ∃ (c : Addr) (ps : List (Str × Int)) (x : V), vs = [.ref c, x] ∧ CwG CC H c ps ∧
  ((∃ t, TyX K H x t ∧ PySem.W.kitOne K t (.ref CC) = some false ∧ PySem.W.notFirst K CC t = true ∧ Bf DC "part" (.str (Str.ofString "other")) H E) ∨ ∃ (b : Addr) (qs : List (Str × Int)), x = .ref b ∧ CwG CC H b qs ∧ ∀ H', Same H H' → Q (.bl (decide (∀ p ∈ ps, p ∈ qs) && !decide (ps = qs))) H')
def spCrm (K : PySem.W.Frag) (CC DN DS DC DM : Addr) : Sp := fun vs H Q E => (∃ a k, vs = [.ref a, .int k]) ∧ spCmu K CC DN DS DC DM vs H Q E
structure OpK (K : PySem.W.Frag) (CC : Addr) : Prop where
  first : PySem.W.selfFirst K CC = true
  rmul : ∃ g : Addr, PySem.W.findIn K (.ref CC) "__rmul__" = some (some (.ref g))
section
variable {P : Program} {w : World} {K : PySem.W.Frag} {mg : Str → Option Value} {base : Heap}
theorem scCrm : FnScope ["self", "other"] ["self", "other"] (C8.fnScope sCrm) := C8.fnScope_by (by decide +kernel)
theorem fn_crm {CC DN DS DC DM f : Addr} {fd : FuncData} (F : C8.Fun K "__rmul__" "Crew.__rmul__" sCrm f fd) (O : OpK K CC) (MM : MetX P w K mg base 9 CC "__mul__" (spCmu K CC DN DS DC DM)) : FnOk P w K mg base (L2.CX P w) 10 f fd ["self", "other"] (spCrm K CC DN DS DC DM) := by
  obtain ⟨oc, od, dV, kV, doc, pm, an, cdv, ct, osl, rfl, lk, hcd⟩ := F.ex
  refine fn_of lk hcd scCrm (fun vs H Q E h => ?_) fun A outer s H vs Q E hr h => ?_
  · obtain ⟨⟨a, k, rfl⟩, _⟩ := h
    rfl
  · obtain ⟨⟨a, k, rfl⟩, h⟩ := h
    obtain ⟨a', ps, v, e, g, h2⟩ := id h
    cases e
    obtain ⟨dx, wt, p, d, ts, mn, mx, sl, fa, hc, _⟩ := id g.at_
    refine ⟨_, pss_one (ps_ret (pe_op (op_of (op := .Mult) (half_lft (nm := "mul") MM (passes_call (takes_of rfl rfl rfl rfl) (fun _ _ _ _ z => z)) O.first O.rmul (by decide) hr (by decide))) (pv 0) (pv 1))), ?_⟩
    exact ⟨_, rfl, _, rfl, a, dx, _, "int", rfl, hc, .int k, h⟩
theorem scClt : FnScope ["self", "other"] ["self", "other"] (C8.fnScope sClt) := C8.fnScope_by (by decide +kernel)
theorem fn_clt {CC DC f : Addr} {fd : FuncData} (F : C8.Fun K "__lt__" "Crew.__lt__" sClt f fd) (ML : MetX P w K mg base 3 CC "__le__" (spCle K CC DC)) (ME : MetX P w K mg base 2 CC "__eq__" (spCeq K CC)) (I : C8.InsC K CC) : FnOk P w K mg base (L2.CX P w) 4 f fd ["self", "other"] (spClt K CC DC) := by
  obtain ⟨oc, od, dV, kV, doc, pm, an, cdv, ct, osl, rfl, lk, hcd⟩ := F.ex
  refine fn_of lk hcd scClt (fun vs H Q E h => ?_) fun A outer s H vs Q E hr h => ?_
  · obtain ⟨c, ps, x, rfl, _⟩ := h
    rfl
  · obtain ⟨c, ps, x, rfl, g, h⟩ := h
    obtain ⟨dx, wt, p, d, ts, mn, mx, sl, fa, hc, _⟩ := id g.at_
    refine ⟨_, (pss_one (ps_ret (pe_and (pe_cmpR (op_cmpX (op := .LtE) (fun _ _ => rfl) ML (passes_call (takes_of rfl rfl rfl rfl) (fun _ _ _ _ z => z)) hr (by decide)) (pv 0) (pv 1) (nomark _)) (pe_one (pe_not (pe_cmpR (op_eqR ME (passes_call (takes_of rfl rfl rfl rfl) (fun _ _ _ _ z => z)) hr (by decide)) (pv 0) (pv 1) (nomark _))))))), ?_⟩
    rcases h with ⟨t, ty, kt, nf, go⟩ | ⟨b, qs, rfl, g2, go⟩
    · exact ⟨_, rfl, _, rfl, c, dx, _, t, rfl, hc, ty, nf, c, ps, x, rfl, g, .inl ⟨t, .x ty, kt, go⟩⟩
    · obtain ⟨dx2, wt2, p2, d2, ts2, mn2, mx2, sl2, fa2, hc2, _⟩ := id g2.at_
      refine ⟨_, rfl, _, rfl, c, dx, _, .ref CC, rfl, hc, .base (.ins hc2 I.cl I.ha I.hn I.htk I.hm), by simp [PySem.W.notFirst], c, ps, .ref b, rfl, g, .inr ⟨b, qs, rfl, g2, fun H' sH => ?_⟩⟩
      refine ⟨_, rfl, ?_⟩
      cases e : decide (∀ p ∈ ps, p ∈ qs) with
      | false =>
        rw [if_neg Bool.false_ne_true]
        have z := go H' sH
        rw [e, Bool.false_and] at z
        exact z
      | true =>
        rw [if_pos rfl]
        have z := go H' sH
        rw [e, Bool.true_and] at z
        refine ⟨_, rfl, _, rfl, c, dx, _, b, dx2, _, rfl, sH _ _ hc, rfl, sH _ _ hc2, c, ps, .ref b, rfl, g.at_.same sH, g.l8, fun q hq => (g.ok q hq).1, .inr ⟨b, qs, rfl, g2.at_.same sH, g2.l8, fun q hq => (g2.ok q hq).1, ?_⟩⟩
        exact ⟨_, rfl, z⟩
end
end Lw
namespace Lw
open PySem PySem.Spec PyProof.Rows L2

open LamX
/-! ### lambdas without captured names, with parameters: made here, called anywhere -/
/-- the object at f is the lambda of this text -/
def LamN (q : Str) (params : Arguments) (body : Expr) (scope : Scope) (f c' : Addr) : HO := .ext fun h => ∃ pm ctv : Value, h.get? f = some (PySem.W.kla_obj "<lambda>" q params body scope [] pm c' ctv)
theorem lamN_ne {q : Str} {params : Arguments} {body : Expr} {scope : Scope} {f c' : Addr} (ps : Array Value) : LamN q params body scope f c' ≠ .tbl ps := fun z => by
  unfold LamN at z
  cases z
/-- what its call does -/
structure LamF (P : Program) (w : World) (K : PySem.W.Frag) (mg : Str → Option Value) (base : Heap) (k : Nat) (ps : List Str) (sp : Sp) (q : Str) (params : Arguments) (body : Expr) (scope : Scope) (f c' : Addr) : Prop where
  S : FnScope ps ps scope
  bind : ∀ (pm cv ctv : Value) (us : List Value), us.length = ps.length → bindArgs (PySem.W.kla_fn "<lambda>" q params body scope [] pm cv ctv) ⟨us, []⟩ = pure (ps.zip us)
  len : ∀ vs H Q E, sp vs H Q E → vs.length = ps.length
  run : ∀ (A : Around) (out : List Env) (s : Shared) (H : Hp) (vs : List V) (Q : VK), Room k (A.deeper (envOfC q scope s.heap.objs.size f (.ref c'))) → sp vs H Q C8.E0 →
    ∃ te, PE (cxOf C8.CX0 P w K mg base ps q scope f (.ref c') A out s H C8.E0) body te ∧ te (start ps vs) H Q
def LamAt (P : Program) (w : World) (K : PySem.W.Frag) (mg : Str → Option Value) (base : Heap) (k : Nat) (ps : List Str) (sp : Sp) (H : Hp) (f : Addr) : Prop := ∃ (q : Str) (params : Arguments) (body : Expr) (scope : Scope) (c' : Addr),
  H f = some (LamN q params body scope f c') ∧ H c' = some (CodeO c' q) ∧ LamF P w K mg base k ps sp q params body scope f c'
theorem LamAt.extn {P : Program} {w : World} {K : PySem.W.Frag} {mg : Str → Option Value} {base : Heap} {k : Nat} {ps : List Str} {sp : Sp} {H H' : Hp} {f : Addr} (h : LamAt P w K mg base k ps sp H f) (e : ExtN H H') : LamAt P w K mg base k ps sp H' f := by
  obtain ⟨q, params, body, scope, c', h1, h2, a⟩ := h
  exact ⟨q, params, body, scope, c', e _ _ h1 lamN_ne, e _ _ h2 codeO_ne, a⟩
section
variable {X : Cx} {pins : List (Addr × Obj)} {σ : L2.St} {H : Hp} {s : Shared} {k : Nat} {ps : List Str} {sp : Sp}
theorem run_lam {f : Addr} {us : List Value} {vs : List V} {Q : VK} (L : LamAt X.prog X.w X.K X.mg X.base k ps sp H f) (hr : Room (k + 1) X.A) (I : Inv X pins σ H s) (r : Vals vs us) (q : sp vs H Q C8.E0) :
    wpAny (model X.prog X.w) X.A (call (.ref f) us) (EP X pins σ Q) X.xe s := by
  obtain ⟨qn, params, body, scope, c', hf, hc, F⟩ := L
  obtain ⟨⟨pm, ctv, of1⟩, _, _⟩ := I.hok f _ hf
  obtain ⟨⟨oc, vc, t', hoc, hdc, hvc⟩, _, _⟩ := I.hok c' _ hc
  have hl : us.length = ps.length := r.length.symm.trans (F.len _ _ _ _ q)
  have kinds : ∀ y ∈ ps.zip us, scope.names.lookup y.1 = some .local ∨ (scope.names.lookup y.1 = some .cell ∧ ((cellsFrom (s.heap.objs.size + 1) scope.names []).lookup y.1).isSome = true) := fun ⟨m, v⟩ hy => by
    rcases F.S.par m (List.of_mem_zip hy).1 with z | z
    · exact .inl z
    · exact .inr ⟨z, PySem.W.cellsFrom_some _ _ _ (.inl z)⟩
  have rc : codeAny (model X.prog X.w) X.A (.call (.ref f) ⟨us, []⟩) (CR C8.CX0 X.stack X.prog X.w H s Q C8.E0) s := by
    refine PySem.W.kla_callFunE hr.depth of1 rfl F.S.co F.S.gen rfl ⟨c', oc, vc, t', rfl, hoc, hdc, hvc⟩ ?_
    rw [F.bind _ _ _ us hl]
    refine wpAny_pure (wpAny_newFunctionEnv_cells F.S.kind kinds fun env he s1 cll => ?_)
    subst he
    refine ⟨I.nolimit.keeps cll.toInCall.keep, ?_⟩
    obtain ⟨te, ht, hq⟩ := F.run X.A X.stack s H vs Q (hr.deeper _) q
    have I0 := inv_start (CX := C8.CX0) (A := X.A) (E := C8.E0) F.S hr.hd I.env0 (F.len _ _ _ _ q) r cll
    refine PySem.W.kla_codeExpr (wpAny_mono (ht.run [] s1 (start ps vs) H _ I0 hq) (fun v s' hs => ?_) fun e s' hs => hs)
    obtain ⟨v', H', J, rv, z⟩ := hs
    exact ⟨v', H', J.os, J.bare, J.base, J.hok, rv, z⟩
  refine wpAny_call (codeAny_mono rc fun r s' hq => ?_)
  match r, hq with
  | .error e, hq => exact hq.elim
  | .ok (.ret u), hq => exact I.after hq
  | .ok .next, hq => exact hq.elim
  | .ok .brk, hq => exact hq.elim
  | .ok .cont, hq => exact hq.elim
/-- e(a, ..), e any expression that gives such a lambda -/
theorem pe_lamcallN {fe a : Expr} {es : List Expr} {pos : Pos} {tf : TE} {ta : TA} (hr : Room (k + 1) X.A) (hf : PE X fe tf) (ha : PA X (a :: es) ta)
    (ht : eval (.Call fe (a :: es) [] pos) X.env = (do callWith pos (← eval fe X.env) [] (backTo pos (starEach (a :: es) X.env)) (backToKw pos (keywordEach [] X.env))) := by rfl)
    (he : starEach (a :: es) X.env = (false, eval a X.env) :: starEach es X.env := by rfl) (hpl : (backTo pos (starEach es X.env)).any (·.1) = false := by rfl) :
    PE X (.Call fe (a :: es) [] pos) (fun σ H Q => tf σ H fun x H1 => ∃ (f : Addr) (ps : List Str) (sp : Sp), x = .ref f ∧ LamAt X.prog X.w X.K X.mg X.base k ps sp H1 f ∧ ta σ H1 fun vs H2 => LamAt X.prog X.w X.K X.mg X.base k ps sp H2 f ∧ sp vs H2 Q C8.E0) := by
  refine ⟨fun pins s σ H Q I h => ?_⟩
  refine Call_ (thn (hf.run pins s σ H _ I h) fun u s1 ⟨x, H1, I1, r1, f, ps, sp, ex, l1, q⟩ => ?_) ht
  subst ex
  obtain rfl : u = Value.ref f := r1
  have fnAt : ∀ {H' : Hp} {t : Shared}, Inv X pins σ H' t → LamAt X.prog X.w X.K X.mg X.base k ps sp H' f → PySem.W.FnAt f t.heap := fun {H' t} J L => by
    obtain ⟨qn, params, body, scope, c', hf, _, _⟩ := L
    obtain ⟨⟨pm, ctv, e⟩, _, _⟩ := J.hok f _ hf
    exact ⟨_, _, _, _, e⟩
  refine PySem.W.callWith_F (fnAt I1 l1) (thn (ha.run pos pins s1 σ H1 _ I1 q) fun us s2 ⟨vs, H2, I2, r2, l2, q2⟩ => ⟨fnAt I2 l2, ?_⟩) he hpl
  exact run_lam l2 hr I2 r2 q2
def tLamN (P : Program) (w : World) (K : PySem.W.Frag) (mg : Str → Option Value) (base : Heap) (k : Nat) (ps : List Str) (sp : Sp) (T : List (Addr × Str)) : TE := fun _ H Q => Tabs T H ∧ ∀ (f : Addr) (H1 : Hp), ExtN H H1 → Tabs T H1 → H f = none → LamAt P w K mg base k ps sp H1 f → Q (.ref f) H1
theorem lay_lamN {h' : Heap} {t' : Nat} {q : Str} {params : Arguments} {body : Expr} {scope : Scope} {c' : Addr} {pm ctv : Value} (I : Inv X pins σ H { s with heap := h', toks := t' }) :
    Inv X pins σ (upd H h'.objs.size (LamN q params body scope h'.objs.size c')) { s with heap := h'.push (PySem.W.kla_obj "<lambda>" q params body scope [] pm c' ctv), toks := t' } := by
  refine I.laid (h' := h'.push _) (t' := t') (fun b u e => Heap.get?_push_of_some _ e) (Nat.le_refl _) ?_
  have g : (h'.push (PySem.W.kla_obj "<lambda>" q params body scope [] pm c' ctv)).get? h'.objs.size = some (PySem.W.kla_obj "<lambda>" q params body scope [] pm c' ctv) := Heap.get?_push_size _ rfl
  refine ⟨⟨pm, ctv, g⟩, ⟨_, g⟩, ?_⟩
  rintro h1 h2 ⟨pm, ctv, e⟩ st
  exact ⟨pm, ctv, st _ e⟩
theorem pe_lamN {T : List (Addr × Str)} {c B : Addr} {params : Arguments} {body : Expr} {scope : Scope} {pos : Pos} (TB : TabB X.base X.mg c B) (hcode : X.env.code = .ref c)
    (hm : (B, X.env.qual ++ "<lambda>") ∈ T) (hu : ∀ p ∈ T, p.1 = B → p.2 = X.env.qual ++ "<lambda>") (hdef : defaultsOf params X.env = ([], [])) (nofree : ∀ y ∈ scope.names, y.2 ≠ .free) (nocl : cloFrom X.env.cells scope.names [] = [])
    (act : ∀ f c', LamF X.prog X.w X.K X.mg X.base k ps sp (X.env.qual ++ "<lambda>") params body scope f c') : PE X (.Lambda params body scope pos) (tLamN X.prog X.w X.K X.mg X.base k ps sp T) := by
  refine ⟨fun pins s σ H Q I h => ?_⟩
  obtain ⟨hT, h⟩ := h
  obtain ⟨pt, hB, trip, amg⟩ := hT _ hm
  refine PySem.W.kla_eval hdef ?_
  have hat : s.heap.get? B = some { cls := .none, data := .fields pt } := I.hok B _ hB
  have blt := TB.bm.keeps I.bk
  have hdc := TB.code.keeps I.bk
  have glb := I.mod.glob.keeps I.bk
  have cl := closure_ok (scope := scope) (env := X.env) (fun y hy e => absurd e (nofree y hy))
  rw [nocl] at cl
  have tell : ∀ {H1 : Hp} {f c' : Addr} {s' : Shared}, Inv X pins σ (upd H1 f (LamN (X.env.qual ++ "<lambda>") params body scope f c')) s' → ExtN H H1 → Tabs T H1 → H1 f = none → H f = none → H1 c' = some (CodeO c' (X.env.qual ++ "<lambda>")) →
      EP X pins σ Q (.ref f) s' := fun {H1 f c' s'} I1 eN T1 n1 n0 hc => by
    have sm := same_new (o := LamN (X.env.qual ++ "<lambda>") params body scope f c') n1
    exact ⟨.ref f, _, I1, rfl, h f _ (fun b o e n => sm _ _ (eN b o e n)) (T1.ext sm) n0 ⟨_, params, body, scope, c', upd_same, sm _ _ hc, act f c'⟩⟩
  rcases hc : codeAmong pos pt.toList with _ | cv
  · refine PySem.W.kla_makeFunction (mg := X.mg) (c := c) (P := B) (ps := pt) cl I.ok.glob glb hcode hdc hat trip hc TB.gP blt ?_
    intro c2 ctv h' tk hx hge hlt hrec htb
    obtain ⟨c3, oc, vs, t', e3, g1, g2, g3⟩ := hrec
    cases e3
    have nC : H c2 = none := I.hok.fresh hge
    have I0 := inv_table (t' := tk) (more := #[rawInt pos.line, rawInt pos.col, .ref c2]) (h' := h') I hB hx htb hge ⟨oc, vs, t', g1, g2, g3⟩
    have stays : ExtN H (upd (upd H B (.tbl (pt ++ #[rawInt pos.line, rawInt pos.col, .ref c2]))) c2 (CodeO c2 (X.env.qual ++ "<lambda>"))) := by
      intro b o e n
      rw [upd_ne (ne_of_none e nC)]
      by_cases hb : b = B
      · subst hb
        rw [hB] at e
        exact absurd (Option.some.inj e).symm (n pt)
      · rw [upd_ne hb]; exact e
    have fresh : H h'.objs.size = none := I.hok.fresh (Nat.le_trans hge (Nat.le_of_lt hlt))
    refine tell (lay_lamN (t' := tk) (c' := c2) (ctv := ctv) I0) stays ?_ ?_ fresh upd_same
    · intro p hp
      by_cases hb : p.1 = B
      · rw [hu p hp hb, hb]
        refine ⟨pt ++ #[rawInt pos.line, rawInt pos.col, .ref c2], ?_, ?_, ?_⟩
        · rw [upd_ne (ne_of_none hB nC), upd_same]
        · rw [show (pt ++ #[rawInt pos.line, rawInt pos.col, .ref c2]).toList = pt.toList ++ [rawInt pos.line, rawInt pos.col, .ref c2] by simp]
          exact PySem.TriplesOk_snoc _ _ _ _ trip
        · intro p' cv' hcv
          rw [show (pt ++ #[rawInt pos.line, rawInt pos.col, .ref c2]).toList = pt.toList ++ [rawInt pos.line, rawInt pos.col, .ref c2] by simp] at hcv
          rcases among_app _ trip hcv with z | z
          · obtain ⟨c0, a1, a2⟩ := amg p' cv' z
            exact ⟨c0, a1, stays _ _ a2 codeO_ne⟩
          · exact ⟨c2, z, upd_same⟩
      · obtain ⟨qs, a1, a2, a3⟩ := hT p hp
        refine ⟨qs, ?_, a2, ?_⟩
        · rw [upd_ne (ne_of_none a1 nC), upd_ne hb]; exact a1
        · intro p' cv' hcv
          obtain ⟨c0, b1, b2⟩ := a3 p' cv' hcv
          exact ⟨c0, b1, stays _ _ b2 codeO_ne⟩
    · have n1 : h'.objs.size ≠ c2 := Nat.ne_of_gt hlt
      have n2 : h'.objs.size ≠ B := Nat.ne_of_gt (Nat.lt_of_lt_of_le (Heap.lt_size hat) (Nat.le_trans hge (Nat.le_of_lt hlt)))
      rw [upd_ne n1, upd_ne n2]
      exact fresh
  · obtain ⟨c2, e, hco⟩ := amg pos cv hc
    subst e
    refine PySem.W.kla_makeFunctionHit (mg := X.mg) (c := c) (P := B) (ps := pt) cl I.ok.glob glb hcode hdc hat trip hc blt ?_
    intro ctv h' tk hx hsz
    have I0 : Inv X pins σ H { s with heap := h', toks := tk } := I.kept hx
    exact tell (lay_lamN (t' := tk) (c' := c2) (ctv := ctv) I0) (ExtN.refl H) hT (I.hok.fresh hsz) (I.hok.fresh hsz) hco
end
end Lw
namespace Lw
open PySem PySem.Spec PyProof.Rows L2
open SX PySem.NumText TL LamX
/-! ### the Reader -/
abbrev sRI : Stmt := inClass (top 21) 0
abbrev sRah : Stmt := inClass (top 21) 1
abbrev sRrf : Stmt := inClass (top 21) 2
abbrev sRtk : Stmt := inClass (top 21) 3
abbrev sRmo : Stmt := inClass (top 21) 6
abbrev sRfi : Stmt := inClass (top 21) 7
section
variable {X : Cx} {k j : Nat} {C : Addr} {m : Str} {sp : Sp} {E : XK} {o e : Expr} {es : List Expr} {ta : TE} {t : TA} {pos apos : Pos} {pl : Sem Bool}
/-- a method of an own class, called -/
theorem pe_mx0 (he : PE X o ta) (c : Cls X.K C) (M : MetX X.prog X.w X.K X.mg X.base k C m sp) (hr : Room j X.A) (hk : k ≤ j) (hx : Passes (L2.CX X.prog X.w) X E)
    (ht : eval (.Call (.Attribute o m apos) [] [] pos) X.env = (do
      let ov ← eval o X.env
      standAt apos.atName
      let (f, first) ← holding [ov] (getMethod ov m pl)
      callWith pos f first (backTo pos (starEach [] X.env)) (backToKw pos (keywordEach [] X.env))) := by rfl) :
    PE X (.Call (.Attribute o m apos) [] [] pos) (tMeth C m sp [] E ta tNil) := by
  obtain ⟨g, fd, ps, hm, F, b⟩ := M.ex
  exact pe_meth0 he c hm F (hr.mono hk) b .nil hx ht
theorem pe_mx (he : PE X o ta) (c : Cls X.K C) (M : MetX X.prog X.w X.K X.mg X.base k C m sp) (hr : Room j X.A) (hk : k ≤ j) (hx : Passes (L2.CX X.prog X.w) X E) (ha : PA X (e :: es) t)
    (hst : starEach (e :: es) X.env = (false, eval e X.env) :: starEach es X.env := by rfl) (hpl : (backTo pos (starEach es X.env)).any (·.1) = false := by rfl)
    (ht : eval (.Call (.Attribute o m apos) (e :: es) [] pos) X.env = (do
      let ov ← eval o X.env
      standAt apos.atName
      let (f, first) ← holding [ov] (getMethod ov m pl)
      callWith pos f first (backTo pos (starEach (e :: es) X.env)) (backToKw pos (keywordEach [] X.env))) := by rfl) :
    PE X (.Call (.Attribute o m apos) (e :: es) [] pos) (tMeth C m sp [] E ta t) := by
  obtain ⟨g, fd, ps, hm, F, b⟩ := M.ex
  exact pe_meth he c hm F (hr.mono hk) b .nil hx ha hst hpl ht
end
theorem putF_len (f : Str) (v : V) : ∀ fs : List (Str × V), (putF f v fs).length ≤ fs.length + 1
  | [] => Nat.le_refl _
  | (g, x) :: r => by
    unfold putF
    split
    · simp
    · have := putF_len f v r
      rw [List.length_cons, List.length_cons]
      omega
/-- its attributes -/
def rdF (l : Addr) (n : Int) : List (Str × V) := [("_words", .ref l), ("_row", .int 0), ("_at", .int n)]
theorem rdF_words (l : Addr) (n : Int) : (rdF l n).lookup ("_words" : Str) = some (.ref l) := by unfold rdF; rw [lookup_put, if_pos rfl]
theorem rdF_row (l : Addr) (n : Int) : (rdF l n).lookup ("_row" : Str) = some (.int 0) := by unfold rdF; rw [lookup_put, if_neg (by decide +kernel), lookup_put, if_pos rfl]
theorem rdF_at (l : Addr) (n : Int) : (rdF l n).lookup ("_at" : Str) = some (.int n) := by unfold rdF; rw [lookup_put, if_neg (by decide +kernel), lookup_put, if_neg (by decide +kernel), lookup_put, if_pos rfl]
theorem rdF_no {m : Str} (l : Addr) (n : Int) (h1 : m ≠ "_words") (h2 : m ≠ "_row") (h3 : m ≠ "_at") : (rdF l n).lookup m = none := by unfold rdF; rw [lookup_put, if_neg h1, lookup_put, if_neg h2, lookup_put, if_neg h3]; rfl
theorem rdF_put (l : Addr) (n i : Int) : putF "_at" (.int i) (rdF l n) = rdF l i := by
  unfold rdF putF
  rw [if_neg (by decide +kernel)]
  unfold putF
  rw [if_neg (by decide +kernel)]
  unfold putF
  rw [if_pos rfl]
theorem rdF_new (l : Addr) (n : Int) : putF "_at" (.int n) (putF "_row" (.int 0) (putF "_words" (.ref l) [])) = rdF l n := by
  have e1 : putF "_words" (.ref l) [] = [(("_words" : Str), V.ref l)] := rfl
  have e2 : putF "_row" (.int 0) [(("_words" : Str), V.ref l)] = [(("_words" : Str), V.ref l), (("_row" : Str), V.int 0)] := by
    unfold putF
    rw [if_neg (by decide +kernel)]
    rfl
  rw [e1, e2]
  unfold putF
  rw [if_neg (by decide +kernel)]
  unfold putF
  rw [if_neg (by decide +kernel)]
  rfl
/-- the words of a text -/
def wds (cs : List Nat) : List (List Nat) := TL.spl [32] 0 [] cs
theorem split_wds (cs : List Nat) : Txt.split (S cs) (Str.ofString " ") = (wds cs).map S := split_S (b := [32]) (List.cons_ne_nil _ _) rfl
def wV (ws : List (List Nat)) : List V := (ws.map S).map V.str
def RdAt (R : Addr) (H : Hp) (r l : Addr) (ws : List (List Nat)) (n : Nat) : Prop := (∃ dx, H r = some (.ins R dx (rdF l n))) ∧ H l = some (.lst (wV ws))
theorem RdAt.same {R : Addr} {H H' : Hp} {r l : Addr} {ws : List (List Nat)} {n : Nat} (h : RdAt R H r l ws n) (s : Same H H') : RdAt R H' r l ws n := by
  obtain ⟨⟨dx, h1⟩, h2⟩ := h
  exact ⟨⟨dx, s _ _ h1⟩, s _ _ h2⟩
/-- the word at hand -/
def handV (ws : List (List Nat)) (n : Nat) : V := match ws[n]? with
  | some w => .str (S w)
  | none => .non
/-- all but what stands at r is as it was: Kp. A refusal at word n -/
def Rf (D : Addr) (H : Hp) (E : XK) (n : Nat) : Prop := ∀ d fs H', Same H H' → H' d = none → fs.lookup ("line" : Str) = some (.int 0) → fs.lookup ("word" : Str) = some (.int n) → E (.ref D) (some d) (upd H' d (.xd fs))
def spRI (K : PySem.W.Frag) (R D : Addr) : Sp := fun vs H Q E => ∃ (r dx : Addr) (x : V), vs = [.ref r, x, .int 0] ∧ Anyv K H x ∧ H r = some (.ins R dx []) ∧ (isS x = false → Rf D H E 0) ∧
  ∀ z, x = .str z → ∃ cs, z = S cs ∧ cs.length ≤ 100000 ∧ ∀ l, H l = none → Q .non (upd (upd H l (.lst (wV (wds cs)))) r (.ins R dx (rdF l 0)))
def spRah (R : Addr) : Sp := fun vs H Q _ => ∃ r l ws n, vs = [.ref r] ∧ RdAt R H r l ws n ∧ Q (handV ws n) H
def spRrf (R D : Addr) : Sp := fun vs H _ E => ∃ r l ws n, vs = [.ref r] ∧ RdAt R H r l ws n ∧ Rf D H E n
def spRtk (R D : Addr) : Sp := fun vs H Q E => ∃ r l ws n x, vs = [.ref r, x] ∧ RdAt R H r l ws n ∧ (x = .non → Rf D H E n) ∧ (x ≠ .non → ∀ H', Kp r H H' → RdAt R H' r l ws (n + 1) → Q x H')
def moreB (ws : List (List Nat)) (n : Nat) : Bool := match ws[n]? with
  | some w => !(decide (w = [47]) || decide (w = [59]))
  | none => false
def spRmo (R : Addr) : Sp := fun vs H Q _ => ∃ r l ws n, vs = [.ref r] ∧ RdAt R H r l ws n ∧ ∀ H', Same H H' → Q (.bl (moreB ws n)) H'
def spRfi (R D : Addr) : Sp := fun vs H Q E => ∃ r l ws n, vs = [.ref r] ∧ RdAt R H r l ws n ∧ (n < ws.length → Rf D H E n) ∧ (ws.length ≤ n → Q .non H)
/-- the Reader's class -/
structure RdC (K : PySem.W.Frag) (R : Addr) : Prop where
  cl : Cls K R
  n1 : NoAttr K R "_words"
  n2 : NoAttr K R "_row"
  n3 : NoAttr K R "_at"
theorem eqV_S (a b : List Nat) : eqV (.str (S a)) (.str (S b)) = decide (b = a) := by
  show (S a == S b) = _
  by_cases h : b = a
  · subst h; simp
  · rw [decide_eq_false h]
    exact beq_eq_false_iff_ne.mpr fun e => h (S_inj e).symm
section
variable {P : Program} {w : World} {K : PySem.W.Frag} {mg : Str → Option Value} {base : Heap}
theorem scRI : FnScope ["self", "text", "row"] ["self", "text", "row"] (C8.fnScope sRI) := C8.fnScope_by (by decide +kernel)
theorem fn_ri {R D f fE : Addr} {fd fdE : FuncData} (F : C8.Fun K "__init__" "Reader.__init__" sRI f fd) (T : Txt mg) (rc : RdC K R) (ER : Err2 "BadText" "line" "word" P w K mg base D fE fdE) : FnOk P w K mg base (L2.CX P w) 3 f fd ["self", "text", "row"] (spRI K R D) := by
  obtain ⟨oc, od, dV, kV, doc, pm, an, cdv, ct, osl, rfl, lk, hcd⟩ := F.ex
  refine fn_of lk hcd scRI (fun vs H Q E h => ?_) fun A outer s H vs Q E hr h => ?_
  · obtain ⟨r, dx, x, rfl, _⟩ := h
    rfl
  · obtain ⟨r, dx, x, rfl, av, hx, k1, k2⟩ := h
    have tk : Takes (cxOf (L2.CX P w) P w K mg base ["self", "text", "row"] "Reader.__init__" (C8.fnScope sRI) f cdv A outer s H E) (fun cls d _ H' => E cls d H') := takes_of rfl rfl rfl rfl
    refine ⟨_, (pss_cons (ps_if (pt_not (pt_val (pe_callB call_isz (by rfl) T.n_isinstance (by decide +kernel) (pa_cons (pv 1) (pa_cons (pe_bltn (v := .ty "str") (by rfl) T.n_str (by decide +kernel) rfl) pa_nil))))) (pss_one (ps_bad2 (x := "BadText") rfl tk ER.T ER.iC ER.tI ER.F hr ER.b (by rfl) ER.hm pe_int pe_int)) pss_nil)
      (pss_cons (ps_fld (pv 0) (pe_split (pv 1) pe_str) rfl)
      (pss_cons (ps_fld (pv 0) (pv 2) rfl)
      (pss_one (ps_fld (pv 0) pe_int rfl))))), ?_⟩
    refine ⟨_, rfl, ?_⟩
    dsimp only [tCons, tC, tNil]
    refine isz_str av ⟨_, rfl, ?_⟩
    have no : isS x = false → tBad2 "line" "word" D (fun cls d _ H' => E cls d H') (tC (.int 0)) (tC (.int 0)) { nx := fun _ H' => Q .non H', rt := Q } [] H := fun e => by
      exact bad_leaf2 fun d fs hd e1 e2 => k1 e d fs H (Same.refl _) hd e1 e2
    cases av with
    | str z =>
      obtain ⟨cs, rfl, hl, go⟩ := k2 z rfl
      have hs : (S cs).length + 2 ≤ sizeLine := by rw [S_len]; exact Nat.le_trans (Nat.add_le_add_right hl 2) (by decide)
      refine iteF ?_
      refine ⟨_, rfl, ⟨_, rfl⟩, _, _, rfl, rfl, by rfl, hs, fun l fl => ?_⟩
      rw [split_wds]
      have ne : l ≠ r := fun e => by rw [e, hx] at fl; cases fl
      refine ⟨_, rfl, r, R, dx, [], rfl, by rw [upd_ne ne.symm]; exact hx, rc.cl, rc.n1, (by show 0 < 1000; decide), ?_⟩
      refine ⟨_, rfl, _, rfl, r, R, dx, _, rfl, upd_same, rc.cl, rc.n2, (by show 1 < 1000; decide), ?_⟩
      refine ⟨_, rfl, r, R, dx, _, rfl, upd_same, rc.cl, rc.n3, ?_, ?_⟩
      · exact Nat.lt_of_le_of_lt (Nat.le_trans (putF_len _ _ _) (Nat.add_le_add_right (putF_len _ _ _) 1)) (by decide)
      rw [upd_upd, upd_upd, rdF_new]
      exact go l fl
    | int i => exact iteT (no rfl)
    | bl b => exact iteT (no rfl)
    | non => exact iteT (no rfl)
    | obj h h1 h2 h3 => exact iteT (no rfl)
theorem hand_any (K : PySem.W.Frag) (H : Hp) (ws : List (List Nat)) (n : Nat) : Anyv K H (handV ws n) := by
  unfold handV
  cases ws[n]? with
  | none => exact .non
  | some w => exact .str _
theorem scRah : FnScope ["self"] ["self"] (C8.fnScope sRah) := C8.fnScope_by (by decide +kernel)
theorem fn_rah {R f : Addr} {fd : FuncData} (F : C8.Fun K "at_hand" "Reader.at_hand" sRah f fd) (T : Txt mg) (rc : RdC K R) : FnOk P w K mg base (L2.CX P w) 1 f fd ["self"] (spRah R) := by
  obtain ⟨oc, od, dV, kV, doc, pm, an, cdv, ct, osl, rfl, lk, hcd⟩ := F.ex
  refine fn_of lk hcd scRah (fun vs H Q E h => ?_) fun A outer s H vs Q E hr h => ?_
  · obtain ⟨r, l, ws, n, rfl, _⟩ := h
    rfl
  · obtain ⟨r, l, ws, n, rfl, ⟨⟨dx, hr1⟩, hl⟩, k⟩ := h
    refine ⟨_, (pss_one (ps_ret (pe_ifExp (pt_cmpR op_lt (pe_fld (pv 0) rfl) (pe_callB call_len_seq (by rfl) T.n_len (by decide +kernel) (pa_cons (pe_fld (pv 0) rfl) pa_nil)) (nomark _)) (pe_ix ix_list (pe_fld (pv 0) rfl) (pe_fld (pv 0) rfl) (fun _ _ => rfl)) pe_non))), ?_⟩
    refine ⟨_, rfl, r, R, dx, _, _, rfl, hr1, rc.cl, rc.n3, rdF_at l n, _, rfl, r, R, dx, _, _, rfl, hr1, rc.cl, rc.n1, rdF_words l n, l, _, rfl, .inl (SqL.of hl), _, _, rfl, rfl, _, rfl, ite2 (fun c => ?_) (fun c => ?_)⟩
    · have c' := of_decide_eq_true c
      have hlen : (wV ws).length = ws.length := by unfold wV; rw [List.length_map, List.length_map]
      rw [hlen] at c'
      have hn : n < ws.length := by omega
      refine ⟨_, rfl, r, R, dx, _, _, rfl, hr1, rc.cl, rc.n1, rdF_words l n, _, rfl, r, R, dx, _, _, rfl, hr1, rc.cl, rc.n3, rdF_at l n, l, _, _, .str (S ws[n]), rfl, rfl, SqL.of hl, atI_nat (by unfold wV; simp [hn]), ?_⟩
      unfold handV at k
      rw [List.getElem?_eq_getElem hn] at k
      exact k
    · have c' := of_decide_eq_false (Bool.eq_false_iff.mpr c)
      have hlen : (wV ws).length = ws.length := by unfold wV; rw [List.length_map, List.length_map]
      rw [hlen] at c'
      unfold handV at k
      rw [List.getElem?_eq_none (by omega)] at k
      exact k
theorem scRrf : FnScope ["self"] ["self"] (C8.fnScope sRrf) := C8.fnScope_by (by decide +kernel)
theorem fn_rrf {R D f fE : Addr} {fd fdE : FuncData} (F : C8.Fun K "refuse" "Reader.refuse" sRrf f fd) (rc : RdC K R) (ER : Err2 "BadText" "line" "word" P w K mg base D fE fdE) : FnOk P w K mg base (L2.CX P w) 3 f fd ["self"] (spRrf R D) := by
  obtain ⟨oc, od, dV, kV, doc, pm, an, cdv, ct, osl, rfl, lk, hcd⟩ := F.ex
  refine fn_of lk hcd scRrf (fun vs H Q E h => ?_) fun A outer s H vs Q E hr h => ?_
  · obtain ⟨r, l, ws, n, rfl, _⟩ := h
    rfl
  · obtain ⟨r, l, ws, n, rfl, ⟨⟨dx, hr1⟩, hl⟩, k⟩ := h
    have tk : Takes (cxOf (L2.CX P w) P w K mg base ["self"] "Reader.refuse" (C8.fnScope sRrf) f cdv A outer s H E) (fun cls d _ H' => E cls d H') := takes_of rfl rfl rfl rfl
    refine ⟨_, (pss_one (ps_bad2 (x := "BadText") rfl tk ER.T ER.iC ER.tI ER.F hr ER.b (by rfl) ER.hm (pe_fld (pv 0) rfl) (pe_fld (pv 0) rfl))), ?_⟩
    refine ⟨_, rfl, r, R, dx, _, _, rfl, hr1, rc.cl, rc.n2, rdF_row l n, _, rfl, r, R, dx, _, _, rfl, hr1, rc.cl, rc.n3, rdF_at l n, ?_⟩
    exact bad_leaf2 fun d fs hd e1 e2 => k d fs H (Same.refl _) hd e1 e2
theorem scRtk : FnScope ["self", "worth"] ["self", "worth"] (C8.fnScope sRtk) := C8.fnScope_by (by decide +kernel)
theorem fn_rtk {R D f : Addr} {fd : FuncData} (F : C8.Fun K "take" "Reader.take" sRtk f fd) (rc : RdC K R) (MR : MetX P w K mg base 3 R "refuse" (spRrf R D)) : FnOk P w K mg base (L2.CX P w) 5 f fd ["self", "worth"] (spRtk R D) := by
  obtain ⟨oc, od, dV, kV, doc, pm, an, cdv, ct, osl, rfl, lk, hcd⟩ := F.ex
  refine fn_of lk hcd scRtk (fun vs H Q E h => ?_) fun A outer s H vs Q E hr h => ?_
  · obtain ⟨r, l, ws, n, x, rfl, _⟩ := h
    rfl
  · obtain ⟨r, l, ws, n, x, rfl, at_, k1, k2⟩ := h
    obtain ⟨⟨dx, hr1⟩, hl⟩ := id at_
    refine ⟨_, (pss_cons (ps_if (pt_cmpR op_isN (pv 1) pe_non (nomark _)) (pss_one (ps_expr (pe_mx0 (pv 0) rc.cl MR hr (by decide) (passes_call (takes_of rfl rfl rfl rfl) (fun _ _ _ _ z => z))))) pss_nil)
      (pss_cons (ps_fldaug (pv 0) pe_int in_add)
      (pss_one (ps_ret (pv 1))))), ?_⟩
    refine ⟨_, rfl, rfl, _, rfl, ite2 (fun c => ?_) (fun c => ?_)⟩
    · exact ⟨_, rfl, r, dx, _, rfl, hr1, rdF_no l n (by decide +kernel) (by decide +kernel) (by decide +kernel), r, l, ws, n, rfl, at_, k1 (of_decide_eq_true c)⟩
    · have nx : x ≠ .non := of_decide_eq_false (Bool.eq_false_iff.mpr c)
      refine ⟨_, rfl, r, R, dx, _, _, rfl, hr1, rc.cl, rc.n3, rdF_at l n, ?_⟩
      refine ⟨_, _, rfl, rfl, dx, _, hr1, (by show 3 < 1000; decide), ?_⟩
      rw [rdF_put]
      have nl : l ≠ r := fun e => by rw [e, hr1] at hl; cases hl
      refine ⟨_, rfl, k2 nx _ (fun b o hb e => by rw [upd_ne hb]; exact e) ⟨⟨dx, ?_⟩, by rw [upd_ne nl]; exact hl⟩⟩
      rw [upd_same]
      rfl
theorem scRmo : FnScope ["self"] ["self"] (C8.fnScope sRmo) := C8.fnScope_by (by decide +kernel)
theorem fn_rmo {R f : Addr} {fd : FuncData} (F : C8.Fun K "more" "Reader.more" sRmo f fd) (rc : RdC K R) (MA : MetX P w K mg base 1 R "at_hand" (spRah R)) : FnOk P w K mg base (L2.CX P w) 3 f fd ["self"] (spRmo R) := by
  obtain ⟨oc, od, dV, kV, doc, pm, an, cdv, ct, osl, rfl, lk, hcd⟩ := F.ex
  refine fn_of lk hcd scRmo (fun vs H Q E h => ?_) fun A outer s H vs Q E hr h => ?_
  · obtain ⟨r, l, ws, n, rfl, _⟩ := h
    rfl
  · obtain ⟨r, l, ws, n, rfl, at_, k⟩ := h
    obtain ⟨⟨dx, hr1⟩, hl⟩ := id at_
    refine ⟨_, (pss_one (ps_ret (pe_cmpR op_notIn_seq (pe_mx0 (E := C8.E0) (pv 0) rc.cl MA hr (by decide) (passes_call takes0 (fun _ _ _ _ z => z))) (pe_tup (pa_cons pe_non (pa_cons pe_str (pa_cons pe_str pa_nil)))) (by rfl)))), ?_⟩
    refine ⟨_, rfl, r, dx, _, rfl, hr1, rdF_no l n (by decide +kernel) (by decide +kernel) (by decide +kernel), r, l, ws, n, rfl, at_, ?_⟩
    refine ⟨(by show 3 ≤ sizeLine; decide), fun q hq => ?_⟩
    refine ⟨q, _, rfl, .inr (SqT.of upd_same), by unfold handV; cases ws[n]? <;> rfl, rfl, ?_⟩
    have e : (!inV (handV ws n) [V.non, .str (Str.ofString "/"), .str (Str.ofString ";")]) = moreB ws n := by
      unfold handV moreB
      cases ws[n]? with
      | none => rfl
      | some w =>
        show (!(eqV .non (.str (S w)) || (eqV (.str (Str.ofString "/")) (.str (S w)) || (eqV (.str (Str.ofString ";")) (.str (S w)) || false)))) = _
        have e1 : eqV (.str (Str.ofString "/")) (.str (S w)) = decide (w = [47]) := eqV_S [47] w
        have e2 : eqV (.str (Str.ofString ";")) (.str (S w)) = decide (w = [59]) := eqV_S [59] w
        rw [e1, e2, Bool.or_false]
        rfl
    have := k _ (same_new (o := HO.tup [V.non, .str (Str.ofString "/"), .str (Str.ofString ";")]) hq)
    rw [← e] at this
    exact this
theorem scRfi : FnScope ["self"] ["self"] (C8.fnScope sRfi) := C8.fnScope_by (by decide +kernel)
theorem fn_rfi {R D f : Addr} {fd : FuncData} (F : C8.Fun K "finish" "Reader.finish" sRfi f fd) (T : Txt mg) (rc : RdC K R) (MR : MetX P w K mg base 3 R "refuse" (spRrf R D)) : FnOk P w K mg base (L2.CX P w) 5 f fd ["self"] (spRfi R D) := by
  obtain ⟨oc, od, dV, kV, doc, pm, an, cdv, ct, osl, rfl, lk, hcd⟩ := F.ex
  refine fn_of lk hcd scRfi (fun vs H Q E h => ?_) fun A outer s H vs Q E hr h => ?_
  · obtain ⟨r, l, ws, n, rfl, _⟩ := h
    rfl
  · obtain ⟨r, l, ws, n, rfl, at_, k1, k2⟩ := h
    obtain ⟨⟨dx, hr1⟩, hl⟩ := id at_
    refine ⟨_, (pss_one (ps_if (pt_cmpR op_lt (pe_fld (pv 0) rfl) (pe_callB call_len_seq (by rfl) T.n_len (by decide +kernel) (pa_cons (pe_fld (pv 0) rfl) pa_nil)) (nomark _)) (pss_one (ps_expr (pe_mx0 (pv 0) rc.cl MR hr (by decide) (passes_call (takes_of rfl rfl rfl rfl) (fun _ _ _ _ z => z))))) pss_nil)), ?_⟩
    have hlen : (wV ws).length = ws.length := by unfold wV; rw [List.length_map, List.length_map]
    refine ⟨_, rfl, r, R, dx, _, _, rfl, hr1, rc.cl, rc.n3, rdF_at l n, _, rfl, r, R, dx, _, _, rfl, hr1, rc.cl, rc.n1, rdF_words l n, l, _, rfl, .inl (SqL.of hl), _, _, rfl, rfl, _, rfl, ite2 (fun c => ?_) (fun c => ?_)⟩
    · have c' := of_decide_eq_true c
      rw [hlen] at c'
      exact ⟨_, rfl, r, dx, _, rfl, hr1, rdF_no l n (by decide +kernel) (by decide +kernel) (by decide +kernel), r, l, ws, n, rfl, at_, k1 (by omega)⟩
    · have c' := of_decide_eq_false (Bool.eq_false_iff.mpr c)
      rw [hlen] at c'
      exact k2 (by omega)
end
end Lw
namespace Lw
open PySem PySem.Spec PyProof.Rows L2
open SX PySem.NumText TL LamX ClX StX
section
variable {X : Cx}
/-- two texts in order, by their signs -/
abbrev rTxB (f : List Nat → List Nat → Bool) : R2 := fun x y H Q => ∃ a b : Str, x = .str a ∧ y = .str b ∧ Q (.bl (f a.cps.toList b.cps.toList)) H
theorem op_leT : OpR X (compareOp .LtE) (rTxB fun a b => !decide (b < a)) := by
  intro pins s σ H x y v u Q I rx ry h
  obtain ⟨a, b, rfl, rfl, q⟩ := h
  obtain ⟨t, rfl⟩ := rx
  obtain ⟨t', rfl⟩ := ry
  exact PySem.P.le_str ⟨.bl _, H, I, rfl, q⟩
theorem op_gtT : OpR X (compareOp .Gt) (rTxB fun a b => decide (b < a)) := by
  intro pins s σ H x y v u Q I rx ry h
  obtain ⟨a, b, rfl, rfl, q⟩ := h
  obtain ⟨t, rfl⟩ := rx
  obtain ⟨t', rfl⟩ := ry
  exact PySem.P.gt_str ⟨.bl _, H, I, rfl, q⟩
end
/-! ### the words of a crew: the pairs, or the first word that cannot stand -/
def spV (w : List Nat) : Option Int := numV (.str (S w)) 1 60
def rdw : List (List Nat) → List Nat → Nat → Nat → Nat ⊕ List (Str × Int)
  | [], _, _, _ => .inr []
  | n :: r, last, m, p => if nameT (S n) = true ∧ last < n ∧ m ≠ 8 then
      match r with
      | [] => .inl (p + 1)
      | v :: r' => match spV v with
        | none => .inl (p + 1)
        | some k => match rdw r' n (m + 1) (p + 2) with
          | .inl e => .inl e
          | .inr l => .inr ((S n, k) :: l)
    else .inl p
end Lw
namespace Lw
open PySem PySem.Spec PyProof.Rows L2
open SX PySem.NumText TL LamX ClX StX
abbrev sRN : Stmt := top 22
/-- the methods of the Reader, ready to be called (no expect) -/
structure RdMs (P : Program) (w : World) (K : PySem.W.Frag) (mg : Str → Option Value) (base : Heap) (R D : Addr) : Prop where
  rc : RdC K R
  A : MetX P w K mg base 1 R "at_hand" (spRah R)
  T : MetX P w K mg base 5 R "take" (spRtk R D)
  M : MetX P w K mg base 3 R "more" (spRmo R)
  F : MetX P w K mg base 5 R "finish" (spRfi R D)
/-- a refusal, the reader's record moved -/
def RfK (r : Addr) (D : Addr) (H : Hp) (E : XK) (n : Nat) : Prop := ∀ d fs H', Kp r H H' → H' d = none → fs.lookup ("line" : Str) = some (.int 0) → fs.lookup ("word" : Str) = some (.int n) → E (.ref D) (some d) (upd H' d (.xd fs))
def spLs (K : PySem.W.Frag) : Sp := fun vs H Q _ => ∃ x, vs = [x] ∧ Anyv K H x ∧ TextOk x ∧ Q (optV (numV x 1 60)) H
def WsOk (ws : List (List Nat)) : Prop := ws ≠ [] ∧ ws.length ≤ 20000 ∧ ∀ w ∈ ws, (∀ c ∈ w, c < 128) ∧ w.length ≤ 5000
/-- what read_named tells: the pairs, or the first word that cannot stand (or it stops ahead of that word) -/
def RnR (R D r l : Addr) (ws : List (List Nat)) (H : Hp) (Q : VK) (E : XK) : Prop :=
  (∀ ps, rdw ws [] 0 0 = .inr ps → ∀ q H', Kp r H H' → H q = none → H' q = some (.dK (dkI ps)) → RdAt R H' r l ws ws.length → Q (.ref q) H') ∧
  (∀ n, rdw ws [] 0 0 = .inl n → RfK r D H E n ∧ (n < ws.length → ∀ q H', Kp r H H' → RdAt R H' r l ws n → Q (.ref q) H'))
def spRN (P : Program) (w : World) (K : PySem.W.Frag) (mg : Str → Option Value) (base : Heap) (R D : Addr) : Sp := fun vs H Q E => ∃ r l ws f, vs = [.ref r, .ref f, .int 8] ∧ RdAt R H r l ws 0 ∧ WsOk ws ∧ LamAt P w K mg base 4 ["word"] (spLs K) H f ∧ RnR R D r l ws H Q E
theorem via {tt : TT} {σ : L2.St} {H : Hp} {QQ : Bool → Hp → Prop} (Pj : Bool → Hp → Prop) (h1 : ∀ b H1, Pj b H1 → QQ b H1) (h2 : (∀ b H1, Pj b H1 → QQ b H1) → tt σ H QQ) : tt σ H QQ := h2 h1
theorem rdw_stop {ws : List (List Nat)} {i m : Nat} {last : List Nat} (h : moreB ws i = false) : (ws.length ≤ i ∧ rdw (ws.drop i) last m i = .inr []) ∨ (i < ws.length ∧ rdw (ws.drop i) last m i = .inl i) := by
  by_cases il : i < ws.length
  · refine .inr ⟨il, ?_⟩
    unfold moreB at h
    rw [List.getElem?_eq_getElem il] at h
    dsimp only at h
    rw [List.drop_eq_getElem_cons il]
    unfold rdw
    have n : nameT (S ws[i]) = false := by
      by_cases h1 : ws[i] = [47]
      · rw [h1]; decide +kernel
      · by_cases h2 : ws[i] = [59]
        · rw [h2]; decide +kernel
        · rw [decide_eq_false h1, decide_eq_false h2] at h; cases h
    rw [if_neg fun z => by rw [n] at z; cases z.1]
  · refine .inl ⟨by omega, ?_⟩
    rw [List.drop_eq_nil_of_le (by omega)]
    rfl
theorem viaA {ta tb : TE} {σ : L2.St} {H : Hp} {QQ : V → Hp → Prop} (Pj : V → Hp → Prop) (h1 : ∀ x H1, Pj x H1 → QQ x H1) (h2 : (∀ x H1, Pj x H1 → QQ x H1) → tAndV ta tb σ H QQ) : tAndV ta tb σ H QQ := h2 h1
def fitB (last : List Nat) (m : Nat) (w : List Nat) : Bool := nameT (S w) && (decide (last < w) && !decide (m = 8))
theorem fit_iff {last w : List Nat} {m : Nat} : fitB last m w = true ↔ (nameT (S w) = true ∧ last < w ∧ m ≠ 8) := by
  unfold fitB
  rw [Bool.and_eq_true, Bool.and_eq_true, decide_eq_true_iff, Bool.not_eq_true', decide_eq_false_iff_not]
theorem rdw_no {ws : List (List Nat)} {i m : Nat} {last : List Nat} (il : i < ws.length) (h : fitB last m ws[i] = false) : rdw (ws.drop i) last m i = .inl i := by
  rw [List.drop_eq_getElem_cons il]
  unfold rdw
  rw [if_neg fun z => by rw [fit_iff.mpr z] at h; cases h]
theorem rdw_no1 {ws : List (List Nat)} {i m : Nat} {last : List Nat} (il : i < ws.length) (h : fitB last m ws[i] = true) (n : ∀ v, ws[i + 1]? = some v → spV v = none) : rdw (ws.drop i) last m i = .inl (i + 1) := by
  rw [List.drop_eq_getElem_cons il]
  unfold rdw
  rw [if_pos (fit_iff.mp h)]
  cases e : ws.drop (i + 1) with
  | nil => rfl
  | cons v r =>
    have z : ws[i + 1]? = some v := by
      have := congrArg (fun l => l[0]?) e
      simpa using this
    dsimp only
    rw [n v z]
theorem rdw_yes {ws : List (List Nat)} {i m : Nat} {last v : List Nat} {k : Int} (il : i < ws.length) (h : fitB last m ws[i] = true) (hv : ws[i + 1]? = some v) (hk : spV v = some k) : rdw (ws.drop i) last m i = match rdw (ws.drop (i + 2)) ws[i] (m + 1) (i + 2) with
    | .inl e => .inl e
    | .inr l => .inr ((S ws[i], k) :: l) := by
  obtain ⟨i2, e2⟩ := List.getElem?_eq_some_iff.mp hv
  rw [List.drop_eq_getElem_cons il, List.drop_eq_getElem_cons i2, e2]
  conv => lhs; unfold rdw
  rw [if_pos (fit_iff.mp h)]
  dsimp only
  rw [hk]
  all_goals rfl
theorem _root_.Lw.LamAt.butI {P : Program} {w : World} {K : PySem.W.Frag} {mg : Str → Option Value} {base : Heap} {k : Nat} {ps : List Str} {sp : Sp} {H H' : Hp} {f p C dx : Addr} {fs : List (Str × V)} (h : LamAt P w K mg base k ps sp H f) (hp : H p = some (.ins C dx fs)) (kp : Kp p H H') : LamAt P w K mg base k ps sp H' f := by
  obtain ⟨q, params, body, scope, c', h1, h2, a⟩ := h
  refine ⟨q, params, body, scope, c', kp _ _ (fun e => ?_) h1, kp _ _ (fun e => ?_) h2, a⟩
  · rw [e, hp] at h1
    unfold LamN at h1
    cases h1
  · rw [e, hp] at h2
    unfold CodeO at h2
    cases h2
theorem _root_.Lw.LamAt.butL {P : Program} {w : World} {K : PySem.W.Frag} {mg : Str → Option Value} {base : Heap} {k : Nat} {ps : List Str} {sp : Sp} {H H' : Hp} {f p : Addr} {xs : List V} (h : LamAt P w K mg base k ps sp H f) (hp : H p = some (.lst xs)) (kp : Kp p H H') : LamAt P w K mg base k ps sp H' f := by
  obtain ⟨q, params, body, scope, c', h1, h2, a⟩ := h
  refine ⟨q, params, body, scope, c', kp _ _ (fun e => ?_) h1, kp _ _ (fun e => ?_) h2, a⟩
  · rw [e, hp] at h1
    unfold LamN at h1
    cases h1
  · rw [e, hp] at h2
    unfold CodeO at h2
    cases h2
theorem _root_.Lw.LamAt.butD {P : Program} {w : World} {K : PySem.W.Frag} {mg : Str → Option Value} {base : Heap} {k : Nat} {ps : List Str} {sp : Sp} {H H' : Hp} {f p : Addr} {kvs : List (Key × V)} (h : LamAt P w K mg base k ps sp H f) (hp : H p = some (.dK kvs)) (kp : Kp p H H') : LamAt P w K mg base k ps sp H' f := by
  obtain ⟨q, params, body, scope, c', h1, h2, a⟩ := h
  refine ⟨q, params, body, scope, c', kp _ _ (fun e => ?_) h1, kp _ _ (fun e => ?_) h2, a⟩
  · rw [e, hp] at h1
    unfold LamN at h1
    cases h1
  · rw [e, hp] at h2
    unfold CodeO at h2
    cases h2
theorem text_hand (ws : List (List Nat)) (n : Nat) (h : ∀ w ∈ ws, (∀ c ∈ w, c < 128) ∧ w.length ≤ 5000) : TextOk (handV ws n) := fun z e => by
  unfold handV at e
  cases hw : ws[n]? with
  | none => rw [hw] at e; cases e
  | some w =>
    rw [hw] at e
    cases e
    obtain ⟨h1, h2⟩ := h w (List.mem_of_getElem? hw)
    exact ⟨w, rfl, h1, h2⟩
/-- what is left to be read at a word, behind these pairs -/
def LnkR (ws : List (List Nat)) (i : Nat) (last : List Nat) (ps : List (Str × Int)) : Prop := rdw ws [] 0 0 = match rdw (ws.drop i) last ps.length i with
  | .inl e => .inl e
  | .inr l => .inr (ps ++ l)
def RnI (P : Program) (w : World) (K : PySem.W.Frag) (mg : Str → Option Value) (base : Heap) (R r l g q : Addr) (ws : List (List Nat)) (H : Hp) (i : Nat) (σ : L2.St) (H' : Hp) : Prop := ∃ (ps : List (Str × Int)) (last : List Nat) (o5 o6 : Option V),
  σ = [some (.ref r), some (.ref g), some (.int 8), some (.ref q), some (.str (S last)), o5, o6] ∧ i ≤ ws.length ∧ i = 2 * ps.length ∧ LnkR ws i last ps ∧ (∀ n, last < n → ∀ p ∈ ps, p.1 ≠ S n) ∧ Kp r H H' ∧ H' q = some (.dK (dkI ps)) ∧ RdAt R H' r l ws i ∧ LamAt P w K mg base 4 ["word"] (spLs K) H' g
section
variable {P : Program} {w : World} {K : PySem.W.Frag} {mg : Str → Option Value} {base : Heap}
theorem scRN : FnScope ["reader", "worth_of", "most", "worths", "last", "name", "fits"] ["reader", "worth_of", "most"] (C8.fnScope sRN) := C8.fnScope_by (by decide +kernel)
theorem fn_rn {R D f : Addr} {fd : FuncData} (F : C8.Def K mg "read_named" sRN f fd) (T : TxtC mg) (RM : RdMs P w K mg base R D) (DNm : C8.Cal P w K mg base 1 "is_name" (spName K) []) : FnOk P w K mg base (L2.CX P w) 9 f fd ["reader", "worth_of", "most"] (spRN P w K mg base R D) := by
  obtain ⟨oc, od, dV, kV, doc, pm, an, cdv, ct, osl, rfl, lk, hcd⟩ := F.fn.ex
  refine fn_of lk hcd scRN (fun vs H Q E h => ?_) fun A outer s H vs Q E hr h => ?_
  · obtain ⟨r, l, ws, g, rfl, _⟩ := h
    rfl
  · obtain ⟨r, l, ws, g, rfl, at_, ⟨ne, hlen, wok⟩, lam, k1, k2⟩ := h
    refine ⟨_, (pss_cons (ps_set (i := 3) scRN.nd rfl (Or.inl rfl) pe_dnewK)
  (pss_cons (ps_set (i := 4) scRN.nd rfl (Or.inl rfl) pe_str)
  (pss_cons (ps_while (passes_of rfl) (PW.pt (pw_or (pt_not (pt_truth (pv 3) (by intro _; rfl))) (pw_or1 (pt_val (pe_mx0 (E := C8.E0) (pv 0) RM.rc.cl RM.M hr (by decide) (passes_call takes0 (fun _ _ _ _ z => z))))))) (pss_cons (ps_set (i := 5) scRN.nd rfl (Or.inl rfl) (pe_mx0 (E := C8.E0) (pv 0) RM.rc.cl RM.A hr (by decide) (passes_call takes0 (fun _ _ _ _ z => z))))
  (pss_cons (ps_set (i := 6) scRN.nd rfl (Or.inl rfl) (pe_and (C8.pe_c DNm hr (by decide) (by rfl) (pa_cons (pv 5) pa_nil)) (pe_and (pe_cmpR op_gtT (pv 5) (pv 4) (nomark _)) (pe_one (pe_cmpR op_ne (pe_callB call_lenD (by rfl) T.n_len (by decide +kernel) (pa_cons (pv 3) pa_nil)) (pv 2) (nomark _))))))
  (pss_cons (ps_set (i := 4) scRN.nd rfl (Or.inl rfl) (pe_mx (pv 0) RM.rc.cl RM.T hr (by decide) (passes_call (takes_of rfl rfl rfl rfl) (fun _ _ _ _ z => z)) (pa_cons (pe_ifExp (pt_val (pv 6)) (pv 5) pe_non) pa_nil)))
  (pss_one (ps_dput (hu_of hr) (pv 3) (pv 4) (pe_mx (pv 0) RM.rc.cl RM.T hr (by decide) (passes_call (takes_of rfl rfl rfl rfl) (fun _ _ _ _ z => z)) (pa_cons (pe_lamcallN (k := 4) (hr.mono (by decide)) (pv 1) (pa_cons (pe_mx0 (E := C8.E0) (pv 0) RM.rc.cl RM.A hr (by decide) (passes_call takes0 (fun _ _ _ _ z => z))) pa_nil)) pa_nil)) (by rfl)))))))
  (pss_one (ps_ret (pv 3)))))), ?_⟩
    refine fun q fq => ?_
    have s1 := same_new (o := HO.dK []) fq
    have at1 := at_.same s1
    have lam1 := lam.extn (ExtN.of s1)
    have hq1 : upd H q (.dK []) q = some (.dK []) := upd_same
    generalize upd H q (.dK []) = H1 at s1 at1 lam1 hq1 ⊢
    have kp1 : Kp r H H1 := Kp.of s1
    have no : ∀ {n : Nat} {m : Str}, m ≠ "_words" → m ≠ "_row" → m ≠ "_at" → (rdF l n).lookup m = none := fun h1 h2 h3 => rdF_no l _ h1 h2 h3
    have l0 : LnkR ws 0 [] [] := by
      unfold LnkR
      rw [List.drop_zero]
      cases e : rdw ws [] 0 0 <;> simp [e]
    refine ⟨fun m σ' H' => ∃ i, m = ws.length + 1 - i ∧ RnI P w K mg base R r l g q ws H i σ' H', ⟨_, 0, rfl, [], [], _, _, rfl, Nat.zero_le _, rfl, l0, fun _ _ p hp => (by cases hp), kp1, hq1, at1, lam1⟩, ?_⟩
    rintro m σ' H' ⟨i, rfl, ps, last, o5, o6, rfl, hi, ei, lk', gt', kp', hq', at', lam'⟩
    obtain ⟨⟨dx', hr'⟩, hl'⟩ := id at'
    refine via (fun b H2 => Same H' H2 ∧ (b = true → i = 0 ∨ moreB ws i = true) ∧ (b = false → i ≠ 0 ∧ moreB ws i = false)) ?_ (fun go => ?_)
    · rintro b H2 ⟨s2, h1, h2⟩
      have hq2 := s2 _ _ hq'
      have at2 := at'.same s2
      have kp2 := kp'.trans (Kp.of s2)
      have lam2 := lam'.extn (ExtN.of s2)
      have hr2 := s2 _ _ hr'
      cases b with
      | false =>
        refine iteF ?_
        obtain ⟨i0, mo⟩ := h2 rfl
        refine ⟨_, rfl, ?_⟩
        rcases rdw_stop (last := last) (m := ps.length) mo with ⟨e1, e2⟩ | ⟨e1, e2⟩
        · have z := lk'
          unfold LnkR at z
          rw [e2] at z
          have ei2 : i = ws.length := by omega
          refine k1 ps (by rw [z]; show Sum.inr (ps ++ []) = _; rw [List.append_nil]) q H2 kp2 fq hq2 (by rw [← ei2]; exact at2)
        · have z := lk'
          unfold LnkR at z
          rw [e2] at z
          exact (k2 i z).2 e1 q H2 kp2 at2
      | true =>
        refine iteT ?_
        refine ⟨fun σ' H3 => i + 2 ≤ ws.length ∧ RnI P w K mg base R r l g q ws H (i + 2) σ' H3, fun σ' H3 z => ⟨_, by omega, i + 2, rfl, z.2⟩, ?_⟩
        refine ⟨_, rfl, r, dx', _, rfl, hr2, no (by decide +kernel) (by decide +kernel) (by decide +kernel), r, l, ws, i, rfl, at2, ?_⟩
        have il : i < ws.length := by
          rcases h1 rfl with z | z
          · have := List.length_pos_iff.mpr ne
            omega
          · unfold moreB at z
            cases hw : ws[i]? with
            | none => rw [hw] at z; cases z
            | some w' => exact (List.getElem?_eq_some_iff.mp hw).1
        have eh : handV ws i = .str (S ws[i]) := by unfold handV; rw [List.getElem?_eq_getElem il]
        obtain ⟨wa, wl⟩ := wok ws[i] (List.getElem_mem il)
        rw [eh]
        dsimp only [gName, tSeq, tAsg]
        refine viaA (fun x H3 => Same H2 H3 ∧ x = .bl (fitB last ps.length ws[i])) ?_ (fun go2 => ?_)
        · rintro x H3 ⟨s3, rfl⟩
          have hq3 := s3 _ _ hq2
          have at3 := at2.same s3
          have kp3 := kp2.trans (Kp.of s3)
          have lam3 := lam2.extn (ExtN.of s3)
          have hr3 := s3 _ _ hr2
          refine ⟨_, rfl, r, dx', _, rfl, hr3, no (by decide +kernel) (by decide +kernel) (by decide +kernel), ?_⟩
          cases ef : fitB last ps.length ws[i] with
          | false =>
            refine ⟨_, rfl, _, rfl, iteF ?_⟩
            refine ⟨r, l, ws, i, .non, rfl, at3, fun _ d fs H4 s4 hd f1 f2 => ?_, fun h => absurd rfl h⟩
            have z := lk'
            unfold LnkR at z
            rw [rdw_no il ef] at z
            exact (k2 i z).1 d fs H4 (kp3.trans (Kp.of s4)) hd f1 f2
          | true =>
            refine ⟨_, rfl, _, rfl, iteT ⟨_, rfl, ?_⟩⟩
            refine ⟨r, l, ws, i, _, rfl, at3, fun e => (by cases e), fun _ H4 k4 at4 => ?_⟩
            obtain ⟨⟨dx4, hr4⟩, _⟩ := id at4
            have kp4 := kp3.trans k4
            have lam4 := lam3.butI hr3 k4
            refine ⟨_, rfl, r, dx4, _, rfl, hr4, no (by decide +kernel) (by decide +kernel) (by decide +kernel), ?_⟩
            refine ⟨_, rfl, g, ["word"], spLs K, rfl, lam4, ?_⟩
            refine ⟨_, rfl, r, dx4, _, rfl, hr4, no (by decide +kernel) (by decide +kernel) (by decide +kernel), r, l, ws, i + 1, rfl, at4, lam4, handV ws (i + 1), rfl, hand_any _ _ _ _, text_hand ws (i + 1) wok, ?_⟩
            refine ⟨r, l, ws, i + 1, _, rfl, at4, ?_⟩
            have lk2 := lk'
            unfold LnkR at lk2
            constructor
            · intro e d fs H5 s5 hd f1 f2
              have z := lk2
              rw [rdw_no1 il ef fun v hv => by
                unfold handV at e
                rw [hv] at e
                show numV (.str (S v)) 1 60 = none
                cases hn : numV (.str (S v)) 1 60 with
                | none => rfl
                | some k =>
                  dsimp only at e
                  rw [hn] at e
                  cases e] at z
              exact (k2 (i + 1) z).1 d fs H5 (kp4.trans (Kp.of s5)) hd f1 f2
            · intro ne' H5 k5 at5
              obtain ⟨v, k, hv, hk⟩ : ∃ v k, ws[i + 1]? = some v ∧ spV v = some k := by
                cases hv : ws[i + 1]? with
                | none =>
                  refine absurd ?_ ne'
                  unfold handV
                  rw [hv]
                  rfl
                | some v =>
                  cases hn : spV v with
                  | some k => exact ⟨v, k, rfl, hn⟩
                  | none =>
                    refine absurd ?_ ne'
                    unfold handV
                    rw [hv]
                    dsimp only
                    unfold spV at hn
                    rw [hn]
                    rfl
              have il2 := (List.getElem?_eq_some_iff.mp hv).1
              have ex : optV (numV (handV ws (i + 1)) 1 60) = .int k := by
                unfold handV
                rw [hv]
                dsimp only
                unfold spV at hk
                rw [hk]
                rfl
              rw [ex]
              obtain ⟨f1, f2, f3⟩ := fit_iff.mp ef
              have nq : q ≠ r := fun e => by rw [e, hr3] at hq3; cases hq3
              have nq4 := k4 _ _ nq hq3
              have hq5 := k5 _ _ nq nq4
              have nl : l ≠ q := ne_of_none at_.2 fq
              have nw : S ws[i] ∉ (ps.map fun q => (q.1, V.int q.2)).map (·.1) := fun m => by
                rw [List.map_map] at m
                obtain ⟨p, hp, e⟩ := List.mem_map.mp m
                exact gt' _ f2 p hp e
              have lam5 := (lam4.butI hr4 k5)
              rw [rdw_yes il ef hv hk] at lk2
              refine ⟨_, rfl, _, rfl, q, _, rfl, DPut.k (k := Sum.inr (S ws[i])) hq5 ?_, by omega, ps ++ [(S ws[i], k)], ws[i], _, _, rfl, by omega, by rw [List.length_append]; simp; omega, ?_, ?_, fun b o hb e => ?_, ?_, ⟨?_, ?_⟩, ?_⟩
              · rw [List.length_map, List.length_map]
                exact Nat.lt_of_le_of_lt (show ps.length ≤ 20000 by omega) (by decide)
              · unfold LnkR
                rw [lk2, List.length_append]
                show (match (match rdw (ws.drop (i + 2)) ws[i] (ps.length + 1) (i + 2) with | .inl e => Sum.inl e | .inr l => .inr ((S ws[i], k) :: l)) with | .inl e => Sum.inl e | .inr l => Sum.inr (ps ++ l)) = match rdw (ws.drop (i + 2)) ws[i] (ps.length + 1) (i + 2) with | .inl e => Sum.inl e | .inr l => Sum.inr ((ps ++ [(S ws[i], k)]) ++ l)
                cases rdw (ws.drop (i + 2)) ws[i] (ps.length + 1) (i + 2) with
                | inl e => rfl
                | inr l => show Sum.inr (ps ++ ((S ws[i], k) :: l)) = Sum.inr ((ps ++ [(S ws[i], k)]) ++ l); rw [List.append_assoc]; rfl
              · intro n ln p hp e
                rcases List.mem_append.mp hp with m | m
                · exact gt' n (List.lt_trans f2 ln) p m e
                · rw [List.mem_singleton.mp m] at e
                  have e2 : ws[i] = n := S_inj e
                  rw [e2] at ln
                  exact List.lt_irrefl _ ln
              · rw [upd_ne (ne_of_none e fq)]
                exact k5 _ _ hb (kp4 _ _ hb e)
              · rw [upd_same, putK_out nw]
                show _ = some (HO.dK (dkOf ((ps ++ [(S ws[i], k)]).map fun q => (q.1, V.int q.2))))
                rw [List.map_append]
                rfl
              · obtain ⟨⟨dy, y1⟩, _⟩ := at5
                exact ⟨dy, by rw [upd_ne nq.symm]; exact y1⟩
              · rw [upd_ne nl]
                exact at5.2
              · exact lam5.butD hq5 fun b o hb e => by rw [upd_ne hb]; exact e
        · refine ⟨_, rfl, .str (S ws[i]), rfl, (by rw [← eh]; exact hand_any _ _ _ _), fun z e => (by cases e; rw [S_len]; omega), fun H3 s3 => ⟨_, rfl, ?_⟩⟩
          cases en : nameB (.str (S ws[i])) with
          | false =>
            refine iteF (go2 _ _ ⟨s3, ?_⟩)
            unfold fitB
            rw [show nameT (S ws[i]) = false from en]
            rfl
          | true =>
            refine iteT ⟨_, rfl, _, rfl, _, _, rfl, rfl, _, rfl, ?_⟩
            cases lt : decide (last < ws[i]) with
            | false =>
              refine iteF' lt (go2 _ _ ⟨s3, ?_⟩)
              unfold fitB
              rw [lt, Bool.false_and, Bool.and_false]
            | true =>
              refine iteT' lt ⟨_, rfl, q, dkI ps, rfl, s3 _ _ hq2, _, rfl, rfl, go2 _ _ ⟨s3, ?_⟩⟩
              unfold fitB
              rw [show nameT (S ws[i]) = true from en, lt, Bool.true_and, Bool.true_and]
              refine congrArg (fun b : Bool => V.bl (!b)) (decide_eq_decide.mpr ?_)
              rw [List.length_map, List.length_map]
              exact ⟨fun e => by have := V.int.inj e; omega, fun e => by rw [e]; rfl⟩
    · refine ⟨_, rfl, _, .inr (.inr ⟨_, hq', rfl⟩), ?_⟩
      by_cases i0 : i = 0
      · have e0 : ps = [] := List.eq_nil_of_length_eq_zero (by omega)
        subst e0
        exact iteT (go _ _ ⟨Same.refl _, fun _ => .inl i0, fun e => (by cases e)⟩)
      · have nz : (dkI ps).isEmpty = false := by
          cases ps with
          | nil => exact absurd ei i0
          | cons a b => rfl
        rw [nz]
        refine iteF ⟨_, rfl, r, dx', _, rfl, hr', no (by decide +kernel) (by decide +kernel) (by decide +kernel), r, l, ws, i, rfl, at', fun H2 s2 => ⟨_, rfl, go _ _ ⟨s2, fun e => .inr e, fun e => ⟨i0, e⟩⟩⟩⟩
end
end Lw
namespace Lw
open PySem PySem.Spec PyProof.Rows L2
open SX PySem.NumText TL LamX ClX StX
abbrev sRsp : Stmt := top 29
/-- all but what stands at r, and the tables, is as it was -/
def KpN (r : Addr) (H H' : Hp) : Prop := ∀ b o, b ≠ r → H b = some o → (∀ ps, o ≠ .tbl ps) → H' b = some o
theorem KpN.of {r : Addr} {H H1 H2 : Hp} (x1 : ExtN H H1) (k : Kp r H1 H2) : KpN r H H2 := fun b o hb e nt => k b o hb (x1 b o e nt)
theorem _root_.Lw.Tabs.kpI {T : List (Addr × Str)} {p C dx : Addr} {fs : List (Str × V)} {H H' : Hp} (t : Tabs T H) (hp : H p = some (.ins C dx fs)) (k : Kp p H H') : Tabs T H' := by
  intro q hq
  obtain ⟨ps, h1, h2, h3⟩ := t q hq
  refine ⟨ps, k _ _ (fun e => ?_) h1, h2, fun pos cv hc => ?_⟩
  · rw [e, hp] at h1; cases h1
  · obtain ⟨c, e1, e2⟩ := h3 pos cv hc
    refine ⟨c, e1, k _ _ (fun e => ?_) e2⟩
    rw [e, hp] at e2
    unfold CodeO at e2
    cases e2
def RspR (R D r l : Addr) (T : List (Addr × Str)) (ws : List (List Nat)) (H : Hp) (Q : VK) (E : XK) : Prop :=
  (∀ ps, rdw ws [] 0 0 = .inr ps → ∀ q H', KpN r H H' → Tabs T H' → H' q = some (.dK (dkI ps)) → RdAt R H' r l ws ws.length → Q (.ref q) H') ∧
  (∀ n, rdw ws [] 0 0 = .inl n → (∀ d fs H', KpN r H H' → Tabs T H' → H' d = none → fs.lookup ("line" : Str) = some (.int 0) → fs.lookup ("word" : Str) = some (.int n) → E (.ref D) (some d) (upd H' d (.xd fs))) ∧
    (n < ws.length → ∀ q H', KpN r H H' → Tabs T H' → RdAt R H' r l ws n → Q (.ref q) H'))
def spRsp (R D : Addr) (T : List (Addr × Str)) : Sp := fun vs H Q E => ∃ r l ws, vs = [.ref r] ∧ RdAt R H r l ws 0 ∧ WsOk ws ∧ Tabs T H ∧ RspR R D r l T ws H Q E
section
variable {P : Program} {w : World} {K : PySem.W.Frag} {mg : Str → Option Value} {base : Heap}
theorem scRsp : FnScope ["reader"] ["reader"] (C8.fnScope sRsp) := C8.fnScope_by (by decide +kernel)
theorem fn_rsp {TT : List (Addr × Str)} {R D f fW c B0 : Addr} {fd fdW : FuncData} (F : DefC K mg "read_speeds" sRsp f fd c) (T : TxtC mg) (hG : ∃ t, mg "GREATEST_SPEED" = some (.int 60 t)) (TB : TabB base mg c B0) (hm : (B0, (("read_speeds" : Str) ++ (".<locals>." : Str)) ++ ("<lambda>" : Str)) ∈ TT) (hu : ∀ p ∈ TT, p.1 = B0 → p.2 = (("read_speeds" : Str) ++ (".<locals>." : Str)) ++ ("<lambda>" : Str))
    (DN : C8.Cal P w K mg base 3 "number_of" (spNumOf K) []) (DW : C8.Def K mg "read_named" sRN fW fdW) (bW : Binds K fdW ["reader", "worth_of", "most"] []) (FW : FnOk P w K mg base (L2.CX P w) 9 fW fdW ["reader", "worth_of", "most"] (spRN P w K mg base R D)) :
    FnOk P w K mg base (L2.CX P w) 11 f fd ["reader"] (spRsp R D TT) := by
  obtain ⟨oc, od, dV, kV, doc, pm, an, ct, osl, rfl, lk, hcd⟩ := F.ex
  obtain ⟨tg, hGS⟩ := hG
  obtain ⟨tw, hMW⟩ := T.c_MW
  refine fn_of lk hcd scRsp (fun vs H Q E h => ?_) fun A outer s H vs Q E hr h => ?_
  · obtain ⟨r, l, ws, rfl, _⟩ := h
    rfl
  · obtain ⟨r, l, ws, rfl, at_, wo, ht, k1, k2⟩ := h
    refine ⟨_, (pss_one (ps_ret (pe_call FW (hr.mono (by decide)) (by rfl) DW.mgf DW.kp bW .nil (passes_call (takes_of rfl rfl rfl rfl) (fun _ _ _ _ z => z)) (pa_cons (pv 0) (pa_cons (pe_lamN (k := 4) (ps := ["word"]) (sp := spLs K) (T := TT) TB rfl hm hu rfl (by decide) rfl
      (fun fl cl => ⟨C8.fnScope_by (by decide +kernel), fun pm cv ctv us hl => (match us, hl with | [_], _ => rfl), fun vs H Q E h => (by obtain ⟨x, rfl, _⟩ := h; rfl), fun A out s H vs Q hr2 h => ⟨_, C8.pe_c DN hr2 (by decide) (by rfl) (pa_cons (pv 0) (pa_cons pe_int (pa_cons (pe_glob (v := .int 60) rfl hGS ⟨_, rfl⟩) pa_nil))), (by
        obtain ⟨x, rfl, av, tx, q⟩ := h
        exact ⟨_, rfl, x, 1, 60, rfl, av, tx, q⟩)⟩⟩)) (pa_cons (pe_glob (v := .int 8) rfl hMW ⟨_, rfl⟩) pa_nil)))))), ?_⟩
    obtain ⟨⟨dx, hr1⟩, hl⟩ := id at_
    refine ⟨_, rfl, ht, fun g H1 x1 t1 ng lam => ?_⟩
    have hrT : H1 r = some (.ins R dx (rdF l 0)) := x1 _ _ hr1 fun ps z => by cases z
    have at1 : RdAt R H1 r l ws 0 := ⟨⟨dx, hrT⟩, x1 _ _ hl fun ps z => by cases z⟩
    refine ⟨r, l, ws, g, rfl, at1, wo, lam, fun ps h q H2 kp fq hq a2 => ?_, fun n h => ⟨fun d fs H2 kp hd f1 f2 => ?_, fun hn q H2 kp a2 => ?_⟩⟩
    · exact k1 ps h q H2 (KpN.of x1 kp) (Lw.Tabs.kpI t1 hrT kp) hq a2
    · exact (k2 n h).1 d fs H2 (KpN.of x1 kp) (Lw.Tabs.kpI t1 hrT kp) hd f1 f2
    · exact (k2 n h).2 hn q H2 (KpN.of x1 kp) (Lw.Tabs.kpI t1 hrT kp) a2
end
end Lw
namespace Lw
open PySem PySem.Spec PyProof.Rows L2
open SX PySem.NumText TL LamX ClX StX
theorem rise_pw : ∀ {p : Str} {l : List Str}, risingS p l = true → (p :: l).Pairwise fun a b => a.cps.toList ≤ b.cps.toList
  | p, [], _ => List.pairwise_singleton _ _
  | p, x :: r, h => by
    have h : (!ltCps x.cps.toList p.cps.toList && risingS x r) = true := h
    rw [Bool.and_eq_true, PyProof.Rows.ltCps_eq] at h
    have ih := rise_pw h.2
    have px : p.cps.toList ≤ x.cps.toList := by
      have z : ¬ x.cps.toList < p.cps.toList := by simpa using h.1
      exact z
    refine List.pairwise_cons.mpr ⟨fun y hy => ?_, ih⟩
    rcases List.mem_cons.mp hy with rfl | hy
    · exact px
    · exact List.le_trans px ((List.pairwise_cons.mp ih).1 y hy)
theorem sort_pw : ∀ {l : List Str}, sortedS l = true → l.Pairwise fun a b => a.cps.toList ≤ b.cps.toList
  | [], _ => .nil
  | _ :: _, h => rise_pw h
theorem str_ext {a b : Str} (h : a.cps.toList = b.cps.toList) : a = b := by
  obtain ⟨⟨x⟩⟩ := a
  obtain ⟨⟨y⟩⟩ := b
  have h : x = y := h
  subst h
  rfl
theorem sort_uniq {l m : List Str} (p : l.Perm m) (hl : sortedS l = true) (hm : sortedS m = true) : l = m :=
  p.eq_of_pairwise (le := fun a b : Str => a.cps.toList ≤ b.cps.toList) (fun a b _ _ h1 h2 => str_ext (List.le_antisymm h1 h2)) (sort_pw hl) (sort_pw hm)
/-- [d[name] for name in names], all names in d -/
theorem nums_of {i j m : Nat} {K : PySem.W.Frag} {σ : L2.St} {H : Hp} {Q : VK} {d l : Addr} {ks ps : List (Str × Int)} (hi : σ[i]? = some (some (V.ref l))) (hm : (wipe σ [j])[m]? = some (some (V.ref d))) (jm : j ≠ m) (lj : j < σ.length) (hl : H l = some (.lst (ps.map fun q => V.str q.1))) (hd : H d = some (.dK (dkI ks)))
    (nd : (ks.map (·.1)).Nodup) (sub : ∀ q ∈ ps, q ∈ ks) (hz : ps.length ≤ 5000) (q : ∀ D H', Same H H' → H D = none → H' D = some (.lst (ps.map fun q => V.int q.2)) → Q (.ref D) H') :
    tLc (iList K (tVar i)) (gName j) tYes (tDGet (tVar m) (tVar j)) [j] σ H Q := by
  refine ⟨_, hi, l, rfl, ⟨_, SqL.of hl⟩, fun D hD => lc_it walk_list (fun n H' => H' = upd H D (.lst ((ps.take n).map fun q => V.int q.2))) rfl (fun n H' _ e => by rw [e]; exact SqL.of ((same_new hD) _ _ hl)) ?_ ?_⟩
  · rintro n x H' H'' hn e ⟨rfl, hx⟩
    rw [List.getElem?_map] at hx
    obtain ⟨p, hp, rfl⟩ := Option.map_eq_some_iff.mp hx
    have pm := sub p (List.mem_of_getElem? hp)
    refine ⟨by simp [wipe, List.set_set], ?_⟩
    dsimp only [tYes]
    rw [if_pos rfl]
    have g1 : ((wipe σ [j]).set j (some (V.str p.1)))[m]? = some (some (V.ref d)) := by rw [List.getElem?_set_ne jm]; exact hm
    have g2 : ((wipe σ [j]).set j (some (V.str p.1)))[j]? = some (some (V.str p.1)) := by
      rw [List.getElem?_set_self]
      simpa [wipe] using lj
    refine ⟨_, g1, _, g2, d, .int p.2, rfl, ?_, _, by rw [e]; exact upd_same, ?_, ?_⟩
    · have hd' : H'' d = some (.dK (dkI ks)) := by rw [e]; exact (same_new hD) _ _ hd
      have z := DGet.k (k := Sum.inr p.1) hd'
      rw [dkI_get nd pm] at z
      exact z
    · rw [List.length_map]
      exact Nat.lt_of_le_of_lt (Nat.le_trans (List.length_take_le' _ _) hz) (by decide)
    · rw [e, upd_upd, List.take_add_one, hp, List.map_append]; rfl
  · rintro H' e
    rw [List.length_map, List.take_of_length_le (Nat.le_refl _)] at e
    exact q D _ (by rw [e]; exact same_new hD) hD (by rw [e]; exact upd_same)
theorem drop_updK {H : Hp} {a : Addr} {o : HO} (h : H a = none) : ItX.dropH (upd H a o) a = H := by
  funext b
  unfold ItX.dropH upd
  by_cases e : b = a
  · rw [e, if_pos rfl, h]
  · rw [if_neg e, if_neg e]
theorem eqvs_intsK : ∀ ns ms : List Int, PyData.eqvAll (ns.map PyData.int) (ms.map PyData.int) = decide (ns = ms)
  | [], [] => rfl
  | [], _ :: _ => rfl
  | _ :: _, [] => rfl
  | n :: r, m :: s => by
    show ((n == m) && PyData.eqvAll (r.map PyData.int) (s.map PyData.int)) = _
    rw [eqvs_intsK r s]
    by_cases e1 : n = m
    · by_cases e2 : r = s
      · subst e1 e2; simp
      · rw [decide_eq_false e2, Bool.and_false, decide_eq_false (fun e => e2 (List.cons.inj e).2)]
    · rw [beq_eq_false_iff_ne.mpr e1, Bool.false_and, decide_eq_false (fun e => e1 (List.cons.inj e).1)]
/-- [x for x in ..]: the values as they are -/
theorem lc_copy {J : It} {G : Hp → Prop} {xs : List V} (w : Walk J xs.length G (YAt xs)) {j : Nat} {σ : L2.St} {H : Hp} {D : Addr} {Qd : Hp → Prop} (hG : ∀ ys, G (upd H D (.lst ys))) (lj : j < σ.length) (hz : xs.length ≤ 5000) (hd : Qd (upd H D (.lst xs))) :
    ∃ W : Nat → Nat → Hp → Prop, (∃ m, W 0 m (upd H D (.lst []))) ∧ ∀ i m H, W i m H →
      (J.stop i H ∧ Qd H) ∨ (J.go i H ∧ ∃ Nx : Hp → Prop, (∀ H', Nx H' → ∃ m', m' < m ∧ W (i + 1) m' H') ∧ ∀ x H', J.yld i H x H' → gName j x (wipe σ [j]) H' fun σ2 H2 => wipe σ2 [j] = wipe σ [j] ∧ tYes σ2 H2 fun b H3 =>
        if b = true then tVar j σ2 H3 fun y H4 => ∃ acc, H4 D = some (.lst acc) ∧ acc.length < sizeLine ∧ Nx (upd H4 D (.lst (acc ++ [y]))) else Nx H3) := by
  refine lc_it w (fun i H' => H' = upd H D (.lst (xs.take i))) rfl (fun i H' _ e => by rw [e]; exact hG _) ?_ ?_
  · rintro i x H' H'' hi e ⟨rfl, hx⟩
    refine ⟨by simp [wipe, List.set_set], ?_⟩
    dsimp only [tYes]
    rw [if_pos rfl]
    have g2 : ((wipe σ [j]).set j (some x))[j]? = some (some x) := by
      rw [List.getElem?_set_self]
      simpa [wipe] using lj
    refine ⟨_, g2, _, by rw [e]; exact upd_same, ?_, ?_⟩
    · exact Nat.lt_of_le_of_lt (Nat.le_trans (List.length_take_le' _ _) hz) (by decide)
    · rw [e, upd_upd, List.take_add_one, hx]; rfl
  · rintro H' e
    rw [List.take_of_length_le (Nat.le_refl _)] at e
    rw [e]
    exact hd
/-- [(name, d[name]) for name in names], all names in d -/
theorem prs_of {i j m : Nat} {K : PySem.W.Frag} {σ : L2.St} {H : Hp} {Q : VK} {d l : Addr} {ks ps : List (Str × Int)} (hi : σ[i]? = some (some (V.ref l))) (hm : (wipe σ [j])[m]? = some (some (V.ref d))) (jm : j ≠ m) (lj : j < σ.length) (hl : H l = some (.lst (ps.map fun q => V.str q.1))) (hd : H d = some (.dK (dkI ks)))
    (nd : (ks.map (·.1)).Nodup) (sub : ∀ q ∈ ps, q ∈ ks) (hz : ps.length ≤ 5000) (q : ∀ D H' ts, Same H H' → H D = none → H' D = some (.lst (ts.map V.ref)) → PrT H' ts ps → Q (.ref D) H') :
    tLc (iList K (tVar i)) (gName j) tYes (tTup (tCons (tVar j) (tCons (tDGet (tVar m) (tVar j)) tNil))) [j] σ H Q := by
  refine ⟨_, hi, l, rfl, ⟨_, SqL.of hl⟩, fun D hD => lc_it walk_list (fun n H' => Same H H' ∧ ∃ ts : List Addr, H' D = some (.lst (ts.map V.ref)) ∧ PrT H' ts (ps.take n)) ⟨same_new hD, [], upd_same, .nil⟩ (fun n H' _ h => SqL.of (h.1 _ _ hl)) ?_ ?_⟩
  · rintro n x H' H'' hn ⟨s', ts, hDt, pr⟩ ⟨rfl, hx⟩
    rw [List.getElem?_map] at hx
    obtain ⟨p, hp, rfl⟩ := Option.map_eq_some_iff.mp hx
    have pm := sub p (List.mem_of_getElem? hp)
    refine ⟨by simp [wipe, List.set_set], ?_⟩
    dsimp only [tYes]
    rw [if_pos rfl]
    have g1 : ((wipe σ [j]).set j (some (V.str p.1)))[m]? = some (some (V.ref d)) := by rw [List.getElem?_set_ne jm]; exact hm
    have g2 : ((wipe σ [j]).set j (some (V.str p.1)))[j]? = some (some (V.str p.1)) := by
      rw [List.getElem?_set_self]
      simpa [wipe] using lj
    have dg : DGet H'' d (.str p.1) (some (.int p.2)) := by
      have z := DGet.k (k := Sum.inr p.1) (s' _ _ hd)
      rw [dkI_get nd pm] at z
      exact z
    refine ⟨_, g2, _, g1, _, g2, d, .int p.2, rfl, dg, (by show 2 ≤ sizeLine; decide), fun T hT => ?_⟩
    have sT : Same H'' (upd H'' T (.tup [.str p.1, .int p.2])) := same_new hT
    have TD : T ≠ D := fun e => by rw [e, hDt] at hT; cases hT
    refine ⟨ts.map V.ref, sT _ _ hDt, ?_, fun b o e => ?_, ts ++ [T], ?_, ?_⟩
    · rw [List.length_map, pr.len]
      exact Nat.lt_of_le_of_lt (Nat.le_trans (List.length_take_le' _ _) hz) (by decide)
    · rw [upd_ne (ne_of_none e hD)]
      exact sT _ _ (s' _ _ e)
    · rw [upd_same, List.map_append]; rfl
    · rw [List.take_add_one, hp]
      have k : ∀ b xs, H'' b = some (.tup xs) → upd (upd H'' T (.tup [.str p.1, .int p.2])) D (.lst (ts.map V.ref ++ [.ref T])) b = some (.tup xs) := fun b xs e => by
        rw [upd_ne (fun z => by rw [z, hDt] at e; cases e)]
        exact sT _ _ e
      exact Paired.snoc (pr.mono k) (by rw [upd_ne TD]; exact upd_same)
  · rintro H' ⟨s', ts, hDt, pr⟩
    rw [List.length_map, List.take_of_length_le (Nat.le_refl _)] at pr
    exact q D H' ts s' hD hDt pr
/-- tuple(l), l a list: it stands above what the frame found -/
def rTupN (K : PySem.W.Frag) (n : Nat) : List V → Hp → VK → Prop := fun xs H Q => ∃ (p : Addr) (ys : List V), xs = [.ref p] ∧ SqL K H p ys ∧ ∀ l, H l = none → n ≤ l → Q (.ref l) (upd H l (.tup ys))
theorem call_tuple_ofN {X : Cx} : CallR X (.type "tuple") (rTupN X.K X.s_0.heap.objs.size) := fun pins s σ H xs us Q I r h => by
  obtain ⟨p, ys, rfl, hq, q⟩ := h
  obtain ⟨u, rfl, rx⟩ := vals1 r
  cases rx
  obtain ⟨its, rv, pl, hz⟩ := I.list hq
  have e := rv.length
  refine call_tuple_list pl.isList (fun g kp => ?_) (by rw [List.size_toArray]; omega)
  have J : Inv X pins σ H { s with heap := g } := I.kept (t' := s.toks) kp
  exact ⟨.ref g.objs.size, _, J.laid (a := g.objs.size) (o := .tup ys) (t' := s.toks) (fun _ _ z => Heap.get?_push_of_some _ z) (Nat.le_refl _) ⟨hz, its, rv, IsTup.new _ _⟩, rfl, q _ (J.hok.fresh (Nat.le_refl _)) J.sz⟩
theorem flat_intsK : ∀ ns : List Int, (ns.map V.int).all flatV = true
  | [] => rfl
  | n :: r => by rw [List.map_cons, List.all_cons, flat_intsK r]; rfl
theorem cons_i {a : TE} {b : TA} {σ : L2.St} {H : Hp} {Q : List V → Hp → Prop} (h : a σ H fun x H1 => b σ H1 fun vs H2 => Q (x :: vs) H2) : tCons a b σ H Q := h
theorem cb_i {r : List V → Hp → VK → Prop} {t : TA} {σ : L2.St} {H : Hp} {Q : VK} (h : t σ H fun vs H1 => r vs H1 Q) : tCB r t σ H Q := h
/-- [int(x) for x in l], ints -/
theorem ints_of {i j : Nat} {K : PySem.W.Frag} {σ : L2.St} {H : Hp} {Q : VK} {l : Addr} {ns : List Int} (hi : σ[i]? = some (some (V.ref l))) (lj : j < σ.length) (hl : H l = some (.lst (ns.map V.int))) (hz : ns.length ≤ 5000)
    (q : ∀ D H', Same H H' → H D = none → H' D = some (.lst (ns.map V.int)) → Q (.ref D) H') :
    tLc (iList K (tVar i)) (gName j) tYes (tCB (fun xs H Q => (∃ i, xs = [V.int i] ∧ Q (V.int i) H) ∨ ∃ k, xs = [V.bl k] ∧ Q (V.int (if k = true then 1 else 0)) H) (tCons (tVar j) tNil)) [j] σ H Q := by
  refine ⟨_, hi, l, rfl, ⟨_, SqL.of hl⟩, fun D hD => lc_it walk_list (fun n H' => H' = upd H D (.lst ((ns.take n).map V.int))) rfl (fun n H' _ e => by rw [e]; exact SqL.of ((same_new hD) _ _ hl)) ?_ ?_⟩
  · rintro n x H' H'' hn e ⟨rfl, hx⟩
    rw [List.getElem?_map] at hx
    obtain ⟨v, hv, rfl⟩ := Option.map_eq_some_iff.mp hx
    refine ⟨by simp [wipe, List.set_set], ?_⟩
    dsimp only [tYes]
    rw [if_pos rfl]
    have g2 : ((wipe σ [j]).set j (some (V.int v)))[j]? = some (some (V.int v)) := by
      rw [List.getElem?_set_self]
      simpa [wipe] using lj
    refine ⟨_, g2, .inl ⟨_, rfl, _, by rw [e]; exact upd_same, ?_, ?_⟩⟩
    · rw [List.length_map]
      exact Nat.lt_of_le_of_lt (Nat.le_trans (List.length_take_le' _ _) hz) (by decide)
    · rw [e, upd_upd, List.take_add_one, hv, List.map_append]; rfl
  · rintro H' e
    rw [List.length_map, List.take_of_length_le (Nat.le_refl _)] at e
    exact q D _ (by rw [e]; exact same_new hD) hD (by rw [e]; exact upd_same)
theorem dp_strs {K : PySem.W.Frag} {H : Hp} : ∀ zs : List Str, DpAll K H (zs.map V.str) (zs.map PyData.str)
  | [] => .nil
  | x :: r => .cons (.str x) (dp_strs r)
theorem lay_strs : ∀ {zs : List Str}, (∀ z ∈ zs, OkS z) → PyData.canLayAll0 (zs.map PyData.str) = true
  | [], _ => rfl
  | z :: r, h => by
    show (PyData.canLay0 (.str z) && PyData.canLayAll0 (r.map PyData.str)) = true
    rw [lay_str (h z List.mem_cons_self), lay_strs fun x hx => h x (List.mem_cons_of_mem _ hx)]; rfl
theorem depth_strs : ∀ zs : List Str, PyData.depthAll (zs.map PyData.str) = 0
  | [] => rfl
  | z :: r => by
    show max 0 (PyData.depthAll (r.map PyData.str)) = 0
    rw [depth_strs r]; rfl
theorem shaped_strsT {zs : List Str} (h : ∀ z ∈ zs, OkS z) : SeqAt.shaped (.tuple (zs.map PyData.str)) = true := by
  unfold SeqAt.shaped
  have h1 : PyData.canLay0 (.tuple (zs.map PyData.str)) = true := lay_strs h
  have h2 : PyData.depth (.tuple (zs.map PyData.str)) = 1 := by
    show PyData.depthAll (zs.map PyData.str) + 1 = 1
    rw [depth_strs]
  rw [h1, h2]; rfl
theorem shaped_strsL {zs : List Str} (h : ∀ z ∈ zs, OkS z) : SeqAt.shaped (.list (zs.map PyData.str)) = true := by
  unfold SeqAt.shaped
  have h1 : PyData.canLay0 (.list (zs.map PyData.str)) = true := lay_strs h
  have h2 : PyData.depth (.list (zs.map PyData.str)) = 1 := by
    show PyData.depthAll (zs.map PyData.str) + 1 = 1
    rw [depth_strs]
  rw [h1, h2]; rfl
theorem eqvs_strs : ∀ a b : List Str, PyData.eqvAll (a.map PyData.str) (b.map PyData.str) = decide (a = b)
  | [], [] => rfl
  | [], _ :: _ => rfl
  | _ :: _, [] => rfl
  | p :: r, q :: s => by
    show ((p == q) && PyData.eqvAll (r.map PyData.str) (s.map PyData.str)) = _
    rw [eqvs_strs r s]
    by_cases e1 : p = q
    · by_cases e2 : r = s
      · subst e1 e2; simp
      · rw [decide_eq_false e2, Bool.and_false, decide_eq_false (fun e => e2 (List.cons.inj e).2)]
    · rw [beq_eq_false_iff_ne.mpr e1, Bool.false_and, decide_eq_false (fun e => e1 (List.cons.inj e).1)]
/-- ps: the pairs ks, sorted by their names -/
def Srt (ks ps : List (Str × Int)) : Prop := ps.Perm ks ∧ sortedS (ps.map (·.1)) = true
theorem snd_eq {l : List (Str × Int)} (h : (l.map (·.1)).Nodup) {n : Str} {i j : Int} (h1 : (n, i) ∈ l) (h2 : (n, j) ∈ l) : i = j := by
  have a := dkI_get h h1
  have b := dkI_get h h2
  rw [a] at b
  cases b
  rfl
theorem srt_of {ks ps : List (Str × Int)} (nd : (ks.map (·.1)).Nodup) (p : (ps.map (·.1)).Perm (ks.map (·.1))) (s : sortedS (ps.map (·.1)) = true) (h : ∀ q ∈ ps, q ∈ ks) : Srt ks ps := by
  have np : (ps.map (·.1)).Nodup := p.symm.nodup nd
  refine ⟨(List.perm_ext_iff_of_nodup (nd_pairs np) (nd_pairs nd)).mpr fun q => ⟨h q, fun hq => ?_⟩, s⟩
  obtain ⟨r, hr, e⟩ := List.mem_map.mp (p.symm.subset (List.mem_map_of_mem hq))
  obtain ⟨a, i⟩ := q
  obtain ⟨b, j⟩ := r
  have e : b = a := e
  subst e
  rw [snd_eq nd hq (h _ hr)]
  exact hr
/-- a crew made of these speeds -/
def CwK (CC : Addr) (H : Hp) (c : Addr) (ks : List (Str × Int)) : Prop := ∃ ps, CwAt CC H c ps ∧ Srt ks ps
def KsOk (ks : List (Str × Int)) : Prop := (ks.map (·.1)).Nodup ∧ 1 ≤ ks.length ∧ ks.length ≤ 8 ∧ CwOk ks
/-- the class's own defs -/
structure CrK (P : Program) (w : World) (K : PySem.W.Frag) (mg : Str → Option Value) (base : Heap) (CC DN DS DC DM DW fI : Addr) : Prop where
  CM : CrM P w K mg base CC DN DS DC DM fI
  ML : MetX P w K mg base 1 CC "__len__" (spCln CC)
  MT : MetX P w K mg base 1 CC "__iter__" (spCit CC)
  MO : MetX P w K mg base 1 CC "__contains__" (spCco K CC)
  MG : MetG P w K mg base 3 CC (spCgi K CC DW)
  ME : MetX P w K mg base 2 CC "__eq__" (spCeq K CC)
  MS : MetX P w K mg base 2 CC "__str__" (spCst CC)
  NC : NeC K CC
/-- a def's table of code objects among those that are tracked -/
structure TabOf (T : List (Addr × Str)) (B : Addr) (x : Str) : Prop where
  mem : (B, (x ++ (".<locals>." : Str)) ++ ("<lambda>" : Str)) ∈ T
  own : ∀ p ∈ T, p.1 = B → p.2 = (x ++ (".<locals>." : Str)) ++ ("<lambda>" : Str)
theorem KpN.ofK {p : Addr} {H H' : Hp} (k : Kp p H H') : KpN p H H' := fun b o n e _ => k b o n e
theorem KpN.ext {p : Addr} {H H' : Hp} (x : ExtN H H') : KpN p H H' := fun b o _ e n => x b o e n
theorem KpN.trans {p : Addr} {H H' H'' : Hp} (a : KpN p H H') (b : KpN p H' H'') : KpN p H H'' := fun c o n e z => b c o n (a c o n e z) z
section
variable {X : Cx} {C f : Addr} {k j : Nat} {sp : Sp} {E : XK} {pins : List (Addr × Obj)} {σ : L2.St} {H : Hp} {s : Shared}
/-- x == y by the left one's own ==, y any value whose class is not below -/
def rEqG (K : PySem.W.Frag) (C : Addr) (sp : Sp) (E : XK) : R2 := fun x y H Q => ∃ a dx fs t, x = .ref a ∧ H a = some (.ins C dx fs) ∧ TyX K H y t ∧ PySem.W.notFirst K C t = true ∧ sp [x, y] H Q E
theorem op_eqG (M : MetX X.prog X.w X.K X.mg X.base k C "__eq__" sp) (hx : Passes (L2.CX X.prog X.w) X E) (hr : Room j X.A) (hk : k ≤ j) : OpR X (compareOp .Eq) (rEqG X.K C sp E) := by
  intro pins s σ H x y v u Q I rx ry h
  obtain ⟨a, dx, fs, t, rfl, ha, hy, hn, q⟩ := h
  cases (show v = Value.ref a from rx)
  obtain ⟨_, _, J⟩ := ins_at I ha
  obtain ⟨g, hm, w, _⟩ := run_met (us := [.ref a, u]) (vs := [.ref a, y]) M hx hr hk I (.cons rfl (.cons ry .nil)) q
  obtain ⟨W, Z, p, _⟩ := kit_of I ry hy
  exact Ow.cmp_eq hr.units0 I.kIn J (Z.ty _ _ I.kIn p) hn (Ow.try_ownE I.kIn J hm.at_ hm.fn w)
theorem op_eqGK (K' : PySem.W.Frag) (hK : X.K = K') (M : MetX X.prog X.w X.K X.mg X.base k C "__eq__" sp) (hx : Passes (L2.CX X.prog X.w) X E) (hr : Room j X.A) (hk : k ≤ j) : OpR X (compareOp .Eq) (rEqG K' C sp E) := by
  subst hK
  exact op_eqG M hx hr hk
end
def nfN : List String := ["dict", "list", "int", "NoneType", "str"]
/-- what is no crew -/
structure EqNo (K : PySem.W.Frag) (CC : Addr) : Prop where
  f : (nfN.all fun n => PySem.W.subIn K (.type n) (.ref CC) == some false && PySem.W.kitOne K (.type n) (.ref CC) == some false) = true
theorem EqNo.at_ {K : PySem.W.Frag} {CC : Addr} (h : EqNo K CC) {n : String} (hn : n ∈ nfN) : PySem.W.notFirst K CC (.type n) = true ∧ PySem.W.kitOne K (.type n) (.ref CC) = some false := by
  have h1 := List.all_eq_true.mp h.f n hn
  rw [Bool.and_eq_true] at h1
  refine ⟨?_, eq_of_beq h1.2⟩
  unfold PySem.W.notFirst
  rw [eq_of_beq h1.1]; simp
def gV1 : List V → List V → List V := fun _ zs => zs
/-- the static method of, by its parameter's name, too -/
structure StC (P : Program) (w : World) (K : PySem.W.Frag) (mg : Str → Option Value) (base : Heap) (CC DN DS DC DM : Addr) : Prop where
  ex : ∃ (p g : Addr) (fd : FuncData) (gU : List Value → List Value → List Value), OfC P w K mg base CC DN DS DC DM p g fd ∧ KBn K fd ["speeds"] 0 ["speeds"] gU gV1
theorem srt_uniq {ks ps qs : List (Str × Int)} (nd : (ks.map (·.1)).Nodup) (h1 : Srt ks ps) (h2 : Srt ks qs) : ps = qs := by
  have e : ps.map (·.1) = qs.map (·.1) := sort_uniq ((h1.1.map _).trans (h2.1.map _).symm) h1.2 h2.2
  have l : ps.length = qs.length := h1.1.length_eq.trans h2.1.length_eq.symm
  refine List.ext_getElem l fun i hi hj => ?_
  have e1 : ps[i].1 = qs[i].1 := by
    have z := congrArg (·[i]?) e
    simp only [List.getElem?_map, List.getElem?_eq_getElem hi, List.getElem?_eq_getElem hj, Option.map_some] at z
    exact Option.some.inj z
  have m1 := h1.1.subset (List.getElem_mem hi)
  have m2 := h2.1.subset (List.getElem_mem hj)
  refine Prod.ext e1 (snd_eq (n := ps[i].1) nd m1 ?_)
  rw [e1]
  exact m2
theorem srt_two {ks ls ps qs : List (Str × Int)} (h1 : Srt ks ps) (h2 : Srt ls qs) {n : Str} {i j : Int} (nd : (ks.map (·.1)).Nodup) (m1 : (n, i) ∈ ks) (m2 : (n, j) ∈ ls) (ne : i ≠ j) : ps ≠ qs := fun e => by
  subst e
  have a := h1.1.symm.subset m1
  have b := h2.1.symm.subset m2
  exact ne (snd_eq nd (h1.1.subset a) (h1.1.subset b))
/-- good speeds: a crew of them, sorted -/
theorem mkc_ok {K : PySem.W.Frag} {CC DN DS DC DM : Addr} {ks : List (Str × Int)} {H : Hp} {Q : VK} {E : XK} (ok : KsOk ks) (k : ∀ c H' ps, Same H H' → H c = none → CwAt CC H' c ps → NewD H H' c → Srt ks ps → Q (.ref c) H') : MkC K CC DN DS DC DM (ks.map fun q => (q.1, V.int q.2)) H Q E := by
  obtain ⟨nd, l1, l8, c⟩ := ok
  refine ⟨fun i q hq _ b => ?_, fun _ => ⟨fun i q hq _ b => ?_, fun _ ps pm so sub => ?_⟩⟩
  · rw [List.getElem?_map] at hq
    obtain ⟨r, hr, rfl⟩ := Option.map_eq_some_iff.mp hq
    rw [(c r (List.mem_of_getElem? hr)).1] at b
    cases b
  · rw [List.getElem?_map] at hq
    obtain ⟨r, hr, rfl⟩ := Option.map_eq_some_iff.mp hq
    have e : isSp (V.int r.2) = true := by
      show (decide (1 ≤ r.2) && decide (r.2 ≤ 60)) = true
      rw [decide_eq_true (c r (List.mem_of_getElem? hr)).2.1, decide_eq_true (c r (List.mem_of_getElem? hr)).2.2]; rfl
    rw [e] at b
    cases b
  · have mm : (ks.map fun q => (q.1, V.int q.2)).map (·.1) = ks.map (·.1) := by rw [List.map_map]; rfl
    rw [mm] at pm
    have l : ps.length = ks.length := by have := pm.length_eq; rw [List.length_map, List.length_map] at this; exact this
    have S : Srt ks ps := srt_of nd pm so fun q hq => by
      obtain ⟨r, hr, e⟩ := List.mem_map.mp (sub q hq).1
      have e : (r.1, V.int r.2) = (q.1, V.int q.2) := e
      have e1 : r.1 = q.1 := (Prod.mk.inj e).1
      have e2 : r.2 = q.2 := V.int.inj (Prod.mk.inj e).2
      have : r = q := Prod.ext e1 e2
      rw [← this]; exact hr
    refine ⟨fun e => ?_, fun e => ?_, fun _ _ cc H' s f cw nd => k cc H' ps s f cw nd S⟩
    · rw [e] at l
      exact absurd l (by show (0 : Nat) ≠ _; omega)
    · omega
theorem dn_ok {K : PySem.W.Frag} {H : Hp} {ks : List (Str × Int)} (ok : KsOk ks) : DnK K H (ks.map fun q => (q.1, V.int q.2)) := by
  obtain ⟨nd, l1, l8, c⟩ := ok
  refine ⟨by rw [List.map_map]; exact nd, by rw [List.length_map]; omega, fun p hp => ?_⟩
  obtain ⟨q, hq, rfl⟩ := List.mem_map.mp hp
  refine ⟨.int _, ?_⟩
  have h := name_len (c q hq).1
  have e : q.1.length = q.1.cps.toList.length := by rw [Array.length_toList]; rfl
  show q.1.length ≤ 1000000
  omega
/-- Crew.of of a dict of good speeds -/
theorem cof_ok {K : PySem.W.Frag} {CC DN DS DC DM d : Addr} {ks : List (Str × Int)} {H : Hp} {Q : VK} {E : XK} (ok : KsOk ks) (hd : H d = some (.dK (dkI ks))) (k : ∀ c H' ps, Same H H' → H c = none → CwAt CC H' c ps → NewD H H' c → Srt ks ps → Q (.ref c) H') : spCof K CC DN DS DC DM [.ref d] H Q E :=
  ⟨_, rfl, .inr (.inl ⟨d, _, rfl, hd, dn_ok ok, mkc_ok ok k⟩)⟩
theorem any_tup {K : PySem.W.Frag} {H : Hp} {a : Addr} {xs : List V} (h : H a = some (.tup xs)) : Anyv K H (.ref a) := .obj (.x (.base (.tup h))) (kit_ty (by decide +kernel)) (kit_ty (by decide +kernel)) (kit_ty (by decide +kernel))
theorem any_lst {K : PySem.W.Frag} {H : Hp} {a : Addr} {xs : List V} (h : H a = some (.lst xs)) : Anyv K H (.ref a) := .obj (.x (.base (.lst h))) (kit_ty (by decide +kernel)) (kit_ty (by decide +kernel)) (kit_ty (by decide +kernel))
theorem any_dK {K : PySem.W.Frag} {H : Hp} {a : Addr} {xs : List (L2.Key × V)} (h : H a = some (.dK xs)) : Anyv K H (.ref a) := .obj (.x (.base (.dK h))) (kit_ty (by decide +kernel)) (kit_ty (by decide +kernel)) (kit_ty (by decide +kernel))
theorem CwAt.frz {CC : Addr} {H : Hp} {c d : Addr} {ps : List (Str × Int)} {kvs : List (L2.Key × V)} {od : Obj} (h : CwAt CC H c ps) (hd : H d = some (.dK kvs)) : CwAt CC (upd H d (.frz od (.dK kvs))) c ps := by
  obtain ⟨dx, w, p, dd, ts, mn, mx, sl, fa, h1, h2, h3, h4, h5, h6⟩ := h
  have ne : ∀ {b o}, H b = some o → (∀ x, o ≠ .dK x) → upd H d (.frz od (.dK kvs)) b = some o := fun {b o} e n => by
    rw [upd_ne (fun z => by rw [z, hd] at e; exact n _ (Option.some.inj e).symm)]; exact e
  refine ⟨dx, w, p, dd, ts, mn, mx, sl, fa, ne h1 (fun _ z => by cases z), ne h2 (fun _ z => by cases z), ne h3 (fun _ z => by cases z), h4.mono fun b xs e => ne e (fun _ z => by cases z), ?_, h6⟩
  by_cases bd : dd = d
  · rw [bd] at h5 ⊢
    rcases h5 with e | ⟨o, e⟩
    · rw [hd] at e
      cases e
      exact .inr ⟨od, upd_same⟩
    · rw [hd] at e; cases e
  · rcases h5 with e | ⟨o, e⟩
    · exact .inl (by rw [upd_ne bd]; exact e)
    · exact .inr ⟨o, by rw [upd_ne bd]; exact e⟩
theorem CwAt.put {CC : Addr} {H : Hp} {c D : Addr} {ps : List (Str × Int)} {kvs : List (L2.Key × V)} {o : HO} (h : CwAt CC H c ps) (hD : H D = some (.dK kvs)) (nd : ∀ C dx fs, H c = some (.ins C dx fs) → fs.lookup ("_speeds" : Str) ≠ some (.ref D)) : CwAt CC (upd H D o) c ps := by
  obtain ⟨dx, w, p, dd, ts, mn, mx, sl, fa, h1, h2, h3, h4, h5, h6⟩ := h
  have ne : ∀ {b u}, H b = some u → (∀ x, u ≠ .dK x) → upd H D o b = some u := fun {b u} e n => by
    rw [upd_ne (fun z => by rw [z, hD] at e; exact n _ (Option.some.inj e).symm)]; exact e
  have bd : dd ≠ D := fun z => nd _ _ _ h1 (by rw [crF_speeds, z])
  refine ⟨dx, w, p, dd, ts, mn, mx, sl, fa, ne h1 (fun _ z => by cases z), ne h2 (fun _ z => by cases z), ne h3 (fun _ z => by cases z), h4.mono fun b xs e => ne e (fun _ z => by cases z), ?_, h6⟩
  rcases h5 with e | ⟨u, e⟩
  · exact .inl (by rw [upd_ne bd]; exact e)
  · exact .inr ⟨u, by rw [upd_ne bd]; exact e⟩
theorem same_put {H H2 : Hp} {D : Addr} {o : HO} (s : Same H H2) (hD : H D = none) : Same H (upd H2 D o) := fun b u e => by rw [upd_ne (ne_of_none e hD)]; exact s b u e
/-- [name for name in d if name not in made], all names in it -/
theorem none_out {i j m : Nat} {K : PySem.W.Frag} {CC c : Addr} {E : XK} {ps : List (Str × Int)} {σ : L2.St} {H : Hp} {Q : VK} {d : Addr} {ks : List (Str × V)} (hi : σ[i]? = some (some (V.ref d))) (hm : (wipe σ [j])[m]? = some (some (V.ref c))) (jm : j ≠ m) (lj : j < σ.length) (hd : H d = some (.dK (dkOf ks))) (cw : CwAt CC H c ps) (sub : ∀ p ∈ ks, p.1 ∈ ps.map (·.1))
    (q : ∀ D H', Same H H' → H D = none → H' D = some (.lst []) → Q (.ref D) H') :
    tLockE (tLc (iKeys (tVar i)) (gName j) (tTest (tOp (rInC CC (spCco K CC) true E) (tVar j) (tVar m))) (tVar j) [j]) σ H Q := by
  refine ⟨d, _, hd, trivial, fun od => ⟨_, hi, d, od, rfl, .inl ⟨_, upd_same, fun D hD => ?_⟩⟩⟩
  have ne : D ≠ d := fun e => by rw [e, upd_same] at hD; cases hD
  have cf := cw.frz (od := od) hd
  have sf := same_new (o := HO.lst []) hD
  rw [upd_ne ne] at hD
  refine lc_it walk_keys (fun n H' => H' = upd (upd H d (.frz od (.dK (dkOf ks)))) D (.lst [])) rfl (fun n H' _ e => by rw [e, upd_ne ne.symm, upd_same]) ?_ ?_
  · rintro n x H' H'' hn e ⟨rfl, k, v, hk, rfl⟩
    rw [List.getElem?_map] at hk
    obtain ⟨p, hp, e2⟩ := Option.map_eq_some_iff.mp hk
    have e3 : k = Sum.inr p.1 := (congrArg Prod.fst e2).symm
    subst e3
    refine ⟨by simp [wipe, List.set_set], ?_⟩
    have gt : ((wipe σ [j]).set j (some (V.str p.1)))[j]? = some (some (V.str p.1)) := by
      rw [List.getElem?_set_self]
      simpa [wipe] using lj
    have g1 : ((wipe σ [j]).set j (some (V.str p.1)))[m]? = some (some (V.ref c)) := by rw [List.getElem?_set_ne jm]; exact hm
    have cw2 : CwAt CC H'' c ps := by rw [e]; exact cf.same sf
    obtain ⟨dx, _, _, _, _, _, _, _, _, hc, _⟩ := id cw2
    have yes : isWk ps (.str p.1) = true := decide_eq_true (sub p (List.mem_of_getElem? hp))
    refine ⟨_, gt, _, g1, c, dx, _, rfl, hc, c, ps, _, rfl, cw2, .str _, _, rfl, _, rfl, iteF' (by rw [yes]; rfl) e⟩
  · rintro H' e
    refine ⟨by rw [e, upd_ne ne.symm, upd_same], q D _ (fun b o hb => ?_) hD ?_⟩
    · by_cases bd : b = d
      · rw [bd] at hb ⊢
        rw [upd_same, ← hd]
        exact hb
      · rw [upd_ne bd, e, upd_ne (ne_of_none hb hD), upd_ne bd]
        exact hb
    · rw [upd_ne ne, e, upd_same]
theorem cw_ne {K : PySem.W.Frag} {CC a b : Addr} {ps qs : List (Str × Int)} {H : Hp} {Q : VK} {E : XK} (ha : CwAt CC H a ps) (hb : CwAt CC H b qs) (lp : ps.length ≤ 8) (lq : qs.length ≤ 8) (np : ∀ q ∈ ps, nameT q.1 = true) (nq : ∀ q ∈ qs, nameT q.1 = true) (q : Q (.bl (!decide (ps = qs))) H) : rNR CC (spCeq K CC) E (.ref a) (.ref b) H Q := by
  obtain ⟨dx, _, _, _, _, _, _, _, _, hi, _⟩ := id ha
  obtain ⟨dy, _, _, _, _, _, _, _, _, hj, _⟩ := id hb
  exact ⟨a, dx, _, b, dy, _, rfl, hi, rfl, hj, a, ps, _, rfl, ha, lp, np, .inr ⟨b, qs, rfl, hb, lq, nq, _, rfl, q⟩⟩
theorem cw_eq {K : PySem.W.Frag} {CC a b : Addr} {ps qs : List (Str × Int)} {H : Hp} {Q : VK} {E : XK} (ha : CwAt CC H a ps) (hb : CwAt CC H b qs) (lp : ps.length ≤ 8) (lq : qs.length ≤ 8) (np : ∀ q ∈ ps, nameT q.1 = true) (nq : ∀ q ∈ qs, nameT q.1 = true) (q : Q (.bl (decide (ps = qs))) H) : rER CC (spCeq K CC) E (.ref a) (.ref b) H Q := by
  obtain ⟨dx, _, _, _, _, _, _, _, _, hi, _⟩ := id ha
  obtain ⟨dy, _, _, _, _, _, _, _, _, hj, _⟩ := id hb
  exact ⟨a, dx, _, b, dy, _, rfl, hi, rfl, hj, a, ps, _, rfl, ha, lp, np, .inr ⟨b, qs, rfl, hb, lq, nq, q⟩⟩
theorem putK_head {n : Str} {v w : Int} {r : List (Str × Int)} (h : n ∉ r.map (·.1)) : putK (dkI ((n, v) :: r)) (Sum.inr n : L2.Key) (V.int w) = dkI ((n, w) :: r) := by
  show putK ((Sum.inr n, V.int v) :: dkI r) (Sum.inr n) (V.int w) = (Sum.inr n, V.int w) :: dkI r
  unfold putK
  rw [if_pos (by simp), List.map_cons, if_pos rfl]
  refine congrArg (List.cons _) ((List.map_congr_left fun kv hk => ?_).trans (List.map_id _))
  obtain ⟨p, hp, rfl⟩ := List.mem_map.mp hk
  obtain ⟨q, hq, rfl⟩ := List.mem_map.mp hp
  rw [if_neg (fun e => h (List.mem_map.mpr ⟨q, hq, Sum.inr.inj e⟩))]
  rfl
theorem cw_no {K : PySem.W.Frag} {CC a : Addr} {n : String} {ps : List (Str × Int)} {y : V} {H : Hp} {Q : VK} {E : XK} (N : EqNo K CC) (hn : n ∈ nfN) (ha : CwAt CC H a ps) (lp : ps.length ≤ 8) (np : ∀ q ∈ ps, nameT q.1 = true) (ty : TyX K H y (.type n)) (q : Q (.bl false) H) : rEqG K CC (spCeq K CC) E (.ref a) y H Q := by
  obtain ⟨dx, _, _, _, _, _, _, _, _, hi, _⟩ := id ha
  exact ⟨a, dx, _, .type n, rfl, hi, ty, (N.at_ hn).1, a, ps, _, rfl, ha, lp, np, .inl ⟨_, .x ty, (N.at_ hn).2, q⟩⟩
theorem list_crew {CC c : Addr} {ps : List (Str × Int)} {H : Hp} {Q : VK} (cw : CwAt CC H c ps) (l8 : ps.length ≤ 8) (k : ∀ S ts, H S = none → PrT (upd H S (.lst (ts.map V.ref))) ts ps → Q (.ref S) (upd H S (.lst (ts.map V.ref)))) : rListOwn CC (spCit CC) (spCln CC) [.ref c] H Q := by
  obtain ⟨dx, _, _, _, _, _, _, _, _, hc, _⟩ := id cw
  refine ⟨c, dx, _, rfl, hc, fun S fS Sa => ?_⟩
  have sS := same_new (o := HO.lst []) fS
  have cw1 := cw.same sS
  have hS : upd H S (.lst []) S = some (.lst []) := upd_same
  refine ⟨c, ps, rfl, cw1, fun p it ts hp pr fit hab => ?_⟩
  have sI := same_new (o := ItT0 p it) fit
  refine ⟨it, p, dx, _, ts.map V.ref, rfl, upd_same, hab _ _ hS, sI _ _ (sS _ _ hc), c, ps, rfl, cw1.same sI, _, rfl, by omega, by omega, upd_same, sI _ _ hS, sI _ _ hp, ?_, ?_⟩
  · rw [List.length_map, pr.len]; omega
  · rw [drop_updK fit, upd_upd]
    refine k S ts fS (pr.mono fun b xs e => ?_)
    have bS : b ≠ S := fun z => by rw [z, hS] at e; cases e
    rw [upd_ne bS] at e ⊢
    exact e
theorem test_op {r : R2} {ta tb : TE} {σ : L2.St} {H : Hp} {Q : Bool → Hp → Prop} (h : ta σ H fun x H1 => tb σ H1 fun y H2 => r x y H2 fun z H3 => ∃ k, z = .bl k ∧ Q k H3) : tTest (tOp r ta tb) σ H Q := h
/-- what stays -/
theorem hd_wk {K : PySem.W.Frag} {DC DN DS DW DX DM : Addr} {x : V} {z : Str} {H : Hp} {Q : VK} (o : ∀ H', Same H H' → Rp K H' x z) (k : ∀ t H8, Same H H8 → H t = none → H8 t = some (.tup [.str (Str.ofString "worker"), .str z]) → Q (.ref t) H8) : Bf DW "name" x H (HeardX K DC DN DS DW DX DM Q) := fun d fs H7 s7 hd f1 =>
  have s8 : Same H (upd H7 d (.xd fs)) := s7.trans (same_new hd)
  .inr (.inr (.inr (.inl ⟨rfl, d, fs, x, z, rfl, upd_same, f1, o _ s8, fun t H8 s9 n9 h9 => k t H8 (s8.trans s9) (s8.free n9) h9⟩)))
def pSt (a b : Str) : PyData := .tuple [.str a, .str b]
theorem dp_pSt {K : PySem.W.Frag} {H : Hp} {t : Addr} {a b : Str} (h : H t = some (.tup [.str a, .str b])) : Dp K H (.ref t) (pSt a b) := .tup (SqT.of h) (.cons (.str _) (.cons (.str _) .nil))
theorem eqv_pSt (a b : Str) : PyData.eqv (pSt a b) (pSt a b) = true := by simp [pSt, PyData.eqv, PyData.eqvAll]
theorem lay_pSt {a b : Str} (ha : PyData.canLay0 (.str a) = true) (hb : PyData.canLay0 (.str b) = true) : (pSt a b).canLay0 = true := by
  show (PyData.canLay0 (.str a) && (PyData.canLay0 (.str b) && true)) = true
  rw [ha, hb]; rfl
theorem shaped_pSt {a b : Str} (ha : PyData.canLay0 (.str a) = true) (hb : PyData.canLay0 (.str b) = true) : SeqAt.shaped (pSt a b) = true := by
  unfold SeqAt.shaped
  rw [lay_pSt ha hb]; rfl
end Lw
namespace Lw
open PySem PySem.Spec PyProof.Rows L2
open SX PySem.NumText TL LamX ClX StX
set_option pp.maxSteps 900
/-! ### answers gathered in a list -/
def p2 (a b : Str) : PyData := .tuple [.str a, .str b]
theorem dp_p2 {K : PySem.W.Frag} {H : Hp} {t : Addr} {a b : Str} (h : H t = some (.tup [.str a, .str b])) : Dp K H (.ref t) (p2 a b) := .tup (SqT.of h) (.cons (.str _) (.cons (.str _) .nil))
def pL (ts : List (Str × Str)) : PyData := .list (ts.map fun t => p2 t.1 t.2)
structure AccL (H : Hp) (l : Addr) (ts : List (Addr × Str × Str)) : Prop where
  at_ : H l = some (.lst (ts.map fun t => V.ref t.1))
  all : ∀ t ∈ ts, H t.1 = some (.tup [.str t.2.1, .str t.2.2])
section
variable {H H' : Hp} {l : Addr} {ts : List (Addr × Str × Str)}
theorem AccL.extn (a : AccL H l ts) (e : ExtN H H') : AccL H' l ts := ⟨e _ _ a.at_ (fun ps z => by cases z), fun t ht => e _ _ (a.all t ht) (fun ps z => by cases z)⟩
theorem AccL.push {t : Addr} {x y : Str} (a : AccL H l ts) (h : H t = some (.tup [.str x, .str y])) : AccL (upd H l (.lst ((ts.map fun t => V.ref t.1) ++ [V.ref t]))) l (ts ++ [(t, x, y)]) := by
  have ne : ∀ {u : Addr} {zs : List V}, H u = some (.tup zs) → u ≠ l := fun e z => by rw [z, a.at_] at e; cases e
  refine ⟨by rw [upd_same, List.map_append]; rfl, fun u hu => ?_⟩
  rcases List.mem_append.mp hu with hu | hu
  · rw [upd_ne (ne (a.all u hu))]; exact a.all u hu
  · rw [List.mem_singleton.mp hu, upd_ne (ne h)]; exact h
theorem AccL.one {t : Addr} {x y : Str} (hl : H l = none) (h : H t = some (.tup [.str x, .str y])) : AccL (upd H l (.lst [V.ref t])) l [(t, x, y)] := by
  refine ⟨upd_same, fun u hu => ?_⟩
  rw [List.mem_singleton.mp hu, upd_ne (ne_of_none h hl)]; exact h
theorem dpAll_p {K : PySem.W.Frag} : ∀ {ts : List (Addr × Str × Str)}, (∀ t ∈ ts, H t.1 = some (.tup [.str t.2.1, .str t.2.2])) → DpAll K H (ts.map fun t => V.ref t.1) (ts.map fun t => p2 t.2.1 t.2.2)
  | [], _ => .nil
  | t :: r, h => .cons (dp_p2 (h t List.mem_cons_self)) (dpAll_p fun u hu => h u (List.mem_cons_of_mem _ hu))
theorem AccL.dp {K : PySem.W.Frag} (a : AccL H l ts) : Dp K H (.ref l) (pL (ts.map Prod.snd)) := by
  have e : pL (ts.map Prod.snd) = .list (ts.map fun t => p2 t.2.1 t.2.2) := by unfold pL; rw [List.map_map]; rfl
  rw [e]
  exact .lst (SqL.of a.at_) (dpAll_p a.all)
end
/-- objects that stay as they are -/
def Keeps (L : List (Addr × HO)) (H : Hp) : Prop := ∀ e ∈ L, H e.1 = some e.2
structure Sv (TS : List (Addr × Str)) (p pl : Addr) (n : Nat) (L : List (Addr × HO)) (H : Hp) : Prop where
  hp : Pen H p pl n
  ht : Tabs TS H
  kL : Keeps L H
  nt : ∀ e ∈ L, e.1 ≠ p ∧ ∀ ps, e.2 ≠ .tbl ps
section
variable {TS : List (Addr × Str)} {p pl : Addr} {n m : Nat} {L M : List (Addr × HO)} {H H' : Hp}
theorem Sv.ext (g : Sv TS p pl n L H) (x : ExtN H H') (t : Tabs TS H') : Sv TS p pl n L H' := ⟨Lw.Pen.extn g.hp x, t, fun e he => x _ _ (g.kL e he) (g.nt e he).2, g.nt⟩
theorem Sv.same (g : Sv TS p pl n L H) (s : Same H H') : Sv TS p pl n L H' := g.ext (ExtN.of s) (g.ht.ext s)
theorem Sv.draw (g : Sv TS p pl n L H) (h : Pen H' p pl m) (k : Kp p H H') : Sv TS p pl m L H' := ⟨h, Lw.Tabs.kp g.ht g.hp k, fun e he => k _ _ (g.nt e he).1 (g.kL e he), g.nt⟩
theorem Sv.add {a : Addr} {o : HO} (g : Sv TS p pl n L H) (h : H a = some o) (np : a ≠ p) (nt : ∀ ps, o ≠ .tbl ps) : Sv TS p pl n ((a, o) :: L) H := ⟨g.hp, g.ht, fun e he => by
    rcases List.mem_cons.mp he with rfl | he
    · exact h
    · exact g.kL e he, fun e he => by
    rcases List.mem_cons.mp he with rfl | he
    · exact ⟨np, nt⟩
    · exact g.nt e he⟩
theorem Sv.fresh {a : Addr} {o : HO} (g : Sv TS p pl n L H) (h : H a = none) (nt : ∀ ps, o ≠ .tbl ps) : Sv TS p pl n ((a, o) :: L) (upd H a o) := (g.same (same_new h)).add upd_same (g.hp.ne_new h) nt
theorem Sv.put {q : Addr} {xs ys : List V} (g : Sv TS p pl n L H) (h : H q = some (.lst xs)) (n1 : q ≠ p) (n2 : q ≠ pl) (nL : ∀ e ∈ L, e.1 ≠ q) : Sv TS p pl n L (upd H q (.lst ys)) := ⟨g.hp.over n1 n2, Lw.Tabs.put g.ht h, fun e he => by rw [upd_ne (nL e he)]; exact g.kL e he, g.nt⟩
theorem Sv.off {a : Addr} (g : Sv TS p pl n L H) (h : H a = none) : ∀ e ∈ L, e.1 ≠ a := fun e he => ne_of_none (g.kL e he) h
theorem Keeps.of (k : Keeps M H) (s : ∀ e ∈ L, e ∈ M) : Keeps L H := fun e he => k e (s e he)
end
/-- a value, and its repr -/
def Od1 (K : PySem.W.Frag) (L : List (Addr × HO)) (v : V) (z : Str) : Prop := (∀ H, Keeps L H → Anyv K H v ∧ Rp K H v z) ∧ PyData.canLay0 (.str z) = true
def BadV (K : PySem.W.Frag) (L : List (Addr × HO)) (v : V) (z : Str) : Prop := Od1 K L v z ∧ isSp v = false
def OddN (K : PySem.W.Frag) (L : List (Addr × HO)) (v : V) (z : Str) : Prop := Od1 K L v z ∧ ((∃ w, v = .str w ∧ nameT w = false ∧ w.length ≤ 1000000) ∨ v = .int 0 ∨ ∀ H, Keeps L H → OddV H v)
theorem Od1.of {K : PySem.W.Frag} {L M : List (Addr × HO)} {v : V} {z : Str} (h : Od1 K L v z) (s : ∀ e ∈ L, e ∈ M) : Od1 K M v z := ⟨fun H k => h.1 H (k.of s), h.2⟩
theorem BadV.of {K : PySem.W.Frag} {L M : List (Addr × HO)} {v : V} {z : Str} (h : BadV K L v z) (s : ∀ e ∈ L, e ∈ M) : BadV K M v z := ⟨h.1.of s, h.2⟩
theorem OddN.of {K : PySem.W.Frag} {L M : List (Addr × HO)} {v : V} {z : Str} (h : OddN K L v z) (s : ∀ e ∈ L, e ∈ M) : OddN K M v z := ⟨h.1.of s, h.2.imp id fun z => z.imp id fun f H k => f H (k.of s)⟩
theorem mkc_name {K : PySem.W.Frag} {CC DN DS DC DM : Addr} {ks : List (Str × V)} {w : Str} {x : V} {H : Hp} {Q : VK} {E : XK} (ok : ∀ q ∈ ks, nameT q.1 = true) (bad : nameT w = false) (h : Bf DN "value" (.str w) H E) : MkC K CC DN DS DC DM (ks ++ [(w, x)]) H Q E := by
  refine ⟨fun i q hq _ b => ?_, fun g => ?_⟩
  · rcases List.mem_append.mp (List.mem_of_getElem? hq) with m | m
    · rw [ok q m] at b; cases b
    · rw [List.mem_singleton.mp m]; exact h
  · have := g (w, x) (List.mem_append_right _ (List.mem_singleton.mpr rfl))
    rw [bad] at this
    cases this
theorem mkc_speed {K : PySem.W.Frag} {CC DN DS DC DM : Addr} {ks l : List (Str × V)} {n : Str} {v : V} {H : Hp} {Q : VK} {E : XK} (okn : ∀ q ∈ ks ++ (n, v) :: l, nameT q.1 = true) (oks : ∀ q ∈ ks, isSp q.2 = true) (bad : isSp v = false) (h : Bf DS "value" v H E) : MkC K CC DN DS DC DM (ks ++ (n, v) :: l) H Q E := by
  have at_ : (ks ++ (n, v) :: l)[ks.length]? = some (n, v) := by rw [List.getElem?_append_right (Nat.le_refl _), Nat.sub_self]; rfl
  refine ⟨fun i q hq _ b => ?_, fun _ => ⟨fun i q hq good b => ?_, fun g => ?_⟩⟩
  · rw [okn q (List.mem_of_getElem? hq)] at b; cases b
  · rcases Nat.lt_trichotomy i ks.length with lt | e | gt
    · rw [List.getElem?_append_left lt] at hq
      rw [oks q (List.mem_of_getElem? hq)] at b; cases b
    · rw [e, at_] at hq
      cases hq
      exact h
    · have := good _ _ gt at_
      rw [bad] at this; cases this
  · have := g (n, v) (List.mem_append_right _ List.mem_cons_self)
    rw [bad] at this
    cases this
theorem name_l {z : Str} (h : nameT z = true) : z.length ≤ 1000000 := by
  have h := name_len h
  have e : z.length = z.cps.toList.length := by rw [Array.length_toList]; rfl
  omega
section
variable {K : PySem.W.Frag} {DC DN DS DW DX DM : Addr} {x : V} {z : Str} {H : Hp} {Q : VK}
theorem hd_crew (k : ∀ t H8, Same H H8 → H t = none → H8 t = some (.tup [.str (Str.ofString "crew"), x]) → Q (.ref t) H8) : Bf DC "part" x H (HeardX K DC DN DS DW DX DM Q) := fun d fs H7 s7 hd f1 =>
  have s8 : Same H (upd H7 d (.xd fs)) := s7.trans (same_new hd)
  .inl ⟨rfl, d, fs, x, rfl, upd_same, f1, fun t H8 s9 n9 h9 => k t H8 (s8.trans s9) (s8.free n9) h9⟩
theorem hd_name (o : ∀ H', Same H H' → Rp K H' x z) (k : ∀ t H8, Same H H8 → H t = none → H8 t = some (.tup [.str (Str.ofString "name"), .str z]) → Q (.ref t) H8) : Bf DN "value" x H (HeardX K DC DN DS DW DX DM Q) := fun d fs H7 s7 hd f1 =>
  have s8 : Same H (upd H7 d (.xd fs)) := s7.trans (same_new hd)
  .inr (.inl ⟨rfl, d, fs, x, z, rfl, upd_same, f1, o _ s8, fun t H8 s9 n9 h9 => k t H8 (s8.trans s9) (s8.free n9) h9⟩)
theorem hd_speed (o : ∀ H', Same H H' → Rp K H' x z) (k : ∀ t H8, Same H H8 → H t = none → H8 t = some (.tup [.str (Str.ofString "speed"), .str z]) → Q (.ref t) H8) : Bf DS "value" x H (HeardX K DC DN DS DW DX DM Q) := fun d fs H7 s7 hd f1 =>
  have s8 : Same H (upd H7 d (.xd fs)) := s7.trans (same_new hd)
  .inr (.inr (.inl ⟨rfl, d, fs, x, z, rfl, upd_same, f1, o _ s8, fun t H8 s9 n9 h9 => k t H8 (s8.trans s9) (s8.free n9) h9⟩))
end
theorem AccL.kp {H H' : Hp} {l p pl : Addr} {n : Nat} {ts : List (Addr × Str × Str)} (a : AccL H l ts) (hp : Pen H p pl n) (np : l ≠ p) (k : Kp p H H') : AccL H' l ts := by
  refine ⟨k _ _ np a.at_, fun t ht => k _ _ (fun e => ?_) (a.all t ht)⟩
  obtain ⟨ys, _, _, hh, _⟩ := hp
  have h1 := hh.at_
  rw [← e, a.all t ht] at h1
  cases h1
theorem AccL.off {H : Hp} {l q : Addr} {xs ys : List V} {ts : List (Addr × Str × Str)} (a : AccL H q ts) (b : H l = some (.lst xs)) (ne : q ≠ l) : AccL (upd H l (.lst ys)) q ts := by
  refine ⟨by rw [upd_ne ne]; exact a.at_, fun t ht => ?_⟩
  have nt : t.1 ≠ l := fun e => by
    have h := a.all t ht
    rw [e, b] at h
    cases h
  rw [upd_ne nt]
  exact a.all t ht
theorem lay_pL : ∀ {ts : List (Str × Str)}, (∀ t ∈ ts, PyData.canLay0 (.str t.1) = true ∧ PyData.canLay0 (.str t.2) = true) → PyData.canLayAll0 (ts.map fun t => p2 t.1 t.2) = true
  | [], _ => rfl
  | t :: r, h => by
    have h1 := h t List.mem_cons_self
    have e : PyData.canLay0 (p2 t.1 t.2) = true := by
      show (PyData.canLay0 (.str t.1) && (PyData.canLay0 (.str t.2) && true)) = true
      rw [h1.1, h1.2]; rfl
    show (PyData.canLay0 (p2 t.1 t.2) && PyData.canLayAll0 (r.map fun t => p2 t.1 t.2)) = true
    rw [e, lay_pL fun x hx => h x (List.mem_cons_of_mem _ hx)]; rfl
theorem depth_pL : ∀ ts : List (Str × Str), PyData.depthAll (ts.map fun t => p2 t.1 t.2) ≤ 1
  | [] => Nat.zero_le _
  | t :: r => by
    show max (PyData.depth (p2 t.1 t.2)) (PyData.depthAll (r.map fun t => p2 t.1 t.2)) ≤ 1
    exact Nat.max_le.mpr ⟨by show max 0 (max 0 0) + 1 ≤ 1; decide, depth_pL r⟩
theorem shaped_pL {ts : List (Str × Str)} (h : ∀ t ∈ ts, PyData.canLay0 (.str t.1) = true ∧ PyData.canLay0 (.str t.2) = true) : SeqAt.shaped (pL ts) = true := by
  unfold SeqAt.shaped
  have h1 : PyData.canLay0 (pL ts) = true := lay_pL h
  have h2 : PyData.depth (pL ts) ≤ 64 := by
    show PyData.depthAll (ts.map fun t => p2 t.1 t.2) + 1 ≤ 64
    have := depth_pL ts
    omega
  rw [h1, decide_eq_true h2]; rfl
theorem eqvs_pL : ∀ ts : List (Str × Str), PyData.eqvAll (ts.map fun t => p2 t.1 t.2) (ts.map fun t => p2 t.1 t.2) = true
  | [] => rfl
  | t :: r => by
    have e : PyData.eqv (p2 t.1 t.2) (p2 t.1 t.2) = true := by
      show ((t.1 == t.1) && ((t.2 == t.2) && true)) = true
      simp
    show (PyData.eqv (p2 t.1 t.2) (p2 t.1 t.2) && PyData.eqvAll (r.map fun t => p2 t.1 t.2) (r.map fun t => p2 t.1 t.2)) = true
    rw [e, eqvs_pL r]; rfl
theorem eqv_pL (ts : List (Str × Str)) : PyData.eqv (pL ts) (pL ts) = true := eqvs_pL ts
/-- the list that answers are gathered in, beside what stays -/
structure Fl (p pl : Addr) (L : List (Addr × HO)) (l : Addr) : Prop where
  n1 : l ≠ p
  n2 : l ≠ pl
  n3 : ∀ e ∈ L, e.1 ≠ l
/-- the law's def, its code object known -/
structure LawC (K : PySem.W.Frag) (x : Str) (st : Stmt) (f : Addr) (fd : FuncData) (c : Addr) : Prop where
  ex : ∃ (oc : Value) (od : Option Addr) (dV kV doc pm : Value) (an : Option Addr) (ct : Value) (osl : Array (Option Value)),
    fd = PySem.W.fnOf x x (C8.fnArgs st) (C8.fnBody st) (C8.fnScope st) dV kV doc pm an (.ref c) ct ∧ K.lookup f = some ⟨oc, od, .func fd, osl⟩ ∧ PySem.W.codeIn K (.ref c) x = true
theorem fnGC {P : Program} {w : World} {K : PySem.W.Frag} {mg : Str → Option Value} {base : Heap} {x : Str} {st : Stmt} {f c : Addr} {fd : FuncData} {N ps : List Str} {k : Nat} {sp : Sp} (F : LawC K x st f fd c) (S : FnScope N ps (C8.fnScope st)) (len : ∀ vs H Q E, sp vs H Q E → vs.length = ps.length)
    (body : ∀ (A : Around) (outer : List Env) (s : Shared) (H : Hp) (vs : List V) (Q : VK) (E : XK), (A.deeper (envOfC x (C8.fnScope st) s.heap.objs.size f (.ref c))).guards = some [] → Room k (A.deeper (envOfC x (C8.fnScope st) s.heap.objs.size f (.ref c))) → sp vs H Q E →
      ∃ t, PSs (cxOf C8.CX0 P w K mg base N x (C8.fnScope st) f (.ref c) A outer s H E).nox (C8.fnBody st) t ∧ t { nx := fun _ H' => Q .non H', rt := Q } (start N vs) H) : FnG P w K mg base (k + 1) f fd ps sp := by
  refine ⟨len, ?_⟩
  intro A outer s H args us vs Q E hg hr e0 hb r hs
  obtain ⟨oc, od, dV, kV, doc, pm, an, ct, osl, rfl, lk, hcd⟩ := F.ex
  refine LamX.run_ofS lk hcd S hr e0 hb r (len _ _ _ _ hs) fun hr' => ?_
  obtain ⟨t, h1, h2⟩ := body A outer s H vs Q E hg hr' hs
  exact ⟨t, h1.nox, h2⟩
structure AccT (H : Hp) (l : Addr) (ts : List (Addr × List V)) : Prop where
  at_ : H l = some (.lst (ts.map fun t => V.ref t.1))
  all : ∀ t ∈ ts, H t.1 = some (.tup t.2)
section
variable {H H' : Hp} {l : Addr} {ts : List (Addr × List V)}
theorem AccT.extn (a : AccT H l ts) (e : ExtN H H') : AccT H' l ts := ⟨e _ _ a.at_ (fun ps z => by cases z), fun t ht => e _ _ (a.all t ht) (fun ps z => by cases z)⟩
theorem AccT.push {t : Addr} {xs : List V} (a : AccT H l ts) (h : H t = some (.tup xs)) : AccT (upd H l (.lst ((ts.map fun t => V.ref t.1) ++ [V.ref t]))) l (ts ++ [(t, xs)]) := by
  have ne : ∀ {u : Addr} {zs : List V}, H u = some (.tup zs) → u ≠ l := fun e z => by rw [z, a.at_] at e; cases e
  refine ⟨by rw [upd_same, List.map_append]; rfl, fun u hu => ?_⟩
  rcases List.mem_append.mp hu with hu | hu
  · rw [upd_ne (ne (a.all u hu))]; exact a.all u hu
  · rw [List.mem_singleton.mp hu, upd_ne (ne h)]; exact h
theorem AccT.one {t : Addr} {xs : List V} (hl : H l = none) (h : H t = some (.tup xs)) : AccT (upd H l (.lst [V.ref t])) l [(t, xs)] := by
  refine ⟨upd_same, fun u hu => ?_⟩
  rw [List.mem_singleton.mp hu, upd_ne (ne_of_none h hl)]; exact h
end
theorem paired_dk {K : PySem.W.Frag} {H : Hp} : ∀ {ts : List Addr} {ps : List (Str × Int)}, PrT H ts ps → Paired (fun p kv => SqT K H p [kV kv.1, kv.2]) ts (dkI ps)
  | _, _, .nil => .nil
  | _, _, .cons h r => .cons (SqT.of h) (paired_dk r)
theorem mkc_empty {K : PySem.W.Frag} {CC DN DS DC DM : Addr} {H : Hp} {Q : VK} {E : XK} (h : Bf DC "part" (.str (Str.ofString "empty")) H E) : MkC K CC DN DS DC DM [] H Q E := by
  refine ⟨fun i q hq _ _ => (by cases hq), fun _ => ⟨fun i q hq _ _ => (by cases hq), fun _ ps pm _ _ => ?_⟩⟩
  have e : ps = [] := List.map_eq_nil_iff.mp (List.Perm.eq_nil pm)
  subst e
  exact ⟨fun _ => h, fun l => absurd l (by decide), fun n => absurd rfl n⟩
theorem mak_empty {K : PySem.W.Frag} {CC DN DS DC DM : Addr} {H : Hp} {Q : VK} {E : XK} (h : Bf DC "part" (.str (Str.ofString "empty")) H E) : MakK CC (spCrI K CC DN DS DC DM) E [] H Q := by
  refine mk_kw ⟨List.nodup_nil, (by show 0 < 64; decide), fun p hp => (by cases hp)⟩ (fun p hp => (by cases hp)) fun ys pm _ => ?_
  have e : ys = [] := List.Perm.eq_nil pm
  subst e
  refine ⟨fun i n hn _ _ => (by cases hn), fun _ => ⟨fun i n v hn _ _ _ => (by cases hn), fun ps e1 _ => ?_⟩⟩
  have e : ps = [] := List.map_eq_nil_iff.mp e1
  subst e
  exact ⟨fun _ => h, fun l => absurd l (by decide), fun n => absurd rfl n⟩
theorem mkc_many {K : PySem.W.Frag} {CC DN DS DC DM : Addr} {ks : List (Str × Int)} {H : Hp} {Q : VK} {E : XK} (ok : CwOk ks) (l : 8 < ks.length) (h : Bf2 DM "what" (.str (Str.ofString "workers")) "most" (.int 8) H E) : MkC K CC DN DS DC DM (ks.map fun q => (q.1, V.int q.2)) H Q E := by
  refine ⟨fun i q hq _ b => ?_, fun _ => ⟨fun i q hq _ b => ?_, fun _ ps pm _ _ => ?_⟩⟩
  · rw [List.getElem?_map] at hq
    obtain ⟨r, hr, rfl⟩ := Option.map_eq_some_iff.mp hq
    rw [(ok r (List.mem_of_getElem? hr)).1] at b
    cases b
  · rw [List.getElem?_map] at hq
    obtain ⟨r, hr, rfl⟩ := Option.map_eq_some_iff.mp hq
    have e : isSp (V.int r.2) = true := by
      show (decide (1 ≤ r.2) && decide (r.2 ≤ 60)) = true
      rw [decide_eq_true (ok r (List.mem_of_getElem? hr)).2.1, decide_eq_true (ok r (List.mem_of_getElem? hr)).2.2]; rfl
    rw [e] at b
    cases b
  · have e := pm.length_eq
    rw [List.length_map, List.length_map, List.length_map] at e
    exact ⟨fun z => (by rw [z] at e; have : 0 = ks.length := e; omega), fun _ => h, fun _ z => (by omega)⟩
theorem mak_ok {K : PySem.W.Frag} {CC DN DS DC DM : Addr} {ks : List (Str × Int)} {H : Hp} {Q : VK} {E : XK} (ok : KsOk ks) (k : ∀ c H' ps, Same H H' → H c = none → CwAt CC H' c ps → Srt ks ps → Q (.ref c) H') : MakK CC (spCrI K CC DN DS DC DM) E (ks.map fun q => (q.1, V.int q.2)) H Q := by
  have mm : (ks.map fun q => (q.1, V.int q.2)).map (·.1) = ks.map (·.1) := by rw [List.map_map]; rfl
  obtain ⟨nd, l1, l8, c⟩ := id ok
  have look : ∀ n v, (ks.map fun q => (q.1, V.int q.2)).lookup n = some v → ∃ q ∈ ks, q.1 = n ∧ v = .int q.2 := fun n v h => by
    have hm : n ∈ (ks.map fun q => (q.1, V.int q.2)).map (·.1) := by
      have : ((ks.map fun q => (q.1, V.int q.2)).lookup n).isSome = true := by rw [h]; rfl
      rw [List.mem_map]
      obtain ⟨l1, l2, hl, _⟩ := List.lookup_eq_some_iff.mp h
      exact ⟨(n, v), by rw [hl]; simp, rfl⟩
    obtain ⟨u, hu, m⟩ := look_mem hm
    rw [hu] at h
    cases h
    obtain ⟨q, hq, e⟩ := List.mem_map.mp m
    exact ⟨q, hq, (Prod.mk.inj e).1, (Prod.mk.inj e).2.symm⟩
  refine mk_kw (dn_ok ok) (fun p hp e => ?_) fun ys pm so => ?_
  · obtain ⟨q, hq, rfl⟩ := List.mem_map.mp hp
    have := (c q hq).1
    rw [show q.1 = "this_crew" from e] at this
    exact absurd this (by decide +kernel)
  rw [mm] at pm
  refine ⟨fun i n hn _ b => ?_, fun _ => ⟨fun i n v hn hv _ b => ?_, fun ps e1 e2 => ?_⟩⟩
  · obtain ⟨q, hq, e⟩ := List.mem_map.mp (pm.subset (List.mem_of_getElem? hn))
    rw [← e, (c q hq).1] at b
    cases b
  · obtain ⟨q, hq, _, rfl⟩ := look _ _ hv
    have e : isSp (V.int q.2) = true := by
      show (decide (1 ≤ q.2) && decide (q.2 ≤ 60)) = true
      rw [decide_eq_true (c q hq).2.1, decide_eq_true (c q hq).2.2]; rfl
    rw [e] at b
    cases b
  · have S : Srt ks ps := srt_of nd (by rw [e1]; exact pm) (by rw [e1]; exact so) fun q hq => by
      obtain ⟨r, hr, e3, e4⟩ := look _ _ (e2 q hq).1
      have e5 : q = r := Prod.ext e3.symm (V.int.inj e4)
      rw [e5]; exact hr
    have l := S.1.length_eq
    exact ⟨fun z => (by rw [z] at l; have : 0 = ks.length := l; omega), fun z => (by omega), fun _ _ cc H' s f cw _ => k cc H' ps s f cw S⟩
theorem hd_many {K : PySem.W.Frag} {DC DN DS DW DX DM : Addr} {H : Hp} {Q : VK} {x y : V} (k : ∀ t H8, Same H H8 → H t = none → H8 t = some (.tup [.str (Str.ofString "many"), x, y]) → Q (.ref t) H8) : Bf2 DM "what" x "most" y H (HeardX K DC DN DS DW DX DM Q) := fun d fs H7 s7 hd f1 f2 =>
  have s8 : Same H (upd H7 d (.xd fs)) := s7.trans (same_new hd)
  .inr (.inr (.inr (.inr (.inr ⟨rfl, d, fs, _, _, rfl, upd_same, f1, f2, fun t H8 s9 n9 h9 => k t H8 (s8.trans s9) (s8.free n9) h9⟩))))
theorem ks_dec {ks : List (Str × Int)} (h : (decide (ks.map (·.1)).Nodup && decide (1 ≤ ks.length) && decide (ks.length ≤ 8) && ks.all fun q => nameT q.1 && decide (1 ≤ q.2) && decide (q.2 ≤ 60)) = true) : KsOk ks := by
  simp only [Bool.and_eq_true, decide_eq_true_eq, List.all_eq_true] at h
  exact ⟨h.1.1.1, h.1.1.2, h.1.2, fun q hq => ⟨(h.2 q hq).1.1, (h.2 q hq).1.2, (h.2 q hq).2⟩⟩
end Lw
namespace Lw
open PySem PySem.Spec PyProof.Rows L2
open SX PySem.NumText TL LamX ClX StX
/-! ### `!=` of two lists whose things are equal by an own `==` -/
section
open PySem.SeqAt MeetsSeq MeetsSeq2 MeetsSeq3 SeqRoads2
open AutoSeq1 (wpAny_loadPart')
variable {P : Program} {w : World} {A : Around} {R : Result → Shared → Prop}
theorem nq_turns {l b : Addr} {N : Nat} {I : Nat → Shared → Prop} (tr : GQ.ListI P w A (fun e s' => R (.error e) s') l b N I) (en : ∀ s, I N s → R (.ok (.ret (.bool false))) s) :
    ∀ (left i : Nat), N - i = left → i ≤ N → ∀ s, I i s → wpAny (model P w) A.in1 (Builtin.«list.__eq__.loop» ⟨[.ref l, .ref b, rawInt i, rawInt 3], []⟩) (GQ.FinOf P w A R) (fun e s' => R (.error e) s') s
  | 0, i, hk, hi, s, h => by
    obtain ⟨us, vs, nu, nv, gu, gv, zu, zv, _⟩ := tr _ _ h
    obtain rfl : i = N := by omega
    have hR := en s h
    obtain ⟨h1, h2, h3, h4, h5⟩ := s
    wp_walk using wpAny_loadPart' gu, wpAny_loadPart' gv
    rw [show us[((i : Nat) : Int).toNat]? = none by simp; omega, show vs[((i : Nat) : Int).toNat]? = none by simp; omega]
    wp_walk using wpAny_loadPart' gu, wpAny_loadPart' gv
    have z : (us.size != vs.size) = false := by rw [zu, zv]; simp
    show R (.ok (.ret (.bool (us.size != vs.size)))) _
    rw [z]
    exact hR
  | left + 1, i, hk, hi, s, h => by
    obtain ⟨us, vs, nu, nv, gu, gv, zu, zv, one⟩ := tr _ _ h
    have lu : i < us.size := by omega
    have lv : i < vs.size := by omega
    have step := one lu lv
    obtain ⟨h1, h2, h3, h4, h5⟩ := s
    wp_walk using wpAny_loadPart' gu, wpAny_loadPart' gv
    rw [show us[((i : Nat) : Int).toNat]? = some us[i] by simp [lu], show vs[((i : Nat) : Int).toNat]? = some vs[i] by simp [lv]]
    refine wpAny_bind (wpAny_mono step (fun r s2 ⟨e, h2⟩ => ?_) fun _ _ x => x)
    subst e
    have more := nq_turns tr en left (i + 1) (by omega) (by omega) s2 h2
    obtain ⟨k1, k2, k3, k4, k5⟩ := s2
    wp_walk
    rw [show ((i : Int) + 1) = ((i + 1 : Nat) : Int) by omega]
    refine ⟨plainId_quiet plain_eq_loop _, codeAny_builtin entry_eq_loop ?_⟩
    rw [Around.under_plainId plain_eq_loop _]
    exact more
theorem nq_list {l b : Addr} {N : Nat} {I : Nat → Shared → Prop} (tr : GQ.ListI P w A (fun e s' => R (.error e) s') l b N I) (en : ∀ s, I N s → R (.ok (.ret (.bool false))) s) {s : Shared} (h : I 0 s) :
    wpAny (model P w) A.in1 (Builtin.«list.__ne__» ⟨[.ref l, .ref b], []⟩) (GQ.FinOf P w A R) (fun e s' => R (.error e) s') s := by
  obtain ⟨us, vs, nu, nv, gu, gv, zu, zv, _⟩ := tr _ _ h
  have more := nq_turns tr en _ 0 rfl (Nat.zero_le _) s h
  have sub := AutoSeq1.sub_list_list
  obtain ⟨h1, h2, h3, h4, h5⟩ := s
  have z : ¬ (us.size != vs.size) = true := by simp [zu, zv]
  wp_walk using wpAny_loadPart' gu, wpAny_loadPart' gv
  refine ⟨plainId_quiet plain_eq_loop _, codeAny_builtin entry_eq_loop ?_⟩
  rw [Around.under_plainId plain_eq_loop _]
  exact more
end
theorem nq_rc {P : Program} {w : World} {A : Around} {E : Value → Shared → Prop} {s : Shared} {l b : Addr} {N : Nat} {Q : Value → Shared → Prop} (hu : A.units < cLine) {I : Nat → Shared → Prop} (tr : GQ.ListI P w A E l b N I) (en : ∀ s, I N s → Q (.bool false) s) (h : I 0 s) :
    wpAny (model P w) A (richCompare .NotEq (.ref l) (.ref b)) Q E s := by
  obtain ⟨us, vs, nu, nv, gu, gv, _, _, _⟩ := tr _ _ h
  have go := nq_list (R := wants (fun v s' => v ≠ .notImplemented ∧ Q v s') E) tr (fun s' q => ⟨(fun z => nomatch z), en s' q⟩) h
  exact wpAny_richCompare_same_room (op := .NotEq) ⟨_, gu, rfl⟩ ⟨_, gv, rfl⟩ F.slot_list_ne (GQ.call_here F.slot_list_ne ⟨_, gu, rfl⟩ F.entry_list_ne (F.args_list_ne_2 _ _) go) hu
/-- two lists that are equal, thing by thing, are not unequal -/
def rNeL (D : Eqv) : R2 := fun x y H Q => DList D x y H ∧ ∀ H', Ext H H' → Q (.bl false) H'
theorem op_neL {X : Cx} {n : Nat} {D : Eqv} (hD : Mon D) (h : EqG X n D) (hr : Room (n + 1) X.A) : OpR X (compareOp .NotEq) (rNeL D) := by
  intro pins s σ H x y v u Q I rx ry hq
  obtain ⟨⟨a, b, xs, ys, rfl, rfl, ha, hb, p⟩, q⟩ := hq
  cases rx
  cases ry
  have sb : Sub X (n + 1) X.A := ⟨hr, rfl⟩
  show wpAny (model X.prog X.w) X.A (richCompare .NotEq _ _) (EP X pins σ Q) X.xe s
  refine nq_rc (N := xs.length) hr.units0 (I := fun _ s' => LoopI X pins σ H s') (fun i s' z => ?_) (fun s' z => ?_) ⟨H, I, Ext.rfl'⟩
  · obtain ⟨H1, I1, e1⟩ := id z
    obtain ⟨_, us, k1, r1, g1⟩ := I1.hok a _ (e1 _ _ ha)
    obtain ⟨_, vs, k2, r2, g2⟩ := I1.hok b _ (e1 _ _ hb)
    exact ⟨us.toArray, vs.toArray, k1, k2, g1, g2, by rw [List.size_toArray, ← r1.length], by rw [List.size_toArray, ← r2.length, ← p.1], fun j1 j2 => turnG hD h sb p r1 r2 i j1 j2 s' z⟩
  · obtain ⟨H', I', e⟩ := z
    exact ⟨.bl false, H', I', rfl, q H' e⟩
end Lw
namespace Lw
open PySem PySem.Spec PyProof.Rows L2
open SX PySem.NumText TL LamX ClX StX
abbrev sLsp : Stmt := top 35
def some8 : List V := [.int 1, .int 1, .int 2, .int 3, .int 5, .int 30, .int 59, .int 60]
theorem seq_at {r : Int} {n : Nat} (h0 : 0 ≤ r) (h1 : r < n) : seqIndex? r n = some r.toNat := by
  unfold seqIndex?
  have h : ¬ r < 0 := by omega
  simp only [if_neg h]
  rw [if_pos (show (decide (0 ≤ r) && decide (r < (n : Int))) = true by rw [decide_eq_true h0, decide_eq_true h1]; rfl)]
theorem erase_map {α β : Type} (f : α → β) : ∀ (l : List α) (k : Nat), (l.map f).eraseIdx k = (l.eraseIdx k).map f
  | [], _ => rfl
  | _ :: _, 0 => rfl
  | x :: r, k + 1 => by
    show f x :: (r.map f).eraseIdx k = f x :: (r.eraseIdx k).map f
    rw [erase_map f r k]
theorem nd_inj {α : Type} {l : List α} (nd : l.Nodup) {i j : Nat} {hi : i < l.length} {hj : j < l.length} (e : l[i] = l[j]) : i = j := by
  rcases Nat.lt_trichotomy i j with h | h | h
  · exact absurd e (List.pairwise_iff_getElem.mp nd i j hi hj h)
  · exact h
  · exact absurd e.symm (List.pairwise_iff_getElem.mp nd j i hj hi h)
def spLsp : Sp := fun vs H Q _ => ∃ (p pl : Addr) (n : Nat) (l : Addr) (ns : List Str), vs = [.ref p, .ref l, .int 1] ∧ Pen H p pl n ∧ n ≤ 900000 ∧ H l = some (.lst (ns.map V.str)) ∧ l ≠ p ∧ ns.Nodup ∧ 8 ≤ ns.length ∧ ns.length ≤ 20 ∧
  ∀ d (ks : List (Str × Int)) H', Pen H' p pl (n + 30) → Kp p H H' → H d = none → H' d = some (.dK (dkI ks)) → (ks.map (·.1)).Nodup → (∀ q ∈ ks, q.1 ∈ ns ∧ 1 ≤ q.2 ∧ q.2 ≤ 60) → 1 ≤ ks.length → ks.length ≤ 8 → Q (.ref d) H'
section
variable {P : Program} {w : World} {K : PySem.W.Frag} {mg : Str → Option Value} {base : Heap}
theorem scLsp : FnScope ["_law_pen_here", "_law_names", "_law_least", "_law_turn", "_law_left", "_law_found"] ["_law_pen_here", "_law_names", "_law_least"] (C8.fnScope sLsp) := C8.fnScope_by (by decide +kernel)
theorem cal_lsp {f : Addr} {fd : FuncData} (F : C8.Def K mg "_law_speeds" sLsp f fd) (b : Binds K fd ["_law_pen_here", "_law_names", "_law_least"] []) (T : TxtC mg) (D0 : C8.Cal P w K mg base 1 "_law_draw" spDraw []) (DP : C8.Cal P w K mg base 2 "_law_pick" (spPick K) []) : C8.Cal P w K mg base 3 "_law_speeds" spLsp [] := by
  refine C8.cal0 F b .nil scLsp (fun vs H Q E h => ?_) (fun cdv A outer st H vs Q E hr h => ?_)
  · obtain ⟨p, pl, n, l, ns, rfl, _⟩ := h
    rfl
  · obtain ⟨p, pl, n, l, ns, rfl, hp, hn, hl, lp, nd, l8, l20, k⟩ := h
    refine ⟨_, (pss_cons (ps_par (i := 4) (j := 5) rfl scLsp.nd rfl rfl (by decide) rfl rfl (pa_cons (pe_callTy call_list_of (by rfl) T.n_list (by decide +kernel) (pa_cons (pv 1) pa_nil)) (pa_cons pe_dnewK pa_nil)) (by rfl))
  (pss_cons (ps_for PassesOwn.never rfl (pi_range1 (by rfl) T.n_range (pa_cons (pe_op op_add (pv 2) (C8.pe_c D0 hr (by decide) (by rfl) (pa_cons (pv 0) (pa_cons (pe_op op_add (pe_op op_sub (pe_callB (call_min2 rfl) (by rfl) T.n_min (by decide +kernel) (pa_cons pe_int (pa_cons (pe_callB call_len_seq (by rfl) T.n_len (by decide +kernel) (pa_cons (pv 1) pa_nil)) pa_nil))) (pv 2)) pe_int) pa_nil)))) pa_nil)) (pg_name (i := 3) scLsp.nd rfl (Or.inl rfl)) (pss_one (ps_dput (hu_of hr) (pv 5) (pe_bm PySem.F.plainAttrs_list PySem.F.slot_list_pop PySem.F.type_list_pop mt_popAt (pv 4) (pa_cons (C8.pe_c D0 hr (by decide) (by rfl) (pa_cons (pv 0) (pa_cons (pe_callB call_len_seq (by rfl) T.n_len (by decide +kernel) (pa_cons (pv 4) pa_nil)) pa_nil))) pa_nil)) (C8.pe_c DP hr (by decide) (by rfl) (pa_cons (pv 0) (pa_cons (pe_lst (pa_cons pe_int (pa_cons pe_int (pa_cons pe_int (pa_cons pe_int (pa_cons pe_int (pa_cons pe_int (pa_cons pe_int (pa_cons pe_int pa_nil))))))))) pa_nil))) (by rfl))))
  (pss_one (ps_ret (pv 5))))), ?_⟩
    refine ⟨_, rfl, l, _, rfl, .inl (SqL.of hl), fun L hL D hD => ⟨_, _, rfl, ?_⟩⟩
    have sL := same_new (o := HO.lst (ns.map V.str)) hL
    have hL1 : upd H L (.lst (ns.map V.str)) L = some (.lst (ns.map V.str)) := upd_same
    have fL := hL
    have Lp := hp.ne_new hL
    have Ll := hp.ne_new2 hL
    generalize upd H L (.lst (ns.map V.str)) = H1 at sL hL1 hD ⊢
    have sD := same_new (o := HO.dK []) hD
    have hD1 : upd H1 D (.dK []) D = some (.dK []) := upd_same
    have hp1 := hp.keep sL
    have Dp := hp1.ne_new hD
    have Dl := hp1.ne_new2 hD
    have LD : L ≠ D := fun e => by rw [e, hD] at hL1; cases hL1
    have fD : H D = none := sL.free hD
    generalize upd H1 D (.dK []) = H2 at sD hD1 ⊢
    have hL2 := sD _ _ hL1
    have hp2 := hp1.keep sD
    have k2 : Kp p H H2 := .of (sL.trans sD)
    dsimp only [tNext, tSeq]
    have e8 : (if ((ns.map V.str).length : Int) < 8 then ((ns.map V.str).length : Int) else 8) = 8 := if_neg (by rw [List.length_map]; omega)
    have hl2 := sD _ _ (sL _ _ hl)
    refine ⟨_, rfl, _, rfl, _, rfl, l, _, rfl, .inl (SqL.of hl2), (8 : Int), ((ns.map V.str).length : Int), rfl, _, rfl, _, _, rfl, rfl, _, _, rfl, rfl, ?_⟩
    rw [e8]
    refine ⟨p, pl, n, (8 - 1 + 1 : Int), rfl, by decide, by decide, hp2, by omega, fun r H3 r0 r1 hp3 k3 => ?_⟩
    have some8v : ∀ v ∈ some8, ∃ x : Int, v = .int x ∧ 1 ≤ x ∧ x ≤ 60 := by
      intro v hv
      unfold some8 at hv
      simp only [List.mem_cons, List.not_mem_nil, or_false] at hv
      rcases hv with rfl | rfl | rfl | rfl | rfl | rfl | rfl | rfl <;> exact ⟨_, rfl, by decide, by decide⟩
    refine ⟨1, r, rfl, rfl, 1 + r, rfl, by omega, by omega, for_range (lo := 0) (n := (1 + r).toNat) (fun i σ' H' => ∃ x3, σ' = [some (V.ref p), some (V.ref l), some (V.int 1), x3, some (V.ref L), some (V.ref D)] ∧ Pen H' p pl (n + 1 + 2 * i) ∧ Kp p H H' ∧
      ∃ (ls : List Str) (ks : List (Str × Int)), H' L = some (.lst (ls.map V.str)) ∧ H' D = some (.dK (dkI ks)) ∧ ls.length + i = ns.length ∧ ks.length = i ∧ ls.Nodup ∧ (ks.map (·.1)).Nodup ∧ (∀ q ∈ ks, q.1 ∈ ns ∧ q.1 ∉ ls ∧ 1 ≤ q.2 ∧ q.2 ≤ 60) ∧ ∀ m ∈ ls, m ∈ ns)
      ⟨_, rfl, hp3, k2.trans k3, ns, [], k3 _ _ Lp hL2, k3 _ _ Dp hD1, rfl, rfl, nd, List.nodup_nil, fun q hq => (by cases hq), fun m hm => hm⟩ ?_ ?_⟩
    · rintro i σ' H' hi ⟨x3, rfl, hpi, ki, ls, ks, hLi, hDi, e1, e2, ndl, ndk, inv, sub⟩
      have hi' : i < 8 := by omega
      refine ⟨_, rfl, (by show 8 ≤ sizeLine; decide), fun q fq => ?_⟩
      have s4 := same_new (o := HO.lst some8) fq
      refine ⟨p, pl, q, _, some8, rfl, hpi.keep s4, by omega, SqL.of upd_same, hpi.ne_new fq, by decide, by decide, fun j v H5 hj hp5 k5 => ?_⟩
      obtain ⟨x, rfl, x1, x2⟩ := some8v v (List.mem_of_getElem? hj)
      have hL5 := k5 _ _ Lp (s4 _ _ hLi)
      have hD5 := k5 _ _ Dp (s4 _ _ hDi)
      have k05 : Kp p H H5 := (ki.trans (.of s4)).trans k5
      refine ⟨_, rfl, _, rfl, .inl ⟨rfl, _, SqL.of hL5⟩, _, rfl, _, rfl, L, _, rfl, .inl (SqL.of hL5), p, pl, _, _, rfl, ?_, ?_, hp5, by omega, fun r2 H6 r20 r21 hp6 k6 => ?_⟩
      · rw [List.length_map]; omega
      · rw [List.length_map]; omega
      rw [List.length_map] at r21
      have hL6 := k6 _ _ Lp hL5
      have hD6 := k6 _ _ Dp hD5
      have jlt : r2.toNat < ls.length := by omega
      refine ⟨L, _, r2, r2.toNat, V.str ls[r2.toNat], rfl, rfl, hL6, by omega, by omega, ?_, ?_, ?_⟩
      · rw [List.length_map]
        exact seq_at r20 r21
      · rw [List.getElem?_map, List.getElem?_eq_getElem jlt]; rfl
      have hm := List.getElem_mem jlt
      have hD7 : upd H6 L (.lst ((ls.map V.str).eraseIdx r2.toNat)) D = some (.dK (dkI ks)) := by rw [upd_ne LD.symm]; exact hD6
      have out : ls[r2.toNat] ∉ (ks.map fun q => (q.1, V.int q.2)).map (·.1) := fun z => by
        rw [List.map_map] at z
        obtain ⟨q, hq, e⟩ := List.mem_map.mp z
        have e : q.1 = ls[r2.toNat] := e
        exact (inv q hq).2.1 (by rw [e]; exact hm)
      refine ⟨D, _, rfl, DPut.k (k := Sum.inr ls[r2.toNat]) hD7 ?_, some (.int (0 + i)), rfl, ((hp6.more (by omega)).over Lp Ll).over Dp Dl, fun b o hb e => ?_, ls.eraseIdx r2.toNat, ks ++ [(ls[r2.toNat], x)], ?_, ?_, ?_, ?_, ?_, ?_, ?_, ?_⟩
      · rw [List.length_map, List.length_map, e2]
        exact Nat.lt_of_lt_of_le hi' (by decide)
      · rw [upd_ne (ne_of_none e fD), upd_ne (ne_of_none e fL)]
        exact k6 _ _ hb (k05 _ _ hb e)
      · rw [upd_ne LD, upd_same, erase_map]
      · rw [upd_same, putK_out out]
        simp only [dkI, dkOf, List.map_append, List.map_cons, List.map_nil]
      · rw [List.length_eraseIdx_of_lt jlt]; omega
      · rw [List.length_append, e2]; rfl
      · exact ndl.sublist (List.eraseIdx_sublist _ _)
      · rw [List.map_append, List.nodup_append]
        refine ⟨ndk, by simp, fun a ha b hb e => ?_⟩
        have hb : b = ls[r2.toNat] := List.mem_singleton.mp hb
        subst hb
        rw [e] at ha
        obtain ⟨q, hq, e⟩ := List.mem_map.mp ha
        exact (inv q hq).2.1 (by rw [e]; exact hm)
      · intro q hq
        rcases List.mem_append.mp hq with hq | hq
        · exact ⟨(inv q hq).1, fun z => (inv q hq).2.1 (List.mem_of_mem_eraseIdx z), (inv q hq).2.2⟩
        · rw [List.mem_singleton.mp hq]
          refine ⟨sub _ hm, fun z => ?_, x1, x2⟩
          obtain ⟨j2, hj2, e⟩ := List.mem_eraseIdx_iff_getElem.mp z
          obtain ⟨hj3, e⟩ := e
          exact hj3 (nd_inj ndl e)
      · exact fun m hm => sub m (List.mem_of_mem_eraseIdx hm)
    · rintro σ1 H4 ⟨x3, rfl, hp4, k4, ls, ks, hL4, hD4, e1, e2, ndl, ndk, inv, sub⟩
      have e3 : (1 + r).toNat = ks.length := e2.symm
      refine ⟨_, rfl, k D ks H4 (hp4.more (by omega)) k4 fD hD4 ndk (fun q hq => ⟨(inv q hq).1, (inv q hq).2.2⟩) (by omega) (by omega)⟩
end
end Lw
namespace Lw
open PySem PySem.Spec PyProof.Rows L2
open SX PySem.NumText TL LamX ClX StX
abbrev sLbo : Stmt := top 36
abbrev sLii : Stmt := top 37
/-! ### dicts of speeds as lists of pairs -/
def putI (ks : List (Str × Int)) (n : Str) (v : Int) : List (Str × Int) := if n ∈ ks.map (·.1) then ks.map (fun p => if p.1 = n then (p.1, v) else p) else ks ++ [(n, v)]
theorem putI_key (ks : List (Str × Int)) (n : Str) (v : Int) : putK (dkI ks) (Sum.inr n : L2.Key) (V.int v) = dkI (putI ks n v) := by
  show putK (dkOf (dkP ks)) _ _ = dkOf (dkP (putI ks n v))
  rw [putK_dk1]
  have e : (dkP ks).map (·.1) = ks.map (·.1) := by rw [List.map_map]; rfl
  rw [e]
  unfold putI
  by_cases h : n ∈ ks.map (·.1)
  · rw [if_pos h, if_pos h]
    refine congrArg dkOf ?_
    unfold dkP
    rw [List.map_map, List.map_map]
    refine List.map_congr_left fun p _ => ?_
    show (if p.1 = n then (p.1, V.int v) else (p.1, V.int p.2)) = ((if p.1 = n then (p.1, v) else p).1, V.int (if p.1 = n then (p.1, v) else p).2)
    by_cases e : p.1 = n
    · rw [if_pos e, if_pos e]
    · rw [if_neg e, if_neg e]
  · rw [if_neg h, if_neg h]
    unfold dkP
    rw [List.map_append]; rfl
theorem putI_mem {ks : List (Str × Int)} {n : Str} {v : Int} {q : Str × Int} : q ∈ putI ks n v ↔ q = (n, v) ∨ (q ∈ ks ∧ q.1 ≠ n) := by
  unfold putI
  by_cases h : n ∈ ks.map (·.1)
  · rw [if_pos h, List.mem_map]
    constructor
    · rintro ⟨p, hp, rfl⟩
      by_cases e : p.1 = n
      · rw [if_pos e, e]; exact .inl rfl
      · rw [if_neg e]; exact .inr ⟨hp, e⟩
    · rintro (rfl | ⟨hq, ne⟩)
      · obtain ⟨p, hp, e⟩ := List.mem_map.mp h
        exact ⟨p, hp, by rw [if_pos e, e]⟩
      · exact ⟨q, hq, if_neg ne⟩
  · rw [if_neg h, List.mem_append, List.mem_singleton]
    constructor
    · rintro (hq | rfl)
      · exact .inr ⟨hq, fun e => h (e ▸ List.mem_map_of_mem hq)⟩
      · exact .inl rfl
    · rintro (rfl | ⟨hq, _⟩)
      · exact .inr rfl
      · exact .inl hq
theorem putI_names (ks : List (Str × Int)) (n : Str) (v : Int) : (putI ks n v).map (·.1) = if n ∈ ks.map (·.1) then ks.map (·.1) else ks.map (·.1) ++ [n] := by
  unfold putI
  by_cases h : n ∈ ks.map (·.1)
  · rw [if_pos h, if_pos h, List.map_map]
    refine List.map_congr_left fun p _ => ?_
    show (if p.1 = n then (p.1, v) else p).1 = p.1
    split <;> rfl
  · rw [if_neg h, if_neg h, List.map_append]; rfl
theorem putI_nd {ks : List (Str × Int)} {n : Str} {v : Int} (nd : (ks.map (·.1)).Nodup) : ((putI ks n v).map (·.1)).Nodup := by
  rw [putI_names]
  by_cases h : n ∈ ks.map (·.1)
  · rw [if_pos h]; exact nd
  · rw [if_neg h, List.nodup_append]
    exact ⟨nd, by simp, fun a ha b hb e => h (by rw [List.mem_singleton.mp hb] at e; rw [← e]; exact ha)⟩
theorem putI_len (ks : List (Str × Int)) (n : Str) (v : Int) : ks.length ≤ (putI ks n v).length ∧ (putI ks n v).length ≤ ks.length + 1 := by
  have e := congrArg List.length (putI_names ks n v)
  rw [List.length_map] at e
  rw [e]
  by_cases h : n ∈ ks.map (·.1)
  · rw [if_pos h, List.length_map]; omega
  · rw [if_neg h, List.length_append, List.length_map, List.length_singleton]; omega
def mrgI (ks ls : List (Str × Int)) : List (Str × Int) := ls.foldl (fun acc q => putI acc q.1 q.2) ks
theorem mrgI_nd : ∀ {ls ks : List (Str × Int)}, (ks.map (·.1)).Nodup → ((mrgI ks ls).map (·.1)).Nodup
  | [], _, h => h
  | q :: r, ks, h => mrgI_nd (ls := r) (putI_nd (n := q.1) (v := q.2) h)
theorem mrgI_len : ∀ (ls ks : List (Str × Int)), ks.length ≤ (mrgI ks ls).length ∧ (mrgI ks ls).length ≤ ks.length + ls.length
  | [], _ => ⟨Nat.le_refl _, Nat.le_refl _⟩
  | q :: r, ks => by
    have a := mrgI_len r (putI ks q.1 q.2)
    have b := putI_len ks q.1 q.2
    show _ ≤ (mrgI (putI ks q.1 q.2) r).length ∧ (mrgI (putI ks q.1 q.2) r).length ≤ _
    rw [List.length_cons]
    omega
theorem mrgI_mem : ∀ {ls ks : List (Str × Int)} {q : Str × Int}, (ls.map (·.1)).Nodup → (q ∈ mrgI ks ls ↔ q ∈ ls ∨ (q ∈ ks ∧ q.1 ∉ ls.map (·.1)))
  | [], _, _, _ => by
    constructor
    · exact fun h => .inr ⟨h, fun z => (by cases z)⟩
    · rintro (h | h)
      · cases h
      · exact h.1
  | x :: r, ks, q, nd => by
    obtain ⟨n1, n2⟩ := List.nodup_cons.mp nd
    show q ∈ mrgI (putI ks x.1 x.2) r ↔ _
    rw [mrgI_mem n2, putI_mem]
    constructor
    · rintro (h | ⟨rfl | ⟨h1, h2⟩, h3⟩)
      · exact .inl (List.mem_cons_of_mem _ h)
      · exact .inl List.mem_cons_self
      · exact .inr ⟨h1, fun z => by
          rcases List.mem_cons.mp z with z | z
          · exact h2 z
          · exact h3 z⟩
    · rintro (h | ⟨h1, h2⟩)
      · rcases List.mem_cons.mp h with rfl | h
        · exact .inr ⟨.inl rfl, n1⟩
        · exact .inl h
      · exact .inr ⟨.inr ⟨h1, fun z => h2 (List.mem_cons.mpr (.inl z))⟩, fun z => h2 (List.mem_cons_of_mem _ z)⟩
theorem mrgI_snoc (ks ls : List (Str × Int)) (q : Str × Int) : mrgI ks (ls ++ [q]) = putI (mrgI ks ls) q.1 q.2 := by
  unfold mrgI
  rw [List.foldl_append]; rfl
/-- [name for name in d if ..], d locked -/
theorem sift_names {i j : Nat} {tt : TT} {σ : L2.St} {H : Hp} {Q : VK} {d : Addr} {ks : List (Str × Int)} (c : Str × Int → Bool) (hi : σ[i]? = some (some (V.ref d))) (lj : j < σ.length) (hd : H d = some (.dK (dkI ks))) (lz : ks.length ≤ 5000)
    (ht : ∀ (q : Str × Int) (H2 : Hp) (R : Bool → Hp → Prop), q ∈ ks → (∀ b o, b ≠ d → H b = some o → H2 b = some o) → (∀ b kvs, H b = some (.dK kvs) → L2.Rd H2 b (.dK kvs)) → R (c q) H2 → tt ((wipe σ [j]).set j (some (V.str q.1))) H2 R)
    (q : ∀ D H', Same H H' → H D = none → H' D = some (.lst ((ks.filter c).map fun q => V.str q.1)) → Q (.ref D) H') : tLockE (tLc (iKeys (tVar i)) (gName j) tt (tVar j) [j]) σ H Q := by
  refine ⟨d, _, hd, trivial, fun od => ⟨_, hi, d, od, rfl, .inl ⟨_, upd_same, fun D hD => ?_⟩⟩⟩
  have ne : D ≠ d := fun e => by rw [e, upd_same] at hD; cases hD
  have fD : H D = none := by rw [upd_ne ne] at hD; exact hD
  obtain ⟨HF, hF⟩ : ∃ HF, HF = upd H d (.frz od (.dK (dkI ks))) := ⟨_, rfl⟩
  rw [← hF] at hD ⊢
  have hFd : HF d = some (.frz od (.dK (dkI ks))) := by rw [hF]; exact upd_same
  have hFb : ∀ b o, b ≠ d → H b = some o → HF b = some o := fun b o n e => by rw [hF, upd_ne n]; exact e
  refine lc_it walk_keys (fun n H' => H' = upd HF D (.lst (((ks.take n).filter c).map fun q => V.str q.1))) rfl (fun n H' _ e => by rw [e, upd_ne ne.symm]; exact hFd) ?_ ?_
  · rintro n x H' H2 hn e ⟨rfl, k, v, hk, rfl⟩
    rw [List.getElem?_map, List.getElem?_map] at hk
    obtain ⟨p, hp, e2⟩ := Option.map_eq_some_iff.mp hk
    obtain ⟨r, hr, e4⟩ := Option.map_eq_some_iff.mp hp
    subst e4
    have e3 : k = Sum.inr r.1 := (congrArg Prod.fst e2).symm
    subst e3
    refine ⟨by simp [wipe, List.set_set], ?_⟩
    have gt : ((wipe σ [j]).set j (some (V.str r.1)))[j]? = some (some (V.str r.1)) := by
      rw [List.getElem?_set_self]
      simpa [wipe] using lj
    have snoc : ks.take (n + 1) = ks.take n ++ [r] := by rw [List.take_add_one, hr]; rfl
    refine ht r _ _ (List.mem_of_getElem? hr) (fun b o nb hb => ?_) (fun b kvs hb => ?_) ?_
    · rw [e, upd_ne (ne_of_none hb fD)]; exact hFb b o nb hb
    · by_cases bd : b = d
      · rw [bd] at hb ⊢
        rw [hd] at hb
        cases hb
        exact .inr ⟨od, by rw [e, upd_ne ne.symm]; exact hFd⟩
      · exact .inl (by rw [e, upd_ne (ne_of_none hb fD)]; exact hFb b _ bd hb)
    · cases cr : c r with
      | true =>
        refine iteT ⟨_, gt, _, by rw [e]; exact upd_same, ?_, ?_⟩
        · rw [List.length_map]
          exact Nat.lt_of_le_of_lt (Nat.le_trans (List.length_filter_le _ _) (Nat.le_trans (List.length_take_le' _ _) lz)) (by decide)
        · rw [e, upd_upd, snoc, List.filter_append, List.map_append]
          have : [r].filter c = [r] := by rw [List.filter_cons_of_pos cr]; rfl
          rw [this]; rfl
      | false =>
        refine iteF ?_
        have : [r].filter c = [] := by rw [List.filter_cons_of_neg (by rw [cr]; decide)]; rfl
        rw [e, snoc, List.filter_append, this, List.append_nil]
  · rintro H' e
    have el : (dkI ks).length = ks.length := by rw [List.length_map, List.length_map]
    rw [el, List.take_of_length_le (Nat.le_refl _)] at e
    refine ⟨by rw [e, upd_ne ne.symm]; exact hFd, q D _ (fun b o hb => ?_) fD ?_⟩
    · by_cases bd : b = d
      · rw [bd] at hb ⊢
        rw [upd_same, ← hd]
        exact hb
      · rw [upd_ne bd, e, upd_ne (ne_of_none hb fD)]; exact hFb b o bd hb
    · rw [upd_ne ne, e, upd_same]
theorem dg_rd {H : Hp} {e : Addr} {ls : List (Str × Int)} (r : L2.Rd H e (.dK (dkI ls))) (z : Str) : DGet H e (.str z) (valV (dkI ls) (Sum.inr z : L2.Key)) := .inl ⟨_, Sum.inr z, r, rfl, rfl⟩
theorem ret_op {r : R2} {ta tb : TE} {D : Ends} {σ : L2.St} {H : Hp} (h : ta σ H fun x H1 => tb σ H1 fun y H2 => r x y H2 D.rt) : tRet (tOp r ta tb) D σ H := h
def spLbo : Sp := fun vs H Q _ => ∃ (d e : Addr) (ks ls : List (Str × Int)), vs = [.ref d, .ref e] ∧ H d = some (.dK (dkI ks)) ∧ H e = some (.dK (dkI ls)) ∧ (ls.map (·.1)).Nodup ∧ ks.length ≤ 20 ∧ ls.length ≤ 20 ∧ ∀ D H', Same H H' → H D = none → H' D = some (.dK (dkI (mrgI ks ls))) → Q (.ref D) H'
def isIn (ks ls : List (Str × Int)) : Bool := ks.all fun q => decide (q ∈ ls)
def spLii : Sp := fun vs H Q _ => ∃ (d e : Addr) (ks ls : List (Str × Int)), vs = [.ref d, .ref e] ∧ H d = some (.dK (dkI ks)) ∧ H e = some (.dK (dkI ls)) ∧ (ks.map (·.1)).Nodup ∧ (ls.map (·.1)).Nodup ∧ (∀ q ∈ ks, OkS q.1) ∧ ks.length ≤ 20 ∧ ls.length ≤ 20 ∧ ∀ H', Same H H' → Q (.bl (isIn ks ls)) H'
section
variable {P : Program} {w : World} {K : PySem.W.Frag} {mg : Str → Option Value} {base : Heap}
theorem scLbo : FnScope ["_law_speeds_here", "_law_others", "_law_found", "_law_name"] ["_law_speeds_here", "_law_others"] (C8.fnScope sLbo) := C8.fnScope_by (by decide +kernel)
theorem cal_lbo {f : Addr} {fd : FuncData} (F : C8.Def K mg "_law_both" sLbo f fd) (b : Binds K fd ["_law_speeds_here", "_law_others"] []) (T : TxtC mg) : C8.Cal P w K mg base 1 "_law_both" spLbo [] := by
  refine C8.cal0 F b .nil scLbo (fun vs H Q E h => ?_) (fun cdv A outer st H vs Q E hr h => ?_)
  · obtain ⟨d, e, ks, ls, rfl, _⟩ := h
    rfl
  · obtain ⟨d, e, ks, ls, rfl, hd, he, nd, l1, l2, k⟩ := h
    refine ⟨_, (pss_cons (ps_set (i := 2) scLbo.nd rfl (Or.inl rfl) (pe_callTy call_dictD (by rfl) T.n_dict (by decide +kernel) (pa_cons (pv 0) pa_nil)))
  (pss_cons (ps_lock (ps_for PassesOwn.never rfl (pi_keys (pv 1)) (pg_name (i := 3) scLbo.nd rfl (Or.inl rfl)) (pss_one (ps_dput (hu_of hr) (pv 2) (pv 3) (pe_dget (hu_of hr) (pv 1) (pv 3) (fun _ _ => rfl)) (by rfl)))))
  (pss_one (ps_ret (pv 2))))), ?_⟩
    refine ⟨_, rfl, d, _, rfl, .inl hd, fun D fD => ?_⟩
    have sD := same_new (o := HO.dK (dkI ks)) fD
    have hD : upd H D (.dK (dkI ks)) D = some (.dK (dkI ks)) := upd_same
    have he1 := sD _ _ he
    generalize upd H D (.dK (dkI ks)) = H1 at sD hD he1 ⊢
    have De : D ≠ e := fun z => by rw [z, he] at fD; cases fD
    dsimp only [gName, tSeq]
    refine ⟨e, _, he1, trivial, fun od => ⟨_, rfl, e, od, rfl, .inl ⟨_, upd_same, ?_⟩⟩⟩
    have put : ∀ o, upd (upd H1 e (.frz od (.dK (dkI ls)))) D o e = some (.frz od (.dK (dkI ls))) := fun o => by rw [upd_ne De.symm]; exact upd_same
    have dIs : upd H1 e (.frz od (.dK (dkI ls))) = upd (upd H1 e (.frz od (.dK (dkI ls)))) D (.dK (dkI (mrgI ks (ls.take 0)))) := by
      funext b
      by_cases c : b = D
      · rw [c, upd_same, upd_ne De]; exact hD
      · rw [upd_ne c]
    refine for_it walk_keys (fun i σ' H' => ∃ x, σ' = [some (.ref d), some (.ref e), some (.ref D), x] ∧ H' = upd (upd H1 e (.frz od (.dK (dkI ls)))) D (.dK (dkI (mrgI ks (ls.take i))))) ⟨_, rfl, dIs⟩ (fun i σ' H' _ h => ?_) ?_ ?_
    · obtain ⟨x, _, rfl⟩ := h
      exact put _
    · rintro i σ' H' x H'' hi ⟨y, rfl, rfl⟩ ⟨rfl, kk, vv, hk, rfl⟩
      rw [List.getElem?_map, List.getElem?_map] at hk
      obtain ⟨p, hp, e2⟩ := Option.map_eq_some_iff.mp hk
      obtain ⟨r, hr, e4⟩ := Option.map_eq_some_iff.mp hp
      subst e4
      have e3 : kk = Sum.inr r.1 := (congrArg Prod.fst e2).symm
      subst e3
      have dg := dg_rd (e := e) (ls := ls) (.inr ⟨od, put (.dK (dkI (mrgI ks (ls.take i))))⟩) r.1
      rw [dkI_get nd (List.mem_of_getElem? hr)] at dg
      have lt : (dkI (mrgI ks (ls.take i))).length < sizeLine := by
        rw [List.length_map, List.length_map]
        have := (mrgI_len (ls.take i) ks).2
        have := List.length_take_le' i ls
        exact Nat.lt_of_le_of_lt (m := 40) (by omega) (by decide)
      dsimp only [gName]
      refine ⟨_, rfl, _, rfl, e, _, rfl, dg, _, rfl, _, rfl, D, _, rfl, DPut.k (k := Sum.inr r.1) upd_same lt, _, rfl, ?_⟩
      rw [upd_upd, putI_key, List.take_add_one, hr]
      show _ = upd _ D (.dK (dkI (mrgI ks (ls.take i ++ [r]))))
      rw [mrgI_snoc]
    · rintro σ' H' ⟨y, rfl, rfl⟩
      have el : (dkI ls).length = ls.length := by rw [List.length_map, List.length_map]
      rw [el, List.take_of_length_le (Nat.le_refl _)]
      refine ⟨put _, _, rfl, k D _ (fun b o hb => ?_) fD ?_⟩
      · by_cases be : b = e
        · rw [be] at hb ⊢
          rw [upd_same, ← he]; exact hb
        · rw [upd_ne be, upd_ne (ne_of_none hb fD), upd_ne be]
          exact sD _ _ hb
      · rw [upd_ne De, upd_same]
theorem scLii : FnScope ["_law_speeds_here", "_law_others", "_law_name"] ["_law_speeds_here", "_law_others"] (C8.fnScope sLii) := C8.fnScope_by (by decide +kernel)
theorem cal_lii {f : Addr} {fd : FuncData} (F : C8.Def K mg "_law_is_in" sLii f fd) (b : Binds K fd ["_law_speeds_here", "_law_others"] []) (T : TxtC mg) : C8.Cal P w K mg base 1 "_law_is_in" spLii [] := by
  refine C8.cal0 F b .nil scLii (fun vs H Q E h => ?_) (fun cdv A outer st H vs Q E hr h => ?_)
  · obtain ⟨d, e, ks, ls, rfl, _⟩ := h
    rfl
  · obtain ⟨d, e, ks, ls, rfl, hd, he, nd1, nd2, okn, l1, l2, k⟩ := h
    refine ⟨_, (pss_one (ps_ret (pe_cmpR (op_eqD hr.units) (pe_lock (pe_lc (own := [("_law_name", 2)]) (g := gName 2) rfl scLii.nd (pi_keys (pv 0)) (blkOk_by (own := [("_law_name", 2)]) (N := ["_law_speeds_here", "_law_others", "_law_name"]) (sc := (C8.fnScope sLii)) (by decide +kernel)) (fun _ _ _ _ _ => (pg_name (i := 2) scLii.nd rfl (Or.inl rfl))) (fun _ _ _ _ _ => pts_one (PW.pt (pw_or (pt_cmp (pc_dnotin (hu_of hr) (pv 2) (pv 1))) (pw_or1 (pt_cmpR op_ne (pe_dget (hu_of hr) (pv 1) (pv 2) (fun _ _ => rfl)) (pe_dget (hu_of hr) (pv 0) (pv 2) (fun _ _ => rfl)) (nomark _)))))) (fun _ _ _ _ _ => (pv 2)))) (pe_lst pa_nil) (nomark _)))), ?_⟩
    refine ret_op (sift_names (d := d) (ks := ks) (fun q => !decide (q ∈ ls)) rfl (by show 2 < 3; decide) hd (by omega) (fun q H2 R hq h1 rd hR => ?_) fun D H' s fD hD => ?_)
    · have hs := dkI_has ls q.1
      refine ⟨_, rfl, _, rfl, e, _, rfl, dg_rd (rd e _ he) q.1, _, rfl, ?_⟩
      by_cases m : q.1 ∈ ls.map (·.1)
      · obtain ⟨r, hr, er⟩ := List.mem_map.mp m
        have dge := dg_rd (rd e _ he) q.1
        rw [← er, dkI_get (i := r.2) nd2 hr, er] at dge
        have dgd := dg_rd (rd d _ hd) q.1
        rw [dkI_get (i := q.2) nd1 hq] at dgd
        rw [decide_eq_true m] at hs
        refine iteF' (by rw [hs]; rfl) ?_
        refine ⟨_, rfl, _, rfl, e, _, rfl, dge, _, rfl, _, rfl, d, _, rfl, dgd, ?_⟩
        have ec : (!decide (q ∈ ls)) = !decide (r.2 = q.2) := by
          congr 1
          refine decide_eq_decide.mpr ⟨fun h => ?_, fun h => ?_⟩
          · exact snd_eq (n := q.1) nd2 (by rw [← er]; exact hr) h
          · have : q = r := Prod.ext er.symm h.symm
            rw [this]; exact hr
        rw [ec] at hR
        refine ⟨rfl, _, rfl, ?_⟩
        rw [show decide (V.int r.2 = V.int q.2) = decide (r.2 = q.2) from decide_eq_decide.mpr ⟨fun z => V.int.inj z, fun z => by rw [z]⟩]
        exact hR
      · rw [decide_eq_false m] at hs
        refine iteT' (by rw [hs]; rfl) ?_
        have : decide (q ∈ ls) = false := decide_eq_false fun h => m (List.mem_map_of_mem h)
        rw [this] at hR
        exact hR
    · refine ⟨(by show 0 ≤ sizeLine; decide), fun q5 f5 => ?_⟩
      have s4 := same_new (o := HO.lst []) f5
      have okk : ∀ z ∈ ((ks.filter fun q => !decide (q ∈ ls)).map (·.1)), OkS z := fun z hz => by
        obtain ⟨q, hq, rfl⟩ := List.mem_map.mp hz
        exact okn q (List.mem_filter.mp hq).1
      have hD4 := s4 _ _ hD
      rw [show ((ks.filter fun q => !decide (q ∈ ls)).map fun q => V.str q.1) = ((ks.filter fun q => !decide (q ∈ ls)).map (·.1)).map V.str by rw [List.map_map]; rfl] at hD4
      refine ⟨.list (((ks.filter fun q => !decide (q ∈ ls)).map (·.1)).map PyData.str), .list (([] : List Str).map PyData.str), .lst (SqL.of hD4) (dp_strs _), .lst (SqL.of upd_same) .nil, shaped_strsL okk, shaped_strsL (fun z hz => (by cases hz)), ?_⟩
      rw [show PyData.eqv (.list (((ks.filter fun q => !decide (q ∈ ls)).map (·.1)).map PyData.str)) (.list (([] : List Str).map PyData.str)) = isIn ks ls from ?_]
      · exact k _ (s.trans s4)
      · rw [show PyData.eqv (.list (((ks.filter fun q => !decide (q ∈ ls)).map (·.1)).map PyData.str)) (.list (([] : List Str).map PyData.str)) = decide ((ks.filter fun q => !decide (q ∈ ls)).map (·.1) = []) from eqvs_strs _ _]
        unfold isIn
        rw [Bool.eq_iff_iff, decide_eq_true_iff, List.all_eq_true, List.map_eq_nil_iff, List.filter_eq_nil_iff]
        exact ⟨fun h q hq => by have := h q hq; simpa using this, fun h q hq => by have := h q hq; simpa using this⟩
end
end Lw
namespace Lw
open PySem PySem.Spec PyProof.Rows L2
open SX PySem.NumText TL LamX ClX StX
abbrev sCrd : Stmt := inClass (top 26) 3
/-- what a text or any other value tells as a crew -/
def OutK (x : V) (o : Nat ⊕ List (Str × Int)) : Prop := (isS x = false ∧ o = .inl 0) ∨ ∃ cs, x = .str (S cs) ∧ cs.length ≤ 100000 ∧ WsOk (wds cs) ∧ o = rdw (wds cs) [] 0 0
/-- what a reading that may raise answers -/
def RdC2 (CC D : Addr) (T : List (Addr × Str)) (H : Hp) (Q : VK) (E : XK) : Nat ⊕ List (Str × Int) → Prop
  | .inr ps => ∀ c H', ExtN H H' → Tabs T H' → CwG CC H' c ps → Q (.ref c) H'
  | .inl n => ∀ d fs H', ExtN H H' → Tabs T H' → H' d = none → fs.lookup ("line" : Str) = some (.int 0) → fs.lookup ("word" : Str) = some (.int n) → E (.ref D) (some d) (upd H' d (.xd fs))
def spCrR (K : PySem.W.Frag) (CC D : Addr) (T : List (Addr × Str)) : Sp := fun vs H Q E => ∃ x o, vs = [.ref CC, x] ∧ Anyv K H x ∧ OutK x o ∧ Tabs T H ∧ RdC2 CC D T H Q E o
/-- Reader, ready to be made -/
structure RdK (P : Program) (w : World) (K : PySem.W.Frag) (mg : Str → Option Value) (base : Heap) (R D f : Addr) (fd : FuncData) (ds : List Value) : Prop where
  M : Mk K R f
  F : FnOk P w K mg base (L2.CX P w) 3 f fd ["self", "text", "row"] (spRI K R D)
  hm : mg "Reader" = some (.ref R)
  b1 : Binds K fd ["self", "text", "row"] ds
  d1 : Vals [.int 0] ds
theorem extn_of {r : Addr} {H H0 H2 : Hp} (s : Same H H0) (hr : H r = none) (k : KpN r H0 H2) : ExtN H H2 := fun b o e n => k b o (ne_of_none e hr) (s _ _ e) n
theorem KpN.up {r : Addr} {H0 H1 H2 : Hp} (k : Kp r H0 H1) (k2 : KpN r H1 H2) : KpN r H0 H2 := fun b o hb e n => k2 b o hb (k _ _ hb e) n
theorem cps_S (w : List Nat) : (S w : Str).cps.toList = w := rfl
/-- the pairs of the words stand in order, few, each good -/
theorem rdw_srt : ∀ (n : Nat) {ws : List (List Nat)} {last : List Nat} {m p : Nat} {ps : List (Str × Int)}, ws.length ≤ n → m ≤ 8 → rdw ws last m p = .inr ps → (∀ q ∈ ps, nameT q.1 = true ∧ 1 ≤ q.2 ∧ q.2 ≤ 60 ∧ last < q.1.cps.toList) ∧ m + ps.length ≤ 8 ∧ ps.Pairwise (fun a b => a.1.cps.toList < b.1.cps.toList) ∧ (ws ≠ [] → ps ≠ [])
  | n, [], _, m, _, ps, _, hm, h => by
    unfold rdw at h
    cases h
    exact ⟨fun q hq => (by cases hq), hm, .nil, fun z => absurd rfl z⟩
  | n, [a], last, m, p, ps, _, hm, h => by
    unfold rdw at h
    split at h <;> cases h
  | n, a :: v :: r, last, m, p, ps, hn, hm, h => by
    unfold rdw at h
    split at h
    · rename_i hh
      obtain ⟨h1, h2, h3⟩ := hh
      dsimp only at h
      cases hv : spV v with
      | none => rw [hv] at h; cases h
      | some k =>
        rw [hv] at h
        dsimp only at h
        cases hr : rdw r a (m + 1) (p + 2) with
        | inl e => rw [hr] at h; cases h
        | inr l =>
          rw [hr] at h
          cases h
          obtain ⟨i1, i2, i3, _⟩ := rdw_srt n (ws := r) (last := a) (by simp only [List.length_cons] at hn; omega) (by omega) hr
          have hk : 1 ≤ k ∧ k ≤ 60 := by
            unfold spV numV at hv
            split at hv
            · split at hv
              · rename_i hh
                cases hv
                exact hh
              · cases hv
            · cases hv
          refine ⟨fun q hq => ?_, by rw [List.length_cons]; omega, List.pairwise_cons.mpr ⟨fun q hq => (i1 q hq).2.2.2, i3⟩, fun _ => List.cons_ne_nil _ _⟩
          rcases List.mem_cons.mp hq with rfl | hq
          · exact ⟨h1, hk.1, hk.2, h2⟩
          · obtain ⟨j1, j2, j3, j4⟩ := i1 q hq
            exact ⟨j1, j2, j3, List.lt_trans h2 j4⟩
    · cases h
theorem rise_self : ∀ {p : Str × Int} {l : List (Str × Int)}, (p :: l).Pairwise (fun a b => a.1.cps.toList < b.1.cps.toList) → risingS p.1 (l.map (·.1)) = true
  | _, [], _ => rfl
  | p, x :: r, h => by
    obtain ⟨h1, h2⟩ := List.pairwise_cons.mp h
    show (!ltCps x.1.cps.toList p.1.cps.toList && risingS x.1 (r.map (·.1))) = true
    rw [PyProof.Rows.ltCps_eq, rise_self h2, Bool.and_true, decide_eq_false (fun z => List.lt_irrefl _ (List.lt_trans z (h1 x List.mem_cons_self)))]
    rfl
theorem srt_self {ps : List (Str × Int)} (h : ps.Pairwise (fun a b => a.1.cps.toList < b.1.cps.toList)) : sortedS (ps.map (·.1)) = true ∧ (ps.map (·.1)).Nodup := by
  refine ⟨?_, List.pairwise_map.mpr (h.imp fun {a b} lt (e : a.1 = b.1) => (by rw [e] at lt; exact absurd lt (List.lt_irrefl _)))⟩
  cases ps with
  | nil => rfl
  | cons a r => exact rise_self h
theorem rdw_ok {ws : List (List Nat)} {ps : List (Str × Int)} (ne : ws ≠ []) (h : rdw ws [] 0 0 = .inr ps) : KsOk ps ∧ Srt ps ps := by
  obtain ⟨h1, h2, h3, h4⟩ := rdw_srt _ (Nat.le_refl _) (Nat.zero_le _) h
  obtain ⟨s1, s2⟩ := srt_self h3
  refine ⟨⟨s2, ?_, by omega, fun q hq => ⟨(h1 q hq).1, (h1 q hq).2.1, (h1 q hq).2.2.1⟩⟩, .refl _, s1⟩
  cases ps with
  | nil => exact absurd rfl (h4 ne)
  | cons a r => rw [List.length_cons]; omega
theorem Srt.cwg {CC : Addr} {H : Hp} {c : Addr} {ks ps : List (Str × Int)} (ok : KsOk ks) (sr : Srt ks ps) (cw : CwAt CC H c ps) : CwG CC H c ps :=
  ⟨cw, by rw [sr.1.length_eq]; exact ok.2.2.1, fun q hq => ok.2.2.2 q (sr.1.subset hq), (sr.1.map _).symm.nodup ok.1⟩
section
variable {P : Program} {w : World} {K : PySem.W.Frag} {mg : Str → Option Value} {base : Heap}
theorem scCrd : FnScope ["cls", "text", "reader", "speeds"] ["cls", "text"] (C8.fnScope sCrd) := C8.fnScope_by (by decide +kernel)
theorem fn_crd {CC DN DS DC DM D R fR g fS pO gO : Addr} {TT : List (Addr × Str)} {fdR fdg fdS fdO : FuncData} {ds : List Value} (F : C8.Fun K "read" "Crew.read" sCrd g fdg) (RK : RdK P w K mg base R D fR fdR ds) (RM : RdMs P w K mg base R D)
    (mS : mg "read_speeds" = some (.ref fS)) (kS : PySem.W.keepIn K (.ref fS) = true) (bS : Binds K fdS ["reader"] []) (FS : FnOk P w K mg base (L2.CX P w) 11 fS fdS ["reader"] (spRsp R D TT))
    (OF : OfC P w K mg base CC DN DS DC DM pO gO fdO) : FnOk P w K mg base (L2.CX P w) 12 g fdg ["cls", "text"] (spCrR K CC D TT) := by
  obtain ⟨oc, od, dV, kV, doc, pm, an, cdv, ct, osl, rfl, lk, hcd⟩ := F.ex
  refine fn_of lk hcd scCrd (fun vs H Q E h => ?_) fun A outer s H vs Q E hr h => ?_
  · obtain ⟨x, o, rfl, _⟩ := h
    rfl
  · obtain ⟨x, o, rfl, av, ho, ht, h⟩ := h
    refine ⟨_, (pss_cons (ps_set (i := 2) scCrd.nd rfl (Or.inl rfl) (pe_make RK.M RK.F (hr.mono (by decide)) (by rfl) RK.hm RK.b1 RK.d1 (passes_call (takes_of rfl rfl rfl rfl) (fun _ _ _ _ z => z)) (pa_cons (pv 1) pa_nil)))
      (pss_cons (ps_set (i := 3) scCrd.nd rfl (Or.inl rfl) (pe_call FS (hr.mono (by decide)) (by rfl) mS kS bS .nil (passes_call (takes_of rfl rfl rfl rfl) (fun _ _ _ _ z => z)) (pa_cons (pv 2) pa_nil)))
      (pss_cons (ps_expr (pe_mx0 (pv 2) RM.rc.cl RM.F hr (by decide) (passes_call (takes_of rfl rfl rfl rfl) (fun _ _ _ _ z => z))))
      (pss_one (ps_ret (pe_static (pv 0) OF.S OF.F (hr.mono (by decide)) OF.b .nil (passes_call (takes_of rfl rfl rfl rfl) (fun _ _ _ _ z => z)) (pa_cons (pv 3) pa_nil))))))), ?_⟩
    refine ⟨_, rfl, fun r dx hr0 hdx ne => ?_⟩
    have s0 : Same H (upd (upd H dx (.own r)) r (.ins R dx [])) := (same_new hdx).trans (same_new (by rw [upd_ne ne.symm]; exact hr0))
    have hr1 : upd (upd H dx (.own r)) r (.ins R dx []) r = some (.ins R dx []) := upd_same
    generalize upd (upd H dx (.own r)) r (.ins R dx []) = H0 at s0 hr1 ⊢
    refine ⟨r, dx, x, rfl, Lw.Anyv.same s0 av, hr1, fun hx d fs H' s' hd f1 f2 => ?_, fun z hz => ?_⟩
    · rcases ho with ⟨_, rfl⟩ | ⟨cs, rfl, _⟩
      · exact h d fs H' (ExtN.of (s0.trans s')) (ht.ext (s0.trans s')) hd f1 f2
      · cases hx
    · rcases ho with ⟨hx, _⟩ | ⟨cs, rfl, hl, wo, rfl⟩
      · subst hz; cases hx
      · cases hz
        refine ⟨cs, rfl, hl, fun l fl => ⟨rfl, ?_⟩⟩
        have nl : l ≠ r := fun e => by rw [e, hr1] at fl; cases fl
        have kp1 : Kp r H0 (upd (upd H0 l (.lst (wV (wds cs)))) r (.ins R dx (rdF l 0))) := fun b o hb e => by
          rw [upd_ne hb, upd_ne (ne_of_none e fl)]; exact e
        have at1 : RdAt R (upd (upd H0 l (.lst (wV (wds cs)))) r (.ins R dx (rdF l 0))) r l (wds cs) 0 := ⟨⟨dx, upd_same⟩, by rw [upd_ne nl]; exact upd_same⟩
        generalize upd (upd H0 l (.lst (wV (wds cs)))) r (.ins R dx (rdF l 0)) = H1 at kp1 at1 ⊢
        have ht1 : Tabs TT H1 := Lw.Tabs.kpI (ht.ext s0) hr1 kp1
        generalize wds cs = ws at *
        have no : ∀ {n : Nat} {m : Str}, m ≠ "_words" → m ≠ "_row" → m ≠ "_at" → (rdF l n).lookup m = none := fun h1 h2 h3 => rdF_no l _ h1 h2 h3
        have up : ∀ {H2 H3 : Hp}, KpN r H1 H2 → Same H2 H3 → ExtN H H3 := fun k s => (extn_of s0 hr0 (KpN.up kp1 k)).trans (ExtN.of s)
        refine ⟨_, rfl, r, l, ws, rfl, at1, wo, ht1, fun ps e q H2 k2 t2 hq a2 => ?_, fun n e => ⟨fun d fs H2 k2 t2 hd f1 f2 => ?_, fun hlt q H2 k2 t2 a2 => ?_⟩⟩
        · rw [e] at h
          obtain ⟨⟨dx2, hr2⟩, hl2⟩ := id a2
          obtain ⟨ok, sr⟩ := rdw_ok wo.1 e
          refine ⟨_, rfl, r, dx2, _, rfl, hr2, no (by decide +kernel) (by decide +kernel) (by decide +kernel), r, l, ws, ws.length, rfl, a2, fun hlt => absurd hlt (Nat.lt_irrefl _), fun _ => ?_⟩
          refine ⟨_, rfl, rfl, _, rfl, ?_⟩
          refine cof_ok ok hq fun c H3 qs s3 f3 cw nw sr3 => ?_
          obtain rfl : qs = ps := srt_uniq ok.1 sr3 sr
          exact h c H3 (up k2 s3) (t2.ext s3) (sr3.cwg ok cw)
        · rw [e] at h
          exact h d fs H2 (up k2 (Same.refl _)) t2 hd f1 f2
        · rw [e] at h
          obtain ⟨⟨dx2, hr2⟩, hl2⟩ := id a2
          exact ⟨_, rfl, r, dx2, _, rfl, hr2, no (by decide +kernel) (by decide +kernel) (by decide +kernel), r, l, ws, n, rfl, a2, fun _ d fs H3 s3 hd f1 f2 => h d fs H3 (up k2 s3) (t2.ext s3) hd f1 f2, fun hge => absurd hlt (by omega)⟩
end
end Lw
namespace Lw
open PySem PySem.Spec PyProof.Rows L2
open SX PySem.NumText TL LamX ClX StX
abbrev sLsd : Stmt := top 38
/-- what stays: objects, and crews -/
structure Sw (CC : Addr) (TS : List (Addr × Str)) (p pl : Addr) (n : Nat) (L : List (Addr × HO)) (CL : List (Addr × List (Str × Int))) (H : Hp) : Prop where
  sv : Sv TS p pl n L H
  cw : ∀ e ∈ CL, CwG CC H e.1 e.2
section
variable {CC : Addr} {TS : List (Addr × Str)} {p pl : Addr} {n m : Nat} {L : List (Addr × HO)} {CL : List (Addr × List (Str × Int))} {H H' : Hp} {c : Addr} {ps : List (Str × Int)}
theorem CwG.extn (h : CwG CC H c ps) (x : ExtN H H') : CwG CC H' c ps := ⟨h.at_.extn x, h.l8, h.ok, h.nd⟩
theorem CwG.same (h : CwG CC H c ps) (s : Same H H') : CwG CC H' c ps := h.extn (ExtN.of s)
theorem CwG.okn (h : CwG CC H c ps) : ∀ q ∈ ps, nameT q.1 = true := fun q hq => (h.ok q hq).1
theorem Sw.ext (g : Sw CC TS p pl n L CL H) (x : ExtN H H') (t : Tabs TS H') : Sw CC TS p pl n L CL H' := ⟨g.sv.ext x t, fun e he => (g.cw e he).extn x⟩
theorem Sw.same (g : Sw CC TS p pl n L CL H) (s : Same H H') : Sw CC TS p pl n L CL H' := ⟨g.sv.same s, fun e he => (g.cw e he).same s⟩
theorem Sw.draw (g : Sw CC TS p pl n L CL H) (h : Pen H' p pl m) (k : Kp p H H') : Sw CC TS p pl m L CL H' := ⟨g.sv.draw h k, fun e he => ⟨(g.cw e he).at_.kp g.sv.hp k, (g.cw e he).l8, (g.cw e he).ok, (g.cw e he).nd⟩⟩
theorem Sw.addc (g : Sw CC TS p pl n L CL H) (h : CwG CC H c ps) : Sw CC TS p pl n L ((c, ps) :: CL) H := ⟨g.sv, fun e he => by
  rcases List.mem_cons.mp he with rfl | he
  · exact h
  · exact g.cw e he⟩
theorem Sw.fresh {a : Addr} {o : HO} (g : Sw CC TS p pl n L CL H) (h : H a = none) (nt : ∀ ps, o ≠ .tbl ps) : Sw CC TS p pl n ((a, o) :: L) CL (upd H a o) := ⟨g.sv.fresh h nt, fun e he => (g.cw e he).same (same_new h)⟩
theorem Sw.at0 {a : Addr} {o : HO} (g : Sw CC TS p pl n ((a, o) :: L) CL H) : H a = some o := g.sv.kL _ List.mem_cons_self
theorem Sw.cut {a : Addr} {o : HO} (g : Sw CC TS p pl n ((a, o) :: L) CL H) : Sw CC TS p pl n L CL H := ⟨⟨g.sv.hp, g.sv.ht, fun e he => g.sv.kL e (List.mem_cons_of_mem _ he), fun e he => g.sv.nt e (List.mem_cons_of_mem _ he)⟩, g.cw⟩
theorem Sw.get (g : Sw CC TS p pl n L CL H) {a : Addr} {o : HO} (h : (a, o) ∈ L) : H a = some o := g.sv.kL _ h
theorem Sw.crew (g : Sw CC TS p pl n L CL H) (h : (c, ps) ∈ CL) : CwG CC H c ps := g.cw _ h
theorem Sw.ht (g : Sw CC TS p pl n L CL H) : Tabs TS H := g.sv.ht
theorem Sw.hp (g : Sw CC TS p pl n L CL H) : Pen H p pl n := g.sv.hp
end
/-! ### two answers, compared -/
def CwE (CC : Addr) (a b : Addr) (H : Hp) : Prop := ∃ ps, CwG CC H a ps ∧ CwG CC H b ps
theorem mon_cw (CC : Addr) : Mon (DIns CC (CwE CC)) := mon_ins fun _ _ _ _ e h => by
  obtain ⟨ps, h1, h2⟩ := h
  exact ⟨ps, h1.same e, h2.same e⟩
theorem ins_cw {CC : Addr} {a b : Addr} {ps : List (Str × Int)} {H : Hp} (h1 : CwG CC H a ps) (h2 : CwG CC H b ps) : DIns CC (CwE CC) (.ref a) (.ref b) H := by
  obtain ⟨dx, _, _, _, _, _, _, _, _, e1, _⟩ := id h1.at_
  obtain ⟨dy, _, _, _, _, _, _, _, _, e2, _⟩ := id h2.at_
  exact ⟨a, b, dx, dy, _, _, rfl, rfl, e1, e2, ps, h1, h2⟩
section
variable {X : Cx} {CC : Addr} {E : XK} {j : Nat}
theorem eqG_cw (M : MetX X.prog X.w X.K X.mg X.base 2 CC "__eq__" (spCeq X.K CC)) (hx : Passes (L2.CX X.prog X.w) X E) : EqG X 2 (DIns CC (CwE CC)) := by
  obtain ⟨f, fd, ps, hm, F, hb⟩ := M
  refine eqG_ins (E := E) (F.imp fun vs H Q E' h => ?_) hm.at_ hm.fn hb hx
  obtain ⟨a, b, rfl, ⟨ps, h1, h2⟩, k⟩ := h
  refine ⟨a, ps, .ref b, rfl, h1.at_, h1.l8, h1.okn, .inr ⟨b, ps, rfl, h2.at_, h2.l8, h2.okn, ?_⟩⟩
  rw [decide_eq_true rfl]
  exact k H (Same.refl _)
/-- != of two answers that are the same: data, or a crew in a list -/
def rNeH (K : PySem.W.Frag) (CC : Addr) : R2 := fun x y H Q => rNeD K x y H Q ∨ rNeL (DIns CC (CwE CC)) x y H Q
theorem op_neH (K' : PySem.W.Frag) (hK : X.K = K') (hu : X.A.units + 64 < cLine) (M : MetX X.prog X.w X.K X.mg X.base 2 CC "__eq__" (spCeq X.K CC)) (hx : Passes (L2.CX X.prog X.w) X E) (hr : Room j X.A) (hj : 3 ≤ j) : OpR X (compareOp .NotEq) (rNeH K' CC) := by
  subst hK
  intro pins s σ H x y v u Q I rx ry h
  rcases h with h | h
  · exact op_neD hu pins s σ H x y v u Q I rx ry h
  · exact op_neL (mon_cw CC) (eqG_cw M hx) (hr.mono hj) pins s σ H x y v u Q I rx ry h
/-- lists of answers -/
def DAns (K : PySem.W.Frag) (CC : Addr) : Eqv := fun x y H => DList (DIns CC (CwE CC)) x y H ∨ DTup K DFlat x y H
theorem mon_ans (K : PySem.W.Frag) (CC : Addr) : Mon (DAns K CC) := (mon_list (mon_cw CC)).or (mon_tup mon_flat)
theorem op_eqAns (K' : PySem.W.Frag) (hK : X.K = K') (M : MetX X.prog X.w X.K X.mg X.base 2 CC "__eq__" (spCeq X.K CC)) (hx : Passes (L2.CX X.prog X.w) X E) (hr : Room j X.A) (hj : 4 ≤ j) : OpR X (compareOp .Eq) (L2.rEqG (DList (DAns K' CC))) := by
  subst hK
  exact L2.op_eqG (rcG_list (mon_ans X.K CC) ((eqG_list (mon_cw CC) (eqG_cw M hx)).or ((eqG_tup mon_flat eqG_flat).mono (by decide)))) (hr.mono hj)
end
theorem ifs_no {tt : TT} {a : TS} {D : Ends} {σ : L2.St} {H : Hp} (Pj : Hp → Prop) (rest : ∀ H', Pj H' → D.nx σ H') (test : ∀ QQ : Bool → Hp → Prop, (∀ H', Pj H' → QQ false H') → tt σ H QQ) : tIfS tt a tNext D σ H :=
  test _ fun H' h => iteF (rest H' h)
theorem neH_dat {K : PySem.W.Frag} {CC a b : Addr} {xs : List V} {ds : List PyData} {H : Hp} {Q : VK} (h1 : H a = some (.tup xs)) (h2 : H b = some (.tup xs)) (dp : DpAll K H xs ds) (sh : SeqAt.shaped (.tuple ds) = true) (eq : PyData.eqv (.tuple ds) (.tuple ds) = true) (q : Q (.bl false) H) : rNeH K CC (.ref a) (.ref b) H Q :=
  .inl ⟨.tuple ds, .tuple ds, .tup (SqT.of h1) dp, .tup (SqT.of h2) dp, sh, sh, by rw [eq]; exact q⟩
theorem neH_st {K : PySem.W.Frag} {CC a b : Addr} {x y : Str} {H : Hp} {Q : VK} (h1 : H a = some (.tup [.str x, .str y])) (h2 : H b = some (.tup [.str x, .str y])) (hx : PyData.canLay0 (.str x) = true) (hy : PyData.canLay0 (.str y) = true) (q : Q (.bl false) H) : rNeH K CC (.ref a) (.ref b) H Q :=
  neH_dat h1 h2 (.cons (.str _) (.cons (.str _) .nil)) (shaped_pSt hx hy) (eqv_pSt x y) q
theorem neH_cw {K : PySem.W.Frag} {CC a b c1 c2 : Addr} {ps : List (Str × Int)} {H : Hp} {Q : VK} (h1 : H a = some (.lst [.ref c1])) (h2 : H b = some (.lst [.ref c2])) (g1 : CwG CC H c1 ps) (g2 : CwG CC H c2 ps) (q : ∀ H', Same H H' → Q (.bl false) H') : rNeH K CC (.ref a) (.ref b) H Q :=
  .inr ⟨⟨a, b, _, _, rfl, rfl, h1, h2, Prs.cons (ins_cw g1 g2) Prs.nil⟩, q⟩
theorem CwG.ins {CC c : Addr} {ps : List (Str × Int)} {H : Hp} (g : CwG CC H c ps) : ∃ dx fs, H c = some (.ins CC dx fs) := by
  obtain ⟨dx, _, _, _, _, _, _, _, _, e1, _⟩ := g.at_
  exact ⟨dx, _, e1⟩
theorem Srt.up {ks ls ps : List (Str × Int)} (h : Srt ks ps) (p : ks.Perm ls) : Srt ls ps := ⟨h.1.trans p, h.2⟩
theorem mrgI_app : ∀ {ls ks : List (Str × Int)}, (ls.map (·.1)).Nodup → (∀ q ∈ ls, q.1 ∉ ks.map (·.1)) → mrgI ks ls = ks ++ ls
  | [], ks, _, _ => (List.append_nil _).symm
  | q :: r, ks, nd, h => by
    obtain ⟨n1, n2⟩ := List.nodup_cons.mp nd
    have e : putI ks q.1 q.2 = ks ++ [q] := by unfold putI; rw [if_neg (h q List.mem_cons_self)]
    show mrgI (putI ks q.1 q.2) r = _
    rw [e, mrgI_app n2 fun p hp m => ?_, List.append_assoc]
    · rfl
    · rw [List.map_append] at m
      rcases List.mem_append.mp m with m | m
      · exact h p (List.mem_cons_of_mem _ hp) m
      · have e : p.1 = q.1 := List.mem_singleton.mp m
        exact n1 (List.mem_map.mpr ⟨p, hp, e⟩)
/-! ### the crew's own operators -/
structure OpC (P : Program) (w : World) (K : PySem.W.Frag) (mg : Str → Option Value) (base : Heap) (CC DN DS DC DM DW : Addr) : Prop extends OpK K CC where
  MA : MetX P w K mg base 9 CC "__add__" (spCad K CC DN DS DC DM)
  MU : MetX P w K mg base 9 CC "__sub__" (spCsu K CC DN DS DC DM DW)
  MM : MetX P w K mg base 9 CC "__mul__" (spCmu K CC DN DS DC DM)
  MR : MetX P w K mg base 10 CC "__rmul__" (spCrm K CC DN DS DC DM)
  LE : MetX P w K mg base 3 CC "__le__" (spCle K CC DC)
  LT : MetX P w K mg base 4 CC "__lt__" (spClt K CC DC)
  ins : C8.InsC K CC
  mul : ∃ g : Addr, PySem.W.findIn K (.ref CC) "__mul__" = some (some (.ref g))
  radd : PySem.W.findIn K (.ref CC) "__radd__" = some none
  rsub : PySem.W.findIn K (.ref CC) "__rsub__" = some none
  s1 : PySem.W.subIn K (.ref CC) (.type "int") = some false
  s2 : PySem.W.subIn K (.ref CC) (.type "bool") = some false
  na : NoInplace K CC .Add
  nu : NoInplace K CC .Sub
  nm : NoInplace K CC .Mult
/-- a method of two parameters, ready to be called by place and by names in the other order -/
structure WsK (P : Program) (w : World) (K : PySem.W.Frag) (mg : Str → Option Value) (base : Heap) (CC DN DS DC DM : Addr) : Prop where
  ex : ∃ (g : Addr) (fd : FuncData) (gU : List Value → List Value → List Value), Meth K CC "with_speed" g ∧ FnOk P w K mg base (L2.CX P w) 9 g fd ["self", "name", "speed"] (spCws K CC DN DS DC DM) ∧ Binds K fd ["self", "name", "speed"] [] ∧ KBn K fd ["self", "name", "speed"] 1 ["speed", "name"] gU (fun us zs => us ++ zs.reverse)
section
variable {X : Cx} {CX : CXT} {C f : Addr} {k : Nat} {fd : FuncData} {ps ks : List Str} {sp : Sp} {E : XK} {o : Expr} {kws : List Keyword} {m : Str} {pos apos : Pos} {ta : TE} {tkw : TA} {gU : List Value → List Value → List Value} {gV : List V → List V → List V} {pl : Sem Bool}
/-- o.m(k=e, ..) of an own class -/
theorem pe_methK (he : PE X o ta) (c : Cls X.K C) (hm : Meth X.K C m f) (F : FnOk X.prog X.w X.K X.mg X.base CX k f fd ps sp) (hr : Room k X.A) (hb : KBn X.K fd ps 1 ks gU gV) (hx : Passes CX X E) (hkw : PK X kws tkw)
    (hall : (backToKw pos (keywordEach kws X.env)).all (·.1.isSome) = true := by rfl) (hks : (backToKw pos (keywordEach kws X.env)).filterMap (·.1) = ks := by rfl)
    (hpl : ((backTo pos (starEach [] X.env)).any (·.1) || (backToKw pos (keywordEach kws X.env)).any (·.1.isNone)) = false := by rfl)
    (ht : eval (.Call (.Attribute o m apos) [] kws pos) X.env = (do
      let ov ← eval o X.env
      standAt apos.atName
      let (f, first) ← holding [ov] (getMethod ov m pl)
      callWith pos f first (backTo pos (starEach [] X.env)) (backToKw pos (keywordEach kws X.env))) := by rfl) :
    PE X (.Call (.Attribute o m apos) [] kws pos) (fun σ H Q => ta σ H fun x H1 => ∃ a dx fs, x = .ref a ∧ H1 a = some (.ins C dx fs) ∧ fs.lookup m = none ∧ tkw σ H1 fun zs H2 => zs.length = ks.length ∧ sp (gV [.ref a] zs) H2 Q E) := by
  refine ⟨fun pins s σ H Q I h => ?_⟩
  refine PySem.W.methodCall_KW (pl := pl) (thn (he.run pins s σ H _ I h) fun u s1 ⟨x, H1, I1, rx, a, dx, fs, ex, ea, l, q⟩ => ?_) ht
  subst ex
  obtain rfl : u = Value.ref a := rx
  refine getmeth_ok I1 ea c hm l ?_
  refine PySem.W.callWith_KW0 (first := [.ref a]) (h₀ := X.base) I.ok.mod.kin hm.kp hall ?_ hpl
  refine thn (hkw.run pos pins _ σ H1 _ I1 q) fun ws s2 ⟨zs, H2, I3, rz, l2, q2⟩ => ⟨I3.kIn, ?_⟩
  rw [hks]
  exact run_fnN (us := [.ref a]) (vs := [.ref a]) F hr hb hx I3 (.cons rfl .nil) rz rfl l2 q2
end
/-! ### the sum that is due -/
def twice (ks ls : List (Str × Int)) : Bool := ks.any fun q => decide (q.1 ∈ ls.map (·.1))
theorem twice_no {ks ls : List (Str × Int)} (h : twice ks ls = false) : ∀ q ∈ ls, q.1 ∉ ks.map (·.1) := fun q hq m => by
  obtain ⟨r, hr, e⟩ := List.mem_map.mp m
  have : twice ks ls = true := List.any_eq_true.mpr ⟨r, hr, decide_eq_true (List.mem_map.mpr ⟨q, hq, e.symm⟩)⟩
  rw [h] at this
  cases this
theorem twice_srt {ks ls ps qs : List (Str × Int)} (h1 : Srt ks ps) (h2 : Srt ls qs) : (∃ q ∈ ps, q.1 ∈ qs.map (·.1)) ↔ twice ks ls = true := by
  unfold twice
  rw [List.any_eq_true]
  constructor
  · rintro ⟨q, hq, m⟩
    exact ⟨q, h1.1.subset hq, decide_eq_true ((h2.1.map _).subset m)⟩
  · rintro ⟨q, hq, m⟩
    exact ⟨q, h1.1.symm.subset hq, (h2.1.map _).symm.subset (of_decide_eq_true m)⟩
def spLsd (CC : Addr) : Sp := fun vs H Q _ => ∃ (d e : Addr) (ks ls : List (Str × Int)), vs = [.ref d, .ref e] ∧ H d = some (.dK (dkI ks)) ∧ H e = some (.dK (dkI ls)) ∧ KsOk ks ∧ KsOk ls ∧
  (twice ks ls = true → ∀ t H', Same H H' → H t = none → H' t = some (.tup [V.str (Str.ofString "crew"), V.str (Str.ofString "twice")]) → Q (.ref t) H') ∧
  (twice ks ls = false → 8 < (mrgI ks ls).length → ∀ t H', Same H H' → H t = none → H' t = some (.tup [V.str (Str.ofString "many"), V.str (Str.ofString "workers"), V.int 8]) → Q (.ref t) H') ∧
  (twice ks ls = false → (mrgI ks ls).length ≤ 8 → ∀ l c ps H', Same H H' → H l = none → H' l = some (.lst [V.ref c]) → CwG CC H' c ps → Srt (mrgI ks ls) ps → Q (.ref l) H')
theorem mrgI_ok {ks ls : List (Str × Int)} (h1 : KsOk ks) (h2 : KsOk ls) (l : (mrgI ks ls).length ≤ 8) : KsOk (mrgI ks ls) := by
  have := (mrgI_len ls ks).1
  have := h1.2.1
  refine ⟨mrgI_nd h1.1, by omega, l, fun q hq => ?_⟩
  rcases (mrgI_mem h2.1).mp hq with h | h
  · exact h2.2.2.2 q h
  · exact h1.2.2.2 q h.1
section
variable {P : Program} {w : World} {K : PySem.W.Frag} {mg : Str → Option Value} {base : Heap}
theorem scLsd : FnScope ["_law_speeds_here", "_law_others", "_law_both_here", "_law_name"] ["_law_speeds_here", "_law_others"] (C8.fnScope sLsd) := C8.fnScope_by (by decide +kernel)
theorem cal_lsd {CC DN DS DC DM DW f fI : Addr} {fd : FuncData} (F : C8.Def K mg "_law_sum_due" sLsd f fd) (b : Binds K fd ["_law_speeds_here", "_law_others"] []) (T : TxtC mg) (O : CrK P w K mg base CC DN DS DC DM DW fI) (XO : StC P w K mg base CC DN DS DC DM) (DB : C8.Cal P w K mg base 1 "_law_both" spLbo []) : C8.Cal P w K mg base 10 "_law_sum_due" (spLsd CC) [] := by
  have CM := O.CM
  obtain ⟨pO, gO, fdO, gUO, ⟨SO, FO, bO⟩, KBO⟩ := XO.ex
  refine C8.cal0 F b .nil scLsd (fun vs H Q E h => ?_) (fun cdv A outer st H vs Q E hr h => ?_)
  · obtain ⟨d, e, ks, ls, rfl, _⟩ := h
    rfl
  · obtain ⟨d, e, ks, ls, rfl, hd, he, ok1, ok2, k1, k2, k3⟩ := h
    refine ⟨_, (pss_cons (ps_if (pt_cmpR (op_neD hr.units) (pe_lock (pe_lc (own := [("_law_name", 3)]) (g := gName 3) rfl scLsd.nd (pi_keys (pv 0)) (blkOk_by (own := [("_law_name", 3)]) (N := ["_law_speeds_here", "_law_others", "_law_both_here", "_law_name"]) (sc := (C8.fnScope sLsd)) (by decide +kernel)) (fun _ _ _ _ _ => (pg_name (i := 3) scLsd.nd rfl (Or.inl rfl))) (fun _ _ _ _ _ => pts_one (pt_cmp (pc_din (hu_of hr) (pv 3) (pv 1)))) (fun _ _ _ _ _ => (pv 3)))) (pe_lst pa_nil) (nomark _)) (pss_one (ps_ret (pe_tup (pa_cons pe_str (pa_cons pe_str pa_nil))))) pss_nil)
  (pss_cons (ps_set (i := 2) scLsd.nd rfl (Or.inl rfl) (C8.pe_c DB hr (by decide) (by rfl) (pa_cons (pv 0) (pa_cons (pv 1) pa_nil))))
  (pss_one (ps_ret (pe_ifExp (pt_cmpR op_gt (pe_callB call_lenD (by rfl) T.n_len (by decide +kernel) (pa_cons (pv 2) pa_nil)) pe_int (nomark _)) (pe_tup (pa_cons pe_str (pa_cons pe_str (pa_cons pe_int pa_nil)))) (pe_lst (pa_cons (pe_static (E := C8.E0) (pe_glob (v := .ref CC) (by rfl) CM.Z.hm rfl) SO FO (hr.mono (by decide)) bO .nil (passes_call takes0 (fun _ _ _ _ z => z)) (pa_cons (pv 2) pa_nil)) pa_nil))))))), ?_⟩
    have few : ks.length ≤ 8 ∧ ls.length ≤ 8 := ⟨ok1.2.2.1, ok2.2.2.1⟩
    refine test_op (sift_names (d := d) (ks := ks) (fun q => decide (q.1 ∈ ls.map (·.1))) rfl (by show 3 < 4; decide) hd (by omega) (fun q H2 R hq h1 rd hR => ?_) fun D H1 s1 fD hD => ?_)
    · have hs := dkI_has ls q.1
      refine ⟨_, rfl, _, rfl, e, _, rfl, dg_rd (rd e _ he) q.1, _, rfl, ?_⟩
      rw [hs]
      exact hR
    refine ⟨(by show 0 ≤ sizeLine; decide), fun q5 f5 => ?_⟩
    have s4 := same_new (o := HO.lst []) f5
    have okk : ∀ z ∈ ((ks.filter fun q => decide (q.1 ∈ ls.map (·.1))).map (·.1)), OkS z := fun z hz => by
      obtain ⟨q, hq, rfl⟩ := List.mem_map.mp hz
      exact name_ok (ok1.2.2.2 q (List.mem_filter.mp hq).1).1
    have hD4 := s4 _ _ hD
    rw [show ((ks.filter fun q => decide (q.1 ∈ ls.map (·.1))).map fun q => V.str q.1) = ((ks.filter fun q => decide (q.1 ∈ ls.map (·.1))).map (·.1)).map V.str by rw [List.map_map]; rfl] at hD4
    refine ⟨.list (((ks.filter fun q => decide (q.1 ∈ ls.map (·.1))).map (·.1)).map PyData.str), .list (([] : List Str).map PyData.str), .lst (SqL.of hD4) (dp_strs _), .lst (SqL.of upd_same) .nil, shaped_strsL okk, shaped_strsL (fun z hz => (by cases hz)), _, rfl, ?_⟩
    have ec : PyData.eqv (.list (((ks.filter fun q => decide (q.1 ∈ ls.map (·.1))).map (·.1)).map PyData.str)) (.list (([] : List Str).map PyData.str)) = !twice ks ls := by
      rw [show PyData.eqv (.list (((ks.filter fun q => decide (q.1 ∈ ls.map (·.1))).map (·.1)).map PyData.str)) (.list (([] : List Str).map PyData.str)) = decide ((ks.filter fun q => decide (q.1 ∈ ls.map (·.1))).map (·.1) = []) from eqvs_strs _ _]
      unfold twice
      cases tw : ks.any (fun q => decide (q.1 ∈ ls.map (·.1))) with
      | true =>
        refine decide_eq_false fun h => ?_
        rw [List.map_eq_nil_iff, List.filter_eq_nil_iff] at h
        obtain ⟨q, hq, e⟩ := List.any_eq_true.mp tw
        exact h q hq e
      | false =>
        refine decide_eq_true ?_
        rw [List.map_eq_nil_iff, List.filter_eq_nil_iff]
        intro q hq e
        rw [List.any_eq_true.mpr ⟨q, hq, e⟩] at tw
        cases tw
    rw [ec, Bool.not_not]
    have s5 := s1.trans s4
    clear ec okk hD4 hD
    have f5' : ∀ {a : Addr}, upd H1 q5 (.lst []) a = none → H a = none := fun {a} h => s5.free h
    generalize upd H1 q5 _ = H5 at s5 f5' ⊢
    cases tw : twice ks ls with
    | true =>
      exact iteT ⟨(by show 2 ≤ sizeLine; decide), fun t ft => k1 tw t _ (s5.trans (same_new ft)) (s5.free ft) upd_same⟩
    | false =>
      refine iteF ?_
      dsimp only [gName, tNext, tSeq]
      refine ⟨_, rfl, _, rfl, d, e, ks, ls, rfl, s5 _ _ hd, s5 _ _ he, ok2.1, by omega, by omega, fun D H6 s6 f6 hD => ?_⟩
      have s56 := s5.trans s6
      have el : (dkI (mrgI ks ls)).length = (mrgI ks ls).length := by rw [List.length_map, List.length_map]
      dsimp only [gName, tNext, tSeq]
      refine ⟨_, rfl, D, _, rfl, hD, _, _, rfl, rfl, _, rfl, ?_⟩
      rw [el]
      by_cases c : 8 < (mrgI ks ls).length
      · refine iteT' (decide_eq_true (by omega)) ?_
        exact ⟨(by show 3 ≤ sizeLine; decide), fun t ft => k2 tw c t _ (s56.trans (same_new ft)) (s56.free ft) upd_same⟩
      · refine iteF' (decide_eq_false (by omega)) ?_
        have ok := mrgI_ok ok1 ok2 (by omega)
        refine ⟨rfl, _, rfl, cof_ok ok hD fun c2 H7 ps s7 f7 cw nw sr => ?_⟩
        refine ⟨(by show 1 ≤ sizeLine; decide), fun l fl => ?_⟩
        exact k3 tw (by omega) l c2 ps _ ((s56.trans s7).trans (same_new fl)) ((s56.trans s7).free fl) upd_same ((sr.cwg ok cw).same (same_new fl)) sr
end
end Lw
namespace Lw
open PySem PySem.Spec PyProof.Rows L2
open SX PySem.NumText TL LamX ClX StX
set_option pp.maxSteps 900
abbrev sLtr : Stmt := top 39
section
variable {X : Cx} {C : Addr} {k j : Nat} {sp : Sp} {E : XK} {nm : String} {K' : PySem.W.Frag}
theorem half_lftNK (K' : PySem.W.Frag) (hK : X.K = K') (M : MetX X.prog X.w X.K X.mg X.base k C (PySem.dunder nm) sp) (hx : Passes (L2.CX X.prog X.w) X E) (hc : PySem.W.selfFirst X.K C = true) (hb : PySem.W.findIn X.K (.ref C) (dunderR nm) = some none) (hn : nm ∈ Ow.Nms) (hr : Room j X.A) (hk : k ≤ j) : HalfR X nm (rLeft K' C sp E) := by
  subst hK
  exact half_lftN M hx hc hb hn hr hk
theorem half_lftK (K' : PySem.W.Frag) (hK : X.K = K') (M : MetX X.prog X.w X.K X.mg X.base k C (PySem.dunder nm) sp) (hx : Passes (L2.CX X.prog X.w) X E) (hc : PySem.W.selfFirst X.K C = true) (hb : ∃ g : Addr, PySem.W.findIn X.K (.ref C) (dunderR nm) = some (some (.ref g))) (hn : nm ∈ Ow.Nms) (hr : Room j X.A) (hk : k ≤ j) : HalfR X nm (rLeft K' C sp E) := by
  subst hK
  exact half_lft M hx hc hb hn hr hk
end
section
variable {X : Cx} {C : Addr} {k j : Nat} {sp : Sp} {E : XK} {nm : String}
theorem half_rgtK (K' : PySem.W.Frag) (hK : X.K = K') (M : MetX X.prog X.w X.K X.mg X.base k C (dunderR nm) sp) (hx : Passes (L2.CX X.prog X.w) X E) (hc : PySem.W.selfFirst X.K C = true) (hf : ∃ g : Addr, PySem.W.findIn X.K (.ref C) (PySem.dunder nm) = some (some (.ref g))) (hn : nm ∈ Ow.Nms) (nn : NoNum nm) (hs1 : PySem.W.subIn X.K (.ref C) (.type "int") = some false) (hs2 : PySem.W.subIn X.K (.ref C) (.type "bool") = some false)
    (hr : Room j X.A) (hk : k ≤ j) : HalfR X nm (rRght K' C sp E) := by
  subst hK
  exact half_rgt M hx hc hf hn nn hs1 hs2 hr hk
end
section
variable {X : Cx} {C : Addr} {k j : Nat} {sp : Sp} {E : XK} {op : CmpOp}
theorem op_cmpXK (K' : PySem.W.Frag) (hK : X.K = K') (hop : ∀ a b, compareOp op a b = richCompare op a b) (M : MetX X.prog X.w X.K X.mg X.base k C (cmpInfo op).2.1 sp) (hx : Passes (L2.CX X.prog X.w) X E) (hr : Room j X.A) (hk : k ≤ j) : OpR X (compareOp op) (rCX K' C sp E) := by
  subst hK
  exact op_cmpX hop M hx hr hk
/-- != of two dicts: the same, or not even as long -/
def rNeDX : R2 := fun x y H Q => rNeDA x y H Q ∨ ∃ a b ks ls, x = .ref a ∧ y = .ref b ∧ H a = some (.dK ks) ∧ H b = some (.dK ls) ∧ ks.length ≠ ls.length ∧ Q (.bl true) H
theorem op_neDX (hu : X.A.units < cLine) : OpR X (compareOp .NotEq) rNeDX := by
  intro pins s σ H x y v u Q I rx ry h
  rcases h with h | ⟨a, b, ks, ls, rfl, rfl, ea, eb, ne, q⟩
  · exact op_ne_dictA hu pins s σ H x y v u Q I rx ry h
  obtain rfl : v = Value.ref a := rx
  obtain rfl : u = Value.ref b := ry
  obtain ⟨_, ya, va, ra, da⟩ := (show ObjOk X.prog X.w H s.heap a (.dK ks) from I.hok a _ ea)
  obtain ⟨_, yb, vb, rb, db⟩ := (show ObjOk X.prog X.w H s.heap b (.dK ls) from I.hok b _ eb)
  have hl : va.length ≠ vb.length := by rw [← ra.length, ← rb.length]; exact ne
  refine PySem.W.keq_ne (knd := mixKind X.prog X.w) (r := true) ya yb da db hu (fun z => absurd z hl) ?_
  rw [beq_eq_false_iff_ne.mpr hl]
  exact ⟨.bl true, H, I, rfl, q⟩
end
theorem le_cw {K : PySem.W.Frag} {CC DC a b : Addr} {ps qs : List (Str × Int)} {H : Hp} {Q : VK} {E : XK} (I : C8.InsC K CC) (g1 : CwG CC H a ps) (g2 : CwG CC H b qs) (q : ∀ H', Same H H' → Q (.bl (decide (∀ p ∈ ps, p ∈ qs))) H') : rCX K CC (spCle K CC DC) E (.ref a) (.ref b) H Q := by
  obtain ⟨dx, fs, hc⟩ := g1.ins
  obtain ⟨dy, gs, hd⟩ := g2.ins
  exact ⟨a, dx, fs, .ref CC, rfl, hc, .base (.ins hd I.cl I.ha I.hn I.htk I.hm), by simp [PySem.W.notFirst], a, ps, _, rfl, g1, .inr ⟨b, qs, rfl, g2, q⟩⟩
theorem lt_cw {K : PySem.W.Frag} {CC DC a b : Addr} {ps qs : List (Str × Int)} {H : Hp} {Q : VK} {E : XK} (I : C8.InsC K CC) (g1 : CwG CC H a ps) (g2 : CwG CC H b qs) (q : ∀ H', Same H H' → Q (.bl (decide (∀ p ∈ ps, p ∈ qs) && !decide (ps = qs))) H') : rCX K CC (spClt K CC DC) E (.ref a) (.ref b) H Q := by
  obtain ⟨dx, fs, hc⟩ := g1.ins
  obtain ⟨dy, gs, hd⟩ := g2.ins
  exact ⟨a, dx, fs, .ref CC, rfl, hc, .base (.ins hd I.cl I.ha I.hn I.htk I.hm), by simp [PySem.W.notFirst], a, ps, _, rfl, g1, .inr ⟨b, qs, rfl, g2, q⟩⟩
theorem bl_same {b : Bool} {H : Hp} {Q : VK} (h : Q (.bl false) H) : rNe (.bl b) (.bl b) H Q := ⟨by cases b <;> rfl, by rw [decide_eq_true rfl]; exact h⟩
def drI (ks : List (Str × Int)) (z : Str) : List (Str × Int) := ks.filter fun q => decide (q.1 ≠ z)
theorem drI_key (ks : List (Str × Int)) (z : Str) : dropK (dkI ks) (Sum.inr z : L2.Key) = dkI (drI ks z) := by
  unfold dropK drI
  induction ks with
  | nil => rfl
  | cons q r ih =>
    show List.filter _ ((Sum.inr q.1, V.int q.2) :: dkI r) = _
    by_cases e : q.1 = z
    · rw [List.filter_cons_of_neg (by simp [e]), List.filter_cons_of_neg (by simp [e])]
      exact ih
    · rw [List.filter_cons_of_pos (by simp [e]), List.filter_cons_of_pos (by simp [e])]
      show _ = (Sum.inr q.1, V.int q.2) :: dkI _
      rw [← ih]
theorem drI_sub {ks : List (Str × Int)} {z : Str} {q : Str × Int} (h : q ∈ drI ks z) : q ∈ ks ∧ q.1 ≠ z := by
  obtain ⟨h1, h2⟩ := List.mem_filter.mp h
  exact ⟨h1, of_decide_eq_true h2⟩
theorem drI_ok {ks : List (Str × Int)} {z : Str} (nd : (ks.map (·.1)).Nodup) (ok : CwOk ks) (l : ks.length ≤ 8) (ne : drI ks z ≠ []) : KsOk (drI ks z) := by
  refine ⟨nd.sublist (List.filter_sublist.map _), ?_, Nat.le_trans (List.length_filter_le _ _) l, fun q hq => ok q (drI_sub hq).1⟩
  cases h : drI ks z with
  | nil => exact absurd h ne
  | cons a r => rw [List.length_cons]; omega
theorem drI_perm {ks ls : List (Str × Int)} (z : Str) (p : ks.Perm ls) : (drI ks z).Perm (drI ls z) := p.filter _
theorem bt_str {K : PySem.W.Frag} {H : Hp} (z : Str) : Bt K H (.str z) "str" := .bare (.base (.str z)) (by decide)
/-- one crew less a worker of its own -/
theorem sub_cw {K : PySem.W.Frag} {CC DN DS DC DM DW c : Addr} {ps : List (Str × Int)} {z : Str} {H : Hp} {Q : VK} {E : XK} (g : CwG CC H c ps) (m : z ∈ ps.map (·.1)) (ne : drI ps z ≠ [])
    (k : ∀ c2 H' rs, Same H H' → CwG CC H' c2 rs → Srt (drI ps z) rs → Q (.ref c2) H') : rLeft K CC (spCsu K CC DN DS DC DM DW) E (.ref c) (.str z) H Q := by
  obtain ⟨dx, fs, hc⟩ := g.ins
  have ok := drI_ok g.nd g.ok g.l8 ne
  refine ⟨c, dx, fs, "str", rfl, hc, bt_str z, c, ps, _, rfl, g, .str z, fun b => ?_, fun z' e hz => ?_⟩
  · have : isWk ps (.str z) = true := decide_eq_true m
    rw [this] at b
    cases b
  · cases e
    exact mkc_ok ok fun c2 H' rs s f cw _ sr => k c2 H' rs s (sr.cwg ok cw) sr
theorem ne_emp {D q : Addr} {ks : List (Str × Int)} {H : Hp} {Q : VK} (h1 : H D = some (.dK (dkI ks))) (h2 : H q = some (.dK [])) (k : Q (.bl (!decide (ks = []))) H) : rNeDX (.ref D) (.ref q) H Q := by
  by_cases e : ks = []
  · subst e
    exact .inl ⟨D, q, _, _, rfl, rfl, h1, h2, rfl, fun p hp => (by cases hp), k⟩
  · rw [decide_eq_false e] at k
    refine .inr ⟨D, q, _, _, rfl, rfl, h1, h2, fun z => e ?_, k⟩
    rw [List.length_map, List.length_map] at z
    exact List.eq_nil_of_length_eq_zero z
theorem asg_cut {te : TE} {i : Nat} {D : Ends} {σ : L2.St} {H : Hp} (Pj : V → Hp → Prop) (rest : ∀ x H', Pj x H' → D.nx (σ.set i (some x)) H') (val : ∀ QQ : VK, (∀ x H', Pj x H' → QQ x H') → te σ H QQ) : tAsg te (gName i) D σ H := val _ fun x H' h => rest x H' h
theorem mrgS_put (ps : List (Str × Int)) (z : Str) (v : Int) : mrgS (dkP ps) [(z, V.int v)] = dkP (putI ps z v) := by
  show (if z ∈ (dkP ps).map (·.1) then (dkP ps).map (fun p => if p.1 = z then (p.1, V.int v) else p) else dkP ps ++ [(z, V.int v)]) = _
  have e : (dkP ps).map (·.1) = ps.map (·.1) := by unfold dkP; rw [List.map_map]; rfl
  rw [e]
  unfold putI
  by_cases h : z ∈ ps.map (·.1)
  · rw [if_pos h, if_pos h]
    unfold dkP
    rw [List.map_map, List.map_map]
    refine List.map_congr_left fun p _ => ?_
    show (if p.1 = z then (p.1, V.int v) else (p.1, V.int p.2)) = ((if p.1 = z then (p.1, v) else p).1, V.int (if p.1 = z then (p.1, v) else p).2)
    by_cases e : p.1 = z
    · rw [if_pos e, if_pos e]
    · rw [if_neg e, if_neg e]
  · rw [if_neg h, if_neg h]
    unfold dkP
    rw [List.map_append]; rfl
theorem putI_perm {ks ls : List (Str × Int)} (z : Str) (v : Int) (nk : (ks.map (·.1)).Nodup) (nl : (ls.map (·.1)).Nodup) (p : ks.Perm ls) : (putI ks z v).Perm (putI ls z v) :=
  (List.perm_ext_iff_of_nodup (nd_pairs (putI_nd nk)) (nd_pairs (putI_nd nl))).mpr fun q => by rw [putI_mem, putI_mem, p.mem_iff]
theorem putI_okw {ks : List (Str × Int)} {z : Str} {v : Int} (ok : CwOk ks) (nz : nameT z = true) (v1 : 1 ≤ v) (v2 : v ≤ 60) : CwOk (putI ks z v) := fun q hq => by
  rcases putI_mem.mp hq with rfl | ⟨hq, _⟩
  · exact ⟨nz, v1, v2⟩
  · exact ok q hq
theorem prs_any {j m : Nat} {K : PySem.W.Frag} {σ : L2.St} {H : Hp} {Q : VK} {d : Addr} {te : TE} {ks ps : List (Str × Int)} (ht : ∀ R : VK, (∀ l H1, Same H H1 → H1 l = some (.lst (ps.map fun q => V.str q.1)) → R (.ref l) H1) → te σ H R) (hm : (wipe σ [j])[m]? = some (some (V.ref d))) (jm : j ≠ m) (lj : j < σ.length) (hd : H d = some (.dK (dkI ks)))
    (nd : (ks.map (·.1)).Nodup) (sub : ∀ q ∈ ps, q ∈ ks) (hz : ps.length ≤ 5000) (q : ∀ D H' ts, Same H H' → H D = none → H' D = some (.lst (ts.map V.ref)) → PrT H' ts ps → Q (.ref D) H') :
    tLc (iList K te) (gName j) tYes (tTup (tCons (tVar j) (tCons (tDGet (tVar m) (tVar j)) tNil))) [j] σ H Q := by
  refine ht _ fun l H0 s0 hl => ?_
  have hd := s0 _ _ hd
  refine ⟨l, rfl, ⟨_, SqL.of hl⟩, fun D hD => lc_it walk_list (fun n H' => Same H0 H' ∧ ∃ ts : List Addr, H' D = some (.lst (ts.map V.ref)) ∧ PrT H' ts (ps.take n)) ⟨same_new hD, [], upd_same, .nil⟩ (fun n H' _ h => SqL.of (h.1 _ _ hl)) ?_ ?_⟩
  · rintro n x H' H'' hn ⟨s', ts, hDt, pr⟩ ⟨rfl, hx⟩
    rw [List.getElem?_map] at hx
    obtain ⟨p, hp, rfl⟩ := Option.map_eq_some_iff.mp hx
    have pm := sub p (List.mem_of_getElem? hp)
    refine ⟨by simp [wipe, List.set_set], ?_⟩
    dsimp only [tYes]
    rw [if_pos rfl]
    have g1 : ((wipe σ [j]).set j (some (V.str p.1)))[m]? = some (some (V.ref d)) := by rw [List.getElem?_set_ne jm]; exact hm
    have g2 : ((wipe σ [j]).set j (some (V.str p.1)))[j]? = some (some (V.str p.1)) := by
      rw [List.getElem?_set_self]
      simpa [wipe] using lj
    have dg : DGet H'' d (.str p.1) (some (.int p.2)) := by
      have z := DGet.k (k := Sum.inr p.1) (s' _ _ hd)
      rw [dkI_get nd pm] at z
      exact z
    refine ⟨_, g2, _, g1, _, g2, d, .int p.2, rfl, dg, (by show 2 ≤ sizeLine; decide), fun T hT => ?_⟩
    have sT : Same H'' (upd H'' T (.tup [.str p.1, .int p.2])) := same_new hT
    have TD : T ≠ D := fun e => by rw [e, hDt] at hT; cases hT
    refine ⟨ts.map V.ref, sT _ _ hDt, ?_, fun b o e => ?_, ts ++ [T], ?_, ?_⟩
    · rw [List.length_map, pr.len]
      exact Nat.lt_of_le_of_lt (Nat.le_trans (List.length_take_le' _ _) hz) (by decide)
    · rw [upd_ne (ne_of_none e hD)]
      exact sT _ _ (s' _ _ e)
    · rw [upd_same, List.map_append]; rfl
    · rw [List.take_add_one, hp]
      have k : ∀ b xs, H'' b = some (.tup xs) → upd (upd H'' T (.tup [.str p.1, .int p.2])) D (.lst (ts.map V.ref ++ [.ref T])) b = some (.tup xs) := fun b xs e => by
        rw [upd_ne (fun z => by rw [z, hDt] at e; cases e)]
        exact sT _ _ e
      exact Paired.snoc (pr.mono k) (by rw [upd_ne TD]; exact upd_same)
  · rintro H' ⟨s', ts, hDt, pr⟩
    rw [List.length_map, List.take_of_length_le (Nat.le_refl _)] at pr
    exact q D H' ts (s0.trans s') (s0.free hD) hDt pr
/-- sorted([str(name) for name in d]) -/
theorem sorted_names {i j : Nat} {K : PySem.W.Frag} {σ : L2.St} {H : Hp} {d : Addr} {ks ps : List (Str × Int)} (hi : σ[i]? = some (some (V.ref d))) (lj : j < σ.length) (hd : H d = some (.dK (dkI ks))) (l8 : ks.length ≤ 20) (sr : Srt ks ps) (R : VK)
    (k : ∀ l H1, Same H H1 → H1 l = some (.lst (ps.map fun q => V.str q.1)) → R (.ref l) H1) : tCB (rSortedS K) (tCons (tLockE (tLc (iKeys (tVar i)) (gName j) tYes (tCB (fun xs H Q => ∃ a, xs = [V.str a] ∧ Q (V.str a) H) (tCons (tVar j) tNil)) [j])) tNil) σ H R := by
  refine cb_i (cons_i (names_of (d := d) (ks := ks.map fun q => (q.1, V.int q.2)) hi lj hd (by rw [List.length_map]; omega) fun D1 H1 s1 f1 hD1 => ?_))
  refine ⟨D1, ks.map (·.1), rfl, SqL.of (by rw [List.map_map] at hD1 ⊢; exact hD1), by rw [List.length_map]; omega, fun ys p pm srt hp => ?_⟩
  obtain rfl : ys = ps.map (·.1) := sort_uniq (pm.trans (sr.1.map _).symm) srt sr.2
  refine k p _ (s1.trans (same_new hp)) ?_
  rw [upd_same, List.map_map]; rfl
theorem ret_and {r : R2} {ta tb tu : TE} {D : Ends} {σ : L2.St} {H : Hp} (h : ta σ H fun x H1 => tb σ H1 fun y H2 => r x y H2 fun z H3 => ∃ c, z = .bl c ∧ if c = true then tu σ H3 D.rt else D.rt (.bl false) H3) : tRet (tAndV (tOp r ta tb) tu) D σ H := h
/-! ### what is compared, in pairs -/
theorem isIn_srt {ks ls ps qs : List (Str × Int)} (h1 : Srt ks ps) (h2 : Srt ls qs) : decide (∀ p ∈ ps, p ∈ qs) = isIn ks ls := by
  unfold isIn
  rw [Bool.eq_iff_iff, decide_eq_true_iff, List.all_eq_true]
  exact ⟨fun h q hq => decide_eq_true (h2.1.subset (h q (h1.1.symm.subset hq))), fun h p hp => h2.1.symm.subset (of_decide_eq_true (h p (h1.1.subset hp)))⟩
theorem ne_srt {ks ls ps qs : List (Str × Int)} (h1 : Srt ks ps) (h2 : Srt ls qs) (nd1 : (ks.map (·.1)).Nodup) (nd2 : (ls.map (·.1)).Nodup) (hi : isIn ks ls = true) : decide (ps = qs) = decide (ks.length = ls.length) := by
  have sub : ∀ q ∈ ks, q ∈ ls := fun q hq => of_decide_eq_true (List.all_eq_true.mp hi q hq)
  rw [Bool.eq_iff_iff, decide_eq_true_iff, decide_eq_true_iff]
  constructor
  · intro e
    rw [← h1.1.length_eq, ← h2.1.length_eq, e]
  · intro e
    have pm : ks.Perm ls := (List.perm_ext_iff_of_nodup (nd_pairs nd1) (nd_pairs nd2)).mpr fun q => ⟨sub q, fun hq => by
      by_cases m : q ∈ ks
      · exact m
      · have := nodup_le (List.nodup_cons.mpr ⟨m, nd_pairs nd1⟩) (fun x hx => by
          rcases List.mem_cons.mp hx with rfl | hx
          · exact hq
          · exact sub x hx : ∀ x ∈ q :: ks, x ∈ ls)
        rw [List.length_cons] at this
        omega⟩
    exact srt_uniq nd2 ⟨h1.1.trans pm, h1.2⟩ h2
/-- the other's texts are no answer of the first -/
def spLtr (K : PySem.W.Frag) (CC : Addr) (TS : List (Addr × Str)) : Sp := fun vs H Q _ => ∃ (p pl : Addr) (n : Nat) (d e : Addr) (ks ls : List (Str × Int)) (L : List (Addr × HO)), vs = [.ref p, .ref d, .ref e] ∧ Sv TS p pl n L H ∧ n ≤ 900000 ∧ (d, HO.dK (dkI ks)) ∈ L ∧ (e, HO.dK (dkI ls)) ∈ L ∧ KsOk ks ∧ KsOk ls ∧
  ∀ H', Sv TS p pl (n + 3) L H' → Q (.bl true) H'
section
variable {P : Program} {w : World} {K : PySem.W.Frag} {mg : Str → Option Value} {base : Heap}
theorem scLtr : FnScope ["_law_pen_here", "_law_speeds_here", "_law_others", "_law_name", "_law_left", "_law_due", "_law_heard_here", "_law_one", "_law_other", "_law_spot", "_law_speed", "_law_key"] ["_law_pen_here", "_law_speeds_here", "_law_others"] (C8.fnScope sLtr) := C8.fnScope_by (by decide +kernel)
set_option maxHeartbeats 4000000 in
theorem cal_ltr {f c0 B CC DC DN DS DW DX DM L gH fI : Addr} {TS : List (Addr × Str)} {fd fdH : FuncData} (F : DefC K mg "_law_together_right" sLtr f fd c0) (b : Binds K fd ["_law_pen_here", "_law_speeds_here", "_law_others"] []) (FH : C8.Def K mg "_law_heard" sHea gH fdH) (bH : Binds K fdH ["_law_ask"] []) (TB : TabB base mg c0 B) (TO : TabOf TS B "_law_together_right")
    (R : Hrd K mg DC DN DS DW DX DM L) (T : TxtC mg) (O : CrK P w K mg base CC DN DS DC DM DW fI) (OC : OpC P w K mg base CC DN DS DC DM DW) (XO : StC P w K mg base CC DN DS DC DM) (XW : WsK P w K mg base CC DN DS DC DM)
    (D0 : C8.Cal P w K mg base 1 "_law_draw" spDraw []) (DP : C8.Cal P w K mg base 2 "_law_pick" (spPick K) []) (DB : C8.Cal P w K mg base 1 "_law_both" spLbo []) (DI : C8.Cal P w K mg base 1 "_law_is_in" spLii []) (DS' : C8.Cal P w K mg base 10 "_law_sum_due" (spLsd CC) []) : CalG P w K mg base 19 "_law_together_right" (spLtr K CC TS) [] := by
  have CM := O.CM
  obtain ⟨ocH, odH, dVH, kVH, docH, pmH, anH, cdvH, ctH, oslH, rfl, lkH, cdH⟩ := FH.fn.ex
  obtain ⟨pO, gO, fdO, gUO, ⟨SO, FO, bO⟩, KBO⟩ := XO.ex
  obtain ⟨gW, fdW, gUW, hW, FW, bW, KBW⟩ := XW.ex
  refine calGC F b .nil scLtr (fun vs H Q E h => ?_) (fun A outer st H vs Q E hG hr h => ?_)
  · obtain ⟨p, pl, n, d, e, ks, ls, L, rfl, _⟩ := h
    rfl
  · obtain ⟨p, pl, n, d, e, ks, ls, L, rfl, S0, hn, md, me, ok1, ok2, k⟩ := h
    refine ⟨_, (pss_cons (ps_asg (pe_tup (pa_cons (pe_static (E := C8.E0) (pe_glob (v := .ref CC) (by rfl) CM.Z.hm rfl) SO FO (hr.mono (by decide)) bO .nil (passes_call takes0 (fun _ _ _ _ z => z)) (pa_cons (pv 1) pa_nil)) (pa_cons (pe_static (E := C8.E0) (pe_glob (v := .ref CC) (by rfl) CM.Z.hm rfl) SO FO (hr.mono (by decide)) bO .nil (passes_call takes0 (fun _ _ _ _ z => z)) (pa_cons (pv 2) pa_nil)) pa_nil))) (pg_tup (by rfl) (pgs_cons (pg_name (i := 7) scLtr.nd rfl (Or.inr rfl)) (pgs_cons (pg_name (i := 8) scLtr.nd rfl (Or.inr rfl)) pgs_nil))))
  (pss_cons (ps_if (pt_cmpR (op_neH K rfl (E := C8.E0) hr.units O.ME (passes_call takes0 (fun _ _ _ _ z => z)) hr (by decide)) (pe_lamcall (k := 16) (T := TS) (TT := TTheard K DC DN DS DW DX DM) (by rfl) FH.mgf FH.kp lkH cdH bH scHea rfl (.inl rfl) (heard_gives R T.toTxt hG (hr.mono (by decide))) TB rfl TO.mem TO.own (hr.mono (by decide)) (lamS_by (by rfl)) rfl (fun _ _ _ _ _ => rfl)
      (fun A outer s H E f c2 hr2 => (by exact (pe_op (op_of (op := .Add) (half_own (nm := "add") OC.MA (passes_call (takes_of rfl rfl rfl rfl) (fun _ _ _ _ z => z)) OC.first hr2 (Nat.le_of_ble_eq_true rfl))) (pv 7) (pv 8))))) (C8.pe_c DS' hr (by decide) (by rfl) (pa_cons (pv 1) (pa_cons (pv 2) pa_nil))) (nomark _)) (pss_one (ps_ret pe_bl)) pss_nil)
  (pss_cons (ps_if (PW.pt (pw_or (pt_cmpR op_ne (pe_cmpR (op_cmpXK (op := .LtE) K rfl (E := C8.E0) (fun _ _ => rfl) OC.LE (passes_call takes0 (fun _ _ _ _ z => z)) hr (by decide)) (pv 7) (pv 8) (nomark _)) (C8.pe_c DI hr (by decide) (by rfl) (pa_cons (pv 1) (pa_cons (pv 2) pa_nil))) (nomark _)) (pw_or1 (pt_cmpR op_ne (pe_cmpR (op_cmpXK (op := .Lt) K rfl (E := C8.E0) (fun _ _ => rfl) OC.LT (passes_call takes0 (fun _ _ _ _ z => z)) hr (by decide)) (pv 7) (pv 8) (nomark _)) (pe_and (C8.pe_c DI hr (by decide) (by rfl) (pa_cons (pv 1) (pa_cons (pv 2) pa_nil))) (pe_one (pe_cmpR (op_neDX (Nat.lt_of_le_of_lt (Nat.le_add_right _ _) hr.units)) (pv 1) (pv 2) (nomark _)))) (nomark _))))) (pss_one (ps_ret pe_bl)) pss_nil)
  (pss_cons (ps_set (i := 3) scLtr.nd rfl (Or.inr rfl) (C8.pe_c DP hr (by decide) (by rfl) (pa_cons (pv 0) (pa_cons (pe_callTy (call_listD rfl) (by rfl) T.n_list (by decide +kernel) (pa_cons (pv 1) pa_nil)) pa_nil))))
  (pss_cons (ps_set (i := 4) scLtr.nd rfl (Or.inl rfl) (pe_callTy call_dictD (by rfl) T.n_dict (by decide +kernel) (pa_cons (pv 1) pa_nil)))
  (pss_cons (ps_expr (pe_dpop1 (pv 4) (pv 3) ⟨rfl, rfl, rfl, rfl⟩))
  (pss_cons (ps_if (pt_cmpR (op_neH K rfl (E := C8.E0) hr.units O.ME (passes_call takes0 (fun _ _ _ _ z => z)) hr (by decide)) (pe_lamcall (k := 16) (T := TS) (TT := TTheard K DC DN DS DW DX DM) (by rfl) FH.mgf FH.kp lkH cdH bH scHea rfl (.inl rfl) (heard_gives R T.toTxt hG (hr.mono (by decide))) TB rfl TO.mem TO.own (hr.mono (by decide)) (lamS_by (by rfl)) rfl (fun _ _ _ _ _ => rfl)
      (fun A outer s H E f c2 hr2 => (by exact (pe_op (op_of (op := .Sub) (half_lftNK K rfl (nm := "sub") OC.MU (passes_call (takes_of rfl rfl rfl rfl) (fun _ _ _ _ z => z)) OC.first OC.rsub (by decide) hr2 (Nat.le_of_ble_eq_true rfl))) (pv 7) (pv 3))))) (pe_ifExp (pt_cmpR (op_neDX (Nat.lt_of_le_of_lt (Nat.le_add_right _ _) hr.units)) (pv 4) pe_dnewK (nomark _)) (pe_lst (pa_cons (pe_static (E := C8.E0) (pe_glob (v := .ref CC) (by rfl) CM.Z.hm rfl) SO FO (hr.mono (by decide)) bO .nil (passes_call takes0 (fun _ _ _ _ z => z)) (pa_cons (pv 4) pa_nil)) pa_nil)) (pe_tup (pa_cons pe_str (pa_cons pe_str pa_nil)))) (nomark _)) (pss_one (ps_ret pe_bl)) pss_nil)
  (pss_cons (ps_if (PW.pt (pw_and (pt_cmpR (op_neDX (Nat.lt_of_le_of_lt (Nat.le_add_right _ _) hr.units)) (pv 4) pe_dnewK (nomark _)) (pw_and1 (PW.pt (pw_or (pt_not (pt_cmpR (op_cmpXK (op := .LtE) K rfl (E := C8.E0) (fun _ _ => rfl) OC.LE (passes_call takes0 (fun _ _ _ _ z => z)) hr (by decide)) (pe_op (op_of (op := .Sub) (half_lftNK K rfl (nm := "sub") (E := C8.E0) OC.MU (passes_call takes0 (fun _ _ _ _ z => z)) OC.first OC.rsub (by decide) hr (by decide))) (pv 7) (pv 3)) (pv 7) (nomark _))) (pw_or (pt_not (pt_cmpR (op_cmpXK (op := .Lt) K rfl (E := C8.E0) (fun _ _ => rfl) OC.LT (passes_call takes0 (fun _ _ _ _ z => z)) hr (by decide)) (pe_op (op_of (op := .Sub) (half_lftNK K rfl (nm := "sub") (E := C8.E0) OC.MU (passes_call takes0 (fun _ _ _ _ z => z)) OC.first OC.rsub (by decide) hr (by decide))) (pv 7) (pv 3)) (pv 7) (nomark _))) (pw_or1 (pt_cmpR (op_cmpXK (op := .LtE) K rfl (E := C8.E0) (fun _ _ => rfl) OC.LE (passes_call takes0 (fun _ _ _ _ z => z)) hr (by decide)) (pv 7) (pe_op (op_of (op := .Sub) (half_lftNK K rfl (nm := "sub") (E := C8.E0) OC.MU (passes_call takes0 (fun _ _ _ _ z => z)) OC.first OC.rsub (by decide) hr (by decide))) (pv 7) (pv 3)) (nomark _))))))))) (pss_one (ps_ret pe_bl)) pss_nil)
  (pss_cons (ps_asg (pe_tup (pa_cons (C8.pe_c DP hr (by decide) (by rfl) (pa_cons (pv 0) (pa_cons (pe_lst (pa_cons (pv 3) (pa_cons pe_str (pa_cons pe_str pa_nil)))) pa_nil))) (pa_cons (pe_op op_add pe_int (C8.pe_c D0 hr (by decide) (by rfl) (pa_cons (pv 0) (pa_cons pe_int pa_nil)))) pa_nil))) (pg_tup (by rfl) (pgs_cons (pg_name (i := 9) scLtr.nd rfl (Or.inr rfl)) (pgs_cons (pg_name (i := 10) scLtr.nd rfl (Or.inr rfl)) pgs_nil))))
  (pss_cons (ps_set (i := 5) scLtr.nd rfl (Or.inl rfl) (C8.pe_c DB hr (by decide) (by rfl) (pa_cons (pv 1) (pa_cons (pe_disp (pps_cons (pv 9) (pv 10) pps_nil) (by rfl) (by rfl) (fun z => by cases z) (by decide)) pa_nil))))
  (pss_cons (ps_set (i := 6) scLtr.nd rfl (Or.inl rfl) (pe_lamcall (k := 16) (T := TS) (TT := TTheard K DC DN DS DW DX DM) (by rfl) FH.mgf FH.kp lkH cdH bH scHea rfl (.inl rfl) (heard_gives R T.toTxt hG (hr.mono (by decide))) TB rfl TO.mem TO.own (hr.mono (by decide)) (lamS_by (by rfl)) rfl (fun _ _ _ _ _ => rfl)
      (fun A outer s H E f c2 hr2 => (by exact (pe_methK (pv 7) CM.Z.cl hW FW (hr2.mono (by decide)) KBW (passes_call (takes_of rfl rfl rfl rfl) (fun _ _ _ _ z => z)) (pk_cons (pv 10) (pk_cons (pv 9) pk_nil)))))))
  (pss_cons (ps_if (pt_cmpR (op_neH K rfl (E := C8.E0) hr.units O.ME (passes_call takes0 (fun _ _ _ _ z => z)) hr (by decide)) (pv 6) (pe_ifExp (pt_cmpR op_lt (pe_callB call_lenD (by rfl) T.n_len (by decide +kernel) (pa_cons (pv 5) pa_nil)) pe_int (nomark _)) (pe_lst (pa_cons (pe_static (E := C8.E0) (pe_glob (v := .ref CC) (by rfl) CM.Z.hm rfl) SO FO (hr.mono (by decide)) bO .nil (passes_call takes0 (fun _ _ _ _ z => z)) (pa_cons (pv 5) pa_nil)) pa_nil)) (pe_tup (pa_cons pe_str (pa_cons pe_str (pa_cons pe_int pa_nil))))) (nomark _)) (pss_one (ps_ret pe_bl)) pss_nil)
  (pss_one (ps_ret (pe_and (pe_cmpR (op_eqD hr.units) (pe_callTy (call_listOwn O.MT O.ML rfl hr (by decide)) (by rfl) T.n_list (by decide +kernel) (pa_cons (pv 7) pa_nil)) (pe_lc (own := [("_law_key", 11)]) (g := gName 11) (tt := tYes) rfl scLtr.nd (pi_list (pe_callB cr_sortedS (by rfl) T.n_sorted (by decide +kernel) (pa_cons (pe_lock (pe_lc (own := [("_law_name", 3)]) (g := gName 3) (tt := tYes) rfl scLtr.nd (pi_keys (pv 1)) (blkOk_by (own := [("_law_name", 3)]) (N := ["_law_pen_here", "_law_speeds_here", "_law_others", "_law_name", "_law_left", "_law_due", "_law_heard_here", "_law_one", "_law_other", "_law_spot", "_law_speed", "_law_key"]) (sc := (C8.fnScope sLtr)) (by decide +kernel)) (fun _ _ _ _ _ => (pg_name (i := 3) scLtr.nd rfl (Or.inl rfl))) (fun _ _ _ _ _ => pts_nil) (fun _ _ _ _ _ => (pe_callTy SkE.call_str_str (by rfl) T.n_str (by decide +kernel) (pa_cons (pv 3) pa_nil))))) pa_nil))) (blkOk_by (own := [("_law_key", 11)]) (N := ["_law_pen_here", "_law_speeds_here", "_law_others", "_law_name", "_law_left", "_law_due", "_law_heard_here", "_law_one", "_law_other", "_law_spot", "_law_speed", "_law_key"]) (sc := (C8.fnScope sLtr)) (by decide +kernel)) (fun _ _ _ _ _ => (pg_name (i := 11) scLtr.nd rfl (Or.inl rfl))) (fun _ _ _ _ _ => pts_nil) (fun _ _ _ _ _ => (pe_tup (pa_cons (pv 11) (pa_cons (pe_dget (hu_of hr) (pv 1) (pv 11) (fun _ _ => rfl)) pa_nil))))) (nomark _)) (pe_one (pe_not (pe_cmpR (op_cmpXK (op := .Lt) K rfl (E := C8.E0) (fun _ _ => rfl) OC.LT (passes_call takes0 (fun _ _ _ _ z => z)) hr (by decide)) (pv 7) (pv 7) (nomark _))))))))))))))))))), ?_⟩
    have S0 : Sw CC TS p pl n L [] H := ⟨S0, fun e he => (by cases he)⟩
    refine ⟨rfl, _, rfl, cof_ok ok1 (S0.get md) fun c1 Ha ps sa fa cwa _ sr1 => ⟨rfl, _, rfl, cof_ok ok2 (sa _ _ (S0.get me)) fun c2 Hb qs sb fb cwb _ sr2 => ?_⟩⟩
    have g1 : CwG CC Ha c1 ps := sr1.cwg ok1 cwa
    have g2 : CwG CC Hb c2 qs := sr2.cwg ok2 cwb
    have S1 := (((S0.same sa).addc g1).same sb).addc g2
    clear S0 sa fa cwa sb fb cwb g1 g2
    refine ⟨(by show 2 ≤ sizeLine; decide), fun T1 fT => ⟨T1, _, rfl, SqT.of upd_same, rfl, _, _, rfl, _, _, rfl, rfl, ?_⟩⟩
    have S2 := S1.same (same_new (o := HO.tup [V.ref c1, V.ref c2]) fT)
    clear S1
    revert S2
    generalize upd Hb T1 _ = H1
    intro S2
    clear fT
    dsimp only [gName, tSeq]
    have lps : ps.length = ks.length := sr1.1.length_eq
    have lqs : qs.length = ls.length := sr2.1.length_eq
    have l8 : ks.length ≤ 8 ∧ ls.length ≤ 8 := ⟨ok1.2.2.1, ok2.2.2.1⟩
    refine ifs_no (Sw CC TS p pl n L [(c2, qs), (c1, ps)]) (fun H2 S => ?_) (fun QQ go => ?_)
    rotate_left
    · refine test_op ⟨S2.ht, fun H2 x2 t2 H3 s3 => ?_⟩
      have S3 := (S2.ext x2 t2).same s3
      have g1 := S3.crew (c := c1) (ps := ps) (by simp)
      have g2 := S3.crew (c := c2) (ps := qs) (by simp)
      obtain ⟨dx1, f1, hc1⟩ := g1.ins
      obtain ⟨dx2, f2, hc2⟩ := g2.ins
      clear S2 x2 t2 s3
      refine ⟨_, rfl, _, rfl, c1, dx1, f1, c2, dx2, f2, rfl, rfl, hc1, hc2, c1, ps, .ref c2, rfl, g1, .inr ⟨c2, qs, rfl, g2, fun tw => ?_, fun nt => ?_⟩⟩
      · have tw := (twice_srt sr1 sr2).mp tw
        refine hd_crew fun t H4 s4 n4 h4 => ?_
        refine ⟨_, rfl, _, rfl, d, e, ks, ls, rfl, s4 _ _ (S3.get md), s4 _ _ (S3.get me), ok1, ok2, fun _ t2 H5 s5 n5 h5 => ?_, fun z => (by rw [tw] at z; cases z), fun z => (by rw [tw] at z; cases z)⟩
        exact neH_st (s5 _ _ h4) h5 (by decide +kernel) (by decide +kernel) ⟨_, rfl, go _ ((S3.same s4).same s5)⟩
      · have nt : twice ks ls = false := by
          cases tw : twice ks ls with
          | false => rfl
          | true =>
            obtain ⟨q, hq, m⟩ := (twice_srt sr1 sr2).mpr tw
            exact absurd m (nt q hq)
        have em := mrgI_app ok2.1 (twice_no nt)
        have pm : (ps ++ qs).Perm (mrgI ks ls) := by rw [em]; exact sr1.1.append sr2.1
        by_cases l : (mrgI ks ls).length ≤ 8
        · have okm := mrgI_ok ok1 ok2 l
          have oka : KsOk (ps ++ qs) := ⟨(pm.map _).symm.nodup okm.1, by rw [pm.length_eq]; exact okm.2.1, by rw [pm.length_eq]; exact l, fun q hq => okm.2.2.2 q (pm.subset hq)⟩
          refine mkc_ok oka fun c3 H4 rs s4 f4 cw4 _ sr4 => ?_
          intro t H5 s5 n5 h5
          have s45 := s4.trans s5
          refine ⟨_, rfl, _, rfl, d, e, ks, ls, rfl, s45 _ _ (S3.get md), s45 _ _ (S3.get me), ok1, ok2, fun z => (by rw [nt] at z; cases z), fun _ z => absurd l (by omega), fun _ _ l2 c4 rs2 H6 s6 n6 h6 g6 sr6 => ?_⟩
          obtain rfl : rs = rs2 := srt_uniq okm.1 (sr4.up pm) sr6
          exact neH_cw (s6 _ _ h5) h6 (((sr4.cwg oka cw4).same s5).same s6) g6 fun H7 s7 => ⟨_, rfl, go _ (((S3.same s45).same s6).same s7)⟩
        · have oka : CwOk (ps ++ qs) := fun q hq => by
            rcases List.mem_append.mp hq with hq | hq
            · exact g1.ok q hq
            · exact g2.ok q hq
          refine mkc_many oka (by rw [pm.length_eq]; omega) (hd_many fun t H4 s4 n4 h4 => ?_)
          refine ⟨_, rfl, _, rfl, d, e, ks, ls, rfl, s4 _ _ (S3.get md), s4 _ _ (S3.get me), ok1, ok2, fun z => (by rw [nt] at z; cases z), fun _ _ t2 H5 s5 n5 h5 => ?_, fun _ z => absurd z l⟩
          exact neH_dat (ds := [.str (Str.ofString "many"), .str (Str.ofString "workers"), .int 8]) (s5 _ _ h4) h5 (.cons (.str _) (.cons (.str _) (.cons (.int _) .nil))) (by decide +kernel) (by decide +kernel) ⟨_, rfl, go _ ((S3.same s4).same s5)⟩
    clear S2
    dsimp only [tSeq]
    have okn1 : ∀ q ∈ ks, OkS q.1 := fun q hq => name_ok (ok1.2.2.2 q hq).1
    refine ifs_no (Sw CC TS p pl n L [(c2, qs), (c1, ps)]) (fun H3 S3 => ?_) (fun QQ go => ?_)
    rotate_left
    · have g1 := S.crew (c := c1) (ps := ps) (by simp)
      have g2 := S.crew (c := c2) (ps := qs) (by simp)
      refine test_op ⟨_, rfl, _, rfl, le_cw OC.ins g1 g2 fun H3 s3 => ?_⟩
      have S3 := S.same s3
      refine ⟨_, rfl, _, rfl, d, e, ks, ls, rfl, S3.get md, S3.get me, ok1.1, ok2.1, okn1, by omega, by omega, fun H4 s4 => ?_⟩
      have S4 := S3.same s4
      rw [isIn_srt sr1 sr2]
      refine bl_same ⟨_, rfl, iteF ?_⟩
      clear S S3 s3 s4 g1 g2
      have g1 := S4.crew (c := c1) (ps := ps) (by simp)
      have g2 := S4.crew (c := c2) (ps := qs) (by simp)
      refine test_op ⟨_, rfl, _, rfl, lt_cw OC.ins g1 g2 fun H5 s5 => ?_⟩
      have S5 := S4.same s5
      refine ⟨_, rfl, _, rfl, d, e, ks, ls, rfl, S5.get md, S5.get me, ok1.1, ok2.1, okn1, by omega, by omega, fun H6 s6 => ⟨_, rfl, ?_⟩⟩
      have S6 := S5.same s6
      rw [isIn_srt sr1 sr2]
      cases hi : isIn ks ls with
      | false =>
        rw [if_neg Bool.false_ne_true, Bool.false_and]
        exact bl_same ⟨_, rfl, go _ S6⟩
      | true =>
        rw [if_pos rfl, Bool.true_and, ne_srt sr1 sr2 ok1.1 ok2.1 hi]
        have el1 : (dkI ks).length = ks.length := by rw [List.length_map, List.length_map]
        have el2 : (dkI ls).length = ls.length := by rw [List.length_map, List.length_map]
        refine ⟨_, rfl, _, rfl, ?_⟩
        by_cases el : ks.length = ls.length
        · refine .inl ⟨d, e, _, _, rfl, rfl, S6.get md, S6.get me, by rw [el1, el2]; exact el, fun kv hkv => ?_, ?_⟩
          · obtain ⟨kv2, h2, rfl⟩ := List.mem_map.mp hkv
            obtain ⟨q, hq, rfl⟩ := List.mem_map.mp h2
            exact ⟨dkI_get ok2.1 (of_decide_eq_true (List.all_eq_true.mp hi q hq)), rfl⟩
          · rw [decide_eq_true el]
            exact bl_same ⟨_, rfl, go _ S6⟩
        · refine .inr ⟨d, e, _, _, rfl, rfl, S6.get md, S6.get me, by rw [el1, el2]; exact el, ?_⟩
          rw [decide_eq_false el]
          exact bl_same ⟨_, rfl, go _ S6⟩
    clear S
    dsimp only [gName, tSeq]
    refine ⟨_, rfl, _, rfl, d, _, rfl, .inl (S3.get md), fun q fq => ?_⟩
    have s4 := same_new (o := HO.lst ((dkI ks).map fun kv => kV kv.1)) fq
    have S4 := S3.same s4
    have lk : ((dkI ks).map fun kv => kV kv.1).length = ks.length := by rw [List.length_map, List.length_map, List.length_map]
    refine ⟨p, pl, q, n, _, rfl, S4.hp, by omega, SqL.of upd_same, S3.hp.ne_new fq, by rw [lk]; exact ok1.2.1, by rw [lk]; omega, fun j v H5 hj hp5 k5 => ?_⟩
    have S5 := S4.draw hp5 k5
    obtain ⟨r, hr, rfl⟩ : ∃ r ∈ ks, v = .str r.1 := by
      rw [List.getElem?_map, List.getElem?_map, List.getElem?_map] at hj
      obtain ⟨x1, h1, rfl⟩ := Option.map_eq_some_iff.mp hj
      obtain ⟨x2, h2, rfl⟩ := Option.map_eq_some_iff.mp h1
      obtain ⟨x3, h3, rfl⟩ := Option.map_eq_some_iff.mp h2
      exact ⟨x3, List.mem_of_getElem? h3, rfl⟩
    clear S3 S4 s4 fq hj hp5 k5 lk
    dsimp only [gName, tSeq]
    refine ⟨_, rfl, d, _, rfl, .inl (S5.get md), fun D fD => ?_⟩
    dsimp only [gName, tSeq]
    refine ⟨_, rfl, D, rfl, .inl ⟨_, .inl upd_same⟩, _, rfl, dkI ks, Sum.inr r.1, .int r.2, upd_same, rfl, dkI_get ok1.1 hr, ?_⟩
    rw [upd_upd, drI_key]
    have S6 := S5.fresh (o := HO.dK (dkI (drI ks r.1))) fD (fun ps z => by cases z)
    clear S5 fD
    revert S6
    generalize upd H5 D _ = H6
    intro S6
    dsimp only [tSeq]
    have mz : r.1 ∈ ps.map (·.1) := (sr1.1.map _).symm.subset (List.mem_map_of_mem hr)
    have pmD : (drI ps r.1).Perm (drI ks r.1) := drI_perm _ sr1.1
    have elD : (dkI (drI ks r.1)).length = (drI ks r.1).length := by rw [List.length_map, List.length_map]
    refine ifs_no (Sw CC TS p pl (n + 1) ((D, .dK (dkI (drI ks r.1))) :: L) [(c2, qs), (c1, ps)]) (fun H7 S7 => ?_) (fun QQ go => ?_)
    rotate_left
    · refine test_op ⟨S6.ht, fun H7 x7 t7 H8 s8 => ?_⟩
      have S8 := (S6.ext x7 t7).same s8
      clear S6 x7 t7 s8
      have g1 := S8.crew (c := c1) (ps := ps) (by simp)
      by_cases ne : drI ks r.1 = []
      · have nep : drI ps r.1 = [] := by rw [ne] at pmD; exact List.Perm.eq_nil pmD
        obtain ⟨dx, fs, hc⟩ := g1.ins
        refine ⟨_, rfl, _, rfl, c1, dx, fs, "str", rfl, hc, bt_str _, c1, ps, _, rfl, g1, .str _, fun b => ?_, fun z' e hz => ?_⟩
        · have : isWk ps (.str r.1) = true := decide_eq_true mz
          rw [this] at b
          cases b
        · cases e
          show MkC K CC DN DS DC DM (dkP (drI ps r.1)) _ _ _
          rw [nep]
          refine mkc_empty (hd_crew fun t H9 s9 n9 h9 => ?_)
          have S9 := S8.same s9
          refine ⟨_, rfl, fun q0 f0 => ?_⟩
          have s10 := same_new (o := HO.dK []) f0
          have S10 := S9.same s10
          refine ne_emp (S10.get (List.mem_cons_self)) upd_same ⟨_, rfl, iteF' (by rw [ne]; rfl) ⟨(by show 2 ≤ sizeLine; decide), fun t2 f2 => ?_⟩⟩
          have s11 := same_new (o := HO.tup [V.str (Str.ofString "crew"), V.str (Str.ofString "empty")]) f2
          exact neH_st (s11 _ _ (s10 _ _ h9)) upd_same (by decide +kernel) (by decide +kernel) ⟨_, rfl, go _ (S10.same s11)⟩
      · have nep : drI ps r.1 ≠ [] := fun z => ne (by rw [z] at pmD; exact List.Perm.nil_eq pmD |>.symm)
        refine ⟨_, rfl, _, rfl, sub_cw g1 mz nep fun c3 H9 rs s9 g9 sr9 => ?_⟩
        intro t H10 s10 n10 h10
        have S10 := (S8.same s9).same s10
        refine ⟨_, rfl, fun q0 f0 => ?_⟩
        have s11 := same_new (o := HO.dK []) f0
        have S11 := S10.same s11
        refine ne_emp (S11.get (List.mem_cons_self)) upd_same ⟨_, rfl, iteT' (by rw [decide_eq_false ne]; rfl) ⟨rfl, _, rfl, cof_ok (drI_ok ok1.1 ok1.2.2.2 ok1.2.2.1 ne) (S11.get (List.mem_cons_self)) fun c4 H12 rs2 s12 f12 cw4 _ sr4 => ⟨(by show 1 ≤ sizeLine; decide), fun l2 fl2 => ?_⟩⟩⟩
        have s13 := same_new (o := HO.lst [V.ref c4]) fl2
        obtain rfl : rs = rs2 := srt_uniq (drI_ok ok1.1 ok1.2.2.2 ok1.2.2.1 ne).1 (sr9.up pmD) sr4
        have g4 := sr4.cwg (drI_ok ok1.1 ok1.2.2.2 ok1.2.2.1 ne) cw4
        have s1013 := (s11.trans s12).trans s13
        exact neH_cw (s1013 _ _ h10) upd_same ((g9.same s10).same s1013) (g4.same s13) fun H14 s14 => ⟨_, rfl, go _ ((S10.same s1013).same s14)⟩
    clear S6
    dsimp only [tSeq]
    refine ifs_no (Sw CC TS p pl (n + 1) ((D, .dK (dkI (drI ks r.1))) :: L) [(c2, qs), (c1, ps)]) (fun H8 S8 => ?_) (fun QQ go => ?_)
    rotate_left
    · refine test_op ⟨_, rfl, fun q0 f0 => ?_⟩
      have S8 := S7.same (same_new (o := HO.dK []) f0)
      refine ne_emp (S8.get (List.mem_cons_self)) upd_same ⟨_, rfl, ?_⟩
      clear S7
      revert S8
      generalize upd H7 q0 _ = H8
      intro S8
      clear f0
      by_cases ne : drI ks r.1 = []
      · exact iteF' (by rw [ne]; rfl) (go _ S8)
      · refine iteT' (by rw [decide_eq_false ne]; rfl) ?_
        have nep : drI ps r.1 ≠ [] := fun z => ne (by rw [z] at pmD; exact List.Perm.nil_eq pmD |>.symm)
        have subD : ∀ {rs : List (Str × Int)}, Srt (drI ps r.1) rs → ∀ q ∈ rs, q ∈ ps ∧ q.1 ≠ r.1 := fun sr q hq => drI_sub (sr.1.subset hq)
        have rin : r ∈ ps := sr1.1.symm.subset hr
        -- less is in
        refine test_op ⟨_, rfl, _, rfl, sub_cw (S8.crew (by simp)) mz nep fun c3 H9 rs s9 g9 sr9 => ?_⟩
        have S9 := S8.same s9
        refine ⟨_, rfl, le_cw OC.ins g9 (S9.crew (c := c1) (ps := ps) (by simp)) fun H10 s10 => ⟨_, rfl, ?_⟩⟩
        rw [decide_eq_true (fun q hq => (subD sr9 q hq).1)]
        refine iteF ?_
        have S10 := S9.same s10
        clear S8 S9 s9 g9 sr9 s10
        -- less is below
        refine test_op ⟨_, rfl, _, rfl, sub_cw (S10.crew (by simp)) mz nep fun c3 H11 rs s11 g11 sr11 => ?_⟩
        have S11 := S10.same s11
        refine ⟨_, rfl, lt_cw OC.ins g11 (S11.crew (c := c1) (ps := ps) (by simp)) fun H12 s12 => ⟨_, rfl, ?_⟩⟩
        rw [decide_eq_true (fun q hq => (subD sr11 q hq).1), decide_eq_false (fun z : rs = ps => (subD sr11 r (by rw [z]; exact rin)).2 rfl)]
        refine iteF ?_
        have S12 := S11.same s12
        clear S10 S11 s11 g11 sr11 s12
        -- the whole is not in what is less
        refine test_op ⟨_, rfl, _, rfl, _, rfl, sub_cw (S12.crew (by simp)) mz nep fun c3 H13 rs s13 g13 sr13 => ?_⟩
        have S13 := S12.same s13
        refine le_cw OC.ins (S13.crew (c := c1) (ps := ps) (by simp)) g13 fun H14 s14 => ⟨_, rfl, ?_⟩
        rw [decide_eq_false (fun z : ∀ q ∈ ps, q ∈ rs => (subD sr13 r (z r rin)).2 rfl)]
        exact go _ (S13.same s14)
    clear S7
    dsimp only [tSeq]
    refine ⟨_, rfl, _, rfl, (by show 3 ≤ sizeLine; decide), fun q fq => ?_⟩
    have S9 := S8.same (same_new (o := HO.lst [V.str r.1, V.str (Str.ofString "new"), V.str (Str.ofString "b")]) fq)
    refine ⟨p, pl, q, _, _, rfl, S9.hp, by omega, SqL.of upd_same, S8.hp.ne_new fq, by show 0 < 3; decide, by show 3 < 1000000; decide, fun j v Ha hj hpa ka => ?_⟩
    have S10 := S9.draw hpa ka
    obtain ⟨z, rfl, nz⟩ : ∃ z, v = .str z ∧ nameT z = true := by
      have hv := List.mem_of_getElem? hj
      simp only [List.mem_cons, List.not_mem_nil, or_false] at hv
      rcases hv with rfl | rfl | rfl
      · exact ⟨_, rfl, (ok1.2.2.2 r hr).1⟩
      · exact ⟨_, rfl, by decide +kernel⟩
      · exact ⟨_, rfl, by decide +kernel⟩
    clear S8 S9 fq hj hpa ka
    refine ⟨_, rfl, p, pl, _, 60, rfl, by decide, by decide, S10.hp, by omega, fun r2 Hb ra rb hpb kb => ⟨_, _, rfl, rfl, (by show 2 ≤ sizeLine; decide), fun T fT => ⟨T, _, rfl, SqT.of upd_same, rfl, _, _, rfl, _, _, rfl, rfl, ?_⟩⟩⟩
    have S11 := (S10.draw hpb kb).same (same_new (o := HO.tup [V.str z, V.int (1 + r2)]) fT)
    clear S10 hpb kb fT
    revert S11
    generalize upd Hb T _ = H11
    intro S11
    obtain ⟨v, ev⟩ : ∃ v, v = 1 + r2 := ⟨_, rfl⟩
    dsimp only [gName, tNext, tSeq]
    rw [← ev]
    have v1 : 1 ≤ v := by omega
    have v2 : v ≤ 60 := by omega
    refine ⟨_, rfl, fun e0 fe => ⟨_, rfl, _, rfl, upd_same, dkI [(z, v)], rfl, by show 1 ≤ 15; decide, ?_⟩⟩
    rw [upd_upd, show mergeK [] (dkI [(z, v)]) = dkI [(z, v)] from rfl]
    have S12 := S11.same (same_new (o := HO.dK (dkI [(z, v)])) fe)
    refine ⟨d, e0, ks, [(z, v)], rfl, S12.get (List.mem_cons_of_mem _ md), upd_same, by simp, by omega, by show 1 ≤ 20; decide, fun D2 H13 s13 f13 hD2 => ?_⟩
    have S13 := S12.same s13
    have em : mrgI ks [(z, v)] = putI ks z v := rfl
    rw [em] at hD2
    have S14 : Sw CC TS p pl (n + 1 + 1 + 1) ((D2, .dK (dkI (putI ks z v))) :: (D, .dK (dkI (drI ks r.1))) :: L) [(c2, qs), (c1, ps)] H13 := ⟨S13.sv.add hD2 (S12.hp.ne_new f13) (fun ps z => by cases z), S13.cw⟩
    clear S11 S12 S13 fe s13 f13 hD2
    dsimp only [gName, tSeq]
    have ndp : (ps.map (·.1)).Nodup := (sr1.1.map _).symm.nodup ok1.1
    have pmP : (putI ps z v).Perm (putI ks z v) := putI_perm z v ndp ok1.1 sr1.1
    refine asg_cut (fun x H' => ∃ t, x = .ref t ∧ Sw CC TS p pl (n + 1 + 1 + 1) ((D2, .dK (dkI (putI ks z v))) :: (D, .dK (dkI (drI ks r.1))) :: L) [(c2, qs), (c1, ps)] H' ∧ (((putI ks z v).length ≤ 8 ∧ ∃ c3 rs, H' t = some (.lst [.ref c3]) ∧ CwG CC H' c3 rs ∧ Srt (putI ks z v) rs) ∨ (8 < (putI ks z v).length ∧ H' t = some (.tup [.str (Str.ofString "many"), .str (Str.ofString "workers"), .int 8])))) (fun x H14 hx => ?_) (fun QQ go => ?_)
    rotate_left
    · refine ⟨S14.ht, fun H15 x15 t15 H16 s16 => ?_⟩
      have S16 := (S14.ext x15 t15).same s16
      have g1 := S16.crew (c := c1) (ps := ps) (by simp)
      obtain ⟨dx, wt, pp, dd, ts, mn, mx, sl, fa, hc, _⟩ := id g1.at_
      clear S14 x15 t15 s16
      refine ⟨_, rfl, c1, dx, _, rfl, hc, ?_, _, rfl, _, rfl, rfl, c1, ps, .str z, .int v, rfl, g1, .str z, fun z' e => (by cases e; exact name_l nz), .int v, fun b => ?_, fun z' e hz => ?_⟩
      · unfold crF
        simp only [lookup_putF]
        rfl
      · have : nameB (.str z) = true := nz
        rw [this] at b
        cases b
      · cases e
        rw [mrgS_put]
        by_cases l : (putI ks z v).length ≤ 8
        · have ok : KsOk (putI ps z v) := ⟨putI_nd ndp, by have := (putI_len ps z v).1; have := ok1.2.1; omega, by rw [pmP.length_eq]; exact l, putI_okw g1.ok nz v1 v2⟩
          refine mkc_ok ok fun c3 H17 rs s17 f17 cw17 _ sr17 => ?_
          intro t H18 s18 n18 h18
          exact go _ _ ⟨t, rfl, (S16.same s17).same s18, .inl ⟨l, c3, rs, h18, (sr17.cwg ok cw17).same s18, sr17.up pmP⟩⟩
        · refine mkc_many (putI_okw g1.ok nz v1 v2) (by rw [pmP.length_eq]; omega) (hd_many fun t H17 s17 n17 h17 => ?_)
          exact go _ _ ⟨t, rfl, S16.same s17, .inr ⟨by omega, h17⟩⟩
    obtain ⟨t, rfl, S15, ans⟩ := hx
    clear S14
    dsimp only [tSeq]
    refine ifs_no (Sw CC TS p pl (n + 1 + 1 + 1) ((D2, .dK (dkI (putI ks z v))) :: (D, .dK (dkI (drI ks r.1))) :: L) [(c2, qs), (c1, ps)]) (fun H15 S16 => ?_) (fun QQ go => ?_)
    rotate_left
    · have el : (dkI (putI ks z v)).length = (putI ks z v).length := by rw [List.length_map, List.length_map]
      refine test_op ⟨_, rfl, _, rfl, D2, _, rfl, S15.get (List.mem_cons_self), _, _, rfl, rfl, _, rfl, ?_⟩
      rw [el]
      rcases ans with ⟨l, c3, rs, ht, g3, sr3⟩ | ⟨l, ht⟩
      · refine iteT' (decide_eq_true (by omega)) ?_
        have ok : KsOk (putI ks z v) := ⟨putI_nd ok1.1, by have := (putI_len ks z v).1; have := ok1.2.1; omega, l, putI_okw ok1.2.2.2 nz v1 v2⟩
        refine ⟨rfl, _, rfl, cof_ok ok (S15.get (List.mem_cons_self)) fun c4 H17 rs2 s17 f17 cw4 _ sr4 => ⟨(by show 1 ≤ sizeLine; decide), fun l2 fl2 => ?_⟩⟩
        have s18 := same_new (o := HO.lst [V.ref c4]) fl2
        obtain rfl : rs = rs2 := srt_uniq ok.1 sr3 sr4
        exact neH_cw ((s17.trans s18) _ _ ht) upd_same (g3.same (s17.trans s18)) ((sr4.cwg ok cw4).same s18) fun H19 s19 => ⟨_, rfl, go _ ((S15.same (s17.trans s18)).same s19)⟩
      · refine iteF' (decide_eq_false (by omega)) ⟨(by show 3 ≤ sizeLine; decide), fun t2 f2 => ?_⟩
        have s18 := same_new (o := HO.tup [V.str (Str.ofString "many"), V.str (Str.ofString "workers"), V.int 8]) f2
        exact neH_dat (ds := [.str (Str.ofString "many"), .str (Str.ofString "workers"), .int 8]) (s18 _ _ ht) upd_same (.cons (.str _) (.cons (.str _) (.cons (.int _) .nil))) (by decide +kernel) (by decide +kernel) ⟨_, rfl, go _ (S15.same s18)⟩
    clear S15 ans
    dsimp only [tSeq]
    have g1 := S16.crew (c := c1) (ps := ps) (by simp)
    refine ret_and (cb_i (cons_i ⟨_, rfl, ?_⟩))
    dsimp only [tNil]
    refine list_crew g1.at_ g1.l8 fun SS ts fS prS => ?_
    have sS := same_new (o := HO.lst (ts.map V.ref)) fS
    have hS : upd H15 SS (.lst (ts.map V.ref)) SS = some (.lst (ts.map V.ref)) := upd_same
    have S17 := S16.same sS
    generalize upd H15 SS (.lst (ts.map V.ref)) = H17 at sS hS prS S17 ⊢
    refine prs_any (j := 11) (m := 1) (d := d) (ks := ks) (ps := ps) (fun R k => sorted_names (i := 1) (j := 3) rfl (by show 3 < 12; decide) (S17.get (List.mem_cons_of_mem _ (List.mem_cons_of_mem _ md))) (by omega) sr1 R k) rfl (by decide) (by show 11 < 12; decide) (S17.get (List.mem_cons_of_mem _ (List.mem_cons_of_mem _ md))) ok1.1 (fun q hq => sr1.1.subset hq) (by omega) fun D3 H18 ts2 s18 f18 hD3 pr2 => ?_
    have okS : ∀ q ∈ ps, OkS q.1 := fun q hq => name_ok (g1.okn q hq)
    refine ⟨.list (ps.map pdP), .list (ps.map pdP), .lst (SqL.of (s18 _ _ hS)) (dp_pairs (prS.same s18)), .lst (SqL.of hD3) (dp_pairs pr2), shaped_pairsL okS, shaped_pairsL okS, _, rfl, iteT' ?_ ?_⟩
    · rw [show PyData.eqv (.list (ps.map pdP)) (.list (ps.map pdP)) = decide (ps = ps) from eqvs_pairs _ _, decide_eq_true rfl]
    have S18 := S17.same s18
    have g18 := S18.crew (c := c1) (ps := ps) (by simp)
    refine ⟨_, rfl, _, rfl, lt_cw OC.ins g18 g18 fun H19 s19 => ⟨_, rfl, ?_⟩⟩
    rw [decide_eq_true (rfl : ps = ps), Bool.not_true, Bool.and_false]
    have S19 := (S18.same s19).cut.cut
    exact k _ ⟨S19.sv.hp.more (by omega), S19.sv.ht, S19.sv.kL, S19.sv.nt⟩
end
end Lw
namespace Lw
open PySem PySem.Spec PyProof.Rows L2
open SX PySem.NumText TL LamX ClX StX
set_option pp.maxSteps 900
abbrev sLti : Stmt := top 40
/-- [e for name in names if ..], the names in a list -/
theorem sift_vals {j : Nat} {K : PySem.W.Frag} {σ : L2.St} {H : Hp} {Q : VK} {te tv : TE} {tt : TT} {ps : List (Str × Int)} (c : Str × Int → Bool) (fn : Str × Int → V) (ht : ∀ R : VK, (∀ l H1, Same H H1 → H1 l = some (.lst (ps.map fun q => V.str q.1)) → R (.ref l) H1) → te σ H R) (lj : j < σ.length) (hz : ps.length ≤ 5000)
    (hs : ∀ (q : Str × Int) (H2 : Hp) (Y : VK) (N : Hp → Prop), q ∈ ps → Same H H2 → (c q = true → Y (fn q) H2) → (c q = false → N H2) → tt ((wipe σ [j]).set j (some (V.str q.1))) H2 fun b H3 => if b = true then tv ((wipe σ [j]).set j (some (V.str q.1))) H3 Y else N H3)
    (q : ∀ D H', Same H H' → H D = none → H' D = some (.lst ((ps.filter c).map fn)) → Q (.ref D) H') : tLc (iList K te) (gName j) tt tv [j] σ H Q := by
  refine ht _ fun l H0 s0 hl => ?_
  refine ⟨l, rfl, ⟨_, SqL.of hl⟩, fun D hD => lc_it walk_list (fun n H' => Same H0 H' ∧ H' D = some (.lst (((ps.take n).filter c).map fn))) ⟨same_new hD, upd_same⟩ (fun n H' _ h => SqL.of (h.1 _ _ hl)) ?_ ?_⟩
  · rintro n x H' H'' hn ⟨s', hD'⟩ ⟨rfl, hx⟩
    rw [List.getElem?_map] at hx
    obtain ⟨r, hr, rfl⟩ := Option.map_eq_some_iff.mp hx
    have snoc : ps.take (n + 1) = ps.take n ++ [r] := by rw [List.take_add_one, hr]; rfl
    refine ⟨by simp [wipe, List.set_set], hs r _ _ _ (List.mem_of_getElem? hr) (s0.trans s') (fun cr => ?_) (fun cr => ?_)⟩
    · refine ⟨_, hD', ?_, fun b o e => ?_, ?_⟩
      · rw [List.length_map]
        exact Nat.lt_of_le_of_lt (Nat.le_trans (List.length_filter_le _ _) (Nat.le_trans (List.length_take_le' _ _) hz)) (by decide)
      · rw [upd_ne (ne_of_none e hD)]; exact s' _ _ e
      · rw [upd_same, snoc, List.filter_append, List.map_append, show [r].filter c = [r] by rw [List.filter_cons_of_pos cr]; rfl]; rfl
    · refine ⟨s', ?_⟩
      rw [hD', snoc, List.filter_append, show [r].filter c = [] by rw [List.filter_cons_of_neg (by rw [cr]; decide)]; rfl, List.append_nil]
  · rintro H' ⟨s', hD'⟩
    rw [List.length_map, List.take_of_length_le (Nat.le_refl _)] at hD'
    exact q D H' (s0.trans s') (s0.free hD) hD'
/-- [(name, e) for name in d], d locked -/
theorem prs_lock {i j : Nat} {tv : TE} {σ : L2.St} {H : Hp} {Q : VK} {d : Addr} {ks : List (Str × Int)} (fn : Str × Int → Int) (hi : σ[i]? = some (some (V.ref d))) (lj : j < σ.length) (hd : H d = some (.dK (dkI ks))) (lz : ks.length ≤ 5000)
    (hv : ∀ (q : Str × Int) (H2 : Hp) (R : VK), q ∈ ks → (∀ b kvs, H b = some (.dK kvs) → L2.Rd H2 b (.dK kvs)) → R (.int (fn q)) H2 → tv ((wipe σ [j]).set j (some (V.str q.1))) H2 R)
    (q : ∀ D H' ts, Same H H' → H D = none → H' D = some (.lst (ts.map V.ref)) → PrT H' ts (ks.map fun q => (q.1, fn q)) → Q (.ref D) H') : tLockE (tLc (iKeys (tVar i)) (gName j) tYes (tTup (tCons (tVar j) (tCons tv tNil))) [j]) σ H Q := by
  refine ⟨d, _, hd, trivial, fun od => ⟨_, hi, d, od, rfl, .inl ⟨_, upd_same, fun D hD => ?_⟩⟩⟩
  have ne : D ≠ d := fun e => by rw [e, upd_same] at hD; cases hD
  have fD : H D = none := by rw [upd_ne ne] at hD; exact hD
  obtain ⟨HF, hF⟩ : ∃ HF, HF = upd H d (.frz od (.dK (dkI ks))) := ⟨_, rfl⟩
  rw [← hF] at hD ⊢
  have hFd : HF d = some (.frz od (.dK (dkI ks))) := by rw [hF]; exact upd_same
  have hFb : ∀ b o, b ≠ d → H b = some o → HF b = some o := fun b o n e => by rw [hF, upd_ne n]; exact e
  refine lc_it walk_keys (fun n H' => Same HF H' ∧ ∃ ts : List Addr, H' D = some (.lst (ts.map V.ref)) ∧ PrT H' ts ((ks.take n).map fun q => (q.1, fn q))) ⟨same_new hD, [], upd_same, .nil⟩ (fun n H' _ h => h.1 _ _ hFd) ?_ ?_
  · rintro n x H' H2 hn ⟨s', ts, hDt, pr⟩ ⟨rfl, k, v, hk, rfl⟩
    rw [List.getElem?_map, List.getElem?_map] at hk
    obtain ⟨p, hp, e2⟩ := Option.map_eq_some_iff.mp hk
    obtain ⟨r, hr, e4⟩ := Option.map_eq_some_iff.mp hp
    subst e4
    have e3 : k = Sum.inr r.1 := (congrArg Prod.fst e2).symm
    subst e3
    refine ⟨by simp [wipe, List.set_set], ?_⟩
    dsimp only [tYes]
    rw [if_pos rfl]
    have gt : ((wipe σ [j]).set j (some (V.str r.1)))[j]? = some (some (V.str r.1)) := by
      rw [List.getElem?_set_self]
      simpa [wipe] using lj
    refine ⟨_, gt, hv r _ _ (List.mem_of_getElem? hr) (fun b kvs hb => ?_) ⟨(by show 2 ≤ sizeLine; decide), fun T hT => ?_⟩⟩
    · by_cases bd : b = d
      · rw [bd] at hb ⊢
        rw [hd] at hb
        cases hb
        exact .inr ⟨od, s' _ _ hFd⟩
      · exact .inl (s' _ _ (hFb b _ bd hb))
    have sT : Same H2 (upd H2 T (.tup [.str r.1, .int (fn r)])) := same_new hT
    have TD : T ≠ D := fun e => by rw [e, hDt] at hT; cases hT
    refine ⟨ts.map V.ref, sT _ _ hDt, ?_, fun b o e => ?_, ts ++ [T], ?_, ?_⟩
    · rw [List.length_map, pr.len, List.length_map]
      exact Nat.lt_of_le_of_lt (Nat.le_trans (List.length_take_le' _ _) lz) (by decide)
    · rw [upd_ne (ne_of_none e hD)]
      exact sT _ _ (s' _ _ e)
    · rw [upd_same, List.map_append]; rfl
    · rw [List.take_add_one, hr, List.map_append]
      have k : ∀ b xs, H2 b = some (.tup xs) → upd (upd H2 T (.tup [.str r.1, .int (fn r)])) D (.lst (ts.map V.ref ++ [.ref T])) b = some (.tup xs) := fun b xs e => by
        rw [upd_ne (fun z => by rw [z, hDt] at e; cases e)]
        exact sT _ _ e
      exact Paired.snoc (pr.mono k) (by rw [upd_ne TD]; exact upd_same)
  · rintro H' ⟨s', ts, hDt, pr⟩
    have el : (dkI ks).length = ks.length := by rw [List.length_map, List.length_map]
    rw [el, List.take_of_length_le (Nat.le_refl _)] at pr
    refine ⟨s' _ _ hFd, q D _ ts (fun b o hb => ?_) fD ?_ (pr.mono fun b xs e => ?_)⟩
    · by_cases bd : b = d
      · rw [bd] at hb ⊢
        rw [upd_same, ← hd]
        exact hb
      · rw [upd_ne bd]; exact s' _ _ (hFb b o bd hb)
    · rw [upd_ne ne]; exact hDt
    · rw [upd_ne (fun z => by rw [z, s' _ _ hFd] at e; cases e)]; exact e
theorem merge_nd {ks : List (Str × Int)} (nd : (ks.map (·.1)).Nodup) : mergeK [] (dkI ks) = dkI ks := by
  show mergeK (dkOf []) (dkOf (dkP ks)) = dkOf (dkP ks)
  rw [merge_dk, mrgS_out _ _ (by unfold dkP; rw [List.map_map]; exact nd) (fun q _ z => (by cases z))]
  rfl
/-- an answer: a refusal of a speed, or a crew -/
def AnsT (CC : Addr) (H : Hp) (t : Addr) : Str ⊕ List (Str × Int) → Prop
  | .inl z => H t = some (.tup [.str (Str.ofString "speed"), .str z])
  | .inr rs => ∃ c, H t = some (.lst [.ref c]) ∧ CwG CC H c rs
section
variable {CC t : Addr} {H H' : Hp} {a : Str ⊕ List (Str × Int)}
theorem AnsT.ext (h : AnsT CC H t a) (x : ExtN H H') : AnsT CC H' t a := by
  cases a with
  | inl z => exact x _ _ h (fun ps z => by cases z)
  | inr rs =>
    obtain ⟨c, h1, h2⟩ := h
    exact ⟨c, x _ _ h1 (fun ps z => by cases z), h2.extn x⟩
theorem AnsT.same (h : AnsT CC H t a) (s : Same H H') : AnsT CC H' t a := h.ext (ExtN.of s)
theorem CwG.lput {c l : Addr} {ps : List (Str × Int)} {xs : List V} {o : HO} (g : CwG CC H c ps) (hl : H l = some (.lst xs)) : CwG CC (upd H l o) c ps :=
  ⟨g.at_.move fun b u e nl _ => by rw [upd_ne (fun z => by rw [z, hl] at e; exact nl xs (Option.some.inj e).symm)]; exact e, g.l8, g.ok, g.nd⟩
theorem AnsT.lput {l : Addr} {xs : List V} {o : HO} (h : AnsT CC H t a) (hl : H l = some (.lst xs)) (ne : t ≠ l) : AnsT CC (upd H l o) t a := by
  cases a with
  | inl z =>
    show upd H l o t = _
    rw [upd_ne ne]; exact h
  | inr rs =>
    obtain ⟨c, h1, h2⟩ := h
    exact ⟨c, by rw [upd_ne ne]; exact h1, h2.lput hl⟩
theorem AnsT.off {l : Addr} (h : AnsT CC H t a) (hl : H l = none) : t ≠ l := by
  cases a with
  | inl z => exact ne_of_none h hl
  | inr rs =>
    obtain ⟨c, h1, _⟩ := h
    exact ne_of_none h1 hl
theorem AnsT.eq {K : PySem.W.Frag} {u : Addr} (h : AnsT CC H t a) (g : AnsT CC H u a) : DAns K CC (.ref t) (.ref u) H := by
  cases a with
  | inl z => exact .inr ⟨t, u, _, _, rfl, rfl, SqT.of h, SqT.of g, Prs.cons ⟨rfl, rfl, by simp [eqV]⟩ (Prs.cons ⟨rfl, rfl, by simp [eqV]⟩ Prs.nil)⟩
  | inr rs =>
    obtain ⟨c, h1, h2⟩ := h
    obtain ⟨c', h3, h4⟩ := g
    exact .inl ⟨t, u, _, _, rfl, rfl, h1, h3, Prs.cons (ins_cw h2 h4) Prs.nil⟩
end
theorem Sw.lput {CC : Addr} {TS : List (Addr × Str)} {p pl : Addr} {n : Nat} {L : List (Addr × HO)} {CL : List (Addr × List (Str × Int))} {H : Hp} {l : Addr} {xs ys : List V} (g : Sw CC TS p pl n L CL H) (h : H l = some (.lst xs)) (n1 : l ≠ p) (n2 : l ≠ pl) (nL : ∀ e ∈ L, e.1 ≠ l) : Sw CC TS p pl n L CL (upd H l (.lst ys)) :=
  ⟨g.sv.put h n1 n2 nL, fun e he => (g.cw e he).lput h⟩
def mulI (m : Int) (ks : List (Str × Int)) : List (Str × Int) := ks.map fun q => (q.1, q.2 * m)
theorem mulI_names (m : Int) (ks : List (Str × Int)) : (mulI m ks).map (·.1) = ks.map (·.1) := by unfold mulI; rw [List.map_map]; rfl
def overM (m : Int) (q : Str × Int) : Bool := decide (60 < m * q.2)
/-- what times comes to, the pairs in order -/
def ansM (m : Int) (ps : List (Str × Int)) : Str ⊕ List (Str × Int) := match ps.filter (overM m) with
  | [] => .inr (mulI m ps)
  | q :: _ => .inl (Str.ofString (toString (m * q.2)))
theorem mulI_ok {m : Int} {ks : List (Str × Int)} (ok : KsOk ks) (m1 : 1 ≤ m) (h : ks.filter (overM m) = []) : KsOk (mulI m ks) := by
  refine ⟨by rw [mulI_names]; exact ok.1, by unfold mulI; rw [List.length_map]; exact ok.2.1, by unfold mulI; rw [List.length_map]; exact ok.2.2.1, fun q hq => ?_⟩
  obtain ⟨r, hr, rfl⟩ := List.mem_map.mp hq
  obtain ⟨a, b, _⟩ := ok.2.2.2 r hr
  have h2 : ¬ overM m r = true := List.filter_eq_nil_iff.mp h r hr
  have h3 : ¬ (60 < m * r.2) := fun z => h2 (decide_eq_true z)
  refine ⟨a, ?_, ?_⟩
  · show 1 ≤ r.2 * m
    have := Int.mul_le_mul (a := 1) (b := 1) b m1 (by decide) (by omega)
    omega
  · show r.2 * m ≤ 60
    rw [Int.mul_comm]; omega
theorem mulI_srt {m : Int} {ks ps : List (Str × Int)} (sr : Srt ks ps) : Srt (mulI m ks) (mulI m ps) := ⟨sr.1.map _, by rw [mulI_names]; exact sr.2⟩
theorem log_few {n : Nat} (h : n ≤ 3600) : n.log2 < 12 := by
  by_cases z : n = 0
  · rw [z]; decide
  · exact (Nat.log2_lt z).mpr (Nat.lt_of_le_of_lt h (by decide))
/-- a crew so many times is heard -/
theorem mul_ans {K : PySem.W.Frag} {CC DN DS DC DM DW DX c : Addr} {ps : List (Str × Int)} {m : Int} {H : Hp} {Q' : VK} (g : CwG CC H c ps) (srt : sortedS (ps.map (·.1)) = true) (l1 : 1 ≤ ps.length) (m1 : 1 ≤ m) (m2 : m ≤ 60)
    (go : ∀ t H', Same H H' → H t = none → AnsT CC H' t (ansM m ps) → Q' (.ref t) H') : MkC K CC DN DS DC DM (dkP (mulI m ps)) H (HeardV Q') (HeardX K DC DN DS DW DX DM Q') := by
  have okp : KsOk ps := ⟨g.nd, l1, g.l8, g.ok⟩
  cases h : ps.filter (overM m) with
  | nil =>
    have ok := mulI_ok okp m1 h
    refine mkc_ok ok fun c3 H4 rs s4 f4 cw4 _ sr4 => ?_
    intro t H5 s5 n5 h5
    obtain rfl : rs = mulI m ps := srt_uniq ok.1 sr4 (mulI_srt ⟨.refl _, srt⟩)
    refine go t H5 (s4.trans s5) (s4.free n5) ?_
    unfold ansM
    rw [h]
    exact ⟨c3, h5, (sr4.cwg ok cw4).same s5⟩
  | cons q r =>
    obtain ⟨as, bs, rfl, h1, h2, _⟩ := List.filter_eq_cons_iff.mp h
    have over : 60 < m * q.2 := of_decide_eq_true h2
    have e : dkP (mulI m (as ++ q :: bs)) = dkP (mulI m as) ++ (q.1, V.int (q.2 * m)) :: dkP (mulI m bs) := by
      unfold dkP mulI
      simp only [List.map_append, List.map_cons]
    rw [e]
    have nm : ∀ x ∈ dkP (mulI m (as ++ q :: bs)), nameT x.1 = true := fun x hx => by
      obtain ⟨y, hy, rfl⟩ := List.mem_map.mp hx
      obtain ⟨z, hz, rfl⟩ := List.mem_map.mp hy
      exact (g.ok z hz).1
    rw [e] at nm
    refine mkc_speed nm (fun x hx => ?_) ?_ (hd_speed (z := Str.ofString (toString (q.2 * m))) (fun H' s => .int _ ?_) fun t H8 s8 n8 h8 => go t H8 s8 n8 ?_)
    · obtain ⟨y, hy, rfl⟩ := List.mem_map.mp hx
      obtain ⟨z, hz, rfl⟩ := List.mem_map.mp hy
      have nz : ¬ (60 < m * z.2) := fun c => h1 z hz (decide_eq_true c)
      obtain ⟨_, b1, _⟩ := g.ok z (List.mem_append_left _ hz)
      have := Int.mul_le_mul (a := 1) (b := 1) b1 m1 (by decide) (by omega)
      show (decide (1 ≤ z.2 * m) && decide (z.2 * m ≤ 60)) = true
      rw [decide_eq_true (by omega), decide_eq_true (by rw [Int.mul_comm]; omega)]; rfl
    · show (decide (1 ≤ q.2 * m) && decide (q.2 * m ≤ 60)) = false
      rw [decide_eq_false (p := q.2 * m ≤ 60) (by rw [Int.mul_comm]; omega), Bool.and_false]
    · obtain ⟨_, b1, b2⟩ := g.ok q (by simp)
      have e1 : m.natAbs ≤ 60 := by omega
      have e2 : q.2.natAbs ≤ 60 := by omega
      rw [Int.natAbs_mul]
      exact Nat.lt_trans (log_few (Nat.mul_le_mul e2 e1)) (by decide)
    · unfold ansM
      rw [h]
      show H8 t = some (.tup [.str (Str.ofString "speed"), .str (Str.ofString (toString (m * q.2)))])
      rw [h8, Int.mul_comm]
def spLti (K : PySem.W.Frag) (CC : Addr) (TS : List (Addr × Str)) : Sp := fun vs H Q _ => ∃ (p pl : Addr) (n : Nat) (d : Addr) (ks : List (Str × Int)) (L : List (Addr × HO)), vs = [.ref p, .ref d] ∧ Sv TS p pl n L H ∧ n ≤ 900000 ∧ (d, HO.dK (dkI ks)) ∈ L ∧ KsOk ks ∧
  ∀ H', Sv TS p pl (n + 1) L H' → Q (.bl true) H'
section
variable {P : Program} {w : World} {K : PySem.W.Frag} {mg : Str → Option Value} {base : Heap}
theorem scLti : FnScope ["_law_pen_here", "_law_speeds_here", "_law_above", "_law_due", "_law_heard_here", "_law_one", "_law_many", "_law_name"] ["_law_pen_here", "_law_speeds_here"] (C8.fnScope sLti) := C8.fnScope_by (by decide +kernel)
set_option maxHeartbeats 4000000 in
theorem cal_lti {f c0 B CC DC DN DS DW DX DM L gH fI : Addr} {TS : List (Addr × Str)} {fd fdH : FuncData} (F : DefC K mg "_law_times_right" sLti f fd c0) (b : Binds K fd ["_law_pen_here", "_law_speeds_here"] []) (FH : C8.Def K mg "_law_heard" sHea gH fdH) (bH : Binds K fdH ["_law_ask"] []) (TB : TabB base mg c0 B) (TO : TabOf TS B "_law_times_right")
    (R : Hrd K mg DC DN DS DW DX DM L) (T : TxtC mg) (O : CrK P w K mg base CC DN DS DC DM DW fI) (OC : OpC P w K mg base CC DN DS DC DM DW) (XO : StC P w K mg base CC DN DS DC DM)
    (DP : C8.Cal P w K mg base 2 "_law_pick" (spPick K) []) : CalG P w K mg base 19 "_law_times_right" (spLti K CC TS) [] := by
  have CM := O.CM
  obtain ⟨ocH, odH, dVH, kVH, docH, pmH, anH, cdvH, ctH, oslH, rfl, lkH, cdH⟩ := FH.fn.ex
  obtain ⟨pO, gO, fdO, gUO, ⟨SO, FO, bO⟩, KBO⟩ := XO.ex
  refine calGC F b .nil scLti (fun vs H Q E h => ?_) (fun A outer st H vs Q E hG hr h => ?_)
  · obtain ⟨p, pl, n, d, ks, L, rfl, _⟩ := h
    rfl
  · obtain ⟨p, pl, n, d, ks, L, rfl, S0, hn, md, ok1, k⟩ := h
    refine ⟨_, (pss_cons (ps_asg (pe_tup (pa_cons (pe_static (E := C8.E0) (pe_glob (v := .ref CC) (by rfl) CM.Z.hm rfl) SO FO (hr.mono (by decide)) bO .nil (passes_call takes0 (fun _ _ _ _ z => z)) (pa_cons (pv 1) pa_nil)) (pa_cons (C8.pe_c DP hr (by decide) (by rfl) (pa_cons (pv 0) (pa_cons (pe_lst (pa_cons pe_int (pa_cons pe_int (pa_cons pe_int (pa_cons pe_int (pa_cons pe_int (pa_cons pe_int pa_nil))))))) pa_nil))) pa_nil))) (pg_tup (by rfl) (pgs_cons (pg_name (i := 5) scLti.nd rfl (Or.inr rfl)) (pgs_cons (pg_name (i := 6) scLti.nd rfl (Or.inr rfl)) pgs_nil))))
  (pss_cons (ps_setLc (i := 2) (own := [("_law_name", 7)]) (g := gName 7) rfl scLti.nd rfl rfl (sw_true rfl rfl rfl (by decide +kernel)) (pi_list (pe_callB cr_sortedS (by rfl) T.n_sorted (by decide +kernel) (pa_cons (pe_lock (pe_lc (own := [("_law_name", 7)]) (g := gName 7) (tt := tYes) rfl scLti.nd (pi_keys (pv 1)) (blkOk_by (own := [("_law_name", 7)]) (N := ["_law_pen_here", "_law_speeds_here", "_law_above", "_law_due", "_law_heard_here", "_law_one", "_law_many", "_law_name"]) (sc := (C8.fnScope sLti)) (by decide +kernel)) (fun _ _ _ _ _ => (pg_name (i := 7) scLti.nd rfl (Or.inl rfl))) (fun _ _ _ _ _ => pts_nil) (fun _ _ _ _ _ => (pe_callTy SkE.call_str_str (by rfl) T.n_str (by decide +kernel) (pa_cons (pv 7) pa_nil))))) pa_nil))) (blkOk_by (own := [("_law_name", 7)]) (N := ["_law_pen_here", "_law_speeds_here", "_law_above", "_law_due", "_law_heard_here", "_law_one", "_law_many", "_law_name"]) (sc := (C8.fnScope sLti)) (by decide +kernel)) (fun _ _ _ _ _ => (pg_name (i := 7) scLti.nd rfl (Or.inl rfl))) (fun _ _ _ _ _ => pts_one (pt_cmpR op_gt (pe_op op_mulW (pv 6) (pe_dget (hu_of hr) (pv 1) (pv 7) (fun _ _ => rfl))) pe_int (nomark _))) (fun _ _ _ _ _ => (pe_op op_mulW (pv 6) (pe_dget (hu_of hr) (pv 1) (pv 7) (fun _ _ => rfl)))))
  (pss_cons (ps_set (i := 3) scLti.nd rfl (Or.inl rfl) (pe_ifExp (pt_cmpR (op_neD hr.units) (pv 2) (pe_lst pa_nil) (nomark _)) (pe_tup (pa_cons pe_str (pa_cons (pe_callB SkE.call_repr_int (by rfl) T.n_repr (by decide +kernel) (pa_cons (pe_ix ix_list (pv 2) pe_int (fun _ _ => rfl)) pa_nil)) pa_nil))) (pe_lst (pa_cons (pe_static (E := C8.E0) (pe_glob (v := .ref CC) (by rfl) CM.Z.hm rfl) SO FO (hr.mono (by decide)) bO .nil (passes_call takes0 (fun _ _ _ _ z => z)) (pa_cons (pe_callTy (call_dictP rfl) (by rfl) T.n_dict (by decide +kernel) (pa_cons (pe_lock (pe_lc (own := [("_law_name", 7)]) (g := gName 7) (tt := tYes) rfl scLti.nd (pi_keys (pv 1)) (blkOk_by (own := [("_law_name", 7)]) (N := ["_law_pen_here", "_law_speeds_here", "_law_above", "_law_due", "_law_heard_here", "_law_one", "_law_many", "_law_name"]) (sc := (C8.fnScope sLti)) (by decide +kernel)) (fun _ _ _ _ _ => (pg_name (i := 7) scLti.nd rfl (Or.inl rfl))) (fun _ _ _ _ _ => pts_nil) (fun _ _ _ _ _ => (pe_tup (pa_cons (pv 7) (pa_cons (pe_op op_mulW (pv 6) (pe_dget (hu_of hr) (pv 1) (pv 7) (fun _ _ => rfl))) pa_nil)))))) pa_nil)) pa_nil)) pa_nil))))
  (pss_cons (ps_set (i := 4) scLti.nd rfl (Or.inl rfl) (pe_lst (pa_cons (pe_lamcall (k := 16) (T := TS) (TT := TTheard K DC DN DS DW DX DM) (by rfl) FH.mgf FH.kp lkH cdH bH scHea rfl (.inl rfl) (heard_gives R T.toTxt hG (hr.mono (by decide))) TB rfl TO.mem TO.own (hr.mono (by decide)) (lamS_by (by rfl)) rfl (fun _ _ _ _ _ => rfl)
      (fun A outer s H E f c2 hr2 => (by exact (pe_op (op_of (op := .Mult) (half_lftK K rfl (nm := "mul") OC.MM (passes_call (takes_of rfl rfl rfl rfl) (fun _ _ _ _ z => z)) OC.first OC.rmul (by decide) hr2 (Nat.le_of_ble_eq_true rfl))) (pv 5) (pv 6))))) pa_nil)))
  (pss_cons (ps_expr (pe_bm PySem.F.plainAttrs_list PySem.F.slot_list_append PySem.F.type_list_append mt_append (pv 4) (pa_cons (pe_lamcall (k := 16) (T := TS) (TT := TTheard K DC DN DS DW DX DM) (by rfl) FH.mgf FH.kp lkH cdH bH scHea rfl (.inl rfl) (heard_gives R T.toTxt hG (hr.mono (by decide))) TB rfl TO.mem TO.own (hr.mono (by decide)) (lamS_by (by rfl)) rfl (fun _ _ _ _ _ => rfl)
      (fun A outer s H E f c2 hr2 => (by exact (pe_op (op_of (op := .Mult) (half_rgtK K rfl (nm := "mul") OC.MR (passes_call (takes_of rfl rfl rfl rfl) (fun _ _ _ _ z => z)) OC.first OC.mul (by decide) nn_mul OC.s1 OC.s2 hr2 (Nat.le_of_ble_eq_true rfl))) (pv 6) (pv 5))))) pa_nil)))
  (pss_one (ps_ret (pe_cmpR (op_eqAns K rfl (E := C8.E0) O.ME (passes_call takes0 (fun _ _ _ _ z => z)) hr (by decide)) (pv 4) (pe_lst (pa_cons (pv 3) (pa_cons (pv 3) pa_nil))) (nomark _))))))))), ?_⟩
    have S0 : Sw CC TS p pl n L [] H := ⟨S0, fun e he => (by cases he)⟩
    refine ⟨rfl, _, rfl, cof_ok ok1 (S0.get md) fun c1 Ha ps sa fa cwa _ sr1 => ?_⟩
    have S1 := (S0.same sa).addc (sr1.cwg ok1 cwa)
    clear S0 sa fa cwa
    refine ⟨_, rfl, (by show 6 ≤ sizeLine; decide), fun q fq => ?_⟩
    have S2 := S1.same (same_new (o := HO.lst [V.int 1, V.int 2, V.int 3, V.int 12, V.int 30, V.int 60]) fq)
    refine ⟨p, pl, q, _, _, rfl, S2.hp, by omega, SqL.of upd_same, S1.hp.ne_new fq, by show 0 < 6; decide, by show 6 < 1000000; decide, fun j v Hb hj hpb kb => ?_⟩
    have S3 := S2.draw hpb kb
    obtain ⟨m, rfl, m1, m2⟩ : ∃ m : Int, v = .int m ∧ 1 ≤ m ∧ m ≤ 60 := by
      have hv := List.mem_of_getElem? hj
      simp only [List.mem_cons, List.not_mem_nil, or_false] at hv
      rcases hv with rfl | rfl | rfl | rfl | rfl | rfl <;> exact ⟨_, rfl, by decide, by decide⟩
    clear S1 S2 fq hj hpb kb
    refine ⟨(by show 2 ≤ sizeLine; decide), fun T1 fT => ⟨T1, _, rfl, SqT.of upd_same, rfl, _, _, rfl, _, _, rfl, rfl, ?_⟩⟩
    have S4 := S3.same (same_new (o := HO.tup [V.ref c1, V.int m]) fT)
    clear S3
    revert S4
    generalize upd Hb T1 _ = H4
    intro S4
    clear fT
    dsimp only [gName, tSeq]
    have lps : ps.length = ks.length := sr1.1.length_eq
    have l8 : ks.length ≤ 8 := ok1.2.2.1
    have mul_le : ∀ q ∈ ks, (m * q.2).natAbs ≤ 3600 := fun q hq => by
      obtain ⟨_, b1, b2⟩ := ok1.2.2.2 q hq
      have e1 : m.natAbs ≤ 60 := by omega
      have e2 : q.2.natAbs ≤ 60 := by omega
      rw [Int.natAbs_mul]
      exact Nat.mul_le_mul e1 e2
    have okI : ∀ q ∈ ks, CMulW m q.2 := fun q hq => by
      obtain ⟨_, b1, b2⟩ := ok1.2.2.2 q hq
      have e1 := log_few (n := m.natAbs) (by omega)
      have e2 := log_few (n := q.2.natAbs) (by omega)
      unfold CMulW
      omega
    refine asg_cut (fun x H' => ∃ a, x = .ref a ∧ Sw CC TS p pl (n + 1) ((a, .lst ((ps.filter (overM m)).map fun q => V.int (m * q.2))) :: L) [(c1, ps)] H') (fun x H5 hx => ?_) (fun QQ go => ?_)
    rotate_left
    · refine sift_vals (j := 7) (ps := ps) (overM m) (fun q => V.int (m * q.2)) (fun R k => sorted_names (i := 1) (j := 7) rfl (by show 7 < 8; decide) (S4.get md) (by omega) sr1 R k) (by show 7 < 8; decide) (by omega) (fun q H2 Y N hq s2 y nn => ?_) fun D H5 s5 f5 hD5 => ?_
      · have hk := sr1.1.subset hq
        have dg := dg_rd (.inl (s2 _ _ (S4.get md))) q.1
        rw [dkI_get ok1.1 (i := q.2) hk] at dg
        refine ⟨_, rfl, _, rfl, _, rfl, d, _, rfl, dg, _, _, rfl, rfl, okI q hk, _, _, rfl, rfl, _, rfl, ?_⟩
        by_cases c : 60 < m * q.2
        · exact iteT' (decide_eq_true c) ⟨_, rfl, _, rfl, _, rfl, d, _, rfl, dg, _, _, rfl, rfl, okI q hk, y (decide_eq_true c)⟩
        · exact iteF' (decide_eq_false c) (nn (decide_eq_false c))
      · have S5 := S4.same s5
        exact go _ _ ⟨D, rfl, ⟨S5.sv.add hD5 (S4.hp.ne_new f5) (fun ps z => by cases z), S5.cw⟩⟩
    obtain ⟨a, rfl, S5⟩ := hx
    clear S4
    dsimp only [tSeq]
    refine asg_cut (fun x H' => ∃ u, x = .ref u ∧ Sw CC TS p pl (n + 1) L [(c1, ps)] H' ∧ AnsT CC H' u (ansM m ps)) (fun x H6 hx => ?_) (fun QQ go => ?_)
    rotate_left
    · have mm : ((ps.filter (overM m)).map fun q => V.int (m * q.2)) = ((ps.filter (overM m)).map fun q => m * q.2).map V.int := by rw [List.map_map]; rfl
      refine test_op ⟨_, rfl, (by show 0 ≤ sizeLine; decide), fun q5 f5 => ?_⟩
      have s6 := same_new (o := HO.lst []) f5
      have S6 := S5.same s6
      have ha := S6.at0
      rw [mm] at ha
      refine ⟨.list (((ps.filter (overM m)).map fun q => m * q.2).map PyData.int), .list (([] : List Int).map PyData.int), .lst (SqL.of ha) (dp_ints _), .lst (SqL.of upd_same) (dp_ints []), shaped_ints _, shaped_ints [], _, rfl, ?_⟩
      rw [show PyData.eqv (.list (((ps.filter (overM m)).map fun q => m * q.2).map PyData.int)) (.list (([] : List Int).map PyData.int)) = decide (((ps.filter (overM m)).map fun q => m * q.2) = []) from eqvs_intsK _ _]
      rw [← mm] at ha
      cases h : ps.filter (overM m) with
      | cons q r =>
        rw [h] at ha
        have hq : q ∈ ks := sr1.1.subset (List.mem_filter.mp (show q ∈ ps.filter (overM m) by rw [h]; exact List.mem_cons_self)).1
        refine iteT' (by rfl) ⟨_, rfl, a, _, ((0 : Nat) : Int), V.int (m * q.2), rfl, rfl, SqL.of ha, atI_nat (j := 0) rfl, _, rfl, Nat.lt_trans (log_few (mul_le q hq)) (by decide), (by show 2 ≤ sizeLine; decide), fun t ft => ?_⟩
        refine go _ _ ⟨t, rfl, (S6.same (same_new ft)).cut, ?_⟩
        unfold ansM
        rw [h]
        exact upd_same
      | nil =>
        refine iteF' (by rfl) ⟨rfl, cb_i (cons_i (prs_lock (i := 1) (j := 7) (d := d) (ks := ks) (fun q => m * q.2) rfl (by show 7 < 8; decide) (S6.get (List.mem_cons_of_mem _ md)) (by omega) (fun q H2 R' hq rd hR => ?_) fun D H7 ts s7 f7 hD7 pr => ?_))⟩
        · have dg := dg_rd (rd d _ (S6.get (List.mem_cons_of_mem _ md))) q.1
          rw [dkI_get ok1.1 (i := q.2) hq] at dg
          exact ⟨_, rfl, _, rfl, _, rfl, d, _, rfl, dg, _, _, rfl, rfl, okI q hq, hR⟩
        dsimp only [tNil]
        have em : (ks.map fun q => (q.1, m * q.2)) = mulI m ks := List.map_congr_left fun q _ => by rw [Int.mul_comm]
        rw [em] at pr
        have hk : ks.filter (overM m) = [] := List.filter_eq_nil_iff.mpr fun q hq => List.filter_eq_nil_iff.mp h q (sr1.1.symm.subset hq)
        have okM := mulI_ok ok1 m1 hk
        refine ⟨D, ts, dkI (mulI m ks), rfl, SqL.of hD7, paired_dk pr, fun q fq => ?_⟩
        rw [merge_nd okM.1]
        have s8 := s7.trans (same_new (o := HO.dK (dkI (mulI m ks))) fq)
        refine cof_ok okM upd_same fun c4 H9 rs s9 f9 cw9 _ sr9 => ⟨(by show 1 ≤ sizeLine; decide), fun l2 fl2 => ?_⟩
        have s10 := same_new (o := HO.lst [V.ref c4]) fl2
        obtain rfl : rs = mulI m ps := srt_uniq okM.1 sr9 (mulI_srt sr1)
        refine go _ _ ⟨l2, rfl, (S6.same ((s8.trans s9).trans s10)).cut, ?_⟩
        unfold ansM
        rw [h]
        exact ⟨c4, upd_same, (sr9.cwg okM cw9).same s10⟩
    obtain ⟨u, rfl, S6, ansU⟩ := hx
    clear S5
    dsimp only [tSeq]
    have srp : sortedS (ps.map (·.1)) = true := sr1.2
    refine asg_cut (fun x H' => ∃ l t, x = .ref l ∧ Sw CC TS p pl (n + 1) L [(c1, ps)] H' ∧ AnsT CC H' u (ansM m ps) ∧ AnsT CC H' t (ansM m ps) ∧ H' l = some (.lst [.ref t]) ∧ u ≠ l ∧ t ≠ l ∧ l ≠ p ∧ l ≠ pl ∧ ∀ e ∈ L, e.1 ≠ l) (fun x H7 hx => ?_) (fun QQ go => ?_)
    rotate_left
    · refine cons_i ⟨S6.ht, fun H7 x7 t7 H8 s8 => ?_⟩
      have S8 := (S6.ext x7 t7).same s8
      have ansU := (ansU.ext x7).same s8
      have g1 := S8.crew (c := c1) (ps := ps) (by simp)
      obtain ⟨dx, fs, hc⟩ := g1.ins
      refine ⟨_, rfl, _, rfl, c1, dx, fs, "int", rfl, hc, .int m, c1, ps, .int m, rfl, g1, .int m, fun bad => ?_, fun m' e _ _ => ?_⟩
      · have : isSp (.int m) = true := by
          show (decide (1 ≤ m) && decide (m ≤ 60)) = true
          rw [decide_eq_true m1, decide_eq_true m2]; rfl
        rw [this] at bad
        cases bad
      · cases e
        refine mul_ans g1 srp (by rw [lps]; exact ok1.2.1) m1 m2 fun t H9 s9 f9 ansT => ⟨(by show 1 ≤ sizeLine; decide), fun l fl => ?_⟩
        have S9 := S8.same s9
        have sl := same_new (o := HO.lst [V.ref t]) fl
        have ansU := ansU.same s9
        exact go _ _ ⟨l, t, rfl, S9.same sl, ansU.same sl, ansT.same sl, upd_same, ansU.off fl, ansT.off fl, S9.hp.ne_new fl, S9.hp.ne_new2 fl, S9.sv.off fl⟩
    obtain ⟨l, t, rfl, S7, ansU, ansT, hl, n1, n2, n3, n4, n5⟩ := hx
    clear S6
    dsimp only [tSeq]
    refine ⟨_, rfl, .inl ⟨rfl, _, SqL.of hl⟩, S7.ht, fun H8 x8 t8 H9 s9 => ?_⟩
    have S9 := (S7.ext x8 t8).same s9
    have ansU := (ansU.ext x8).same s9
    have ansT := (ansT.ext x8).same s9
    have hl9 := s9 _ _ (x8 _ _ hl (fun ps z => by cases z))
    have g1 := S9.crew (c := c1) (ps := ps) (by simp)
    obtain ⟨dx, fs, hc⟩ := g1.ins
    refine ⟨_, rfl, _, rfl, c1, dx, fs, "int", rfl, hc, .int m, ⟨c1, m, rfl⟩, c1, ps, .int m, rfl, g1, .int m, fun bad => ?_, fun m' e _ _ => ?_⟩
    · have : isSp (.int m) = true := by
        show (decide (1 ≤ m) && decide (m ≤ 60)) = true
        rw [decide_eq_true m1, decide_eq_true m2]; rfl
      rw [this] at bad
      cases bad
    cases e
    refine mul_ans g1 srp (by rw [lps]; exact ok1.2.1) m1 m2 fun t2 H10 s10 f10 ansT2 => ⟨l, _, _, rfl, rfl, s10 _ _ hl9, (by show 1 < sizeLine; decide), ?_⟩
    have hl10 := s10 _ _ hl9
    have n6 : t2 ≠ l := fun e => by rw [e, hl9] at f10; cases f10
    have S11 := (S9.same s10).lput (ys := [V.ref t] ++ [V.ref t2]) hl10 n3 n4 n5
    have aU := (ansU.same s10).lput (o := .lst ([V.ref t] ++ [V.ref t2])) hl10 n1
    have aT := (ansT.same s10).lput (o := .lst ([V.ref t] ++ [V.ref t2])) hl10 n2
    have aT2 := ansT2.lput (o := .lst ([V.ref t] ++ [V.ref t2])) hl10 n6
    have hl11 : upd H10 l (.lst ([V.ref t] ++ [V.ref t2])) l = some (.lst [V.ref t, V.ref t2]) := upd_same
    generalize upd H10 l (.lst ([V.ref t] ++ [V.ref t2])) = H11 at S11 aU aT aT2 hl11 ⊢
    dsimp only [tSeq]
    refine ⟨_, rfl, _, rfl, _, rfl, (by show 2 ≤ sizeLine; decide), fun l3 fl3 => ?_⟩
    have s12 := same_new (o := HO.lst [V.ref u, V.ref u]) fl3
    refine ⟨⟨l, l3, _, _, rfl, rfl, s12 _ _ hl11, upd_same, Prs.cons ((aT.same s12).eq (aU.same s12)) (Prs.cons ((aT2.same s12).eq (aU.same s12)) Prs.nil)⟩, fun H13 s13 => ?_⟩
    exact k _ (((S11.same s12).same s13).sv)
end
end Lw
namespace Lw
open PySem PySem.Spec PyProof.Rows L2
open SX PySem.NumText TL LamX ClX StX
set_option pp.maxSteps 900
abbrev sLrf : Stmt := top 41
/-- the own class beside the built-in types -/
structure NbC (K : PySem.W.Frag) (CC : Addr) : Prop where
  f : (Ow.BTs.all fun n => PySem.W.subIn K (.type n) (.ref CC) == some false && PySem.W.kitOne K (.type n) (.ref CC) == some false) = true
  i : PySem.W.kitOne K (.ref CC) (.type "int") = some false
  b : PySem.W.kitOne K (.ref CC) (.type "bool") = some false
  s : PySem.W.kitOne K (.ref CC) (.type "str") = some false
theorem NbC.at_ {K : PySem.W.Frag} {CC : Addr} (h : NbC K CC) {n : String} (hn : n ∈ Ow.BTs) : PySem.W.notFirst K CC (.type n) = true ∧ PySem.W.kitOne K (.type n) (.ref CC) = some false := by
  have h1 := List.all_eq_true.mp h.f n hn
  rw [Bool.and_eq_true] at h1
  refine ⟨?_, eq_of_beq h1.2⟩
  unfold PySem.W.notFirst
  rw [eq_of_beq h1.1]; simp
/-- answers gathered in a list, beside what stays -/
structure Sa (CC : Addr) (TS : List (Addr × Str)) (p pl : Addr) (n : Nat) (L : List (Addr × HO)) (CL : List (Addr × List (Str × Int))) (l : Addr) (us : List (Str × Str)) (H : Hp) : Prop where
  sw : Sw CC TS p pl n L CL H
  acc : ∃ ts, AccL H l ts ∧ ts.map Prod.snd = us
  n1 : l ≠ p
  n2 : l ≠ pl
  n3 : ∀ e ∈ L, e.1 ≠ l
section
variable {CC : Addr} {TS : List (Addr × Str)} {p pl : Addr} {n : Nat} {L : List (Addr × HO)} {CL : List (Addr × List (Str × Int))} {l : Addr} {us : List (Str × Str)} {H H' : Hp}
theorem Sa.ext (g : Sa CC TS p pl n L CL l us H) (x : ExtN H H') (t : Tabs TS H') : Sa CC TS p pl n L CL l us H' := by
  obtain ⟨ts, a, e⟩ := g.acc
  exact ⟨g.sw.ext x t, ⟨ts, a.extn x, e⟩, g.n1, g.n2, g.n3⟩
theorem Sa.same (g : Sa CC TS p pl n L CL l us H) (s : Same H H') : Sa CC TS p pl n L CL l us H' := g.ext (ExtN.of s) (g.sw.ht.ext s)
theorem Sa.one (g : Sw CC TS p pl n L CL H) {t : Addr} {x y : Str} (fl : H l = none) (h : H t = some (.tup [.str x, .str y])) : Sa CC TS p pl n L CL l [(x, y)] (upd H l (.lst [.ref t])) :=
  ⟨g.same (same_new fl), ⟨_, AccL.one fl h, rfl⟩, g.hp.ne_new fl, g.hp.ne_new2 fl, g.sv.off fl⟩
theorem Sa.push (g : Sa CC TS p pl n L CL l us H) {t : Addr} {x y : Str} {xs : List V} (hl : H l = some (.lst xs)) (h : H t = some (.tup [.str x, .str y])) : Sa CC TS p pl n L CL l (us ++ [(x, y)]) (upd H l (.lst (xs ++ [.ref t]))) := by
  obtain ⟨ts, a, e⟩ := g.acc
  obtain rfl : xs = ts.map fun t => V.ref t.1 := by
    have := a.at_
    rw [hl] at this
    cases this
    rfl
  exact ⟨g.sw.lput hl g.n1 g.n2 g.n3, ⟨_, a.push h, by rw [List.map_append, e]; rfl⟩, g.n1, g.n2, g.n3⟩
theorem push_cut {K : PySem.W.Frag} {DC DN DS DW DX DM : Addr} {i : Nat} {t : XK → TE} {D : Ends} {σ : L2.St} {x y : Str} (hi : σ[i]? = some (some (V.ref l))) (g : Sa CC TS p pl n L CL l us H) (few : us.length < 5000)
    (ans : ∀ (H2 : Hp) (Q' : VK), Sw CC TS p pl n L CL H2 → (∀ u H', Same H2 H' → H2 u = none → H' u = some (.tup [.str x, .str y]) → Q' (.ref u) H') → t (HeardX K DC DN DS DW DX DM Q') σ H2 (HeardV Q'))
    (rest : ∀ H', Sa CC TS p pl n L CL l (us ++ [(x, y)]) H' → D.nx σ H') : tDrop (tBM K "list" rAppend (tVar i) (tCons (tLam TS (TTheard K DC DN DS DW DX DM) t) tNil)) D σ H := by
  obtain ⟨ts, a, e⟩ := id g.acc
  refine ⟨_, hi, .inl ⟨rfl, _, SqL.of a.at_⟩, g.sw.ht, fun H5 x5 t5 H6 s6 => ?_⟩
  have g6 := (g.ext x5 t5).same s6
  refine ans H6 _ g6.sw fun u H7 s7 n7 h7 => ?_
  have g7 := g6.same s7
  have hl : H7 l = some (.lst (ts.map fun t => V.ref t.1)) := s7 _ _ (s6 _ _ (x5 _ _ a.at_ (fun ps z => by cases z)))
  refine ⟨l, _, _, rfl, rfl, hl, ?_, rest _ (g7.push hl h7)⟩
  rw [List.length_map, show ts.length = us.length by rw [← e, List.length_map]]
  exact Nat.lt_trans few (by decide)
end
theorem crF_ws {wt pp dd : Addr} {s mn mx : Int} {sl fa : Str} : (crF wt s mn mx sl fa pp dd).lookup ("with_speed" : Str) = none := by
  unfold crF
  simp only [lookup_putF]
  rfl
theorem snd_cons {β : Type} {ts : List (Addr × β)} {x : β} {r : List β} (h : ts.map Prod.snd = x :: r) : ∃ u ts', ts = (u, x) :: ts' ∧ ts'.map Prod.snd = r := by
  cases ts with
  | nil => cases h
  | cons a l =>
    obtain ⟨h1, h2⟩ := List.cons.inj h
    exact ⟨a.1, l, by rw [← h1], h2⟩
theorem snd_nil {β : Type} {ts : List (Addr × β)} (h : ts.map Prod.snd = []) : ts = [] := List.map_eq_nil_iff.mp h
/-- a value that is no crew and no worker's name: its repr, its type -/
def Od2 (K : PySem.W.Frag) (L : List (Addr × HO)) (v : V) (z : Str) : Prop := ∀ H, Keeps L H → Anyv K H v ∧ Rp K H v z
structure OddR (K : PySem.W.Frag) (L : List (Addr × HO)) (ps : List (Str × Int)) (v : V) (z : Str) (T : String) : Prop where
  o : Od2 K L v z
  wk : isWk ps v = false
  nm : nameB v = false
  ln : ∀ w, v = .str w → w.length ≤ 1000000
  ty : T ∈ Ow.BTs
  bt : ∀ H, Keeps L H → Bt K H v T
structure BadR (K : PySem.W.Frag) (L : List (Addr × HO)) (v : V) (z : Str) (T : String) : Prop where
  o : Od2 K L v z
  sp : isSp v = false
  ty : T ∈ Ow.BTs
  bt : ∀ H, Keeps L H → Bt K H v T
theorem OddR.of {K : PySem.W.Frag} {L M : List (Addr × HO)} {ps : List (Str × Int)} {v : V} {z : Str} {T : String} (h : OddR K L ps v z T) (s : ∀ e ∈ L, e ∈ M) : OddR K M ps v z T := ⟨fun H k => h.o H (k.of s), h.wk, h.nm, h.ln, h.ty, fun H k => h.bt H (k.of s)⟩
theorem rp_nobody {K : PySem.W.Frag} {H : Hp} : Rp K H (.str (Str.ofString "nobody")) (Str.ofString "'nobody'") := by
  have h : Rp K H (.str (Str.ofString "nobody")) (reprText (Str.ofString "nobody")) := .str _ (by decide +kernel)
  rw [show reprText (Str.ofString "nobody") = Str.ofString "'nobody'" by decide +kernel] at h
  exact h
theorem mkw_bad {K : PySem.W.Frag} {CC DN DS DC DM : Addr} {ps : List (Str × Int)} {z : Str} {v : V} {H : Hp} {Q : VK} {E : XK} (nd : (ps.map (·.1)).Nodup) (ok : CwOk ps) (nz : nameT z = true) (bad : isSp v = false) (h : Bf DS "value" v H E) : MkC K CC DN DS DC DM (mrgS (dkP ps) [(z, v)]) H Q E := by
  have good : ∀ {as : List (Str × Int)}, (∀ q ∈ as, q ∈ ps) → ∀ q ∈ dkP as, isSp q.2 = true := fun sub q hq => by
    obtain ⟨r, hr, rfl⟩ := List.mem_map.mp hq
    show (decide (1 ≤ r.2) && decide (r.2 ≤ 60)) = true
    rw [decide_eq_true (ok r (sub r hr)).2.1, decide_eq_true (ok r (sub r hr)).2.2]; rfl
  have nms : ∀ {as : List (Str × Int)}, (∀ q ∈ as, q ∈ ps) → ∀ q ∈ dkP as, nameT q.1 = true := fun sub q hq => by
    obtain ⟨r, hr, rfl⟩ := List.mem_map.mp hq
    exact (ok r (sub r hr)).1
  show MkC K CC DN DS DC DM (if z ∈ (dkP ps).map (·.1) then (dkP ps).map (fun p => if p.1 = z then (p.1, v) else p) else dkP ps ++ [(z, v)]) H Q E
  have e : (dkP ps).map (·.1) = ps.map (·.1) := by unfold dkP; rw [List.map_map]; rfl
  rw [e]
  by_cases m : z ∈ ps.map (·.1)
  · rw [if_pos m]
    obtain ⟨q, hq, e1⟩ := List.mem_map.mp m
    obtain ⟨as, bs, eq⟩ := List.append_of_mem hq
    have ndz := nd
    rw [eq, List.map_append, List.map_cons, List.nodup_append] at ndz
    have n1 : ∀ x ∈ as, x.1 ≠ z := fun x hx e => ndz.2.2 x.1 (List.mem_map_of_mem hx) q.1 List.mem_cons_self (by rw [e, e1])
    have n2 : ∀ x ∈ bs, x.1 ≠ z := fun x hx e => (List.nodup_cons.mp ndz.2.1).1 (by rw [e1, ← e]; exact List.mem_map_of_mem hx)
    have same : ∀ {ls : List (Str × Int)}, (∀ x ∈ ls, x.1 ≠ z) → (dkP ls).map (fun p => if p.1 = z then (p.1, v) else p) = dkP ls := fun h => by
      refine (List.map_congr_left fun p hp => ?_).trans (List.map_id _)
      obtain ⟨r, hr, rfl⟩ := List.mem_map.mp hp
      exact if_neg (h r hr)
    have em : (dkP ps).map (fun p => if p.1 = z then (p.1, v) else p) = dkP as ++ (z, v) :: dkP bs := by
      rw [eq]
      have : dkP (as ++ q :: bs) = dkP as ++ (q.1, V.int q.2) :: dkP bs := by unfold dkP; rw [List.map_append]; rfl
      rw [this, List.map_append, List.map_cons, same n1, same n2, if_pos e1, e1]
    have sa : ∀ x ∈ as, x ∈ ps := fun x hx => by rw [eq]; exact List.mem_append_left _ hx
    have sb : ∀ x ∈ bs, x ∈ ps := fun x hx => by rw [eq]; exact List.mem_append_right _ (List.mem_cons_of_mem _ hx)
    rw [em]
    refine mkc_speed (fun x hx => ?_) (good sa) bad h
    rcases List.mem_append.mp hx with hx | hx
    · exact nms sa x hx
    · rcases List.mem_cons.mp hx with rfl | hx
      · exact nz
      · exact nms sb x hx
  · rw [if_neg m]
    refine mkc_speed (l := []) (fun x hx => ?_) (good fun _ h => h) bad h
    rcases List.mem_append.mp hx with hx | hx
    · exact nms (fun _ h => h) x hx
    · rw [List.mem_singleton.mp hx]; exact nz
/-! ### the repr of a dict of speeds -/
theorem str_app (a b : Str) : (a ++ b).length = a.length + b.length := size_cat a b
theorem join_few (sep : Str) : ∀ {ts : List Str} {m : Nat}, (∀ t ∈ ts, t.length ≤ m) → (Str.join sep ts).length ≤ ts.length * (m + sep.length)
  | [], _, _ => Nat.le_of_eq (by rw [List.length_nil, Nat.zero_mul]; rfl)
  | [x], m, h => by
    show x.length ≤ 1 * _
    have := h x List.mem_cons_self
    omega
  | x :: y :: r, m, h => by
    have ih := join_few sep (ts := y :: r) (m := m) fun t ht => h t (List.mem_cons_of_mem _ ht)
    have hx := h x List.mem_cons_self
    show (x ++ sep ++ Str.join sep (y :: r)).length ≤ _
    rw [str_app, str_app, List.length_cons, Nat.add_mul, Nat.one_mul]
    omega
theorem int_few : ∀ n : Nat, n ≤ 60 → (Str.ofString (toString (n : Int))).length ≤ 4 := by decide +kernel
theorem pair_few {q : Str × Int} (h : nameT q.1 = true ∧ 1 ≤ q.2 ∧ q.2 ≤ 60) : (PyData.shown (.str q.1) ++ ": " ++ PyData.shown (.int q.2)).length ≤ 100 := by
  obtain ⟨h1, h2, h3⟩ := h
  have l1 : (reprText q.1).length ≤ 10 * q.1.length + 2 := StrLaws.reprText_len q.1 fun c hc => Nat.lt_of_lt_of_le (name_ok h1 c hc) (by decide)
  have l2 := (name_len h1).2
  have e : q.1.length = q.1.cps.toList.length := by rw [Array.length_toList]; rfl
  obtain ⟨n, hn⟩ : ∃ n : Nat, q.2 = (n : Int) := ⟨q.2.toNat, by omega⟩
  have l3 := int_few n (by omega)
  rw [str_app, str_app]
  show (reprText q.1).length + (": " : Str).length + (Str.ofString (toString q.2)).length ≤ 100
  rw [hn]
  have : (": " : Str).length = 2 := by decide
  omega
theorem kv_shown : ∀ ks : List (Str × Int), PyData.shownKv (ks.map fun q => (PyData.str q.1, PyData.int q.2)) = ks.map fun q => PyData.shown (.str q.1) ++ ": " ++ PyData.shown (.int q.2)
  | [] => rfl
  | q :: r => by
    show (_ :: PyData.shownKv (r.map _)) = _
    rw [kv_shown r]; rfl
theorem kv_showable : ∀ {ks : List (Str × Int)}, (∀ q ∈ ks, 1 ≤ q.2 ∧ q.2 ≤ 60) → PyData.showableKv (ks.map fun q => (PyData.str q.1, PyData.int q.2)) = true
  | [], _ => rfl
  | q :: r, h => by
    have h1 := h q List.mem_cons_self
    show ((true && decide (q.2.natAbs.log2 < 1920)) && PyData.showableKv (r.map _)) = true
    rw [kv_showable fun x hx => h x (List.mem_cons_of_mem _ hx), decide_eq_true (Nat.lt_trans (log_few (n := q.2.natAbs) (by omega)) (by decide))]; rfl
theorem kv_depth : ∀ ks : List (Str × Int), PyData.depthKv (ks.map fun q => (PyData.str q.1, PyData.int q.2)) = 0
  | [] => rfl
  | q :: r => by
    show max 0 (max 0 (PyData.depthKv (r.map _))) = 0
    rw [kv_depth r]; rfl
abbrev dSp (ks : List (Str × Int)) : PyData := .dict (ks.map fun q => (PyData.str q.1, PyData.int q.2))
theorem rp_dict {K : PySem.W.Frag} {H : Hp} {d : Addr} {ks : List (Str × Int)} (ok : KsOk ks) (h : H d = some (.dK (dkI ks))) : Rp K H (.ref d) (dSp ks).shown := by
  refine .dks (by rw [h]; unfold dkI dkOf; rw [List.map_map]; rfl) (kv_showable fun q hq => (ok.2.2.2 q hq).2) ?_ ?_
  · show PyData.depthKv _ + 1 ≤ 2
    rw [kv_depth]; decide
  · show (dictText (PyData.shownKv _)).length ≤ sizeLine
    unfold dictText
    rw [kv_shown, str_app, str_app]
    have := join_few ", " (ts := ks.map fun q => PyData.shown (.str q.1) ++ ": " ++ PyData.shown (.int q.2)) (m := 100) fun t ht => by
      obtain ⟨q, hq, rfl⟩ := List.mem_map.mp ht
      exact pair_few (ok.2.2.2 q hq)
    rw [List.length_map] at this
    have l8 := ok.2.2.1
    have e1 : ("{" : Str).length = 1 := by decide
    have e2 : ("}" : Str).length = 1 := by decide
    have e3 : (", " : Str).length = 2 := by decide
    rw [e3] at this
    have : ks.length * (100 + 2) ≤ 8 * 102 := Nat.mul_le_mul_right _ l8
    have big : 1000 ≤ sizeLine := by decide
    omega
def spLrf (K : PySem.W.Frag) (CC : Addr) (TS : List (Addr × Str)) : Sp := fun vs H Q _ => ∃ (p pl : Addr) (n : Nat) (d : Addr) (ks : List (Str × Int)) (L : List (Addr × HO)), vs = [.ref p, .ref d] ∧ Sv TS p pl n L H ∧ n ≤ 900000 ∧ (d, HO.dK (dkI ks)) ∈ L ∧ KsOk ks ∧ (∀ q ∈ ks, q.1 ≠ "nobody") ∧
  ∀ H', Sv TS p pl (n + 2) L H' → Q (.bl true) H'
section
variable {P : Program} {w : World} {K : PySem.W.Frag} {mg : Str → Option Value} {base : Heap}
theorem scLrf : FnScope ["_law_pen_here", "_law_speeds_here", "_law_bad", "_law_heard_here", "_law_due", "_law_one", "_law_odd"] ["_law_pen_here", "_law_speeds_here"] (C8.fnScope sLrf) := C8.fnScope_by (by decide +kernel)
set_option maxHeartbeats 4000000 in
theorem cal_lrf {f c0 B CC DC DN DS DW DX DM L gH fI : Addr} {TS : List (Addr × Str)} {fd fdH : FuncData} (F : DefC K mg "_law_refused_right" sLrf f fd c0) (b : Binds K fd ["_law_pen_here", "_law_speeds_here"] []) (FH : C8.Def K mg "_law_heard" sHea gH fdH) (bH : Binds K fdH ["_law_ask"] []) (TB : TabB base mg c0 B) (TO : TabOf TS B "_law_refused_right")
    (R : Hrd K mg DC DN DS DW DX DM L) (T : TxtC mg) (O : CrK P w K mg base CC DN DS DC DM DW fI) (OC : OpC P w K mg base CC DN DS DC DM DW) (XO : StC P w K mg base CC DN DS DC DM) (XW : WsK P w K mg base CC DN DS DC DM) (NB : NbC K CC)
    (DP : C8.Cal P w K mg base 2 "_law_pick" (spPick K) []) : CalG P w K mg base 19 "_law_refused_right" (spLrf K CC TS) [] := by
  have CM := O.CM
  obtain ⟨ocH, odH, dVH, kVH, docH, pmH, anH, cdvH, ctH, oslH, rfl, lkH, cdH⟩ := FH.fn.ex
  obtain ⟨pO, gO, fdO, gUO, ⟨SO, FO, bO⟩, KBO⟩ := XO.ex
  obtain ⟨gW, fdW, gUW, hW, FW, bW, KBW⟩ := XW.ex
  refine calGC F b .nil scLrf (fun vs H Q E h => ?_) (fun A outer st H vs Q E hG hr h => ?_)
  · obtain ⟨p, pl, n, d, ks, L, rfl, _⟩ := h
    rfl
  · obtain ⟨p, pl, n, d, ks, L, rfl, S0, hn, md, ok1, far, k⟩ := h
    refine ⟨_, (pss_cons (ps_asg (pe_tup (pa_cons (pe_static (E := C8.E0) (pe_glob (v := .ref CC) (by rfl) CM.Z.hm rfl) SO FO (hr.mono (by decide)) bO .nil (passes_call takes0 (fun _ _ _ _ z => z)) (pa_cons (pv 1) pa_nil)) (pa_cons (C8.pe_c DP hr (by decide) (by rfl) (pa_cons (pv 0) (pa_cons (pe_lst (pa_cons pe_non (pa_cons pe_int (pa_cons (pv 1) (pa_cons pe_str (pa_cons (pe_tup (pa_cons pe_str pa_nil)) (pa_cons (pe_lst pa_nil) (pa_cons pe_bl pa_nil)))))))) pa_nil))) pa_nil))) (pg_tup (by rfl) (pgs_cons (pg_name (i := 5) scLrf.nd rfl (Or.inr rfl)) (pgs_cons (pg_name (i := 6) scLrf.nd rfl (Or.inr rfl)) pgs_nil))))
  (pss_cons (ps_set (i := 2) scLrf.nd rfl (Or.inr rfl) (C8.pe_c DP hr (by decide) (by rfl) (pa_cons (pv 0) (pa_cons (pe_lst (pa_cons pe_non (pa_cons pe_int (pa_cons (pe_un un_neg pe_int) (pa_cons pe_int (pa_cons pe_bl (pa_cons pe_str (pa_cons (pe_lst (pa_cons pe_int pa_nil)) (pa_cons (pe_op op_pow pe_int pe_int) pa_nil))))))))) pa_nil))))
  (pss_cons (ps_set (i := 3) scLrf.nd rfl (Or.inl rfl) (pe_lst (pa_cons (pe_lamcall (k := 16) (T := TS) (TT := TTheard K DC DN DS DW DX DM) (by rfl) FH.mgf FH.kp lkH cdH bH scHea rfl (.inl rfl) (heard_gives R T.toTxt hG (hr.mono (by decide))) TB rfl TO.mem TO.own (hr.mono (by decide)) (lamS_by (by rfl)) rfl (fun _ _ _ _ _ => rfl)
      (fun A outer s H E f c2 hr2 => (by exact (pe_op (op_of (op := .Add) (half_lftNK K rfl (nm := "add") OC.MA (passes_call (takes_of rfl rfl rfl rfl) (fun _ _ _ _ z => z)) OC.first OC.radd (by decide) hr2 (Nat.le_of_ble_eq_true rfl))) (pv 5) (pv 6))))) pa_nil)))
  (pss_cons (ps_expr (pe_bm PySem.F.plainAttrs_list PySem.F.slot_list_append PySem.F.type_list_append mt_append (pv 3) (pa_cons (pe_lamcall (k := 16) (T := TS) (TT := TTheard K DC DN DS DW DX DM) (by rfl) FH.mgf FH.kp lkH cdH bH scHea rfl (.inl rfl) (heard_gives R T.toTxt hG (hr.mono (by decide))) TB rfl TO.mem TO.own (hr.mono (by decide)) (lamS_by (by rfl)) rfl (fun _ _ _ _ _ => rfl)
      (fun A outer s H E f c2 hr2 => (by exact (pe_cmpR (op_cmpXK (op := .LtE) K rfl (fun _ _ => rfl) OC.LE (passes_call (takes_of rfl rfl rfl rfl) (fun _ _ _ _ z => z)) hr2 (Nat.le_of_ble_eq_true rfl)) (pv 5) (pv 6) (nomark _))))) pa_nil)))
  (pss_cons (ps_expr (pe_bm PySem.F.plainAttrs_list PySem.F.slot_list_append PySem.F.type_list_append mt_append (pv 3) (pa_cons (pe_lamcall (k := 16) (T := TS) (TT := TTheard K DC DN DS DW DX DM) (by rfl) FH.mgf FH.kp lkH cdH bH scHea rfl (.inl rfl) (heard_gives R T.toTxt hG (hr.mono (by decide))) TB rfl TO.mem TO.own (hr.mono (by decide)) (lamS_by (by rfl)) rfl (fun _ _ _ _ _ => rfl)
      (fun A outer s H E f c2 hr2 => (by exact (pe_cmpR (op_cmpXK (op := .Lt) K rfl (fun _ _ => rfl) OC.LT (passes_call (takes_of rfl rfl rfl rfl) (fun _ _ _ _ z => z)) hr2 (Nat.le_of_ble_eq_true rfl)) (pv 5) (pv 6) (nomark _))))) pa_nil)))
  (pss_cons (ps_expr (pe_bm PySem.F.plainAttrs_list PySem.F.slot_list_append PySem.F.type_list_append mt_append (pv 3) (pa_cons (pe_lamcall (k := 16) (T := TS) (TT := TTheard K DC DN DS DW DX DM) (by rfl) FH.mgf FH.kp lkH cdH bH scHea rfl (.inl rfl) (heard_gives R T.toTxt hG (hr.mono (by decide))) TB rfl TO.mem TO.own (hr.mono (by decide)) (lamS_by (by rfl)) rfl (fun _ _ _ _ _ => rfl)
      (fun A outer s H E f c2 hr2 => (by exact (pe_op (op_of (op := .Sub) (half_lftNK K rfl (nm := "sub") OC.MU (passes_call (takes_of rfl rfl rfl rfl) (fun _ _ _ _ z => z)) OC.first OC.rsub (by decide) hr2 (Nat.le_of_ble_eq_true rfl))) (pv 5) (pv 6))))) pa_nil)))
  (pss_cons (ps_expr (pe_bm PySem.F.plainAttrs_list PySem.F.slot_list_append PySem.F.type_list_append mt_append (pv 3) (pa_cons (pe_lamcall (k := 16) (T := TS) (TT := TTheard K DC DN DS DW DX DM) (by rfl) FH.mgf FH.kp lkH cdH bH scHea rfl (.inl rfl) (heard_gives R T.toTxt hG (hr.mono (by decide))) TB rfl TO.mem TO.own (hr.mono (by decide)) (lamS_by (by rfl)) rfl (fun _ _ _ _ _ => rfl)
      (fun A outer s H E f c2 hr2 => (by exact (pe_op (op_of (op := .Sub) (half_lftNK K rfl (nm := "sub") OC.MU (passes_call (takes_of rfl rfl rfl rfl) (fun _ _ _ _ z => z)) OC.first OC.rsub (by decide) hr2 (Nat.le_of_ble_eq_true rfl))) (pv 5) pe_str)))) pa_nil)))
  (pss_cons (ps_expr (pe_bm PySem.F.plainAttrs_list PySem.F.slot_list_append PySem.F.type_list_append mt_append (pv 3) (pa_cons (pe_lamcall (k := 16) (T := TS) (TT := TTheard K DC DN DS DW DX DM) (by rfl) FH.mgf FH.kp lkH cdH bH scHea rfl (.inl rfl) (heard_gives R T.toTxt hG (hr.mono (by decide))) TB rfl TO.mem TO.own (hr.mono (by decide)) (lamS_by (by rfl)) rfl (fun _ _ _ _ _ => rfl)
      (fun A outer s H E f c2 hr2 => (by exact (pe_op (op_of (op := .Mult) (half_lftK K rfl (nm := "mul") OC.MM (passes_call (takes_of rfl rfl rfl rfl) (fun _ _ _ _ z => z)) OC.first OC.rmul (by decide) hr2 (Nat.le_of_ble_eq_true rfl))) (pv 5) (pv 2))))) pa_nil)))
  (pss_cons (ps_expr (pe_bm PySem.F.plainAttrs_list PySem.F.slot_list_append PySem.F.type_list_append mt_append (pv 3) (pa_cons (pe_lamcall (k := 16) (T := TS) (TT := TTheard K DC DN DS DW DX DM) (by rfl) FH.mgf FH.kp lkH cdH bH scHea rfl (.inl rfl) (heard_gives R T.toTxt hG (hr.mono (by decide))) TB rfl TO.mem TO.own (hr.mono (by decide)) (lamS_by (by rfl)) rfl (fun _ _ _ _ _ => rfl)
      (fun A outer s H E f c2 hr2 => (by exact (pe_meth (pv 5) CM.Z.cl hW FW (hr2.mono (by decide)) bW .nil (passes_call (takes_of rfl rfl rfl rfl) (fun _ _ _ _ z => z)) (pa_cons (pv 6) (pa_cons (pv 2) pa_nil)))))) pa_nil)))
  (pss_cons (ps_expr (pe_bm PySem.F.plainAttrs_list PySem.F.slot_list_append PySem.F.type_list_append mt_append (pv 3) (pa_cons (pe_lamcall (k := 16) (T := TS) (TT := TTheard K DC DN DS DW DX DM) (by rfl) FH.mgf FH.kp lkH cdH bH scHea rfl (.inl rfl) (heard_gives R T.toTxt hG (hr.mono (by decide))) TB rfl TO.mem TO.own (hr.mono (by decide)) (lamS_by (by rfl)) rfl (fun _ _ _ _ _ => rfl)
      (fun A outer s H E f c2 hr2 => (by exact (pe_meth (pv 5) CM.Z.cl hW FW (hr2.mono (by decide)) bW .nil (passes_call (takes_of rfl rfl rfl rfl) (fun _ _ _ _ z => z)) (pa_cons pe_str (pa_cons (pv 2) pa_nil)))))) pa_nil)))
  (pss_cons (ps_set (i := 4) scLrf.nd rfl (Or.inl rfl) (pe_op op_cat (pe_op op_rep (pe_lst (pa_cons (pe_tup (pa_cons pe_str (pa_cons pe_str pa_nil))) pa_nil)) pe_int) (pe_lst (pa_cons (pe_tup (pa_cons pe_str (pa_cons (pe_callB (call_reprX hG (hr.mono (by decide))) (by rfl) T.n_repr (by decide +kernel) (pa_cons (pv 6) pa_nil)) pa_nil))) (pa_cons (pe_tup (pa_cons pe_str (pa_cons pe_str pa_nil))) (pa_cons (pe_tup (pa_cons pe_str (pa_cons (pe_callB (call_reprX hG (hr.mono (by decide))) (by rfl) T.n_repr (by decide +kernel) (pa_cons (pv 2) pa_nil)) pa_nil))) pa_nil))))))
  (pss_one (ps_ret (pe_cmpR (op_eqAns K rfl (E := C8.E0) O.ME (passes_call takes0 (fun _ _ _ _ z => z)) hr (by decide)) (pv 3) (pe_op op_cat (pv 4) (pe_lst (pa_cons (pe_tup (pa_cons pe_str (pa_cons (pe_callB (call_reprX hG (hr.mono (by decide))) (by rfl) T.n_repr (by decide +kernel) (pa_cons (pv 6) pa_nil)) pa_nil))) (pa_cons (pe_tup (pa_cons pe_str (pa_cons (pe_callB (call_reprX hG (hr.mono (by decide))) (by rfl) T.n_repr (by decide +kernel) (pa_cons (pv 2) pa_nil)) pa_nil))) pa_nil)))) (nomark _))))))))))))))), ?_⟩
    have S0 : Sw CC TS p pl n L [] H := ⟨S0, fun e he => (by cases he)⟩
    refine ⟨rfl, _, rfl, cof_ok ok1 (S0.get md) fun c1 Ha ps sa fa cwa _ sr1 => ?_⟩
    have S1 := (S0.same sa).addc (sr1.cwg ok1 cwa)
    clear S0 sa fa cwa
    refine ⟨_, rfl, _, rfl, (by show 1 ≤ sizeLine; decide), fun tq ftq => ⟨(by show 0 ≤ sizeLine; decide), fun lq flq => ⟨(by show 7 ≤ sizeLine; decide), fun q fq => ?_⟩⟩⟩
    have S2 := S1.fresh (o := HO.tup [V.str (Str.ofString "a")]) ftq (fun ps z => by cases z)
    have S3 := S2.fresh (o := HO.lst []) flq (fun ps z => by cases z)
    have S4 := S3.same (same_new (o := HO.lst [V.non, V.int 0, V.ref d, V.str (Str.ofString "a 1"), V.ref tq, V.ref lq, V.bl true]) fq)
    refine ⟨p, pl, q, n, _, rfl, S4.hp, by omega, SqL.of upd_same, S3.hp.ne_new fq, by show 0 < 7; decide, by show 7 < 1000000; decide, fun j odd Hb hj hpb kb => ?_⟩
    have S5 := S4.draw hpb kb
    obtain ⟨L1, eL1⟩ : ∃ L1, L1 = (lq, HO.lst []) :: (tq, HO.tup [V.str (Str.ofString "a")]) :: L := ⟨_, rfl⟩
    rw [← eL1] at S5
    have mL : ∀ e ∈ L, e ∈ L1 := fun e he => by rw [eL1]; exact List.mem_cons_of_mem _ (List.mem_cons_of_mem _ he)
    have okn : ∀ w : Str, nameT w = false → isWk ps (.str w) = false := fun w hw => decide_eq_false fun m => by
      obtain ⟨q, hq, rfl⟩ := List.mem_map.mp m
      rw [((S1.crew (c := c1) (ps := ps) (by simp)).okn q hq)] at hw
      cases hw
    obtain ⟨zo, To, hodd⟩ : ∃ z T, OddR K L1 ps odd z T := by
      have hv := List.mem_of_getElem? hj
      have at1 : ∀ H : Hp, Keeps L1 H → H tq = some (.tup [V.str (Str.ofString "a")]) := fun H k => k (tq, _) (by rw [eL1]; exact List.mem_cons_of_mem _ List.mem_cons_self)
      have at2 : ∀ H : Hp, Keeps L1 H → H lq = some (.lst []) := fun H k => k (lq, _) (by rw [eL1]; exact List.mem_cons_self)
      have at3 : ∀ H : Hp, Keeps L1 H → H d = some (.dK (dkI ks)) := fun H k => k (d, _) (mL _ md)
      simp only [List.mem_cons, List.not_mem_nil, or_false] at hv
      rcases hv with rfl | rfl | rfl | rfl | rfl | rfl | rfl
      · exact ⟨_, "NoneType", fun H _ => ⟨.non, .non⟩, rfl, rfl, fun w e => (by cases e), by decide, fun H _ => .bare (.base .non) (by decide)⟩
      · exact ⟨_, "int", fun H _ => ⟨.int _, .int _ (by decide +kernel)⟩, rfl, rfl, fun w e => (by cases e), by decide, fun H _ => .int _⟩
      · exact ⟨_, "dict", fun H k => ⟨any_dK (at3 H k), rp_dict ok1 (at3 H k)⟩, rfl, rfl, fun w e => (by cases e), by decide, fun H k => .bare (.base (.dK (at3 H k))) (by decide)⟩
      · exact ⟨_, "str", fun H _ => ⟨.str _, .str _ (by decide +kernel)⟩, okn _ (by decide +kernel), by decide +kernel, fun w e => (by cases e; decide +kernel), by decide, fun H _ => bt_str _⟩
      · exact ⟨_, "tuple", fun H k => ⟨any_tup (at1 H k), .data (d := .tuple [.str (Str.ofString "a")]) (.tup (SqT.of (at1 H k)) (.cons (.str _) .nil)) (by decide +kernel) (by decide +kernel) (by decide +kernel) (by decide +kernel)⟩, rfl, rfl, fun w e => (by cases e), by decide, fun H k => .bare (.base (.tup (at1 H k))) (by decide)⟩
      · exact ⟨_, "list", fun H k => ⟨any_lst (at2 H k), .data (d := .list []) (.lst (SqL.of (at2 H k)) .nil) (by decide +kernel) (by decide +kernel) (by decide +kernel) (by decide +kernel)⟩, rfl, rfl, fun w e => (by cases e), by decide, fun H k => .bare (.base (.lst (at2 H k))) (by decide)⟩
      · exact ⟨_, "bool", fun H _ => ⟨.bl _, .bl _⟩, rfl, rfl, fun w e => (by cases e), by decide, fun H _ => .bl _⟩
    clear S1 S2 S3 S4 hj hpb kb fq flq ftq okn
    refine ⟨(by show 2 ≤ sizeLine; decide), fun T1 fT => ⟨T1, _, rfl, SqT.of upd_same, rfl, _, _, rfl, _, _, rfl, rfl, ?_⟩⟩
    have S6 := S5.same (same_new (o := HO.tup [V.ref c1, odd]) fT)
    clear S5
    revert S6
    generalize upd Hb T1 _ = H6
    intro S6
    clear fT
    dsimp only [gName, tSeq]
    refine ⟨_, rfl, _, rfl, (by show 1 ≤ sizeLine; decide), fun l1 fl1 => ⟨_, _, rfl, rfl, (by unfold CPow; decide), (by show 8 ≤ sizeLine; decide), fun q fq => ?_⟩⟩
    have S7 := S6.fresh (o := HO.lst [V.int 1]) fl1 (fun ps z => by cases z)
    have S8 := S7.same (same_new (o := HO.lst [V.non, V.int 0, V.int (-2), V.int 61, V.bl true, V.str (Str.ofString "2"), V.ref l1, V.int ((10 : Int) ^ (30 : Int).toNat)]) fq)
    refine ⟨p, pl, q, n + 1, _, rfl, S8.hp, by omega, SqL.of upd_same, S7.hp.ne_new fq, by show 0 < 8; decide, by show 8 < 1000000; decide, fun j bad Hc hj hpc kc => ?_⟩
    have S9 := S8.draw hpc kc
    obtain ⟨LB, eLB⟩ : ∃ LB, LB = (l1, HO.lst [V.int 1]) :: L1 := ⟨_, rfl⟩
    rw [← eLB] at S9
    have mLB : ∀ e ∈ L1, e ∈ LB := fun e he => by rw [eLB]; exact List.mem_cons_of_mem _ he
    have hodd := hodd.of mLB
    obtain ⟨zb, Tb, hbad⟩ : ∃ z T, BadR K LB bad z T := by
      have hv := List.mem_of_getElem? hj
      have at1 : ∀ H : Hp, Keeps LB H → H l1 = some (.lst [V.int 1]) := fun H k => k (l1, _) (by rw [eLB]; exact List.mem_cons_self)
      simp only [List.mem_cons, List.not_mem_nil, or_false] at hv
      rcases hv with rfl | rfl | rfl | rfl | rfl | rfl | rfl | rfl
      · exact ⟨_, "NoneType", fun H _ => ⟨.non, .non⟩, rfl, by decide, fun H _ => .bare (.base .non) (by decide)⟩
      · exact ⟨_, "int", fun H _ => ⟨.int _, .int _ (by decide +kernel)⟩, by decide +kernel, by decide, fun H _ => .int _⟩
      · exact ⟨_, "int", fun H _ => ⟨.int _, .int _ (by decide +kernel)⟩, by decide +kernel, by decide, fun H _ => .int _⟩
      · exact ⟨_, "int", fun H _ => ⟨.int _, .int _ (by decide +kernel)⟩, by decide +kernel, by decide, fun H _ => .int _⟩
      · exact ⟨_, "bool", fun H _ => ⟨.bl _, .bl _⟩, rfl, by decide, fun H _ => .bl _⟩
      · exact ⟨_, "str", fun H _ => ⟨.str _, .str _ (by decide +kernel)⟩, rfl, by decide, fun H _ => bt_str _⟩
      · exact ⟨_, "list", fun H k => ⟨any_lst (at1 H k), .data (d := .list [.int 1]) (.lst (SqL.of (at1 H k)) (.cons (.int _) .nil)) (by decide +kernel) (by decide +kernel) (by decide +kernel) (by decide +kernel)⟩, rfl, by decide, fun H k => .bare (.base (.lst (at1 H k))) (by decide)⟩
      · exact ⟨_, "int", fun H _ => ⟨.int _, .int _ (by decide +kernel)⟩, by decide +kernel, by decide, fun H _ => .int _⟩
    clear S6 S7 S8 hj hpc kc fq fl1
    dsimp only [gName, tSeq]
    have Fo : ∀ {H2 : Hp}, Sw CC TS p pl (n + 1 + 1) LB [(c1, ps)] H2 → (CwG CC H2 c1 ps ∧ Keeps LB H2) := fun S => ⟨S.crew (by simp), S.sv.kL⟩
    have nfo := NB.at_ hodd.ty
    refine asg_cut (fun x H' => ∃ l, x = .ref l ∧ Sa CC TS p pl (n + 1 + 1) LB [(c1, ps)] l [(Str.ofString "crew", Str.ofString "other")] H') (fun x H10 hx => ?_) (fun QQ go => ?_)
    rotate_left
    · refine cons_i ⟨S9.ht, fun H7 x7 t7 H8 s8 => ?_⟩
      have S10 := (S9.ext x7 t7).same s8
      obtain ⟨g1, kL⟩ := Fo S10
      obtain ⟨dx, fs, hc⟩ := g1.ins
      refine ⟨_, rfl, _, rfl, c1, dx, fs, To, rfl, hc, hodd.bt _ kL, c1, ps, odd, rfl, g1, .inl ⟨.type To, .x (hodd.bt _ kL).tyx.1, nfo.2, hd_crew fun u H3 s n h => ⟨(by show 1 ≤ sizeLine; decide), fun l fl => ?_⟩⟩⟩
      exact go _ _ ⟨l, rfl, Sa.one (S10.same s) fl h⟩
    obtain ⟨l, rfl, A⟩ := hx
    clear S9
    dsimp only [tSeq]
    refine push_cut (x := Str.ofString "crew") (y := Str.ofString "other") rfl A (by simp) (fun H2 Q' S y => ?_) (fun H11 B => ?_)
    · obtain ⟨g1, kL⟩ := Fo S
      obtain ⟨dx, fs, hc⟩ := g1.ins
      exact ⟨_, rfl, _, rfl, c1, dx, fs, .type To, rfl, hc, (hodd.bt _ kL).tyx.1, nfo.1, c1, ps, odd, rfl, g1, .inl ⟨.type To, .x (hodd.bt _ kL).tyx.1, nfo.2, hd_crew fun u H3 s n h => y u H3 s n h⟩⟩
    clear A
    dsimp only [tSeq]
    refine push_cut (x := Str.ofString "crew") (y := Str.ofString "other") rfl B (by simp) (fun H2 Q' S y => ?_) (fun H12 A => ?_)
    · obtain ⟨g1, kL⟩ := Fo S
      obtain ⟨dx, fs, hc⟩ := g1.ins
      exact ⟨_, rfl, _, rfl, c1, dx, fs, .type To, rfl, hc, (hodd.bt _ kL).tyx.1, nfo.1, c1, ps, odd, rfl, g1, .inl ⟨.type To, (hodd.bt _ kL).tyx.1, nfo.2, nfo.1, hd_crew fun u H3 s n h => y u H3 s n h⟩⟩
    clear B
    dsimp only [tSeq]
    refine push_cut (x := Str.ofString "worker") (y := zo) rfl A (by simp) (fun H2 Q' S y => ?_) (fun H13 B => ?_)
    · obtain ⟨g1, kL⟩ := Fo S
      obtain ⟨dx, fs, hc⟩ := g1.ins
      refine ⟨_, rfl, _, rfl, c1, dx, fs, To, rfl, hc, hodd.bt _ kL, c1, ps, odd, rfl, g1, (hodd.o _ kL).1, fun _ => hd_wk (fun H' s => Rp.same s (hodd.o _ kL).2) fun u H3 s n h => y u H3 s n h, fun z e hz => ?_⟩
      have := hodd.wk
      rw [e] at this
      exact absurd hz (of_decide_eq_false this)
    clear A
    dsimp only [tSeq]
    have nob : isWk ps (.str (Str.ofString "nobody")) = false := decide_eq_false fun m => by
      obtain ⟨q, hq, e⟩ := List.mem_map.mp m
      exact far q (sr1.1.subset hq) e
    refine push_cut (x := Str.ofString "worker") (y := Str.ofString "'nobody'") rfl B (by simp) (fun H2 Q' S y => ?_) (fun H14 A => ?_)
    · obtain ⟨g1, kL⟩ := Fo S
      obtain ⟨dx, fs, hc⟩ := g1.ins
      refine ⟨_, rfl, c1, dx, fs, "str", rfl, hc, bt_str _, c1, ps, _, rfl, g1, .str _, fun _ => hd_wk (fun H' s => (show Rp K H' (.str (Str.ofString "nobody")) (Str.ofString "'nobody'") from rp_nobody)) fun u H3 s n h => y u H3 s n h, fun z e hz => ?_⟩
      cases e
      exact absurd hz (of_decide_eq_false nob)
    clear B
    dsimp only [tSeq]
    refine push_cut (x := Str.ofString "speed") (y := zb) rfl A (by simp) (fun H2 Q' S y => ?_) (fun H15 B => ?_)
    · obtain ⟨g1, kL⟩ := Fo S
      obtain ⟨dx, fs, hc⟩ := g1.ins
      refine ⟨_, rfl, _, rfl, c1, dx, fs, Tb, rfl, hc, hbad.bt _ kL, c1, ps, bad, rfl, g1, (hbad.o _ kL).1, fun _ => hd_speed (fun H' s => Rp.same s (hbad.o _ kL).2) fun u H3 s n h => y u H3 s n h, fun m e h1 h2 => ?_⟩
      have := hbad.sp
      rw [e] at this
      have e2 : isSp (.int m) = true := by
        show (decide (1 ≤ m) && decide (m ≤ 60)) = true
        rw [decide_eq_true h1, decide_eq_true h2]; rfl
      rw [e2] at this
      cases this
    clear A
    dsimp only [tSeq]
    refine push_cut (x := Str.ofString "name") (y := zo) rfl B (by simp) (fun H2 Q' S y => ?_) (fun H16 A => ?_)
    · obtain ⟨g1, kL⟩ := Fo S
      obtain ⟨dx, wt, pp, dd, ts, mn, mx, sl, fa, hc, _⟩ := id g1.at_
      refine ⟨_, rfl, c1, dx, _, rfl, hc, crF_ws, _, rfl, _, rfl, c1, ps, odd, bad, rfl, g1, (hodd.o _ kL).1, hodd.ln, (hbad.o _ kL).1, fun _ => hd_name (fun H' s => Rp.same s (hodd.o _ kL).2) fun u H3 s n h => y u H3 s n h, fun z e hz => ?_⟩
      have := hodd.nm
      rw [e] at this
      have hz : nameB (.str z) = true := hz
      rw [hz] at this
      cases this
    clear B
    dsimp only [tSeq]
    refine push_cut (x := Str.ofString "speed") (y := zb) rfl A (by simp) (fun H2 Q' S y => ?_) (fun H17 B => ?_)
    · obtain ⟨g1, kL⟩ := Fo S
      obtain ⟨dx, wt, pp, dd, ts, mn, mx, sl, fa, hc, _⟩ := id g1.at_
      refine ⟨_, rfl, c1, dx, _, rfl, hc, crF_ws, _, rfl, c1, ps, .str (Str.ofString "a"), bad, rfl, g1, .str _, fun w e => (by cases e; decide +kernel), (hbad.o _ kL).1, fun b => absurd b (by decide +kernel), fun z e hz => ?_⟩
      cases e
      exact mkw_bad g1.nd g1.ok hz hbad.sp (hd_speed (fun H' s => Rp.same s (hbad.o _ kL).2) fun u H3 s n h => y u H3 s n h)
    clear A
    dsimp only [tSeq]
    refine asg_cut (fun x H' => ∃ D t0 t1 t2 t3, x = .ref D ∧ Sa CC TS p pl (n + 1 + 1) LB [(c1, ps)] l ([(Str.ofString "crew", Str.ofString "other")] ++ [(Str.ofString "crew", Str.ofString "other")] ++ [(Str.ofString "crew", Str.ofString "other")] ++ [(Str.ofString "worker", zo)] ++ [(Str.ofString "worker", Str.ofString "'nobody'")] ++ [(Str.ofString "speed", zb)] ++ [(Str.ofString "name", zo)] ++ [(Str.ofString "speed", zb)]) H' ∧
      H' D = some (.lst [.ref t0, .ref t0, .ref t0, .ref t1, .ref t2, .ref t3]) ∧ H' t0 = some (.tup [.str (Str.ofString "crew"), .str (Str.ofString "other")]) ∧ H' t1 = some (.tup [.str (Str.ofString "worker"), .str zo]) ∧ H' t2 = some (.tup [.str (Str.ofString "worker"), .str (Str.ofString "'nobody'")]) ∧ H' t3 = some (.tup [.str (Str.ofString "speed"), .str zb])) (fun x H18 hx => ?_) (fun QQ go => ?_)
    rotate_left
    · refine ⟨(by show 2 ≤ sizeLine; decide), fun t0 f0 => ⟨(by show 1 ≤ sizeLine; decide), fun a0 fa0 => ⟨a0, 3, _, rfl, rfl, upd_same, by decide, by decide, (by show 1 * 3 ≤ sizeLine; decide), fun a1 fa1 => ?_⟩⟩⟩
      have s0 := same_new (o := HO.tup [V.str (Str.ofString "crew"), V.str (Str.ofString "other")]) f0
      have s1 := same_new (o := HO.lst [V.ref t0]) fa0
      have s2 := same_new (o := HO.lst [V.ref t0, V.ref t0, V.ref t0]) fa1
      have e0 := s2 _ _ (s1 _ _ (upd_same (H := H17) (a := t0) (o := HO.tup [V.str (Str.ofString "crew"), V.str (Str.ofString "other")])))
      have B1 := ((B.same s0).same s1).same s2
      have ea1 : upd (upd (upd H17 t0 (.tup [V.str (Str.ofString "crew"), V.str (Str.ofString "other")])) a0 (.lst [V.ref t0])) a1 (.lst [V.ref t0, V.ref t0, V.ref t0]) a1 = some (.lst [V.ref t0, V.ref t0, V.ref t0]) := upd_same
      rw [show (List.replicate (3 : Int).toNat [V.ref t0]).flatten = [V.ref t0, V.ref t0, V.ref t0] from rfl]
      generalize upd (upd (upd H17 t0 (.tup [V.str (Str.ofString "crew"), V.str (Str.ofString "other")])) a0 (.lst [V.ref t0])) a1 (.lst [V.ref t0, V.ref t0, V.ref t0]) = H18 at e0 B1 ea1 ⊢
      clear s0 s1 s2 f0 fa0 fa1
      obtain ⟨_, kL⟩ := Fo B1.sw
      refine ⟨_, rfl, odd, zo, rfl, (hodd.o _ kL).2, (by show 2 ≤ sizeLine; decide), fun t1 f1 => ⟨(by show 2 ≤ sizeLine; decide), fun t2 f2 => ?_⟩⟩
      have s1 := same_new (o := HO.tup [V.str (Str.ofString "worker"), V.str zo]) f1
      have s2 := same_new (o := HO.tup [V.str (Str.ofString "worker"), V.str (Str.ofString "'nobody'")]) f2
      have e1 := s2 _ _ (upd_same (H := H18) (a := t1) (o := HO.tup [V.str (Str.ofString "worker"), V.str zo]))
      have e2 := upd_same (H := upd H18 t1 (.tup [V.str (Str.ofString "worker"), V.str zo])) (a := t2) (o := HO.tup [V.str (Str.ofString "worker"), V.str (Str.ofString "'nobody'")])
      have e0 := s2 _ _ (s1 _ _ e0)
      have ea1 := s2 _ _ (s1 _ _ ea1)
      have B2 := (B1.same s1).same s2
      generalize upd (upd H18 t1 (.tup [V.str (Str.ofString "worker"), V.str zo])) t2 (.tup [V.str (Str.ofString "worker"), V.str (Str.ofString "'nobody'")]) = H19 at e0 e1 e2 ea1 B2 ⊢
      clear B1 s1 s2 f1 f2
      obtain ⟨_, kL⟩ := Fo B2.sw
      refine ⟨_, rfl, bad, zb, rfl, (hbad.o _ kL).2, (by show 2 ≤ sizeLine; decide), fun t3 f3 => ⟨(by show 3 ≤ sizeLine; decide), fun a2 fa2 => ?_⟩⟩
      have s1 := same_new (o := HO.tup [V.str (Str.ofString "speed"), V.str zb]) f3
      have s2 := same_new (o := HO.lst [V.ref t1, V.ref t2, V.ref t3]) fa2
      have e3 := s2 _ _ (upd_same (H := H19) (a := t3) (o := HO.tup [V.str (Str.ofString "speed"), V.str zb]))
      refine ⟨a1, a2, _, _, rfl, rfl, s2 _ _ (s1 _ _ ea1), upd_same, (by show 3 + 3 ≤ sizeLine; decide), fun a3 fa3 => ?_⟩
      have s3 := same_new (o := HO.lst [V.ref t0, V.ref t0, V.ref t0, V.ref t1, V.ref t2, V.ref t3]) fa3
      exact go _ _ ⟨a3, t0, t1, t2, t3, rfl, ((B2.same s1).same s2).same s3, upd_same, s3 _ _ (s2 _ _ (s1 _ _ e0)), s3 _ _ (s2 _ _ (s1 _ _ e1)), s3 _ _ (s2 _ _ (s1 _ _ e2)), s3 _ _ e3⟩
    obtain ⟨D, t0, t1, t2, t3, rfl, A, hD, e0, e1, e2, e3⟩ := hx
    clear B
    dsimp only [tSeq]
    obtain ⟨_, kL⟩ := Fo A.sw
    refine ⟨_, rfl, _, rfl, _, rfl, odd, zo, rfl, (hodd.o _ kL).2, (by show 2 ≤ sizeLine; decide), fun t4 f4 => ?_⟩
    have s1 := same_new (o := HO.tup [V.str (Str.ofString "name"), V.str zo]) f4
    have A2 := A.same s1
    obtain ⟨_, kL⟩ := Fo A2.sw
    refine ⟨_, rfl, bad, zb, rfl, (hbad.o _ kL).2, (by show 2 ≤ sizeLine; decide), fun t5 f5 => ⟨(by show 2 ≤ sizeLine; decide), fun a2 fa2 => ?_⟩⟩
    have s2 := same_new (o := HO.tup [V.str (Str.ofString "speed"), V.str zb]) f5
    have s3 := same_new (o := HO.lst [V.ref t4, V.ref t5]) fa2
    have s123 := (s1.trans s2).trans s3
    refine ⟨D, a2, _, _, rfl, rfl, s123 _ _ hD, upd_same, (by show 6 + 2 ≤ sizeLine; decide), fun a3 fa3 => ?_⟩
    have s4 := same_new (o := HO.lst [V.ref t0, V.ref t0, V.ref t0, V.ref t1, V.ref t2, V.ref t3, V.ref t4, V.ref t5]) fa3
    have e4 := s4 _ _ (s3 _ _ (s2 _ _ (upd_same (H := H18) (a := t4) (o := HO.tup [V.str (Str.ofString "name"), V.str zo]))))
    have e5 := s4 _ _ (s3 _ _ (upd_same (H := upd H18 t4 (.tup [V.str (Str.ofString "name"), V.str zo])) (a := t5) (o := HO.tup [V.str (Str.ofString "speed"), V.str zb])))
    have sA := s123.trans s4
    have A3 := A.same sA
    have hl3 : upd (upd (upd (upd H18 t4 (.tup [V.str (Str.ofString "name"), V.str zo])) t5 (.tup [V.str (Str.ofString "speed"), V.str zb])) a2 (.lst [V.ref t4, V.ref t5])) a3 (.lst [V.ref t0, V.ref t0, V.ref t0, V.ref t1, V.ref t2, V.ref t3, V.ref t4, V.ref t5]) a3 = some (.lst [V.ref t0, V.ref t0, V.ref t0, V.ref t1, V.ref t2, V.ref t3, V.ref t4, V.ref t5]) := upd_same
    have e0 := sA _ _ e0
    have e1 := sA _ _ e1
    have e2 := sA _ _ e2
    have e3 := sA _ _ e3
    dsimp only [List.cons_append, List.nil_append]
    generalize upd (upd (upd (upd H18 t4 (.tup [V.str (Str.ofString "name"), V.str zo])) t5 (.tup [V.str (Str.ofString "speed"), V.str zb])) a2 (.lst [V.ref t4, V.ref t5])) a3 (.lst [V.ref t0, V.ref t0, V.ref t0, V.ref t1, V.ref t2, V.ref t3, V.ref t4, V.ref t5]) = H20 at e0 e1 e2 e3 e4 e5 A3 hl3 ⊢
    clear s1 s2 s3 s4 s123 sA A A2 hD f4 f5 fa2 fa3
    obtain ⟨ts, acc, eu⟩ := id A3.acc
    obtain ⟨u1, u2, u3, u4, u5, u6, u7, u8, rfl⟩ : ∃ u1 u2 u3 u4 u5 u6 u7 u8 : Addr, ts = [(u1, (Str.ofString "crew", Str.ofString "other")), (u2, (Str.ofString "crew", Str.ofString "other")), (u3, (Str.ofString "crew", Str.ofString "other")), (u4, (Str.ofString "worker", zo)), (u5, (Str.ofString "worker", Str.ofString "'nobody'")), (u6, (Str.ofString "speed", zb)), (u7, (Str.ofString "name", zo)), (u8, (Str.ofString "speed", zb))] := by
      obtain ⟨u1, r1, rfl, g1⟩ := snd_cons (show ts.map Prod.snd = _ :: _ from eu)
      obtain ⟨u2, r2, rfl, g2⟩ := snd_cons g1
      obtain ⟨u3, r3, rfl, g3⟩ := snd_cons g2
      obtain ⟨u4, r4, rfl, g4⟩ := snd_cons g3
      obtain ⟨u5, r5, rfl, g5⟩ := snd_cons g4
      obtain ⟨u6, r6, rfl, g6⟩ := snd_cons g5
      obtain ⟨u7, r7, rfl, g7⟩ := snd_cons g6
      obtain ⟨u8, r8, rfl, g8⟩ := snd_cons g7
      rw [snd_nil g8]
      exact ⟨u1, u2, u3, u4, u5, u6, u7, u8, rfl⟩
    have an : ∀ {a b : Addr} {x y : Str}, H20 a = some (.tup [.str x, .str y]) → H20 b = some (.tup [.str x, .str y]) → DAns K CC (.ref a) (.ref b) H20 := fun {a b x y} h1 h2 => .inr ⟨a, b, _, _, rfl, rfl, SqT.of h1, SqT.of h2, Prs.cons ⟨rfl, rfl, by simp [eqV]⟩ (Prs.cons ⟨rfl, rfl, by simp [eqV]⟩ Prs.nil)⟩
    refine ⟨⟨l, a3, _, _, rfl, rfl, acc.at_, hl3, ?_⟩, fun H21 s21 => ?_⟩
    · exact .cons (an (acc.all _ (by simp)) e0) (.cons (an (acc.all (u2, _) (by simp)) e0) (.cons (an (acc.all (u3, _) (by simp)) e0) (.cons (an (acc.all (u4, _) (by simp)) e1) (.cons (an (acc.all (u5, _) (by simp)) e2) (.cons (an (acc.all (u6, _) (by simp)) e3) (.cons (an (acc.all (u7, _) (by simp)) e4) (.cons (an (acc.all (u8, _) (by simp)) e5) .nil)))))))
    · have S := (A3.same s21).sw.sv
      exact k _ ⟨S.hp, S.ht, fun e he => S.kL e (by rw [eLB]; exact List.mem_cons_of_mem _ (mL e he)), fun e he => S.nt e (by rw [eLB]; exact List.mem_cons_of_mem _ (mL e he))⟩
end
end Lw
namespace Lw
open PySem PySem.Spec PyProof.Rows L2
open SX PySem.NumText TL LamX ClX StX
set_option pp.maxSteps 900
abbrev sLin : Stmt := top 42
abbrev sLtd : Stmt := top 43
theorem val_ge {c : Nat} {r : List Nat} (h : 49 ≤ c) : 10 ^ r.length ≤ digitsVal (c :: r) := by
  have e : digitsVal (c :: r) = (c - 48) * 10 ^ r.length + digitsVal r := by
    rw [show c :: r = [c] ++ r from rfl, val_app]
    show (0 * 10 + (c - 48)) * _ + _ = _
    rw [Nat.zero_mul, Nat.zero_add]
  have : 1 * 10 ^ r.length ≤ (c - 48) * 10 ^ r.length := Nat.mul_le_mul_right _ (by omega)
  omega
/-- the texts of the speeds -/
def spW (k : Nat) : List Nat := (Str.ofString (toString ((k : Nat) : Int))).cps.toList
theorem spW_V : ∀ k, k < 61 → 1 ≤ k → spV (spW k) = some (k : Int) := by decide +kernel
theorem spW_one : ∀ a, a < 58 → 49 ≤ a → [a] = spW (a - 48) := by decide +kernel
theorem spW_two {a b : Nat} (ha : a < 58) (h1 : 49 ≤ a) (hb : b < 58) (h2 : 48 ≤ b) (h : (a - 48) * 10 + (b - 48) ≤ 60) : [a, b] = spW ((a - 48) * 10 + (b - 48)) := by
  have all : ∀ x, x < 10 → ∀ y, y < 10 → 1 ≤ x → x * 10 + y ≤ 60 → [x + 48, y + 48] = spW (x * 10 + y) := by decide +kernel
  have z := all (a - 48) (by omega) (b - 48) (by omega) (by omega) h
  rwa [Nat.sub_add_cancel (by omega), Nat.sub_add_cancel (by omega)] at z
theorem spV_W {w : List Nat} {v : Int} (h : spV w = some v) : ∃ k : Nat, 1 ≤ k ∧ k ≤ 60 ∧ v = (k : Int) ∧ w = spW k := by
  unfold spV numV at h
  have e0 : intV (.str (S w)) = intOf w := rfl
  rw [e0] at h
  cases hi : intOf w with
  | none => rw [hi] at h; cases h
  | some i =>
    rw [hi] at h
    dsimp only at h
    split at h
    · rename_i hb
      cases h
      obtain ⟨b1, b2⟩ := hb
      unfold intOf at hi
      split at hi
      · rename_i dg
        split at hi
        · cases hi
        · rename_i nz
          split at hi
          · cases hi
            omega
          · rename_i nm
            cases w with
            | nil => exact absurd dg (by decide)
            | cons c r =>
              have c45 : c ≠ 45 := fun e => nm (by rw [e]; rfl)
              rw [figs_other r c45] at hi dg nz
              obtain ⟨all, _⟩ := digB_all dg
              obtain ⟨d1, d2⟩ := all c List.mem_cons_self
              have hv : v = ((digitsVal (c :: r) : Nat) : Int) := (Option.some.inj hi).symm
              by_cases c48 : c = 48
              · subst c48
                have er : r = [] := by
                  by_cases e : r = []
                  · exact e
                  · exact absurd ⟨rfl, fun z => e (List.cons.inj z).2⟩ nz
                subst er
                have : digitsVal [48] = 0 := by decide
                omega
              · match r, all, hv with
                | [], all, hv =>
                  have e : digitsVal [c] = c - 48 := by show 0 * 10 + (c - 48) = _; omega
                  exact ⟨c - 48, by omega, by omega, by rw [hv, e], spW_one c (by omega) (by omega)⟩
                | [d], all, hv =>
                  obtain ⟨d3, d4⟩ := all d (by simp)
                  have e : digitsVal [c, d] = (c - 48) * 10 + (d - 48) := by show (0 * 10 + (c - 48)) * 10 + (d - 48) = _; omega
                  exact ⟨(c - 48) * 10 + (d - 48), by omega, by omega, by rw [hv, e], spW_two (by omega) (by omega) (by omega) (by omega) (by omega)⟩
                | d :: e :: q, all, hv =>
                  have g := val_ge (c := c) (r := d :: e :: q) (by omega)
                  rw [List.length_cons, List.length_cons, Nat.pow_succ, Nat.pow_succ] at g
                  have : 1 ≤ 10 ^ q.length := Nat.one_le_pow _ _ (by decide)
                  omega
      · cases hi
    · cases h
theorem spW_int : ∀ k, k < 61 → 1 ≤ k → PySem.intText? (S (spW k)) = some (k : Int) := by decide +kernel
theorem spW_len : ∀ k, k < 61 → (spW k).length ≤ 2 := by decide +kernel
theorem rg2 (m : Nat) (hm : m ≤ 20000) : RgC 0 ((m : Nat) : Int) 2 ((m + 1) / 2) := by
  refine ⟨by decide, by decide, ?_, ?_⟩
  · have fits : ∀ x : Int, 0 ≤ x → x ≤ 100000 → Builtin.Range.rangeFitsLong x = true := fun x h0 h1 => by
      unfold Builtin.Range.rangeFitsLong
      rw [decide_eq_true (show -(2 ^ 63) ≤ x by omega), decide_eq_true (show x < 2 ^ 63 by omega)]; rfl
    have many : Builtin.Range.rangeSize 0 ((m : Nat) : Int) 2 = (((m + 1) / 2 : Nat) : Int) := by
      unfold Builtin.Range.rangeSize
      rw [if_pos (by decide)]
      split <;> omega
    unfold Builtin.Range.small
    rw [many, if_pos (by decide), fits 0 (by omega) (by omega), fits _ (by omega) (by omega), fits 2 (by omega) (by omega), fits _ (by omega) (by omega), fits _ (by omega) (by omega)]
    simp
  · unfold Builtin.Range.rangeSize
    rw [if_pos (by decide)]
    split <;> omega
theorem ifs_via {tt : TT} {a b : TS} {D : Ends} {σ : L2.St} {H : Hp} (Pj : Bool → Hp → Prop) (h1 : ∀ k H1, Pj k H1 → if k = true then a D σ H1 else b D σ H1) (h2 : ∀ QQ : Bool → Hp → Prop, (∀ k H1, Pj k H1 → QQ k H1) → tt σ H QQ) : tIfS tt a b D σ H := h2 _ h1
theorem log_mid {n : Nat} (h : n ≤ 40000) : n.log2 < 1920 := by
  by_cases z : n = 0
  · rw [z]; decide
  · exact Nat.lt_trans ((Nat.log2_lt z).mpr (Nat.lt_of_le_of_lt h (show 40000 < 2 ^ 16 by decide))) (by decide)
def spT (v : List Nat) : Bool := (spV v).isSome
theorem inV_sp (v : List Nat) : inV (.str (S v)) ((List.range 60).map fun k => V.str (Str.ofString (toString (1 + (k : Nat) : Int)))) = spT v := by
  rw [show ((List.range 60).map fun k => V.str (Str.ofString (toString (1 + (k : Nat) : Int)))) = ((List.range 60).map fun k => S (spW (k + 1))).map V.str from by decide +kernel, inV_str]
  unfold spT
  rw [Bool.eq_iff_iff, decide_eq_true_iff]
  constructor
  · intro h
    obtain ⟨k, hk, e⟩ := List.mem_map.mp h
    have hk := List.mem_range.mp hk
    rw [← S_inj e, spW_V (k + 1) (by omega) (by omega)]; rfl
  · intro h
    obtain ⟨x, hx⟩ := Option.isSome_iff_exists.mp h
    obtain ⟨k, k1, k2, _, rfl⟩ := spV_W hx
    exact List.mem_map.mpr ⟨k - 1, List.mem_range.mpr (by omega), by rw [Nat.sub_add_cancel k1]⟩
theorem lnk_next {ws : List (List Nat)} {i : Nat} {last : List Nat} {ps : List (Str × Int)} {k : Int} {v : List Nat} (il : i < ws.length) (lk : LnkR ws i last ps) (ef : fitB last ps.length ws[i] = true) (hv : ws[i + 1]? = some v) (hk : spV v = some k) : LnkR ws (i + 2) ws[i] (ps ++ [(S ws[i], k)]) := by
  unfold LnkR at lk ⊢
  rw [rdw_yes il ef hv hk] at lk
  rw [lk, List.length_append]
  show (match (match rdw (ws.drop (i + 2)) ws[i] (ps.length + 1) (i + 2) with | .inl e => Sum.inl e | .inr l => .inr ((S ws[i], k) :: l)) with | .inl e => Sum.inl e | .inr l => Sum.inr (ps ++ l)) = match rdw (ws.drop (i + 2)) ws[i] (ps.length + 1) (i + 2) with | .inl e => Sum.inl e | .inr l => Sum.inr ((ps ++ [(S ws[i], k)]) ++ l)
  cases rdw (ws.drop (i + 2)) ws[i] (ps.length + 1) (i + 2) with
  | inl e => rfl
  | inr l => show Sum.inr (ps ++ ((S ws[i], k) :: l)) = Sum.inr ((ps ++ [(S ws[i], k)]) ++ l); rw [List.append_assoc]; rfl
def spLin : Sp := fun vs H Q _ => ∃ (cs : List Nat), vs = [.str (S cs)] ∧ cs.length ≤ 5000 ∧ (∀ c ∈ cs, c < 128) ∧ ∀ H', Same H H' → Q (.bl (nameT (S cs))) H'
/-- what a text must tell -/
def spLtd (CC : Addr) : Sp := fun vs H Q _ => ∃ (cs : List Nat), vs = [.str (S cs)] ∧ cs.length ≤ 100000 ∧ WsOk (wds cs) ∧
  (∀ n, rdw (wds cs) [] 0 0 = .inl n → ∀ t H', Same H H' → H t = none → H' t = some (.tup [.str (Str.ofString "text"), .str (Str.ofString "0"), .str (Str.ofString (toString ((n : Nat) : Int)))]) → Q (.ref t) H') ∧
  (∀ ps, rdw (wds cs) [] 0 0 = .inr ps → ∀ l c H', Same H H' → H l = none → H' l = some (.lst [.ref c]) → CwG CC H' c ps → Q (.ref l) H')
section
variable {P : Program} {w : World} {K : PySem.W.Frag} {mg : Str → Option Value} {base : Heap}
theorem scLin : FnScope ["_law_word", "_law_sign"] ["_law_word"] (C8.fnScope sLin) := C8.fnScope_by (by decide +kernel)
theorem cal_lin {f : Addr} {fd : FuncData} (F : C8.Def K mg "_law_is_name" sLin f fd) (b : Binds K fd ["_law_word"] []) (T : TxtC mg) : C8.Cal P w K mg base 1 "_law_is_name" spLin [] := by
  refine C8.cal0 F b .nil scLin (fun vs H Q E h => ?_) (fun cdv A outer st H vs Q E hr h => ?_)
  · obtain ⟨cs, rfl, _⟩ := h
    rfl
  · obtain ⟨cs, rfl, lc, asc, k⟩ := h
    refine ⟨_, (pss_cons (ps_if (pt_cmpR op_in_seq (pv 0) (pe_lst (pa_cons pe_str (pa_cons pe_str (pa_cons pe_str (pa_cons pe_str (pa_cons pe_str (pa_cons pe_str (pa_cons pe_str (pa_cons pe_str (pa_cons pe_str (pa_cons pe_str pa_nil))))))))))) (by rfl)) (pss_one (ps_ret pe_bl)) pss_nil)
  (pss_one (ps_ret (pe_and (pe_chain op_le op_le pe_int (pe_callB call_len_str (by rfl) T.n_len (by decide +kernel) (pa_cons (pv 0) pa_nil)) pe_int) (pe_one (pe_cmpR (op_eqD hr.units) (pe_lc (own := [("_law_sign", 1)]) (g := gName 1) rfl scLin.nd (pi_str (pv 0)) (blkOk_by (own := [("_law_sign", 1)]) (N := ["_law_word", "_law_sign"]) (sc := (C8.fnScope sLin)) (by decide +kernel)) (fun _ _ _ _ _ => (pg_name (i := 1) scLin.nd rfl (Or.inl rfl))) (fun _ _ _ _ _ => pts_one (pt_cmpR op_notIn_sign (pv 1) pe_str (by rfl))) (fun _ _ _ _ _ => (pv 1))) (pe_lst pa_nil) (nomark _))))))), ?_⟩
    refine ⟨_, rfl, (by show 10 ≤ sizeLine; decide), fun q fq => ?_⟩
    have s1 := same_new (o := HO.lst [V.str (Str.ofString "cost"), V.str (Str.ofString "fee"), V.str (Str.ofString "none"), V.str (Str.ofString "order"), V.str (Str.ofString "ready"), V.str (Str.ofString "self"), V.str (Str.ofString "chunks"), V.str (Str.ofString "crew"), V.str (Str.ofString "late"), V.str (Str.ofString "at")]) fq
    have lz : (S cs : Str).length = cs.length := S_len cs
    refine ⟨q, _, rfl, .inl (SqL.of upd_same), rfl, rfl, _, rfl, ?_⟩
    show if (inV (.str (S cs)) (resW.map V.str)) = true then _ else _
    rw [inV_str]
    have big : 5000 ≤ sizeLine := by decide
    by_cases m : S cs ∈ resW
    · rw [decide_eq_true m]
      refine iteT ?_
      have e : nameT (S cs) = false := by unfold nameT; rw [decide_eq_true m]; rfl
      rw [e] at k
      exact k _ s1
    rw [decide_eq_false m]
    refine iteF ?_
    have e : nameT (S cs) = (decide (1 ≤ cs.length) && decide (cs.length ≤ 8) && cs.all fun c => decide (c ∈ letters.cps.toList)) := by
      unfold nameT
      rw [decide_eq_false m, lz]; rfl
    revert s1
    generalize upd H q (.lst [V.str (Str.ofString "cost"), V.str (Str.ofString "fee"), V.str (Str.ofString "none"), V.str (Str.ofString "order"), V.str (Str.ofString "ready"), V.str (Str.ofString "self"), V.str (Str.ofString "chunks"), V.str (Str.ofString "crew"), V.str (Str.ofString "late"), V.str (Str.ofString "at")]) = H1
    intro s1
    dsimp only [tNext, tSeq]
    refine ⟨_, rfl, S cs, rfl, by rw [lz]; omega, 1, _, rfl, rfl, _, rfl, ?_⟩
    by_cases l1 : 1 ≤ cs.length
    · refine iteT' (decide_eq_true (by rw [lz]; omega)) ⟨_, _, rfl, rfl, _, rfl, ?_⟩
      by_cases l8 : cs.length ≤ 8
      · refine iteT' (decide_eq_true (by rw [lz]; omega)) ?_
        have csz : (S cs : Str).cps.size = cs.length := rfl
        refine ⟨_, rfl, _, rfl, fun D hD => lc_it walk_str (fun i H' => Same H1 H' ∧ H' D = some (.lst ((((cs.take i).filter fun c => !decide (c ∈ letters.cps.toList)).map fun c => S [c]).map V.str))) ⟨same_new hD, upd_same⟩ (fun _ _ _ _ => trivial) ?_ ?_⟩
        · rintro i x H' H'' hi ⟨s', hd'⟩ ⟨rfl, c, hc, rfl⟩
          have hc2 : cs[i]? = some c := by
            rw [← hc]
            exact (Array.getElem?_toList (xs := (S cs : Str).cps) (i := i)).symm ▸ rfl
          have snoc : cs.take (i + 1) = cs.take i ++ [c] := by rw [List.take_add_one, hc2]; rfl
          refine ⟨rfl, _, rfl, c, _, rfl, rfl, _, rfl, ?_⟩
          by_cases m : c ∈ letters.cps.toList
          · refine iteF' (by show (!decide (c ∈ letters.cps.toList)) = false; rw [decide_eq_true m]; rfl) ⟨s', ?_⟩
            rw [hd', snoc, List.filter_append, show [c].filter (fun c => !decide (c ∈ letters.cps.toList)) = [] by rw [List.filter_cons_of_neg (by rw [decide_eq_true m]; decide)]; rfl, List.append_nil]
          · refine iteT' (by show (!decide (c ∈ letters.cps.toList)) = true; rw [decide_eq_false m]; rfl) ⟨_, rfl, _, hd', ?_, fun b o eb => ?_, ?_⟩
            · rw [List.length_map, List.length_map]
              exact Nat.lt_of_le_of_lt (Nat.le_trans (List.length_filter_le _ _) (Nat.le_trans (List.length_take_le' _ _) l8)) (by decide)
            · rw [upd_ne (ne_of_none eb hD)]; exact s' _ _ eb
            · rw [upd_same, snoc, List.filter_append, List.map_append, List.map_append, show [c].filter (fun c => !decide (c ∈ letters.cps.toList)) = [c] by rw [List.filter_cons_of_pos (by rw [decide_eq_false m]; decide)]; rfl]; rfl
        · rintro H' ⟨s', hd'⟩
          rw [csz, List.take_of_length_le (Nat.le_refl _)] at hd'
          refine ⟨(by show 0 ≤ sizeLine; decide), fun q5 f5 => ?_⟩
          have s4 := same_new (o := HO.lst []) f5
          have okk : ∀ z ∈ ((cs.filter fun c => !decide (c ∈ letters.cps.toList)).map fun c => S [c]), OkS z := fun z hz => by
            obtain ⟨c, hc, rfl⟩ := List.mem_map.mp hz
            intro x hx
            have : x = c := List.mem_singleton.mp hx
            rw [this]
            exact Nat.lt_trans (asc c (List.mem_filter.mp hc).1) (by decide)
          refine ⟨.list (((cs.filter fun c => !decide (c ∈ letters.cps.toList)).map fun c => S [c]).map PyData.str), .list (([] : List Str).map PyData.str), .lst (SqL.of (s4 _ _ hd')) (dp_strs _), .lst (SqL.of upd_same) .nil, shaped_strsL okk, shaped_strsL (fun z hz => (by cases hz)), ?_⟩
          rw [show PyData.eqv (.list (((cs.filter fun c => !decide (c ∈ letters.cps.toList)).map fun c => S [c]).map PyData.str)) (.list (([] : List Str).map PyData.str)) = nameT (S cs) from ?_]
          · exact k _ ((s1.trans s').trans s4)
          · rw [show PyData.eqv (.list (((cs.filter fun c => !decide (c ∈ letters.cps.toList)).map fun c => S [c]).map PyData.str)) (.list (([] : List Str).map PyData.str)) = decide (((cs.filter fun c => !decide (c ∈ letters.cps.toList)).map fun c => S [c]) = []) from eqvs_strs _ _]
            rw [e, decide_eq_true l1, decide_eq_true l8, Bool.true_and, Bool.true_and, Bool.eq_iff_iff, decide_eq_true_iff, List.all_eq_true, List.map_eq_nil_iff, List.filter_eq_nil_iff]
            exact ⟨fun h q hq => by have := h q hq; simpa using this, fun h q hq => by have := h q hq; simpa using this⟩
      · refine iteF' (decide_eq_false (by rw [lz]; omega)) ?_
        rw [e, decide_eq_false l8, Bool.and_false, Bool.false_and] at k
        exact k _ s1
    · refine iteF' (decide_eq_false (by rw [lz]; omega)) ⟨_, rfl, iteF ?_⟩
      rw [e, decide_eq_false l1, Bool.false_and, Bool.false_and] at k
      exact k _ s1
theorem scLtd : FnScope ["_law_text", "_law_spot", "_law_words", "_law_found", "_law_last", "_law_speed"] ["_law_text"] (C8.fnScope sLtd) := C8.fnScope_by (by decide +kernel)
theorem cal_ltd {CC DC DN DS DW DM f fI : Addr} {fd : FuncData} (F : C8.Def K mg "_law_text_due" sLtd f fd) (b : Binds K fd ["_law_text"] []) (T : TxtC mg) (O : CrK P w K mg base CC DN DS DC DM DW fI) (XO : StC P w K mg base CC DN DS DC DM) (DN' : C8.Cal P w K mg base 1 "_law_is_name" spLin []) : C8.Cal P w K mg base 10 "_law_text_due" (spLtd CC) [] := by
  have CM := O.CM
  obtain ⟨pO, gO, fdO, gUO, ⟨SO, FO, bO⟩, KBO⟩ := XO.ex
  refine C8.cal0 F b .nil scLtd (fun vs H Q E h => ?_) (fun cdv A outer st H vs Q E hr h => ?_)
  · obtain ⟨cs, rfl, _⟩ := h
    rfl
  · obtain ⟨cs, rfl, lc, wo, k1, k2⟩ := h
    refine ⟨_, (pss_cons (ps_par3 (i := 2) (j := 3) (l := 4) rfl scLtd.nd rfl rfl rfl (by decide) (by decide) (by decide) rfl rfl rfl (pa_cons (pe_split (pv 0) pe_str) (pa_cons pe_dnewK (pa_cons pe_str pa_nil))) (by rfl))
  (pss_cons (ps_for PassesOwn.never rfl (pi_range3 (by rfl) T.n_range (pa_cons pe_int (pa_cons (pe_callB call_len_seq (by rfl) T.n_len (by decide +kernel) (pa_cons (pv 2) pa_nil)) (pa_cons pe_int pa_nil)))) (pg_name (i := 1) scLtd.nd rfl (Or.inl rfl)) (pss_cons (ps_if (PW.pt (pw_or (pt_not (pt_val (C8.pe_c DN' hr (by decide) (by rfl) (pa_cons (pe_ix ix_list (pv 2) (pv 1) (fun _ _ => rfl)) pa_nil)))) (pw_or (pt_cmpR op_leT (pe_ix ix_list (pv 2) (pv 1) (fun _ _ => rfl)) (pv 4) (nomark _)) (pw_or1 (pt_cmpR op_eq (pe_callB call_lenD (by rfl) T.n_len (by decide +kernel) (pa_cons (pv 3) pa_nil)) pe_int (nomark _)))))) (pss_one (ps_ret (pe_tup (pa_cons pe_str (pa_cons pe_str (pa_cons (pe_callB SkE.call_repr_int (by rfl) T.n_repr (by decide +kernel) (pa_cons (pv 1) pa_nil)) pa_nil)))))) pss_nil)
  (pss_cons (ps_if (PW.pt (pw_or (pt_cmpR op_eq (pe_op op_add (pv 1) pe_int) (pe_callB call_len_seq (by rfl) T.n_len (by decide +kernel) (pa_cons (pv 2) pa_nil)) (nomark _)) (pw_or1 (pt_cmpR op_notIn_seq (pe_ix ix_list (pv 2) (pe_op op_add (pv 1) pe_int) (fun _ _ => rfl)) (pe_lc (own := [("_law_speed", 5)]) (g := gName 5) (tt := tYes) rfl scLtd.nd (pi_range2 (by rfl) T.n_range (pa_cons pe_int (pa_cons pe_int pa_nil))) (blkOk_by (own := [("_law_speed", 5)]) (N := ["_law_text", "_law_spot", "_law_words", "_law_found", "_law_last", "_law_speed"]) (sc := (C8.fnScope sLtd)) (by decide +kernel)) (fun _ _ _ _ _ => (pg_name (i := 5) scLtd.nd rfl (Or.inl rfl))) (fun _ _ _ _ _ => pts_nil) (fun _ _ _ _ _ => (pe_callTy call_str_int (by rfl) T.n_str (by decide +kernel) (pa_cons (pv 5) pa_nil)))) (by rfl))))) (pss_one (ps_ret (pe_tup (pa_cons pe_str (pa_cons pe_str (pa_cons (pe_callB SkE.call_repr_int (by rfl) T.n_repr (by decide +kernel) (pa_cons (pe_op op_add (pv 1) pe_int) pa_nil)) pa_nil)))))) pss_nil)
  (pss_cons (ps_set (i := 4) scLtd.nd rfl (Or.inl rfl) (pe_ix ix_list (pv 2) (pv 1) (fun _ _ => rfl)))
  (pss_one (ps_dput (hu_of hr) (pv 3) (pv 4) (pe_callTy call_int_str (by rfl) T.n_int (by decide +kernel) (pa_cons (pe_ix ix_list (pv 2) (pe_op op_add (pv 1) pe_int) (fun _ _ => rfl)) pa_nil)) (by rfl)))))))
  (pss_one (ps_ret (pe_lst (pa_cons (pe_static (E := C8.E0) (pe_glob (v := .ref CC) (by rfl) CM.Z.hm rfl) SO FO (hr.mono (by decide)) bO .nil (passes_call takes0 (fun _ _ _ _ z => z)) (pa_cons (pv 3) pa_nil)) pa_nil)))))), ?_⟩
    have big : 100002 ≤ sizeLine := by decide
    refine ⟨_, rfl, ⟨_, rfl⟩, S cs, _, rfl, rfl, rfl, by rw [S_len]; omega, ?_⟩
    rw [split_wds]
    intro l fl
    have s1 := same_new (o := HO.lst (((wds cs).map S).map V.str)) fl
    have hl : upd H l (.lst (((wds cs).map S).map V.str)) l = some (.lst (wV (wds cs))) := upd_same
    generalize upd H l (.lst (((wds cs).map S).map V.str)) = H1 at s1 hl ⊢
    refine fun D fD => ⟨_, _, _, rfl, ?_⟩
    have s2 := same_new (o := HO.dK []) fD
    have hD : upd H1 D (.dK []) D = some (.dK (dkI [])) := upd_same
    have hl2 := s2 _ _ hl
    have lD : l ≠ D := ne_of_none hl fD
    have fD0 : H D = none := s1.free fD
    have s12 := s1.trans s2
    generalize upd H1 D (.dK []) = H2 at s12 hD hl2 ⊢
    generalize wds cs = ws at *
    obtain ⟨ne, hlen, wok⟩ := wo
    have l0 : LnkR ws 0 [] [] := by
      unfold LnkR
      rw [List.drop_zero]
      cases e : rdw ws [] 0 0 <;> simp [e]
    have wl : (wV ws).length = ws.length := by unfold wV; rw [List.length_map, List.length_map]
    dsimp only [tSeq]
    refine ⟨_, rfl, l, _, rfl, .inl (SqL.of hl2), 0, _, 2, (ws.length + 1) / 2, rfl, ?_, for_rangeC (fun i σ' H' => ∃ (ps : List (Str × Int)) (last : List Nat) (o1 : Option V), σ' = [some (.str (S cs)), o1, some (.ref l), some (.ref D), some (.str (S last)), none] ∧ ps.length = i ∧ LnkR ws (2 * i) last ps ∧ (∀ n, last < n → ∀ p ∈ ps, p.1 ≠ S n) ∧ (∀ q ∈ ps, nameT q.1 = true) ∧ Same H H' ∧ H' l = some (.lst (wV ws)) ∧ H' D = some (.dK (dkI ps))) ⟨[], [], _, rfl, rfl, l0, fun n _ p hp => (by cases hp), fun q hq => (by cases hq), s12, hl2, hD⟩ ?_ ?_⟩
    · rw [wl]; exact rg2 _ hlen
    · rintro i σ' H3 hi ⟨ps, last, o1, rfl, el, lk, gt, nmp, s3, hl3, hD3⟩
      have es : (0 + ((i : Nat) : Int) * 2) = ((2 * i : Nat) : Int) := by omega
      rw [es]
      have il : 2 * i < ws.length := by omega
      obtain ⟨wa, wle⟩ := wok ws[2 * i] (List.getElem_mem il)
      have at0 : ∀ j (h : j < ws.length), (wV ws)[j]? = some (.str (S ws[j])) := fun j h => by unfold wV; rw [List.getElem?_map, List.getElem?_map, List.getElem?_eq_getElem h]; rfl
      dsimp only [gName, tSeq]
      refine ifs_via (fun b H4 => Same H3 H4 ∧ b = !fitB last ps.length ws[2 * i]) ?_ (fun QQ go => ?_)
      · rintro b H4 ⟨s4, rfl⟩
        cases ef : fitB last ps.length ws[2 * i] with
        | false =>
          refine iteT ⟨_, rfl, _, rfl, log_mid (by omega), (by show 3 ≤ sizeLine; decide), fun t ft => ?_⟩
          have z := lk
          unfold LnkR at z
          rw [rdw_no il ef] at z
          exact k1 (2 * i) z t _ ((s3.trans s4).trans (same_new ft)) ((s3.trans s4).free ft) upd_same
        | true =>
          refine iteF ?_
          dsimp only [tNext]
          have S4 := s3.trans s4
          have hl4 := s4 _ _ hl3
          have hD4 := s4 _ _ hD3
          have es1 : ((2 * i : Nat) : Int) + 1 = ((2 * i + 1 : Nat) : Int) := by omega
          refine ifs_via (fun b H5 => Same H4 H5 ∧ b = !(match ws[2 * i + 1]? with | none => false | some v => spT v)) ?_ (fun QQ go => ?_)
          · rintro b H5 ⟨s5, rfl⟩
            cases hv : ws[2 * i + 1]? with
            | none =>
              refine iteT ⟨_, rfl, _, _, rfl, rfl, _, rfl, ?_, (by show 3 ≤ sizeLine; decide), fun t ft => ?_⟩
              · rw [es1]; exact log_mid (n := 2 * i + 1) (by omega)
              rw [es1]
              have z := lk
              unfold LnkR at z
              rw [rdw_no1 il ef fun v e => by rw [hv] at e; cases e] at z
              exact k1 (2 * i + 1) z t _ ((S4.trans s5).trans (same_new ft)) ((S4.trans s5).free ft) upd_same
            | some v =>
              cases hk : spV v with
              | none =>
                refine iteT' (by show (!spT v) = true; unfold spT; rw [hk]; rfl) ⟨_, rfl, _, _, rfl, rfl, _, rfl, ?_, (by show 3 ≤ sizeLine; decide), fun t ft => ?_⟩
                · rw [es1]; exact log_mid (n := 2 * i + 1) (by omega)
                rw [es1]
                have z := lk
                unfold LnkR at z
                rw [rdw_no1 il ef fun v' e => by rw [hv] at e; cases e; exact hk] at z
                exact k1 (2 * i + 1) z t _ ((S4.trans s5).trans (same_new ft)) ((S4.trans s5).free ft) upd_same
              | some k =>
                refine iteF' (by show (!spT v) = false; unfold spT; rw [hk]; rfl) ?_
                obtain ⟨n, n1, n2, rfl, rfl⟩ := spV_W hk
                obtain ⟨f1, f2, f3⟩ := fit_iff.mp ef
                have il2 := (List.getElem?_eq_some_iff.mp hv).1
                have at1 : (wV ws)[2 * i + 1]? = some (.str (S (spW n))) := by
                  rw [at0 _ il2]
                  exact congrArg (fun x => some (V.str (S x))) (List.getElem?_eq_some_iff.mp hv).2
                have hl5 := s5 _ _ hl4
                have hD5 := s5 _ _ hD4
                dsimp only [tNext, tSeq, gName]
                refine ⟨_, rfl, _, rfl, l, _, _, _, rfl, rfl, SqL.of hl5, atI_nat (at0 _ il), ?_⟩
                dsimp only [gName]
                refine ⟨_, rfl, _, rfl, _, _, rfl, rfl, l, _, _, V.str (S (spW n)), rfl, rfl, SqL.of hl5, by rw [es1]; exact atI_nat at1, _, _, rfl, spW_int n (by omega) n1, by rw [S_len]; have := spW_len n (by omega); omega, ?_⟩
                have nw : S ws[2 * i] ∉ (ps.map fun q => (q.1, V.int q.2)).map (·.1) := fun m => by
                  rw [List.map_map] at m
                  obtain ⟨p, hp, e⟩ := List.mem_map.mp m
                  exact gt _ f2 p hp e
                refine ⟨_, rfl, _, rfl, D, _, rfl, DPut.k (k := Sum.inr (S ws[2 * i])) hD5 ?_, ps ++ [(S ws[2 * i], (n : Int))], ws[2 * i], _, rfl, by rw [List.length_append, el]; rfl, lnk_next il lk ef hv hk, ?_, ?_, fun b o e => ?_, ?_, ?_⟩
                · rw [List.length_map, List.length_map]
                  exact Nat.lt_of_le_of_lt (show ps.length ≤ 20000 by omega) (by decide)
                · intro x lx p hp e
                  rcases List.mem_append.mp hp with m | m
                  · exact gt x (List.lt_trans f2 lx) p m e
                  · rw [List.mem_singleton.mp m] at e
                    have e2 : ws[2 * i] = x := S_inj e
                    rw [e2] at lx
                    exact List.lt_irrefl _ lx
                · intro q hq
                  rcases List.mem_append.mp hq with m | m
                  · exact nmp q m
                  · rw [List.mem_singleton.mp m]; exact f1
                · rw [upd_ne (ne_of_none e fD0)]
                  exact s5 _ _ (S4 _ _ e)
                · rw [upd_ne lD]; exact hl5
                · rw [upd_same, putK_out nw]
                  show _ = some (HO.dK (dkOf ((ps ++ [(S ws[2 * i], (n : Int))]).map fun q => (q.1, V.int q.2))))
                  rw [List.map_append]
                  rfl
          · refine ⟨_, rfl, _, _, rfl, rfl, _, rfl, l, _, rfl, .inl (SqL.of hl4), rfl, _, rfl, ?_⟩
            by_cases e : 2 * i + 1 = ws.length
            · refine iteT' (decide_eq_true (by show V.int (((2 * i : Nat) : Int) + 1) = V.int (((wV ws).length : Nat) : Int); rw [es1, wl, e])) (go _ _ ⟨Same.refl _, ?_⟩)
              rw [List.getElem?_eq_none (by omega)]; rfl
            · refine iteF' (decide_eq_false fun z => e (by have z := V.int.inj (show V.int (((2 * i : Nat) : Int) + 1) = V.int (((wV ws).length : Nat) : Int) from z); rw [wl] at z; omega)) ?_
              have il2 : 2 * i + 1 < ws.length := by omega
              refine ⟨_, rfl, _, rfl, _, _, rfl, rfl, l, _, _, _, rfl, rfl, SqL.of hl4, by rw [es1]; exact atI_nat (at0 _ il2), ?_⟩
              refine ⟨1, 61, rfl, by decide, fun D2 fD2 => lc_it walk_range (fun j H' => H' = upd H4 D2 (.lst ((List.range j).map fun k => V.str (Str.ofString (toString (1 + (k : Nat) : Int)))))) rfl (fun _ _ _ _ => trivial) ?_ ?_⟩
              · rintro j x H' H'' hj e2 ⟨rfl, rfl⟩
                have hj : j < 60 := hj
                refine ⟨rfl, ?_⟩
                dsimp only [tYes]
                rw [if_pos rfl]
                refine ⟨_, rfl, _, rfl, ?_, _, by rw [e2]; exact upd_same, ?_, ?_⟩
                · exact log_mid (n := (1 + (j : Int)).natAbs) (by omega)
                · rw [List.length_map, List.length_range]
                  exact Nat.lt_trans hj (by decide)
                · rw [e2, upd_upd, List.range_succ, List.map_append]; rfl
              · rintro H' e2
                have e3 : H' = upd H4 D2 (.lst ((List.range 60).map fun k => V.str (Str.ofString (toString (1 + (k : Nat) : Int))))) := e2
                have s6 : Same H4 H' := by rw [e3]; exact same_new fD2
                refine ⟨D2, _, rfl, .inl (SqL.of (by rw [e3]; exact upd_same)), rfl, ?_, _, rfl, go _ _ ⟨s6, ?_⟩⟩
                · decide +kernel
                · show (!inV _ _) = _
                  rw [inV_sp, List.getElem?_eq_getElem il2]
      · have hat : SqL K H3 l (wV ws) := SqL.of hl3
        refine ⟨_, rfl, _, rfl, l, _, _, _, rfl, rfl, SqL.of hl3, atI_nat (at0 _ il), ws[2 * i], rfl, wle, wa, fun H4 s4 => ⟨_, rfl, ?_⟩⟩
        cases en : nameT (S ws[2 * i]) with
        | false =>
          refine iteT (go _ _ ⟨s4, ?_⟩)
          unfold fitB
          rw [en]; rfl
        | true =>
          refine iteF ⟨_, rfl, _, rfl, l, _, _, _, rfl, rfl, SqL.of (s4 _ _ hl3), atI_nat (at0 _ il), _, rfl, _, _, rfl, rfl, _, rfl, ?_⟩
          cases lt : decide (last < ws[2 * i]) with
          | false =>
            refine iteT' (by show (!decide (last < ws[2 * i])) = true; rw [lt]; rfl) (go _ _ ⟨s4, ?_⟩)
            unfold fitB
            rw [lt, Bool.false_and, Bool.and_false]; rfl
          | true =>
            refine iteF' (by show (!decide (last < ws[2 * i])) = false; rw [lt]; rfl) ⟨_, rfl, D, _, rfl, s4 _ _ hD3, rfl, _, rfl, go _ _ ⟨s4, ?_⟩⟩
            unfold fitB
            rw [en, lt, Bool.true_and, Bool.true_and, Bool.not_not]
            have eL : (dkI ps).length = ps.length := by rw [List.length_map, List.length_map]
            rw [eL]
            exact decide_eq_decide.mpr ⟨fun z => by have := V.int.inj z; omega, fun z => by rw [z]; rfl⟩
    · rintro σ' H3 ⟨ps, last, o1, rfl, el, lk, gt, nmp, s3, hl3, hD3⟩
      have n2 : ws.length ≤ 2 * ((ws.length + 1) / 2) := by omega
      have z := lk
      unfold LnkR at z
      rw [List.drop_eq_nil_of_le n2] at z
      have z : rdw ws [] 0 0 = Sum.inr (ps ++ []) := z
      rw [List.append_nil] at z
      obtain ⟨ok, sr⟩ := rdw_ok ne z
      refine ⟨rfl, _, rfl, cof_ok ok hD3 fun c H4 qs s4 f4 cw _ sr4 => ⟨(by show 1 ≤ sizeLine; decide), fun l2 fl2 => ?_⟩⟩
      obtain rfl : qs = ps := srt_uniq ok.1 sr4 sr
      exact k2 qs z l2 c _ ((s3.trans s4).trans (same_new fl2)) ((s3.trans s4).free fl2) upd_same ((sr4.cwg ok cw).same (same_new fl2))
end
end Lw
namespace Lw
open PySem PySem.Spec PyProof.Rows L2
open SX PySem.NumText TL LamX ClX StX
set_option pp.maxSteps 900
abbrev sLte : Stmt := top 44
/-! ### words -/
theorem wds_one {cs : List Nat} (h : 32 ∉ cs) : wds cs = [cs] := spl_last1 h
theorem wds_cut {a b : List Nat} (h : 32 ∉ a) : wds (a ++ 32 :: b) = a :: wds b := spl_part1 (S := []) (acc := []) (rest := b) h
theorem wds_or (cs : List Nat) : (32 ∉ cs ∧ wds cs = [cs]) ∨ ∃ a b, cs = a ++ 32 :: b ∧ 32 ∉ a ∧ wds cs = a :: wds b := by
  by_cases h : 32 ∈ cs
  · obtain ⟨a, b, e, ha⟩ := List.eq_append_cons_of_mem h
    exact .inr ⟨a, b, e, ha, by rw [e]; exact wds_cut ha⟩
  · exact .inl ⟨h, wds_one h⟩
theorem wds_pos (cs : List Nat) : 0 < (wds cs).length := by
  rcases wds_or cs with ⟨_, e⟩ | ⟨a, b, _, _, e⟩ <;> rw [e] <;> simp
theorem wds_ne (cs : List Nat) : wds cs ≠ [] := fun e => by have := wds_pos cs; rw [e] at this; exact absurd this (by decide)
theorem wds_mem : ∀ (n : Nat) (cs : List Nat), cs.length = n → ∀ p ∈ wds cs, p.length ≤ cs.length ∧ ∀ c ∈ p, c ∈ cs := by
  intro n
  induction n using Nat.strongRecOn with
  | _ n ih =>
    intro cs hn p hp
    rcases wds_or cs with ⟨_, e⟩ | ⟨a, b, e0, _, e⟩
    · rw [e, List.mem_singleton] at hp
      subst hp
      exact ⟨Nat.le_refl _, fun c hc => hc⟩
    · rw [e] at hp
      rcases List.mem_cons.mp hp with rfl | hp
      · rw [e0]
        exact ⟨by rw [List.length_append]; omega, fun c hc => List.mem_append_left _ hc⟩
      · have hb : b.length < n := by rw [← hn, e0, List.length_append, List.length_cons]; omega
        obtain ⟨h1, h2⟩ := ih b.length hb b rfl p hp
        exact ⟨by rw [e0, List.length_append, List.length_cons]; omega, fun c hc => by rw [e0]; exact List.mem_append_right _ (List.mem_cons_of_mem _ (h2 c hc))⟩
theorem wds_len (cs : List Nat) : (wds cs).length ≤ cs.length + 1 := by
  obtain ⟨n, hn⟩ : ∃ n, n = cs.length := ⟨_, rfl⟩
  induction n using Nat.strongRecOn generalizing cs with
  | _ n ih =>
    rcases wds_or cs with ⟨_, e⟩ | ⟨a, b, e0, _, e⟩
    · rw [e]; simp
    · have hb : b.length < n := by rw [hn, e0, List.length_append, List.length_cons]; omega
      have := ih b.length hb b rfl
      rw [e, List.length_cons, e0, List.length_append, List.length_cons]
      omega
theorem ws_ok {cs : List Nat} (h : ∀ c ∈ cs, c < 128) (l : cs.length ≤ 5000) : WsOk (wds cs) :=
  ⟨wds_ne cs, Nat.le_trans (wds_len cs) (by omega), fun w hw => by
    obtain ⟨h1, h2⟩ := wds_mem _ cs rfl w hw
    exact ⟨fun c hc => h c (h2 c hc), by omega⟩⟩
theorem wds_join {ws : List (List Nat)} (ne : ws ≠ []) (h : ∀ w ∈ ws, 32 ∉ w) : wds (joinL [32] ws) = ws := TL.spl_join ne h
theorem joinL_len {m : Nat} : ∀ {ws : List (List Nat)}, (∀ w ∈ ws, w.length ≤ m) → (joinL [32] ws).length ≤ ws.length * (m + 1)
  | [], _ => by show 0 ≤ _; omega
  | [p], h => by
    have := h p List.mem_cons_self
    show p.length ≤ 1 * (m + 1)
    omega
  | p :: q :: r, h => by
    have h1 := h p List.mem_cons_self
    have h2 := joinL_len (ws := q :: r) fun w hw => h w (List.mem_cons_of_mem _ hw)
    show (p ++ ([32] ++ joinL [32] (q :: r))).length ≤ ((q :: r).length + 1) * (m + 1)
    rw [List.length_append, List.length_append, Nat.add_mul]
    have : ([32] : List Nat).length = 1 := rfl
    omega
theorem joinL_mem : ∀ {ws : List (List Nat)} {c : Nat}, c ∈ joinL [32] ws → c = 32 ∨ ∃ w ∈ ws, c ∈ w
  | [], c, h => by cases h
  | [p], c, h => .inr ⟨p, List.mem_cons_self, h⟩
  | p :: q :: r, c, h => by
    have h' : c ∈ p ++ ([32] ++ joinL [32] (q :: r)) := h
    rcases List.mem_append.mp h' with h | h
    · exact .inr ⟨p, List.mem_cons_self, h⟩
    · rcases List.mem_append.mp h with h | h
      · exact .inl (List.mem_singleton.mp h)
      · rcases joinL_mem h with h | ⟨w, hw, h⟩
        · exact .inl h
        · exact .inr ⟨w, List.mem_cons_of_mem _ hw, h⟩
/-! ### sizes -/
/-! ### the words of a crew's text -/
def crWs (ps : List (Str × Int)) : List (List Nat) := (ps.map fun q => [q.1.cps.toList, intL q.2]).flatten
theorem spW_int2 (k : Nat) : spW k = intL (k : Int) := by unfold spW; rw [str_int]
theorem intL_32 {v : Int} (h1 : 1 ≤ v) (h2 : v ≤ 60) : 32 ∉ intL v ∧ (∀ c ∈ intL v, c < 128) ∧ (intL v).length ≤ 2 := by
  obtain ⟨n, rfl⟩ : ∃ n : Nat, v = (n : Int) := ⟨v.toNat, by omega⟩
  rw [← spW_int2]
  have all : ∀ n, n < 61 → 32 ∉ spW n ∧ (∀ c ∈ spW n, c < 128) ∧ (spW n).length ≤ 2 := by decide +kernel
  exact all n (by omega)
theorem name_32 {z : Str} (h : nameT z = true) : 32 ∉ z.cps.toList ∧ ∀ c ∈ z.cps.toList, c < 128 := by
  unfold nameT at h
  simp only [Bool.and_eq_true, List.all_eq_true, decide_eq_true_eq] at h
  have lt : ∀ c ∈ letters.cps.toList, c ≠ 32 ∧ c < 128 := by decide +kernel
  exact ⟨fun m => (lt _ (h.2.2 _ m)).1 rfl, fun c hc => (lt c (h.2.2 c hc)).2⟩
theorem wds_tx : ∀ {ps : List (Str × Int)}, CwOk ps → ps ≠ [] → wds (crTx ps) = crWs ps
  | [], _, ne => absurd rfl ne
  | [q], ok, _ => by
    obtain ⟨o1, o2, o3⟩ := ok q List.mem_cons_self
    show wds (q.1.cps.toList ++ 32 :: intL q.2) = [q.1.cps.toList, intL q.2]
    rw [wds_cut (name_32 o1).1, wds_one (intL_32 o2 o3).1]
  | q :: p :: r, ok, _ => by
    obtain ⟨o1, o2, o3⟩ := ok q List.mem_cons_self
    have ih := wds_tx (ps := p :: r) (fun x hx => ok x (List.mem_cons_of_mem _ hx)) (List.cons_ne_nil _ _)
    show wds ((q.1.cps.toList ++ 32 :: intL q.2) ++ ([32] ++ crTx (p :: r))) = q.1.cps.toList :: intL q.2 :: crWs (p :: r)
    rw [List.append_assoc]
    show wds (q.1.cps.toList ++ 32 :: (intL q.2 ++ 32 :: crTx (p :: r))) = _
    rw [wds_cut (name_32 o1).1, wds_cut (intL_32 o2 o3).1, ih]
theorem rdw_tx : ∀ {ps : List (Str × Int)} {last : List Nat} {m p : Nat}, CwOk ps → m + ps.length ≤ 8 → (∀ q ∈ ps, last < q.1.cps.toList) → ps.Pairwise (fun a b => a.1.cps.toList < b.1.cps.toList) → rdw (crWs ps) last m p = .inr ps
  | [], _, _, _, _, _, _, _ => rfl
  | q :: r, last, m, p, ok, l, lt, pw => by
    obtain ⟨o1, o2, o3⟩ := ok q List.mem_cons_self
    obtain ⟨w1, w2⟩ := List.pairwise_cons.mp pw
    rw [List.length_cons] at l
    have ih := rdw_tx (ps := r) (last := q.1.cps.toList) (m := m + 1) (p := p + 2) (fun x hx => ok x (List.mem_cons_of_mem _ hx)) (by omega) w1 w2
    show rdw (q.1.cps.toList :: intL q.2 :: crWs r) last m p = _
    unfold rdw
    rw [if_pos ⟨by rw [S_cps]; exact o1, lt q List.mem_cons_self, by omega⟩]
    dsimp only
    have hv : spV (intL q.2) = some q.2 := by
      obtain ⟨n, hn⟩ : ∃ n : Nat, q.2 = (n : Int) := ⟨q.2.toNat, by omega⟩
      rw [hn, ← spW_int2]
      exact spW_V n (by omega) (by omega)
    rw [hv]
    dsimp only
    rw [ih, S_cps]
theorem srt_lt {ks ps : List (Str × Int)} (nd : (ks.map (·.1)).Nodup) (sr : Srt ks ps) : ps.Pairwise (fun a b => a.1.cps.toList < b.1.cps.toList) := by
  have n2 : (ps.map (·.1)).Nodup := (sr.1.map _).symm.nodup nd
  have a := List.pairwise_map.mp (sort_pw sr.2)
  have b := List.pairwise_map.mp n2
  exact (a.and b).imp fun {x y} ⟨h1, h2⟩ => by
    by_cases h : x.1.cps.toList < y.1.cps.toList
    · exact h
    · exact absurd (str_ext (List.le_antisymm h1 h)) h2
theorem cut_wV (ws : List (List Nat)) (lo hi : Option Int) : ∃ a, cutV (wV ws) lo hi = wV a ∧ (∀ w ∈ a, w ∈ ws) ∧ a.length ≤ ws.length := by
  refine ⟨(ws.drop (HT.sIx ws.length 0 lo)).take (HT.sIx ws.length ws.length hi - HT.sIx ws.length 0 lo), ?_, fun w hw => List.mem_of_mem_drop (List.mem_of_mem_take hw), ?_⟩
  · unfold cutV wV
    rw [List.length_map, List.length_map, List.map_take, List.map_take, List.map_drop, List.map_drop]
  · rw [List.length_take, List.length_drop]; omega
def WB (a : List (List Nat)) : Prop := ∀ w ∈ a, (∀ c ∈ w, c < 128) ∧ w.length ≤ 32
def some14 : List V := [V.str (Str.ofString "a"), V.str (Str.ofString "b"), V.str (Str.ofString "zz"), V.str (Str.ofString "fee"), V.str (Str.ofString "0"), V.str (Str.ofString "61"), V.str (Str.ofString "07"), V.str (Str.ofString "60"), V.str (Str.ofString "-"), V.str (Str.ofString ""), V.str (Str.ofString "A"), V.str (Str.ofString "/"), V.str (Str.ofString "-1"), V.str (Str.ofString "zzzzzzzzz")]
theorem some14_ok {v : V} (h : v ∈ some14) : ∃ w, v = V.str (S w) ∧ (∀ c ∈ w, c < 128) ∧ w.length ≤ 32 := by
  have all : ∀ z ∈ ([Str.ofString "a", Str.ofString "b", Str.ofString "zz", Str.ofString "fee", Str.ofString "0", Str.ofString "61", Str.ofString "07", Str.ofString "60", Str.ofString "-", Str.ofString "", Str.ofString "A", Str.ofString "/", Str.ofString "-1", Str.ofString "zzzzzzzzz"] : List Str), (∀ c ∈ z.cps.toList, c < 128) ∧ z.cps.toList.length ≤ 32 := by decide +kernel
  obtain ⟨z, hz, rfl⟩ := List.mem_map.mp (show v ∈ ([Str.ofString "a", Str.ofString "b", Str.ofString "zz", Str.ofString "fee", Str.ofString "0", Str.ofString "61", Str.ofString "07", Str.ofString "60", Str.ofString "-", Str.ofString "", Str.ofString "A", Str.ofString "/", Str.ofString "-1", Str.ofString "zzzzzzzzz"] : List Str).map V.str from h)
  exact ⟨z.cps.toList, by rw [S_cps], all z hz⟩
theorem crWs_ok {ps : List (Str × Int)} (ok : CwOk ps) (l8 : ps.length ≤ 8) (ne : ps ≠ []) : WB (crWs ps) ∧ (crWs ps).length ≤ 16 ∧ 2 ≤ (crWs ps).length := by
  have len : (crWs ps).length = 2 * ps.length := by
    unfold crWs
    clear ok l8 ne
    induction ps with
    | nil => rfl
    | cons q r ih =>
      rw [List.map_cons, List.flatten_cons, List.length_append, ih, List.length_cons]
      show 2 + 2 * r.length = 2 * (r.length + 1)
      omega
  refine ⟨fun w hw => ?_, by omega, ?_⟩
  · obtain ⟨l, hl, hw⟩ := List.mem_flatten.mp hw
    obtain ⟨q, hq, rfl⟩ := List.mem_map.mp hl
    obtain ⟨o1, o2, o3⟩ := ok q hq
    simp only [List.mem_cons, List.not_mem_nil, or_false] at hw
    rcases hw with rfl | rfl
    · exact ⟨(name_32 o1).2, Nat.le_trans (name_len o1).2 (by decide)⟩
    · exact ⟨(intL_32 o2 o3).2.1, Nat.le_trans (intL_32 o2 o3).2.2 (by decide)⟩
  · cases ps with
    | nil => exact absurd rfl ne
    | cons a r => rw [len, List.length_cons]; omega
theorem crTx_ok {ps : List (Str × Int)} (ok : CwOk ps) (l8 : ps.length ≤ 8) : (∀ c ∈ crTx ps, c < 128) ∧ (crTx ps).length ≤ 600 := by
  have wk : ∀ w ∈ ps.map wkL, (∀ c ∈ w, c < 128) ∧ w.length ≤ 64 := fun w hw => by
    obtain ⟨q, hq, rfl⟩ := List.mem_map.mp hw
    obtain ⟨o1, o2, o3⟩ := ok q hq
    refine ⟨fun c hc => ?_, wk_len (ok q hq)⟩
    unfold wkL at hc
    rcases List.mem_append.mp hc with hc | hc
    · exact (name_32 o1).2 c hc
    · rcases List.mem_cons.mp hc with rfl | hc
      · decide
      · exact (intL_32 o2 o3).2.1 c hc
  constructor
  · intro c hc
    rcases joinL_mem hc with rfl | ⟨w, hw, hc⟩
    · decide
    · exact (wk w hw).1 c hc
  · have h1 := joinL_len (ws := ps.map wkL) (m := 64) fun w hw => (wk w hw).2
    rw [List.length_map] at h1
    have h2 : ps.length * (64 + 1) ≤ 8 * 65 := Nat.mul_le_mul_right _ l8
    unfold crTx
    omega
/-- Crew.read, ready -/
structure RdCr (P : Program) (w : World) (K : PySem.W.Frag) (mg : Str → Option Value) (base : Heap) (CC D p g : Addr) (T : List (Addr × Str)) (mc : Value) (fd : FuncData) (gU : List Value → List Value → List Value) : Prop where
  r : CRead K CC mc
  c : CMet K CC mc "read" p g
  F : FnOk P w K mg base (L2.CX P w) 12 g fd ["cls", "text"] (spCrR K CC D T)
  b : Binds K fd ["cls", "text"] []
  KB : KBn K fd ["cls", "text"] 1 ["text"] gU (fun us zs => us ++ zs)
theorem RdCr.R {P : Program} {w : World} {K : PySem.W.Frag} {mg : Str → Option Value} {base : Heap} {CC D p g : Addr} {T : List (Addr × Str)} {mc : Value} {fd : FuncData} {gU : List Value → List Value → List Value} (R : RdCr P w K mg base CC D p g T mc fd gU) : FnR P w K mg base (L2.CX P w) 12 g (spCrR K CC D T) :=
  (FnOk.raw R.F R.b .nil).imp fun vs H Q E h => by rw [List.append_nil]; exact h
theorem rdw_le : ∀ (k : Nat) {ws : List (List Nat)} {last : List Nat} {m p n : Nat}, ws.length ≤ k → rdw ws last m p = .inl n → n ≤ p + ws.length
  | _, [], _, _, _, _, _, h => by unfold rdw at h; cases h
  | _, [a], last, m, p, n, _, h => by
    unfold rdw at h
    split at h
    · cases h; exact Nat.le_refl _
    · cases h; exact Nat.le_add_right _ _
  | k, a :: v :: r, last, m, p, n, hk, h => by
    rw [List.length_cons, List.length_cons] at hk ⊢
    unfold rdw at h
    split at h
    · dsimp only at h
      cases hv : spV v with
      | none => rw [hv] at h; cases h; omega
      | some x =>
        rw [hv] at h
        dsimp only at h
        cases hr : rdw r a (m + 1) (p + 2) with
        | inr l => rw [hr] at h; cases h
        | inl e =>
          rw [hr] at h
          cases h
          have := rdw_le (k - 2) (ws := r) (by omega) hr
          omega
    · cases h; omega
theorem rd_text {K : PySem.W.Frag} {CC DC DN DS DW DX DM : Addr} {T : List (Addr × Str)} {n : Nat} {H : Hp} {Q : VK} (hn : n ≤ 40000) (k : ∀ t H8, ExtN H H8 → Tabs T H8 → H8 t = some (.tup [.str (Str.ofString "text"), .str (Str.ofString "0"), .str (Str.ofString (toString ((n : Nat) : Int)))]) → Q (.ref t) H8) :
    RdC2 CC DX T H (HeardV Q) (HeardX K DC DN DS DW DX DM Q) (.inl n) := fun d fs H7 x7 t7 hd f1 f2 =>
  have s8 : Same H7 (upd H7 d (.xd fs)) := same_new hd
  .inr (.inr (.inr (.inr (.inl ⟨rfl, d, fs, .int 0, .int (n : Int), Str.ofString "0", _, rfl, upd_same, f1, f2, .int 0 (by decide +kernel), .int _ (log_mid (n := n) hn), fun t H8 s9 n9 h9 => k t H8 (x7.trans (.of (s8.trans s9))) (t7.ext (s8.trans s9)) h9⟩))))
theorem txt_ok (m : Nat) : ∀ z ∈ ([Str.ofString "text", Str.ofString "0", Str.ofString (toString ((m : Nat) : Int))] : List Str), OkS z := fun z hz => by
  simp only [List.mem_cons, List.not_mem_nil, or_false] at hz
  rcases hz with rfl | rfl | rfl
  · unfold OkS; decide +kernel
  · unfold OkS; decide +kernel
  · rw [str_int]
    intro c hc
    have hc : c ∈ intL (m : Int) := hc
    unfold intL at hc
    rw [if_neg (by omega)] at hc
    have := numL_digits _ c hc
    omega
theorem txt_eqv (zs : List Str) : PyData.eqv (.tuple (zs.map PyData.str)) (.tuple (zs.map PyData.str)) = true := by
  rw [show PyData.eqv (.tuple (zs.map PyData.str)) (.tuple (zs.map PyData.str)) = decide (zs = zs) from eqvs_strs _ _, decide_eq_true rfl]
theorem neH_dat3 {K : PySem.W.Frag} {CC a b : Addr} {m : Nat} {H : Hp} {Q : VK} (h1 : H a = some (.tup [.str (Str.ofString "text"), .str (Str.ofString "0"), .str (Str.ofString (toString ((m : Nat) : Int)))])) (h2 : H b = some (.tup [.str (Str.ofString "text"), .str (Str.ofString "0"), .str (Str.ofString (toString ((m : Nat) : Int)))])) (q : Q (.bl false) H) : rNeH K CC (.ref a) (.ref b) H Q := by
  have ok := txt_ok m
  exact neH_dat (ds := ([Str.ofString "text", Str.ofString "0", Str.ofString (toString ((m : Nat) : Int))] : List Str).map PyData.str) h1 h2 (dp_strs [Str.ofString "text", Str.ofString "0", Str.ofString (toString ((m : Nat) : Int))]) (shaped_strsT ok) (txt_eqv _) q
def spLte (K : PySem.W.Frag) (CC : Addr) (TS : List (Addr × Str)) : Sp := fun vs H Q _ => ∃ (p pl : Addr) (n : Nat) (d : Addr) (ks : List (Str × Int)) (L : List (Addr × HO)), vs = [.ref p, .ref d] ∧ Sv TS p pl n L H ∧ n ≤ 900000 ∧ (d, HO.dK (dkI ks)) ∈ L ∧ KsOk ks ∧
  ∀ H', Sv TS p pl (n + 13) L H' → Q (.bl true) H'
section
variable {P : Program} {w : World} {K : PySem.W.Frag} {mg : Str → Option Value} {base : Heap}
theorem scLte : FnScope ["_law_pen_here", "_law_speeds_here", "_law_made", "_law_text", "_law_turn", "_law_odd", "_law_word", "_law_spot", "_law_bent", "_law_words", "_law_way", "_law_name"] ["_law_pen_here", "_law_speeds_here"] (C8.fnScope sLte) := C8.fnScope_by (by decide +kernel)
set_option maxHeartbeats 4000000 in
theorem cal_lte {f c0 B CC DC DN DS DW DX DM L gH fI pR gR : Addr} {mc : Value} {TS : List (Addr × Str)} {fd fdH fdR : FuncData} {gUR : List Value → List Value → List Value} (F : DefC K mg "_law_text_right" sLte f fd c0) (b : Binds K fd ["_law_pen_here", "_law_speeds_here"] []) (FH : C8.Def K mg "_law_heard" sHea gH fdH) (bH : Binds K fdH ["_law_ask"] []) (TB : TabB base mg c0 B) (TO : TabOf TS B "_law_text_right")
    (R : Hrd K mg DC DN DS DW DX DM L) (T : TxtC mg) (O : CrK P w K mg base CC DN DS DC DM DW fI) (OC : OpC P w K mg base CC DN DS DC DM DW) (XO : StC P w K mg base CC DN DS DC DM) (NB : NbC K CC) (CR : RdCr P w K mg base CC DX pR gR TS mc fdR gUR)
    (D0 : C8.Cal P w K mg base 1 "_law_draw" spDraw []) (DP : C8.Cal P w K mg base 2 "_law_pick" (spPick K) []) (DT : C8.Cal P w K mg base 10 "_law_text_due" (spLtd CC) []) : CalG P w K mg base 19 "_law_text_right" (spLte K CC TS) [] := by
  have CM := O.CM
  obtain ⟨ocH, odH, dVH, kVH, docH, pmH, anH, cdvH, ctH, oslH, rfl, lkH, cdH⟩ := FH.fn.ex
  obtain ⟨pO, gO, fdO, gUO, ⟨SO, FO, bO⟩, KBO⟩ := XO.ex
  refine calGC F b .nil scLte (fun vs H Q E h => ?_) (fun A outer st H vs Q E hG hr h => ?_)
  · obtain ⟨p, pl, n, d, ks, L, rfl, _⟩ := h
    rfl
  · obtain ⟨p, pl, n, d, ks, L, rfl, S0, hn, md, ok1, k⟩ := h
    refine ⟨_, (pss_cons (ps_set (i := 2) scLte.nd rfl (Or.inl rfl) (pe_static (E := C8.E0) (pe_glob (v := .ref CC) (by rfl) CM.Z.hm rfl) SO FO (hr.mono (by decide)) bO .nil (passes_call takes0 (fun _ _ _ _ z => z)) (pa_cons (pv 1) pa_nil)))
  (pss_cons (ps_set (i := 3) scLte.nd rfl (Or.inl rfl) (pe_join pe_str (pe_lc (own := [("_law_name", 11)]) (g := gName 11) (tt := tYes) rfl scLte.nd (pi_list (pe_callB cr_sortedS (by rfl) T.n_sorted (by decide +kernel) (pa_cons (pe_lock (pe_lc (own := [("_law_name", 11)]) (g := gName 11) (tt := tYes) rfl scLte.nd (pi_keys (pv 1)) (blkOk_by (own := [("_law_name", 11)]) (N := ["_law_pen_here", "_law_speeds_here", "_law_made", "_law_text", "_law_turn", "_law_odd", "_law_word", "_law_spot", "_law_bent", "_law_words", "_law_way", "_law_name"]) (sc := (C8.fnScope sLte)) (by decide +kernel)) (fun _ _ _ _ _ => (pg_name (i := 11) scLte.nd rfl (Or.inl rfl))) (fun _ _ _ _ _ => pts_nil) (fun _ _ _ _ _ => (pe_callTy SkE.call_str_str (by rfl) T.n_str (by decide +kernel) (pa_cons (pv 11) pa_nil))))) pa_nil))) (blkOk_by (own := [("_law_name", 11)]) (N := ["_law_pen_here", "_law_speeds_here", "_law_made", "_law_text", "_law_turn", "_law_odd", "_law_word", "_law_spot", "_law_bent", "_law_words", "_law_way", "_law_name"]) (sc := (C8.fnScope sLte)) (by decide +kernel)) (fun _ _ _ _ _ => (pg_name (i := 11) scLte.nd rfl (Or.inl rfl))) (fun _ _ _ _ _ => pts_nil) (fun _ _ _ _ _ => (pe_op op_add_str (pe_op op_add_str (pv 11) pe_str) (pe_callTy call_str_int (by rfl) T.n_str (by decide +kernel) (pa_cons (pe_dget (hu_of hr) (pv 1) (pv 11) (fun _ _ => rfl)) pa_nil)))))))
  (pss_cons (ps_if (PW.pt (pw_or (pt_cmpR op_ne (pe_callTy (call_strOwn (E := C8.E0) O.MS (passes_call takes0 (fun _ _ _ _ z => z)) hr (by decide)) (by rfl) T.n_str (by decide +kernel) (pa_cons (pv 2) pa_nil)) (pv 3) (nomark _)) (pw_or1 (pt_cmpR (op_neR (E := C8.E0) O.NC O.ME (passes_call takes0 (fun _ _ _ _ z => z)) hr (by decide)) (pe_cmethK (E := C8.E0) (pe_glob (v := .ref CC) (by rfl) CM.Z.hm rfl) CR.r CR.c CR.F (hr.mono (by decide)) CR.KB (passes_call takes0 (fun _ _ _ _ z => z)) (pk_cons (pv 3) pk_nil)) (pv 2) (nomark _))))) (pss_one (ps_ret pe_bl)) pss_nil)
  (pss_cons (ps_for PassesOwn.never rfl (pi_range1 (by rfl) T.n_range (pa_cons pe_int pa_nil)) (pg_name (i := 4) scLte.nd rfl (Or.inl rfl)) (pss_cons (ps_par (i := 9) (j := 10) rfl scLte.nd rfl rfl (by decide) rfl rfl (pa_cons (pe_split (pv 3) pe_str) (pa_cons (C8.pe_c D0 hr (by decide) (by rfl) (pa_cons (pv 0) (pa_cons pe_int pa_nil))) pa_nil)) (by rfl))
  (pss_cons (ps_set (i := 6) scLte.nd rfl (Or.inl rfl) (C8.pe_c DP hr (by decide) (by rfl) (pa_cons (pv 0) (pa_cons (pe_lst (pa_cons pe_str (pa_cons pe_str (pa_cons pe_str (pa_cons pe_str (pa_cons pe_str (pa_cons pe_str (pa_cons pe_str (pa_cons pe_str (pa_cons pe_str (pa_cons pe_str (pa_cons pe_str (pa_cons pe_str (pa_cons pe_str (pa_cons pe_str pa_nil))))))))))))))) pa_nil))))
  (pss_cons (ps_set (i := 7) scLte.nd rfl (Or.inl rfl) (C8.pe_c D0 hr (by decide) (by rfl) (pa_cons (pv 0) (pa_cons (pe_callB call_len_seq (by rfl) T.n_len (by decide +kernel) (pa_cons (pv 9) pa_nil)) pa_nil))))
  (pss_cons (ps_if (pt_cmpR op_eq (pv 10) pe_int (nomark _)) (pss_one (ps_asg (pv 6) (pg_sub (pv 9) (pv 7) set_list))) (pss_one (ps_if (pt_cmpR op_eq (pv 10) pe_int (nomark _)) (pss_one (ps_set (i := 9) scLte.nd rfl (Or.inl rfl) (pe_op op_cat (pe_op op_cat (pe_slice sl_list (pv 9) po_none (po_some (pv 7))) (pe_lst (pa_cons (pv 6) pa_nil))) (pe_slice sl_list (pv 9) (po_some (pv 7)) po_none)))) (pss_one (ps_if (pt_cmpR op_eq (pv 10) pe_int (nomark _)) (pss_one (ps_set (i := 9) scLte.nd rfl (Or.inl rfl) (pe_op op_cat (pe_slice sl_list (pv 9) po_none (po_some (pv 7))) (pe_slice sl_list (pv 9) (po_some (pe_op op_add (pv 7) pe_int)) po_none)))) (pss_one (ps_set (i := 9) scLte.nd rfl (Or.inl rfl) (pe_op op_cat (pv 9) (pe_lst (pa_cons (pv 6) (pa_cons pe_str pa_nil)))))))))))
  (pss_cons (ps_set (i := 8) scLte.nd rfl (Or.inr rfl) (pe_join pe_str (pv 9)))
  (pss_one (ps_if (pt_cmpR (op_neH K rfl (E := C8.E0) hr.units O.ME (passes_call takes0 (fun _ _ _ _ z => z)) hr (by decide)) (pe_lamcall (k := 16) (T := TS) (TT := TTheard K DC DN DS DW DX DM) (by rfl) FH.mgf FH.kp lkH cdH bH scHea rfl (.inl rfl) (heard_gives R T.toTxt hG (hr.mono (by decide))) TB rfl TO.mem TO.own (hr.mono (by decide)) (lamS_by (by rfl)) rfl (fun _ _ _ _ _ => rfl)
      (fun A outer s H E f c2 hr2 => (by exact (pe_cmeth (pe_glob (v := .ref CC) (by rfl) CM.Z.hm rfl) CR.r CR.c CR.R (hr2.mono (by decide)) (passes_call (takes_of rfl rfl rfl rfl) (fun _ _ _ _ z => z)) (pa_cons (pv 8) pa_nil))))) (C8.pe_c DT hr (by decide) (by rfl) (pa_cons (pv 8) pa_nil)) (nomark _)) (pss_one (ps_ret pe_bl)) pss_nil))))))))
  (pss_cons (ps_set (i := 5) scLte.nd rfl (Or.inr rfl) (C8.pe_c DP hr (by decide) (by rfl) (pa_cons (pv 0) (pa_cons (pe_lst (pa_cons pe_non (pa_cons pe_int (pa_cons (pv 2) (pa_cons (pv 1) (pa_cons (pe_lst (pa_cons (pv 3) pa_nil)) (pa_cons pe_bl pa_nil))))))) pa_nil))))
  (pss_one (ps_ret (pe_cmpR (op_eqD hr.units) (pe_lamcall (k := 16) (T := TS) (TT := TTheard K DC DN DS DW DX DM) (by rfl) FH.mgf FH.kp lkH cdH bH scHea rfl (.inl rfl) (heard_gives R T.toTxt hG (hr.mono (by decide))) TB rfl TO.mem TO.own (hr.mono (by decide)) (lamS_by (by rfl)) rfl (fun _ _ _ _ _ => rfl)
      (fun A outer s H E f c2 hr2 => (by exact (pe_cmeth (pe_glob (v := .ref CC) (by rfl) CM.Z.hm rfl) CR.r CR.c CR.R (hr2.mono (by decide)) (passes_call (takes_of rfl rfl rfl rfl) (fun _ _ _ _ z => z)) (pa_cons (pv 5) pa_nil))))) (pe_tup (pa_cons pe_str (pa_cons pe_str (pa_cons pe_str pa_nil)))) (nomark _))))))))), ?_⟩
    have S0 : Sw CC TS p pl n L [] H := ⟨S0, fun e he => (by cases he)⟩
    refine ⟨rfl, _, rfl, cof_ok ok1 (S0.get md) fun c1 Ha ps sa fa cwa _ sr1 => ?_⟩
    have S1 := (S0.same sa).addc (sr1.cwg ok1 cwa)
    clear S0 sa fa cwa
    dsimp only [gName, tSeq]
    have lps : ps.length = ks.length := sr1.1.length_eq
    have l8 : ks.length ≤ 8 := ok1.2.2.1
    have g0 := S1.crew (c := c1) (ps := ps) (by simp)
    have okp := g0.ok
    have ne : ps ≠ [] := fun e => by rw [e] at lps; have := ok1.2.1; rw [← lps] at this; exact absurd this (by decide)
    obtain ⟨txa, txl⟩ := crTx_ok okp (by omega)
    have big : 100000 ≤ sizeLine := by decide
    have pieces : ∀ q ∈ ps, (q.1 ++ Str.ofString " ") ++ Str.ofString (toString q.2) = S (wkL q) := fun q _ => by
      rw [str_int, show Str.ofString " " = S [32] from rfl]
      conv => lhs; rw [← S_cps q.1]
      rw [S_cat, S_cat]
      unfold wkL
      rw [List.append_assoc]; rfl
    refine asg_cut (fun x H' => x = .str (S (crTx ps)) ∧ Sw CC TS p pl n L [(c1, ps)] H') (fun x H2 hx => ?_) (fun QQ go => ?_)
    rotate_left
    · refine ⟨⟨_, rfl⟩, sift_vals (j := 11) (ps := ps) (fun _ => true) (fun q => .str (S (wkL q))) (fun R' k => sorted_names (i := 1) (j := 11) rfl (by show 11 < 12; decide) (S1.get md) (by omega) sr1 R' k) (by show 11 < 12; decide) (by omega) (fun q H2 Y N hq s2 y nn => ?_) fun D H2 s2 f2 hD => ?_⟩
      · dsimp only [tYes]
        have dg := dg_rd (.inl (s2 _ _ (S1.get md))) q.1
        have hk := sr1.1.subset hq
        rw [dkI_get ok1.1 (i := q.2) hk] at dg
        have e := pieces q hq
        obtain ⟨o1, o2, o3⟩ := okp q hq
        have nl := (name_len o1).2
        have nl2 : q.1.length = q.1.cps.toList.length := by rw [Array.length_toList]; rfl
        have il := (intL_32 o2 o3).2.2
        refine iteT ⟨_, rfl, _, _, rfl, rfl, ?_, _, rfl, _, rfl, d, _, rfl, dg, _, rfl, log_mid (by omega), _, _, rfl, rfl, ?_, ?_⟩
        · rw [nl2]
          show _ + 1 ≤ _
          omega
        · have e1 : (q.1 ++ Str.ofString " ").length = q.1.length + 1 := str_app _ _
          have e2 : (S (intL q.2) : Str).length = (intL q.2).length := S_len _
          rw [str_int, e1, e2, nl2]
          omega
        · rw [e]
          exact y rfl
      rw [List.filter_eq_self.mpr (fun _ _ => rfl)] at hD
      refine ⟨_, D, (ps.map wkL).map S, rfl, rfl, .inl (SqL.of (by rw [hD, List.map_map, List.map_map]; rfl)), ?_, ?_⟩
      · have h1 := sum_le (xs := ps.map wkL) (m := 64) fun x hx => by
          obtain ⟨q, hq, rfl⟩ := List.mem_map.mp hx
          exact wk_len (okp q hq)
        rw [List.length_map] at h1
        rw [List.length_map, List.length_map, show (Str.ofString " ").length = 1 from rfl]
        have : ps.length * 64 ≤ 8 * 64 := Nat.mul_le_mul_right _ (by omega)
        omega
      · rw [show (Str.ofString " ") = S [32] from rfl, join_S]
        exact go _ _ ⟨rfl, S1.same s2⟩
    obtain ⟨rfl, S2⟩ := hx
    clear S1
    dsimp only [tSeq]
    have rd : rdw (wds (crTx ps)) [] 0 0 = .inr ps := by
      rw [wds_tx okp ne]
      refine rdw_tx okp (by omega) (fun q hq => ?_) (srt_lt ok1.1 sr1)
      have := (name_len (okp q hq).1).1
      cases hz : q.1.cps.toList with
      | nil => rw [hz] at this; exact absurd this (by decide)
      | cons a r => exact List.nil_lt_cons _ _
    refine ifs_no (Sw CC TS p pl n L [(c1, ps)]) (fun H3 S3 => ?_) (fun QQ go => ?_)
    rotate_left
    · have g2 := S2.crew (c := c1) (ps := ps) (by simp)
      obtain ⟨dx, fs, hc⟩ := g2.ins
      refine test_op ⟨_, rfl, c1, dx, fs, rfl, hc, c1, ps, rfl, g2.at_, g2.ok, g2.l8, fun H4 s4 => ⟨_, rfl, _, rfl, rfl, _, rfl, ?_⟩⟩
      rw [decide_eq_true rfl]
      refine iteF ?_
      have S4 := S2.same s4
      refine test_op ⟨rfl, _, rfl, rfl, .str (S (crTx ps)), rdw (wds (crTx ps)) [] 0 0, rfl, .str _, .inr ⟨_, rfl, by omega, ws_ok txa (by omega), rfl⟩, S4.ht, ?_⟩
      rw [rd]
      intro c H5 x5 t5 g5
      have S5 := S4.ext x5 t5
      have g1 := S5.crew (c := c1) (ps := ps) (by simp)
      refine ⟨_, rfl, cw_ne g5.at_ g1.at_ g5.l8 g1.l8 g5.okn g1.okn ⟨_, rfl, ?_⟩⟩
      rw [decide_eq_true rfl]
      exact go _ S5
    clear S2
    dsimp only [tSeq]
    refine ⟨_, rfl, by decide, by decide, for_range (fun i σ' H' => ∃ x4 x6 x7 x8 x9 x10, σ' = [some (.ref p), some (.ref d), some (.ref c1), some (.str (S (crTx ps))), x4, none, x6, x7, x8, x9, x10, none] ∧ Sw CC TS p pl (n + 3 * i) L [(c1, ps)] H') ⟨_, _, _, _, _, _, rfl, S3⟩ ?_ ?_⟩
    · rintro i σ' H4 hi ⟨x4, x6, x7, x8, x9, x10, rfl, S4⟩
      have hi : i < 4 := hi
      clear S3
      dsimp only [gName, tSeq]
      obtain ⟨wW, w16, w2⟩ := crWs_ok okp (by omega) ne
      have wlen : (wV (crWs ps)).length = (crWs ps).length := by unfold wV; rw [List.length_map, List.length_map]
      refine ⟨_, rfl, ⟨_, rfl⟩, _, _, rfl, rfl, rfl, by rw [S_len]; omega, fun l fl => ?_⟩
      rw [split_wds, wds_tx okp ne]
      have S5 := S4.same (same_new (o := HO.lst (wV (crWs ps))) fl)
      have hl5 : upd H4 l (.lst (wV (crWs ps))) l = some (.lst (wV (crWs ps))) := upd_same
      have lp : l ≠ p := S4.hp.ne_new fl
      have lpl : l ≠ pl := S4.hp.ne_new2 fl
      have lL := S4.sv.off fl
      have fin5 : (((crWs ps).map S).map V.str) = wV (crWs ps) := rfl
      rw [fin5]
      generalize upd H4 l (.lst (wV (crWs ps))) = H5 at S5 hl5 ⊢
      clear S4 fl
      refine ⟨_, rfl, p, pl, _, 4, rfl, by decide, by decide, S5.hp, by omega, fun r1 H6 r10 r11 hp6 k6 => ⟨_, _, rfl, ?_⟩⟩
      have S6 := S5.draw hp6 k6
      have hl6 := k6 _ _ lp hl5
      clear S5 hl5 hp6 k6
      dsimp only [tSeq]
      refine ⟨_, rfl, (by show 14 ≤ sizeLine; decide), fun q fq => ?_⟩
      have S7 := S6.same (same_new (o := HO.lst some14) fq)
      have hl7 := (same_new (o := HO.lst some14) fq) _ _ hl6
      refine ⟨p, pl, q, _, some14, rfl, S7.hp, by omega, SqL.of upd_same, S6.hp.ne_new fq, by show 0 < 14; decide, by show 14 < 1000000; decide, fun j v H8 hj hp8 k8 => ?_⟩
      have S8 := S7.draw hp8 k8
      have hl8 := k8 _ _ lp hl7
      obtain ⟨w, rfl, wa, wl⟩ := some14_ok (List.mem_of_getElem? hj)
      clear S6 S7 hl6 hl7 fq hj hp8 k8
      dsimp only [gName, tSeq]
      refine ⟨_, rfl, _, rfl, l, _, rfl, .inl (SqL.of hl8), p, pl, _, _, rfl, by rw [wlen]; omega, by rw [wlen]; omega, S8.hp, by omega, fun r2 H9 r20 r21 hp9 k9 => ?_⟩
      have S9 := S8.draw hp9 k9
      have hl9 := k9 _ _ lp hl8
      rw [wlen] at r21
      clear S8 hl8 hp9 k9
      have wcat : ∀ {a b : List (List Nat)}, WB a → WB b → WB (a ++ b) := fun ha hb w hw => (List.mem_append.mp hw).elim (ha w) (hb w)
      have w1' : WB [w] := fun x hx => by rw [List.mem_singleton.mp hx]; exact ⟨wa, wl⟩
      have app : ∀ a b : List (List Nat), wV a ++ wV b = wV (a ++ b) := fun a b => by unfold wV; rw [List.map_append, List.map_append]
      have lV : ∀ a : List (List Nat), (wV a).length = a.length := fun a => by unfold wV; rw [List.length_map, List.length_map]
      obtain ⟨a1, eA, mA, lA⟩ := cut_wV (crWs ps) none (some r2)
      obtain ⟨a2, eB, mB, lB⟩ := cut_wV (crWs ps) (some (r2 + 1)) none
      obtain ⟨a3, eC, mC, lC⟩ := cut_wV (crWs ps) (some r2) none
      have wA : WB a1 := fun x hx => wW x (mA x hx)
      have wB : WB a2 := fun x hx => wW x (mB x hx)
      have wC : WB a3 := fun x hx => wW x (mC x hx)
      dsimp only [gName, tSeq]
      refine join_any (fun σ' H' => ∃ l' ws', σ' = [some (.ref p), some (.ref d), some (.ref c1), some (.str (S (crTx ps))), some (.int (0 + (i : Nat))), none, some (.str (S w)), some (.int r2), x8, some (.ref l'), some (.int r1), none] ∧ Sw CC TS p pl (n + 3 * i + 1 + 1 + 1) L [(c1, ps)] H' ∧ H' l' = some (.lst (wV ws')) ∧ WB ws' ∧ ws'.length ≤ 40) ?rest (fun go => ?_)
      case rest =>
        rintro σ' H10 ⟨l', ws', rfl, S10, hl10, wb, wn⟩
        have jl := joinL_len (ws := ws') (m := 32) fun w hw => (wb w hw).2
        have ja : ∀ c ∈ joinL [32] ws', c < 128 := fun c hc => by
          rcases joinL_mem hc with rfl | ⟨w, hw, hc⟩
          · decide
          · exact (wb w hw).1 c hc
        have jl2 : (joinL [32] ws').length ≤ 1320 := by
          have : ws'.length * (32 + 1) ≤ 40 * 33 := Nat.mul_le_mul_right _ wn
          omega
        refine ⟨⟨_, rfl⟩, _, rfl, _, l', ws'.map S, rfl, rfl, .inl (SqL.of hl10), ?_, ?_⟩
        · have h1 := sum_le (xs := ws') (m := 32) fun x hx => (wb x hx).2
          have : ws'.length * 32 ≤ 40 * 32 := Nat.mul_le_mul_right _ wn
          rw [List.length_map, show (Str.ofString " ").length = 1 from rfl]
          omega
        rw [show (Str.ofString " ") = S [32] from rfl, join_S]
        generalize joinL [32] ws' = cs at ja jl2 ⊢
        clear jl wb wn hl10 S9 hl9 wA wB wC
        dsimp only [gName, tSeq]
        have wso := ws_ok ja (by omega)
        refine ifs_no (Sw CC TS p pl (n + 3 * i + 1 + 1 + 1) L [(c1, ps)]) (fun H11 S11 => ?_) (fun QQ go => ?_)
        · exact ⟨_, _, _, _, _, _, rfl, ⟨⟨S11.sv.hp.more (by omega), S11.sv.ht, S11.sv.kL, S11.sv.nt⟩, S11.cw⟩⟩
        · refine test_op ⟨S10.ht, fun H2 x2 t2 H3 s3 => ?_⟩
          have S11 := (S10.ext x2 t2).same s3
          clear S10 x2 t2 s3
          refine ⟨rfl, _, rfl, .str (S cs), rdw (wds cs) [] 0 0, rfl, .str _, .inr ⟨cs, rfl, by omega, wso, rfl⟩, S11.ht, ?_⟩
          cases e : rdw (wds cs) [] 0 0 with
          | inl m =>
            have hm := rdw_le _ (Nat.le_refl _) e
            have := wso.2.1
            refine rd_text (by omega) fun t H8 x8 t8 h8 => ?_
            have S12 := S11.ext x8 t8
            refine ⟨_, rfl, cs, rfl, by omega, wso, fun m' e' t2 H9 s9 n9 h9 => ?_, fun ps' e' => (by rw [e] at e'; cases e')⟩
            rw [e] at e'
            cases e'
            exact neH_dat3 (s9 _ _ h8) h9 ⟨_, rfl, go _ (S12.same s9)⟩
          | inr qs =>
            intro c H8 x8 t8 g8 t H9 s9 n9 h9
            have S12 := (S11.ext x8 t8).same s9
            refine ⟨_, rfl, cs, rfl, by omega, wso, fun m' e' => (by rw [e] at e'; cases e'), fun ps' e' l3 c3 H10 s10 n10 h10 g10 => ?_⟩
            rw [e] at e'
            cases e'
            exact neH_cw (s10 _ _ h9) h10 ((g8.same s9).same s10) g10 fun H11 s11 => ⟨_, rfl, go _ ((S12.same s10).same s11)⟩
      · refine ⟨_, rfl, rfl, _, rfl, ite2 (fun c0 => ?_) (fun c0 => ?_)⟩
        · refine ⟨_, rfl, _, rfl, _, rfl, l, _, r2, r2.toNat, rfl, rfl, hl9, ?_, ?_⟩
          · unfold ixN
            rw [wlen, if_pos r20, if_pos (by omega)]
          refine go _ _ ⟨l, (crWs ps).set r2.toNat w, rfl, S9.lput hl9 lp lpl lL, ?_, fun x hx => ?_, by rw [List.length_set]; omega⟩
          · rw [upd_same]
            unfold wV
            rw [List.map_set, List.map_set]
          · rcases List.mem_or_eq_of_mem_set hx with hx | rfl
            · exact wW x hx
            · exact ⟨wa, wl⟩
        refine ⟨_, rfl, rfl, _, rfl, ite2 (fun c0 => ?_) (fun c0 => ?_)⟩
        · refine ⟨_, rfl, _, rfl, _, rfl, l, _, rfl, SqL.of hl9, fun c1' f1 => ?_⟩
          rw [eA]
          refine ⟨_, rfl, (by show 1 ≤ sizeLine; decide), fun c2 f2 => ⟨c1', c2, _, _, rfl, rfl, same_new f2 _ _ upd_same, upd_same, (by rw [lV]; show a1.length + 1 ≤ _; omega), fun c3 f3 => ?_⟩⟩
          have sx := ((same_new (o := HO.lst (wV a1)) f1).trans (same_new (o := HO.lst [V.str (S w)]) f2)).trans (same_new (o := HO.lst (wV a1 ++ [V.str (S w)])) f3)
          refine ⟨_, rfl, _, rfl, _, rfl, l, _, rfl, SqL.of (sx _ _ hl9), fun c4 f4 => ?_⟩
          rw [eC]
          refine ⟨c3, c4, _, _, rfl, rfl, same_new f4 _ _ upd_same, upd_same, (by rw [List.length_append, lV, lV]; show a1.length + 1 + a3.length ≤ _; omega), fun c5 f5 => ?_⟩
          exact go _ _ ⟨c5, a1 ++ [w] ++ a3, rfl, S9.same ((sx.trans (same_new f4)).trans (same_new f5)), by rw [← app, ← app]; exact upd_same, wcat (wcat wA w1') wC, by rw [List.length_append, List.length_append]; show a1.length + 1 + a3.length ≤ 40; omega⟩
        refine ⟨_, rfl, rfl, _, rfl, ite2 (fun c0 => ?_) (fun c0 => ?_)⟩
        · refine ⟨_, rfl, _, rfl, _, rfl, l, _, rfl, SqL.of hl9, fun c1' f1 => ?_⟩
          rw [eA]
          have sx := same_new (o := HO.lst (wV a1)) f1
          refine ⟨_, rfl, _, rfl, _, _, rfl, rfl, _, rfl, l, _, rfl, SqL.of (sx _ _ hl9), fun c4 f4 => ?_⟩
          rw [eB]
          refine ⟨c1', c4, _, _, rfl, rfl, same_new f4 _ _ upd_same, upd_same, (by rw [lV, lV]; omega), fun c5 f5 => ?_⟩
          exact go _ _ ⟨c5, a1 ++ a2, rfl, S9.same ((sx.trans (same_new f4)).trans (same_new f5)), by rw [← app]; exact upd_same, wcat wA wB, by rw [List.length_append]; omega⟩
        · refine ⟨_, rfl, _, rfl, (by show 2 ≤ sizeLine; decide), fun c2 f2 => ?_⟩
          have sx := same_new (o := HO.lst [V.str (S w), V.str (Str.ofString "5")]) f2
          refine ⟨l, c2, _, _, rfl, rfl, sx _ _ hl9, upd_same, (by rw [lV]; show (crWs ps).length + 2 ≤ _; omega), fun c5 f5 => ?_⟩
          refine go _ _ ⟨c5, crWs ps ++ [w, [53]], rfl, S9.same (sx.trans (same_new f5)), by rw [← app]; exact upd_same, wcat wW fun x hx => ?_, by rw [List.length_append]; show (crWs ps).length + 2 ≤ 40; omega⟩
          simp only [List.mem_cons, List.not_mem_nil, or_false] at hx
          rcases hx with rfl | rfl
          · exact ⟨wa, wl⟩
          · exact ⟨by decide, by decide⟩
    · rintro σ' H4 ⟨x4, x6, x7, x8, x9, x10, rfl, S4⟩
      clear S3
      dsimp only [gName, tSeq]
      refine ⟨_, rfl, _, rfl, _, rfl, _, rfl, (by show 1 ≤ sizeLine; decide), fun l1 fl1 => ⟨(by show 6 ≤ sizeLine; decide), fun q fq => ?_⟩⟩
      have S5 := S4.fresh (o := HO.lst [V.str (S (crTx ps))]) fl1 (fun ps z => by cases z)
      have S6 := S5.same (same_new (o := HO.lst [V.non, V.int 0, V.ref c1, V.ref d, V.ref l1, V.bl true]) fq)
      refine ⟨p, pl, q, _, _, rfl, S6.hp, by omega, SqL.of upd_same, S5.hp.ne_new fq, by show 0 < 6; decide, by show 6 < 1000000; decide, fun j odd Hb hj hpb kb => ?_⟩
      have S7 := S6.draw hpb kb
      clear S4 S5 S6 fq fl1 hpb kb
      dsimp only [gName, tSeq]
      refine ret_op ⟨S7.ht, fun H2 x2 t2 H3 s3 => ?_⟩
      have S8 := (S7.ext x2 t2).same s3
      clear S7 x2 t2 s3
      obtain ⟨av, hs⟩ : Anyv K H3 odd ∧ isS odd = false := by
        have hv := List.mem_of_getElem? hj
        simp only [List.mem_cons, List.not_mem_nil, or_false] at hv
        rcases hv with rfl | rfl | rfl | rfl | rfl | rfl
        · exact ⟨.non, rfl⟩
        · exact ⟨.int _, rfl⟩
        · obtain ⟨dx, fs, hc⟩ := (S8.crew (c := c1) (ps := ps) (by simp)).ins
          exact ⟨.obj (.x (.base (.ins hc OC.ins.cl OC.ins.ha OC.ins.hn OC.ins.htk OC.ins.hm))) NB.i NB.b NB.s, rfl⟩
        · exact ⟨any_dK (S8.get (List.mem_cons_of_mem _ md)), rfl⟩
        · exact ⟨any_lst S8.at0, rfl⟩
        · exact ⟨.bl _, rfl⟩
      refine ⟨rfl, _, rfl, odd, .inl 0, rfl, av, .inl ⟨hs, rfl⟩, S8.ht, rd_text (by decide) fun t H8 x8 t8 h8 => ⟨(by show 3 ≤ sizeLine; decide), fun t2 f2 => ?_⟩⟩
      have s9 := same_new (o := HO.tup [V.str (Str.ofString "text"), V.str (Str.ofString "0"), V.str (Str.ofString "0")]) f2
      have S9 := (S8.ext x8 t8).same s9
      have ok : ∀ z ∈ ([Str.ofString "text", Str.ofString "0", Str.ofString "0"] : List Str), OkS z := by unfold OkS; decide +kernel
      refine ⟨.tuple (([Str.ofString "text", Str.ofString "0", Str.ofString "0"] : List Str).map PyData.str), .tuple (([Str.ofString "text", Str.ofString "0", Str.ofString "0"] : List Str).map PyData.str), .tup (SqT.of (s9 _ _ h8)) (dp_strs [Str.ofString "text", Str.ofString "0", Str.ofString "0"]), .tup (SqT.of upd_same) (dp_strs [Str.ofString "text", Str.ofString "0", Str.ofString "0"]), shaped_strsT ok, shaped_strsT ok, ?_⟩
      rw [txt_eqv]
      have S10 := S9.cut
      exact k _ ⟨S10.sv.hp.more (by omega), S10.sv.ht, S10.sv.kL, S10.sv.nt⟩
end
end Lw
namespace Lw
open PySem PySem.Spec PyProof.Rows L2
open SX PySem.NumText TL LamX ClX StX
set_option pp.maxSteps 900
abbrev sLaw : Stmt := top 45
theorem fnG {P : Program} {w : World} {K : PySem.W.Frag} {mg : Str → Option Value} {base : Heap} {x : Str} {st : Stmt} {f : Addr} {fd : FuncData} {N ps : List Str} {k : Nat} {sp : Sp} (F : C8.Fun K x x st f fd) (S : FnScope N ps (C8.fnScope st))
    (len : ∀ vs H Q E, sp vs H Q E → vs.length = ps.length)
    (body : ∀ (cdv : Value) (A : Around) (outer : List Env) (s : Shared) (H : Hp) (vs : List V) (Q : VK) (E : XK), (A.deeper (envOfC x (C8.fnScope st) s.heap.objs.size f cdv)).guards = some [] → Room k (A.deeper (envOfC x (C8.fnScope st) s.heap.objs.size f cdv)) → sp vs H Q E →
      ∃ t, PSs (cxOf C8.CX0 P w K mg base N x (C8.fnScope st) f cdv A outer s H E).nox (C8.fnBody st) t ∧ t { nx := fun _ H' => Q .non H', rt := Q } (start N vs) H) : FnG P w K mg base (k + 1) f fd ps sp := by
  refine ⟨len, ?_⟩
  intro A outer s H args us vs Q E hg hr e0 hb r hs
  obtain ⟨oc, od, dV, kV, doc, pm, an, cdv, ct, osl, rfl, lk, hcd⟩ := F.ex
  refine LamX.run_ofS lk hcd S hr e0 hb r (len _ _ _ _ hs) fun hr' => ?_
  obtain ⟨t, h1, h2⟩ := body cdv A outer s H vs Q E hg hr' hs
  exact ⟨t, h1.nox, h2⟩
def nsA : List Str := ["a", "b", "c", "d", "m", "n", "o", "zz"]
def nsB : List Str := ["a", "e", "f", "g", "h", "i", "j", "p", "q"]
theorem nsA_ok : ∀ z ∈ nsA, nameT z = true ∧ z ≠ "nobody" := by decide +kernel
theorem nsB_ok : ∀ z ∈ nsB, nameT z = true := by decide +kernel
abbrev kA : List (Str × Int) := [("a", 1)]
abbrev kB : List (Str × Int) := [("b", 30)]
abbrev kB60 : List (Str × Int) := [("b", 60)]
abbrev kAB30 : List (Str × Int) := [("a", 1), ("b", 30)]
abbrev kAB60 : List (Str × Int) := [("a", 2), ("b", 60)]
abbrev kAB2 : List (Str × Int) := [("a", 1), ("b", 2)]
theorem okA : KsOk kA := ks_dec (by decide +kernel)
theorem okB : KsOk kB := ks_dec (by decide +kernel)
theorem okB60 : KsOk kB60 := ks_dec (by decide +kernel)
theorem okAB30 : KsOk kAB30 := ks_dec (by decide +kernel)
theorem okAB60 : KsOk kAB60 := ks_dec (by decide +kernel)
theorem okAB2 : KsOk kAB2 := ks_dec (by decide +kernel)
theorem srtA : Srt kA kA := ⟨.refl _, by decide +kernel⟩
theorem srtB : Srt kB kB := ⟨.refl _, by decide +kernel⟩
theorem srtB60 : Srt kB60 kB60 := ⟨.refl _, by decide +kernel⟩
theorem srtAB30 : Srt kAB30 kAB30 := ⟨.refl _, by decide +kernel⟩
theorem srtAB60 : Srt kAB60 kAB60 := ⟨.refl _, by decide +kernel⟩
theorem srtAB2 : Srt kAB2 kAB2 := ⟨.refl _, by decide +kernel⟩
def spLaw (K : PySem.W.Frag) (TS : List (Addr × Str)) : Sp := fun vs H Q _ => ∃ (a : Addr) (ns : List Int), vs = [.ref a] ∧ SqL K H a (ns.map V.int) ∧ ns.length ≤ 63 ∧ Tabs TS H ∧ ∀ H', Q (.bl true) H'
section
variable {P : Program} {w : World} {K : PySem.W.Frag} {mg : Str → Option Value} {base : Heap}
theorem scLaw : FnScope ["_law_script", "_law_pen_here", "_law_turn", "_law_held", "_law_speeds_here", "_law_others", "_law_kept"] ["_law_script"] (C8.fnScope sLaw) := C8.fnScope_by (by decide +kernel)
set_option maxHeartbeats 4000000 in
theorem fn_law {f CC DC DN DS DW DX DM fI : Addr} {TS : List (Addr × Str)} {fd : FuncData} (F : C8.Fun K "law" "law" sLaw f fd) (T : TxtC mg) (O : CrK P w K mg base CC DN DS DC DM DW fI) (OC : OpC P w K mg base CC DN DS DC DM DW)
    (D0 : C8.Cal P w K mg base 1 "_law_pen" (spPen K) []) (DD : C8.Cal P w K mg base 1 "_law_draw" spDraw []) (DSp : C8.Cal P w K mg base 3 "_law_speeds" spLsp []) (DB : C8.Cal P w K mg base 1 "_law_both" spLbo [])
    (DTR : CalG P w K mg base 19 "_law_together_right" (spLtr K CC TS) []) (DTI : CalG P w K mg base 19 "_law_times_right" (spLti K CC TS) []) (DRF : CalG P w K mg base 19 "_law_refused_right" (spLrf K CC TS) []) (DTE : CalG P w K mg base 19 "_law_text_right" (spLte K CC TS) []) : FnG P w K mg base 21 f fd ["_law_script"] (spLaw K TS) := by
  have CM := O.CM
  refine fnG F scLaw (fun vs H Q E h => ?_) (fun cdv A outer st H vs Q E hG hr h => ?_)
  · obtain ⟨a, ns, rfl, _⟩ := h
    rfl
  · obtain ⟨a, ns, rfl, hs, hl, ht, k⟩ := h
    refine ⟨_, (pss_cons (ps_set (i := 1) scLaw.nd rfl (Or.inl rfl) (C8.pe_c D0 hr (by decide) (by rfl) (pa_cons (pv 0) pa_nil)))
  (pss_cons (ps_for PassesOwn.never rfl (pi_range1 (by rfl) T.n_range (pa_cons pe_int pa_nil)) (pg_name (i := 2) scLaw.nd rfl (Or.inl rfl)) (pss_cons (ps_set (i := 4) scLaw.nd rfl (Or.inl rfl) (C8.pe_c DSp hr (by decide) (by rfl) (pa_cons (pv 1) (pa_cons (pe_lst (pa_cons pe_str (pa_cons pe_str (pa_cons pe_str (pa_cons pe_str (pa_cons pe_str (pa_cons pe_str (pa_cons pe_str (pa_cons pe_str pa_nil))))))))) (pa_cons pe_int pa_nil)))))
  (pss_cons (ps_set (i := 5) scLaw.nd rfl (Or.inl rfl) (C8.pe_c DSp hr (by decide) (by rfl) (pa_cons (pv 1) (pa_cons (pe_lst (pa_cons pe_str (pa_cons pe_str (pa_cons pe_str (pa_cons pe_str (pa_cons pe_str (pa_cons pe_str (pa_cons pe_str (pa_cons pe_str (pa_cons pe_str pa_nil)))))))))) (pa_cons pe_int pa_nil)))))
  (pss_cons (ps_if (pt_cmpR op_eq (C8.pe_c DD hr (by decide) (by rfl) (pa_cons (pv 1) (pa_cons pe_int pa_nil))) pe_int (nomark _)) (pss_one (ps_set (i := 5) scLaw.nd rfl (Or.inl rfl) (pe_ifExp (pt_cmpR op_lt (pe_callB call_lenD (by rfl) T.n_len (by decide +kernel) (pa_cons (C8.pe_c DB hr (by decide) (by rfl) (pa_cons (pv 4) (pa_cons (pv 5) pa_nil))) pa_nil)) pe_int (nomark _)) (C8.pe_c DB hr (by decide) (by rfl) (pa_cons (pv 4) (pa_cons (pv 5) pa_nil))) (pe_callTy call_dictD (by rfl) T.n_dict (by decide +kernel) (pa_cons (pv 4) pa_nil))))) pss_nil)
  (pss_cons (ps_if (PW.pt (pw_or (pt_not (pt_val (pe_g DTR hG hr (by decide) (by rfl) (pa_cons (pv 1) (pa_cons (pv 4) (pa_cons (pv 5) pa_nil)))))) (pw_or1 (pt_not (pt_val (pe_g DTI hG hr (by decide) (by rfl) (pa_cons (pv 1) (pa_cons (pv 4) pa_nil)))))))) (pss_one (ps_ret pe_bl)) pss_nil)
  (pss_one (ps_if (PW.pt (pw_or (pt_not (pt_val (pe_g DRF hG hr (by decide) (by rfl) (pa_cons (pv 1) (pa_cons (pv 4) pa_nil))))) (pw_or1 (pt_not (pt_val (pe_g DTE hG hr (by decide) (by rfl) (pa_cons (pv 1) (pa_cons (pv 4) pa_nil)))))))) (pss_one (ps_ret pe_bl)) pss_nil)))))))
  (pss_cons (ps_par (i := 3) (j := 6) rfl scLaw.nd rfl rfl (by decide) rfl rfl (pa_cons (pe_makeKN (E := C8.E0) (ks := ["a"]) CM.M CM.F (hr.mono (by decide)) (by rfl) CM.Z.hm (passes_call takes0 (fun _ _ _ _ z => z)) (pk_cons pe_int pk_nil) (by decide)) (pa_cons (pe_makeKN (E := C8.E0) (ks := ["a"]) CM.M CM.F (hr.mono (by decide)) (by rfl) CM.Z.hm (passes_call takes0 (fun _ _ _ _ z => z)) (pk_cons pe_int pk_nil) (by decide)) pa_nil)) (by rfl))
  (pss_cons (ps_aug (i := 3) scLaw.nd rfl (Or.inl rfl) (pe_makeKN (E := C8.E0) (ks := ["b"]) CM.M CM.F (hr.mono (by decide)) (by rfl) CM.Z.hm (passes_call takes0 (fun _ _ _ _ z => z)) (pk_cons pe_int pk_nil) (by decide)) (iop_of (op := .Add) (half_own (nm := "add") (E := C8.E0) OC.MA (passes_call takes0 (fun _ _ _ _ z => z)) OC.first hr (by decide)) OC.na rfl))
  (pss_cons (ps_aug (i := 3) scLaw.nd rfl (Or.inl rfl) pe_int (iop_of (op := .Mult) (half_lftK K rfl (nm := "mul") (E := C8.E0) OC.MM (passes_call takes0 (fun _ _ _ _ z => z)) OC.first OC.rmul (by decide) hr (by decide)) OC.nm rfl))
  (pss_cons (ps_aug (i := 3) scLaw.nd rfl (Or.inl rfl) pe_str (iop_of (op := .Sub) (half_lftNK K rfl (nm := "sub") (E := C8.E0) OC.MU (passes_call takes0 (fun _ _ _ _ z => z)) OC.first OC.rsub (by decide) hr (by decide)) OC.nu rfl))
  (pss_one (ps_ret (pe_and (pe_cmpR (op_eqR (E := C8.E0) O.ME (passes_call takes0 (fun _ _ _ _ z => z)) hr (by decide)) (pv 3) (pe_makeKN (E := C8.E0) (ks := ["b"]) CM.M CM.F (hr.mono (by decide)) (by rfl) CM.Z.hm (passes_call takes0 (fun _ _ _ _ z => z)) (pk_cons pe_int pk_nil) (by decide)) (nomark _)) (pe_and (pe_cmpR (op_eqR (E := C8.E0) O.ME (passes_call takes0 (fun _ _ _ _ z => z)) hr (by decide)) (pv 6) (pe_makeKN (E := C8.E0) (ks := ["a"]) CM.M CM.F (hr.mono (by decide)) (by rfl) CM.Z.hm (passes_call takes0 (fun _ _ _ _ z => z)) (pk_cons pe_int pk_nil) (by decide)) (nomark _)) (pe_and (pe_cmpR (op_cmpXK (op := .LtE) K rfl (E := C8.E0) (fun _ _ => rfl) OC.LE (passes_call takes0 (fun _ _ _ _ z => z)) hr (by decide)) (pe_makeKN (E := C8.E0) (ks := ["a"]) CM.M CM.F (hr.mono (by decide)) (by rfl) CM.Z.hm (passes_call takes0 (fun _ _ _ _ z => z)) (pk_cons pe_int pk_nil) (by decide)) (pe_makeKN (E := C8.E0) (ks := ["a", "b"]) CM.M CM.F (hr.mono (by decide)) (by rfl) CM.Z.hm (passes_call takes0 (fun _ _ _ _ z => z)) (pk_cons pe_int (pk_cons pe_int pk_nil)) (by decide)) (nomark _)) (pe_one (pe_cmpR (op_cmpXK (op := .Lt) K rfl (E := C8.E0) (fun _ _ => rfl) OC.LT (passes_call takes0 (fun _ _ _ _ z => z)) hr (by decide)) (pe_makeKN (E := C8.E0) (ks := ["a"]) CM.M CM.F (hr.mono (by decide)) (by rfl) CM.Z.hm (passes_call takes0 (fun _ _ _ _ z => z)) (pk_cons pe_int pk_nil) (by decide)) (pe_makeKN (E := C8.E0) (ks := ["a", "b"]) CM.M CM.F (hr.mono (by decide)) (by rfl) CM.Z.hm (passes_call takes0 (fun _ _ _ _ z => z)) (pk_cons pe_int (pk_cons pe_int pk_nil)) (by decide)) (nomark _)))))))))))))), ?_⟩
    refine ⟨_, rfl, a, ns, rfl, hs, hl, fun p pl H1 hp1 s1 _ => ?_⟩
    have ht1 := ht.ext s1
    dsimp only [gName, tSeq]
    refine ⟨_, rfl, by decide, by decide, for_range (fun i σ' H' => ∃ x2 x4 x5, σ' = [some (V.ref a), some (V.ref p), x2, none, x4, x5, none] ∧ Pen H' p pl (100 * i) ∧ Tabs TS H') ⟨_, _, _, rfl, hp1, ht1⟩ ?_ ?_⟩
    · rintro i σ1 H2 hi ⟨x2, x4, x5, rfl, hp2, ht2⟩
      have hi6 : i < 6 := hi
      clear hp1 ht1 ht s1
      dsimp only [gName, tSeq]
      refine ⟨_, rfl, (by show 8 ≤ sizeLine; decide), fun q fq => ?_⟩
      have s2 := same_new (o := HO.lst (nsA.map V.str)) fq
      refine ⟨p, pl, _, q, nsA, rfl, hp2.keep s2, by omega, upd_same, hp2.ne_new fq, by decide +kernel, by decide, by decide, fun d ks H3 hp3 k3 fd hd nd okn l1 l8 => ?_⟩
      have ht3 := Lw.Tabs.kp (ht2.ext s2) (hp2.keep s2) k3
      have okk : KsOk ks := ⟨nd, l1, l8, fun q hq => ⟨(nsA_ok _ (okn q hq).1).1, (okn q hq).2⟩⟩
      have far : ∀ q ∈ ks, q.1 ≠ "nobody" := fun q hq => (nsA_ok _ (okn q hq).1).2
      clear ht2 hp2 k3 fd s2 fq okn nd l1 l8
      dsimp only [gName, tSeq]
      refine ⟨_, rfl, (by show 9 ≤ sizeLine; decide), fun q fq => ?_⟩
      have s4 := same_new (o := HO.lst (nsB.map V.str)) fq
      refine ⟨p, pl, _, q, nsB, rfl, hp3.keep s4, by omega, upd_same, hp3.ne_new fq, by decide +kernel, by decide, by decide, fun e ls H5 hp5 k5 fe he nd okn l1 l8 => ?_⟩
      have ht5 := Lw.Tabs.kp (ht3.ext s4) (hp3.keep s4) k5
      have okl : KsOk ls := ⟨nd, l1, l8, fun q hq => ⟨nsB_ok _ (okn q hq).1, (okn q hq).2⟩⟩
      have dp : d ≠ p := fun z => by
        obtain ⟨ys, _, _, hh, _⟩ := hp3
        have := hh.at_
        rw [← z, hd] at this
        cases this
      have hd5 := k5 _ _ dp (s4 _ _ hd)
      have ep : e ≠ p := fun z => by
        obtain ⟨ys, _, _, hh, _⟩ := hp5
        have := hh.at_
        rw [← z, he] at this
        cases this
      clear ht3 hp3 k5 fe s4 fq okn nd l1 l8 hd
      dsimp only [gName, tSeq]
      refine join_any (fun σ' H' => ∃ e' ls', σ' = [some (V.ref a), some (V.ref p), some (V.int (0 + (i : Nat))), none, some (V.ref d), some (V.ref e'), none] ∧ Pen H' p pl (100 * i + 30 + 30 + 1) ∧ Tabs TS H' ∧ H' d = some (.dK (dkI ks)) ∧ H' e' = some (.dK (dkI ls')) ∧ e' ≠ p ∧ KsOk ls') ?rest (fun go => ?_)
      case rest =>
        rintro σ' H6 ⟨e', ls', rfl, hp6, ht6, hd6, he6, ep6, okl'⟩
        clear hp5 ht5 he hd5 ep okl
        have S6 : Sv TS p pl (100 * i + 30 + 30 + 1) [(d, .dK (dkI ks)), (e', .dK (dkI ls'))] H6 := ⟨hp6, ht6, fun x hx => by
          simp only [List.mem_cons, List.not_mem_nil, or_false] at hx
          rcases hx with rfl | rfl
          · exact hd6
          · exact he6, fun x hx => by
          simp only [List.mem_cons, List.not_mem_nil, or_false] at hx
          rcases hx with rfl | rfl
          · exact ⟨dp, fun ps z => by cases z⟩
          · exact ⟨ep6, fun ps z => by cases z⟩⟩
        obtain ⟨L6, eL6⟩ : ∃ L6, L6 = [(d, HO.dK (dkI ks)), (e', HO.dK (dkI ls'))] := ⟨_, rfl⟩
        rw [← eL6] at S6
        have m1 : (d, HO.dK (dkI ks)) ∈ L6 := by rw [eL6]; simp
        have m2 : (e', HO.dK (dkI ls')) ∈ L6 := by rw [eL6]; simp
        clear hp6 ht6 hd6 he6 eL6
        dsimp only [tSeq]
        refine ifs_no (Sv TS p pl (100 * i + 30 + 30 + 1 + 3 + 1) L6) (fun H7 S7 => ?_) (fun QQ go => ?_)
        · dsimp only
          refine ifs_no (Sv TS p pl (100 * i + 30 + 30 + 1 + 3 + 1 + 2 + 13) L6) (fun H8 S8 => ?_) (fun QQ go => ?_)
          · exact ⟨_, _, _, rfl, S8.hp.more (by omega), S8.ht⟩
          · exact ⟨_, rfl, _, rfl, p, pl, _, d, ks, L6, rfl, S7, by omega, m1, okk, far, fun H9 S9 => ⟨_, rfl, iteF ⟨_, rfl, _, rfl, p, pl, _, d, ks, L6, rfl, S9, by omega, m1, okk, fun H10 S10 => ⟨_, rfl, go _ S10⟩⟩⟩⟩
        · exact ⟨_, rfl, _, rfl, _, rfl, p, pl, _, d, e', ks, ls', L6, rfl, S6, by omega, m1, m2, okk, okl', fun H9 S9 => ⟨_, rfl, iteF ⟨_, rfl, _, rfl, p, pl, _, d, ks, L6, rfl, S9, by omega, m1, okk, fun H10 S10 => ⟨_, rfl, go _ S10⟩⟩⟩⟩
      · refine ⟨_, rfl, p, pl, _, 3, rfl, by decide, by decide, hp5, by omega, fun r H6 ra rb hp6 k6 => ⟨rfl, _, rfl, ite2 (fun c0 => ?_) (fun c0 => ?_)⟩⟩
        · have ht6 := Lw.Tabs.kp ht5 hp5 k6
          have hd6 := k6 _ _ dp hd5
          have he6 := k6 _ _ ep he
          have := okk.2.2.1
          have := okl.2.2.1
          refine ⟨_, rfl, _, rfl, d, e, ks, ls, rfl, hd6, he6, okl.1, by omega, by omega, fun D7 H7 s7 f7 hD7 => ⟨D7, _, rfl, hD7, _, _, rfl, rfl, _, rfl, ?_⟩⟩
          have el : (dkI (mrgI ks ls)).length = (mrgI ks ls).length := by rw [List.length_map, List.length_map]
          rw [el]
          by_cases l9 : (mrgI ks ls).length ≤ 8
          · refine iteT' (decide_eq_true (by omega)) ⟨_, rfl, _, rfl, d, e, ks, ls, rfl, s7 _ _ hd6, s7 _ _ he6, okl.1, by omega, by omega, fun D8 H8 s8 f8 hD8 => ?_⟩
            have s78 := s7.trans s8
            exact go _ _ ⟨D8, mrgI ks ls, rfl, hp6.keep s78, ht6.ext s78, s78 _ _ hd6, hD8, (hp6.keep s7).ne_new f8, mrgI_ok okk okl l9⟩
          · refine iteF' (decide_eq_false (by omega)) ⟨_, rfl, d, _, rfl, .inl (s7 _ _ hd6), fun D8 f8 => ?_⟩
            have s78 := s7.trans (same_new (o := HO.dK (dkI ks)) f8)
            exact go _ _ ⟨D8, ks, rfl, hp6.keep s78, ht6.ext s78, s78 _ _ hd6, upd_same, (hp6.keep s7).ne_new f8, okk⟩
        · exact go _ _ ⟨e, ls, rfl, hp6, Lw.Tabs.kp ht5 hp5 k6, k6 _ _ dp hd5, k6 _ _ ep he, ep, okl⟩
    · rintro σ1 H2 ⟨x2, x4, x5, rfl, hp2, ht2⟩
      clear hp1 ht1 ht s1 hp2 ht2
      dsimp only [gName, tSeq]
      refine ⟨rfl, mak_ok (ks := kA) okA fun c1 H3 ps s3 f3 cw3 sr3 => ⟨rfl, mak_ok (ks := kA) okA fun c2 H4 qs s4 f4 cw4 sr4 => ⟨_, _, rfl, ?_⟩⟩⟩
      obtain rfl : ps = kA := srt_uniq okA.1 sr3 srtA
      obtain rfl : qs = kA := srt_uniq okA.1 sr4 srtA
      have g1 := (srtA.cwg okA cw3).same s4
      have g2 := srtA.cwg okA cw4
      clear s3 f3 cw3 sr3 s4 f4 cw4 sr4
      dsimp only [tSeq]
      refine ⟨_, rfl, rfl, mak_ok (ks := kB) okB fun c3 H5 rs s5 f5 cw5 sr5 => ?_⟩
      obtain rfl : rs = kB := srt_uniq okB.1 sr5 srtB
      have g3 := srtB.cwg okB cw5
      have g1 := g1.same s5
      have g2 := g2.same s5
      obtain ⟨dx1, fs1, hc1⟩ := g1.ins
      obtain ⟨dx3, fs3, hc3⟩ := g3.ins
      refine ⟨.own hc1, c1, dx1, fs1, c3, dx3, fs3, rfl, rfl, hc1, hc3, c1, _, _, rfl, g1, .inr ⟨c3, _, rfl, g3, fun tw => ?_, fun _ => mkc_ok okAB30 fun c4 H6 us s6 f6 cw6 _ sr6 => ?_⟩⟩
      · exact absurd tw (by decide +kernel)
      obtain rfl : us = kAB30 := srt_uniq okAB30.1 sr6 srtAB30
      have g4 := srtAB30.cwg okAB30 cw6
      have g2 := g2.same s6
      clear g1 g3 s5 f5 cw5 sr5 cw6 sr6 s6 f6 hc1 hc3
      dsimp only [tSeq]
      obtain ⟨dx4, fs4, hc4⟩ := g4.ins
      refine ⟨_, rfl, .own hc4, c4, dx4, fs4, "int", rfl, hc4, .int 2, c4, _, _, rfl, g4, .int 2, fun b => absurd b (by decide +kernel), fun m e _ _ => ?_⟩
      cases e
      refine mkc_ok (ks := kAB60) okAB60 fun c5 H7 us s7 f7 cw7 _ sr7 => ?_
      obtain rfl : us = kAB60 := srt_uniq okAB60.1 sr7 srtAB60
      have g5 := srtAB60.cwg okAB60 cw7
      have g2 := g2.same s7
      clear g4 hc4 s7 f7 cw7 sr7
      dsimp only [tSeq]
      obtain ⟨dx5, fs5, hc5⟩ := g5.ins
      refine ⟨_, rfl, .own hc5, sub_cw g5 (z := "a") (by decide +kernel) (by decide +kernel) fun c6 H8 us s8 g6 sr8 => ?_⟩
      obtain rfl : us = kB60 := srt_uniq okB60.1 (show Srt kB60 us from sr8) srtB60
      have g2 := g2.same s8
      clear g5 hc5 s8 sr8
      dsimp only [tSeq]
      refine ret_and ⟨_, rfl, rfl, mak_ok (ks := kB60) okB60 fun c7 H9 us s9 f9 cw9 sr9 => ?_⟩
      obtain rfl : us = kB60 := srt_uniq okB60.1 sr9 srtB60
      have g7 := srtB60.cwg okB60 cw9
      have g6' := g6.same s9
      have g2' := g2.same s9
      refine cw_eq g6'.at_ g7.at_ g6'.l8 g7.l8 g6'.okn g7.okn ⟨_, rfl, iteT' (decide_eq_true rfl) ?_⟩
      clear g6 g6' g7 g2 s9 f9 cw9 sr9
      refine ⟨_, rfl, rfl, mak_ok (ks := kA) okA fun c8 HA us sA fA cwA srA => ?_⟩
      obtain rfl : us = kA := srt_uniq okA.1 srA srtA
      have g8 := srtA.cwg okA cwA
      have g2 := g2'.same sA
      refine cw_eq g2.at_ g8.at_ g2.l8 g8.l8 g2.okn g8.okn ⟨_, rfl, iteT' (decide_eq_true rfl) ?_⟩
      clear g2 g2' g8 sA fA cwA srA
      refine ⟨rfl, mak_ok (ks := kA) okA fun c9 HB us sB fB cwB srB => ⟨rfl, mak_ok (ks := kAB2) okAB2 fun c10 HC ts sC fC cwC srC => ?_⟩⟩
      obtain rfl : us = kA := srt_uniq okA.1 srB srtA
      obtain rfl : ts = kAB2 := srt_uniq okAB2.1 srC srtAB2
      refine le_cw OC.ins ((srtA.cwg okA cwB).same sC) (srtAB2.cwg okAB2 cwC) fun HD sD => ⟨_, rfl, iteT' (by decide +kernel) ?_⟩
      clear sB fB cwB srB sC fC cwC srC sD
      refine ⟨rfl, mak_ok (ks := kA) okA fun c9 HB us sB fB cwB srB => ⟨rfl, mak_ok (ks := kAB2) okAB2 fun c10 HC ts sC fC cwC srC => ?_⟩⟩
      obtain rfl : us = kA := srt_uniq okA.1 srB srtA
      obtain rfl : ts = kAB2 := srt_uniq okAB2.1 srC srtAB2
      refine lt_cw OC.ins ((srtA.cwg okA cwB).same sC) (srtAB2.cwg okAB2 cwC) fun HD sD => ?_
      rw [show (decide (∀ p ∈ kA, p ∈ kAB2) && !decide (kA = kAB2)) = true by decide +kernel]
      exact k _
end
end Lw
namespace Lw
open PySem PySem.Spec PyProof.Rows L2
open LamX
/-! ### the call of the law where nothing is being shown, with tables of code objects -/
/-- what is tracked when the law is entered: the tables, and the script unless it is written -/
def Entry (K : PySem.W.Frag) (h : Heap) (a : Addr) (Bs : List Addr) (ns : List Int) (H : Hp) : Prop :=
  (∀ B ∈ Bs, H B = some (.tbl #[])) ∧ SqL K H a (ns.map V.int) ∧ (∀ b u, H b = some u → (b ∈ Bs ∧ u = .tbl #[]) ∨ (b = a ∧ K.lookup a = none ∧ ∃ o xs, u = .frz o (.lst xs) ∧ h.get? a = some o))
theorem entry {P : Program} {w : World} {K : PySem.W.Frag} {h : Heap} {a : Addr} {Bs : List Addr} {vs : List Value} {ns : List Int} (KX : K.In h) (hT : ∀ B ∈ Bs, h.get? B = some { cls := .none, data := .fields #[] }) (ha : h.get? a = some { cls := .type "list", data := .seq vs.toArray }) (hi : IntsAre vs ns) (hl : ns.length ≤ sizeLine) :
    a ∉ Bs ∧ ∃ H, Entry K h a Bs ns H ∧ HOk P w H h := by
  have rv := vals_ints hi
  have lv := hi.length
  have ne : a ∉ Bs := fun e => by
    have hT := hT a e
    rw [ha] at hT
    have z : Data.seq vs.toArray _ = Data.fields #[] := congrArg Obj.data (Option.some.inj hT)
    cases z
  refine ⟨ne, ?_⟩
  cases hk : K.lookup a with
  | some o =>
    have e := KX a o hk
    rw [ha] at e
    cases e
    refine ⟨fun b => if b ∈ Bs then some (.tbl #[]) else none, ⟨fun B hB => if_pos hB, .inr ⟨_, vs.toArray, _, hk, rfl, rfl, rfl, by rw [List.size_toArray, lv]; exact hl, by simpa using rv⟩, fun b u z => ?_⟩, fun b u z => ?_⟩
    · by_cases q : b ∈ Bs
      · exact .inl ⟨q, (Option.some.inj ((if_pos q).symm.trans z)).symm⟩
      · cases (if_neg q).symm.trans z
    · by_cases q : b ∈ Bs
      · cases (if_pos q).symm.trans z
        exact hT b q
      · cases (if_neg q).symm.trans z
  | none =>
    refine ⟨fun b => if b ∈ Bs then some (.tbl #[]) else if b = a then some (.frz { cls := .type "list", data := .seq vs.toArray } (.lst (ns.map V.int))) else none,
      ⟨fun B hB => if_pos hB, .inl (.inr ⟨_, (if_neg ne).trans (if_pos rfl)⟩), fun b u z => ?_⟩, fun b u z => ?_⟩
    · by_cases q : b ∈ Bs
      · exact .inl ⟨q, (Option.some.inj ((if_pos q).symm.trans z)).symm⟩
      · have z2 := (if_neg q).symm.trans z
        by_cases q2 : b = a
        · exact .inr ⟨q2, hk, _, _, (Option.some.inj ((if_pos q2).symm.trans z2)).symm, ha⟩
        · cases (if_neg q2).symm.trans z2
    · by_cases q : b ∈ Bs
      · cases (if_pos q).symm.trans z
        exact hT b q
      · have z2 := (if_neg q).symm.trans z
        by_cases q2 : b = a
        · cases (if_pos q2).symm.trans z2
          rw [q2]
          exact ⟨ha, by rw [List.length_map]; exact hl, vs, _, rv, ha⟩
        · cases (if_neg q2).symm.trans z2
theorem law_end {P : Program} {w : World} {K : PySem.W.Frag} {mg mb : Str → Option Value} {k : Nat} {fa a : Addr} {Bs : List Addr} {fd : FuncData} {x : Str} {sp : Sp} {s₁ : Shared} {vs : List Value} {ns : List Int}
    (KX : K.In s₁.heap) (hns : s₁.heap.Ns mainGlobals mg) (hb : s₁.heap.Ns builtinsNs mb) (hbb : ∀ x : Str, x ≠ "__name__" → mb x = bootBuiltins x) (hlim : s₁.heap.NoLimit) (hg : s₁.gens = #[])
    (hT : ∀ B ∈ Bs, s₁.heap.get? B = some { cls := .none, data := .fields #[] }) (nT : ∀ B ∈ Bs, K.lookup B = none) (C : ∀ B ∈ Bs, ∃ c, PySem.W.CodeHd s₁.heap c B)
    (hbm : ∃ (bm : Addr) (ob : Obj), mg "__builtins__" = some (.ref bm) ∧ bm ≠ builtinsNs ∧ s₁.heap.get? bm = some ob ∧ ob.cls = .type "module" ∧ ob.dict = some builtinsNs ∧ ob.data = .plain)
    (ha : s₁.heap.get? a = some { cls := .type "list", data := .seq vs.toArray }) (hi : IntsAre vs ns) (hl : ns.length ≤ sizeLine) (hr : Room k callerA)
    (F : ∀ base : Heap, K.In base → base.Ns mainGlobals mg → (∀ B ∈ Bs, ∀ c, PySem.W.CodeHd s₁.heap c B → TabB base mg c B) → FnG P w K mg base k fa fd [x] sp) (hbind : ∀ (s : Shared) (u : Value), BindsTo s fd ⟨[u], []⟩ [(x, u)])
    (hsp : ∀ H : Hp, (∀ B ∈ Bs, H B = some (.tbl #[])) → SqL K H a (ns.map V.int) → sp [.ref a] H (fun v _ => v = .bl true) C8.E0) :
    codeAny (model P w) callerA (.call (.ref fa) ⟨[.ref a], []⟩) (fun r s' => r = .ok (.ret (.bool true)) ∧ OldK s₁.heap s'.heap ∧ s'.os = s₁.os ∧ AllBare s'.gens) s₁ := by
  obtain ⟨ne, H, ⟨hB, hS, hA⟩, hok⟩ := entry (P := P) (w := w) KX hT ha hi hl
  -- what is neither a table nor the script is untracked
  have free : ∀ {b : Addr} {o : Obj}, s₁.heap.get? b = some o → (∀ vs n, o.data ≠ .seq vs n) → o.data ≠ .fields #[] → H b = none := fun {b o} e h1 h2 => by
    cases q : H b with
    | none => rfl
    | some u =>
      rcases hA b u q with ⟨e', _⟩ | ⟨e', _⟩
      · rw [hT b e'] at e
        cases e
        exact absurd rfl h2
      · rw [e', ha] at e
        cases e
        exact absurd rfl (h1 _ _)
  have through : ∀ {b : Addr} {o : Obj}, s₁.heap.get? b = some o → H b = none → (hidT s₁.heap H).get? b = some o := fun e n => hidT_get e n
  have nsT : ∀ {b : Addr} {m : Str → Option Value}, s₁.heap.Ns b m → (hidT s₁.heap H).Ns b m := fun {b m} ⟨o, es, ep, e, d, r⟩ => by
    refine ⟨o, es, ep, through e (free e (fun vs n z => ?_) fun z => ?_), d, r⟩ <;> · rw [d] at z; cases z
  have inT : K.In (hidT s₁.heap H) := fun b o e => by
    refine through (KX b o e) ?_
    cases q : H b with
    | none => rfl
    | some u =>
      rcases hA b u q with ⟨e', _⟩ | ⟨e', n, _⟩
      · rw [nT b e'] at e; cases e
      · rw [e', n] at e; cases e
  have modT : L2.Mod K mg (hidT s₁.heap H) := by
    obtain ⟨mc, h1, h2⟩ := hlim
    exact ⟨inT, nsT hns, ⟨mb, nsT hb, hbb⟩, ⟨mc, nsT h1, h2⟩⟩
  have tabT : ∀ B ∈ Bs, ∀ c, PySem.W.CodeHd s₁.heap c B → TabB (hidT s₁.heap H) mg c B := fun B hBs c C => by
    refine ⟨?_, ?_, fun z => ?_⟩
    · obtain ⟨o, us, file, tf, flags, tg, inF, text, tt, e1, r1, r2, r3, r4⟩ := C
      refine ⟨o, us, file, tf, flags, tg, inF, text, tt, through e1 (free e1 (fun vs n z => ?_) fun z => ?_), r1, r2, r3, r4⟩
      · rw [r2] at z; cases z
      · rw [r2] at z; cases z
        simp at r3
    · obtain ⟨bm, ob, b1, b2, b3, b4, b5, b6⟩ := hbm
      refine ⟨bm, ob, b1, b2, fun q => ?_, fun q => ?_, through b3 (free b3 (fun vs n z => ?_) fun z => ?_), b4, b5, b6⟩
      · obtain ⟨o, es, ep, e, d, _⟩ := hns
        rw [q, e] at b3
        cases b3
        rw [d] at b6
        cases b6
      · rw [q, hT B hBs] at b3
        cases b3
        cases b6
      · rw [b6] at z; cases z
      · rw [b6] at z; cases z
    · obtain ⟨o, es, ep, e, d, _⟩ := hns
      rw [z, hT B hBs] at e
      cases e
      cases d
  have e0 : Env0 P w K mg (hidT s₁.heap H) callerA [] s₁ H := ⟨rfl, modT, fun b o e => of_hidT e, Nat.le_of_eq (hidT_size _ _), trivial, fun b hb => absurd (show b ∈ ([] : List Addr) from hb) (by simp), hok, .of_eq hg⟩
  refine codeAny_mono ((F _ inT (nsT hns) tabT).run callerA [] s₁ H ⟨[.ref a], []⟩ [.ref a] [.ref a] _ _ rfl hr e0 (hbind s₁ (.ref a)) (.cons rfl .nil) (hsp H hB hS)) fun r s' q => ?_
  match r, q with
  | .error e, q => exact (show False from q).elim
  | .ok .next, q => exact (show False from q).elim
  | .ok .brk, q => exact (show False from q).elim
  | .ok .cont, q => exact (show False from q).elim
  | .ok (.ret u), q =>
    obtain ⟨v, H', os, bare, un, hok', r', qv⟩ := q
    have qv' : v = .bl true := qv
    subst qv'
    obtain rfl : u = Value.bool true := r'
    have same : ∀ b o, b ∉ Bs → s₁.heap.get? b = some o → s'.heap.get? b = some o := fun b o nb e => by
      cases q : H b with
      | none => exact un.keep b o e q (by intro z; exact absurd (show b ∈ ([] : List Addr) from z) (by simp)) (by simp)
      | some u =>
        rcases hA b u q with ⟨z, _⟩ | ⟨e', _, ob, xs, rfl, hob⟩
        · exact absurd z nb
        · obtain ⟨e2, _⟩ := hok' b _ (un.frzs b ob _ q)
          rw [e', hob] at e
          cases e
          exact e2
    refine ⟨rfl, ⟨fun b o e => ?_, fun b o e => ?_⟩, os, bare⟩
    · by_cases hb : b ∈ Bs
      · obtain ⟨more, hmore⟩ := un.tbls b #[] (hB b hb)
        have atB := hok' b _ hmore
        obtain ⟨c, C⟩ := C b hb
        have hT := hT b hb
        rw [hT] at e
        cases e
        exact .inr (.inl ⟨(C.tab hT).isCodeTable, rfl, #[], _, rfl, atB⟩)
      · exact .inl (same b o hb e)
    · by_cases hb : b ∈ Bs
      · obtain ⟨more, hmore⟩ := un.tbls b #[] (hB b hb)
        exact ⟨_, hok' b _ hmore⟩
      · exact ⟨o, same b o hb e⟩
theorem tabIn_of {K : PySem.W.Frag} {x : Str} {f c B : Addr} {oc occ : Value} {od odc : Option Addr} {fd : FuncData} {sl slc : Array (Option Value)} {us : Array Value} (h1 : PySem.W.nsIn K mainGlobals x = some (some (.ref f))) (h2 : K.lookup f = some ⟨oc, od, .func fd, sl⟩) (hc : fd.code = .ref c)
    (h3 : K.lookup c = some ⟨occ, odc, .fields us, slc⟩) (h4 : us[11]? = some (.ref B)) : PySem.W.tabIn K x = some (c, B) := by
  unfold PySem.W.tabIn
  rw [h1]
  dsimp only
  rw [h2]
  dsimp only
  rw [hc]
  dsimp only
  rw [h3]
  dsimp only
  rw [h4]
/-- the walk's end, with any number of tables of code objects (tb: the def's name, its code object, its table) -/
theorem walk_endL {l : PySem.W.OpenLaw} {n k : Nat} {q : Program} {loose : List Str} {XP : (Str → Option Value) → Heap → Prop} {YP : World → Heap → Prop} {d : DefRec} {K : Params → PySem.W.Frag} {x : Str} {xts : List Str}
    (hn : l.most = some n) (hn2 : n ≤ 63) (hdf : d.params.defaults = []) (hr : Room k callerA) (hY : ∀ (w : World) (h : Heap), YP w h → (K w.params).In h) (hrec : (xts.all fun xt => ((recsOf q).find? fun e => e.name == xt).isSome) = true)
    (F : ∀ (w : World) (mg : Str → Option Value) (fa : Addr) (h : Heap), (K w.params).In h → h.Ns mainGlobals mg → mg d.name = some (.ref fa) → ∃ (fd : FuncData) (tb : List (Str × Addr × Addr)) (sp : Sp), (∀ e ∈ tb, e.1 ∈ xts ∧ PySem.W.tabIn (K w.params) e.1 = some (e.2.1, e.2.2) ∧ (K w.params).lookup e.2.2 = none) ∧ (∀ (s : Shared) (u : Value), BindsTo s fd ⟨[u], []⟩ [(x, u)]) ∧
      (∀ base : Heap, (K w.params).In base → base.Ns mainGlobals mg → (∀ e ∈ tb, TabB base mg e.2.1 e.2.2) → FnG l.prog w (K w.params) mg base k fa fd [x] sp) ∧
      ∀ (H : Hp) (a : Addr) (ns : List Int), (∀ e ∈ tb, H e.2.2 = some (.tbl #[])) → SqL (K w.params) H a (ns.map V.int) → ns.length ≤ 63 → sp [.ref a] H (fun v _ => v = .bl true) C8.E0) :
    PySem.W.WalkO q loose XP YP l.row.toRowW d [] (fun f vs => PySem.call f vs) := by
  refine Att.attach_callB hn hdf fun w s₀ s₁ mg mb fa o pm cd doc a vs ns G Y ho hd hcd hmg hobj hints hlen hbits hg => ?_
  have KX := hY w _ Y
  obtain ⟨fd, tb, sp, ht, hb, hF, hsp⟩ := F w mg fa _ KX G.T.g hmg
  have tab : ∀ e ∈ tb, PySem.W.CodeHd s₁.heap e.2.1 e.2.2 ∧ s₁.heap.get? e.2.2 = some { cls := .none, data := .fields #[] } := fun e he => by
    obtain ⟨h1, h2, h3⟩ := ht e he
    obtain ⟨dr, hdr⟩ := Option.isSome_iff_exists.mp (List.all_eq_true.mp hrec _ h1)
    exact PySem.W.tab_of G.T KX hdr h2
  have mem : ∀ {p : Addr → Prop}, (∀ e ∈ tb, p e.2.2) → ∀ b ∈ tb.map (·.2.2), p b := fun {p} h b hb => by
    obtain ⟨e, he, rfl⟩ := List.mem_map.mp hb
    exact h e he
  exact law_end (Bs := tb.map (·.2.2)) KX G.T.g G.T.b G.T.builtins G.T.nolimit hg (mem fun e he => (tab e he).2) (mem fun e he => (ht e he).2.2) (mem fun e he => ⟨_, (tab e he).1⟩) G.T.bmain hobj hints (Nat.le_trans (Nat.le_trans hlen hn2) (by decide)) hr
    (fun base kin ns' tbb => hF base kin ns' fun e he => tbb e.2.2 (List.mem_map.mpr ⟨e, he, rfl⟩) e.2.1 (tab e he).1) hb fun H hB hS => hsp H a ns (fun e he => hB e.2.2 (List.mem_map.mpr ⟨e, he, rfl⟩)) hS (Nat.le_trans hlen hn2)
end Lw
namespace Lw
open PySem PySem.Spec PyProof.Rows L2

open LamX ClX StX
set_option pp.maxSteps 900
def tab5 (B0 B1 B2 B3 B4 : Addr) : List (Addr × Str) := [(B0, ((("read_speeds" : Str) ++ (".<locals>." : Str)) ++ ("<lambda>" : Str))), (B1, ((("_law_together_right" : Str) ++ (".<locals>." : Str)) ++ ("<lambda>" : Str))), (B2, ((("_law_times_right" : Str) ++ (".<locals>." : Str)) ++ ("<lambda>" : Str))), (B3, ((("_law_refused_right" : Str) ++ (".<locals>." : Str)) ++ ("<lambda>" : Str))), (B4, ((("_law_text_right" : Str) ++ (".<locals>." : Str)) ++ ("<lambda>" : Str)))]
theorem tab5_0 {B0 B1 B2 B3 B4 : Addr} (h10 : B1 ≠ B0) (h20 : B2 ≠ B0) (h21 : B2 ≠ B1) (h30 : B3 ≠ B0) (h31 : B3 ≠ B1) (h32 : B3 ≠ B2) (h40 : B4 ≠ B0) (h41 : B4 ≠ B1) (h42 : B4 ≠ B2) (h43 : B4 ≠ B3) : TabOf (tab5 B0 B1 B2 B3 B4) B0 "read_speeds" := ⟨by simp [tab5], fun p hp e => by
  simp only [tab5, List.mem_cons, List.not_mem_nil, or_false] at hp
  rcases hp with rfl | rfl | rfl | rfl | rfl
  · rfl
  · exact absurd e h10
  · exact absurd e h20
  · exact absurd e h30
  · exact absurd e h40⟩
theorem tab5_1 {B0 B1 B2 B3 B4 : Addr} (h10 : B1 ≠ B0) (h20 : B2 ≠ B0) (h21 : B2 ≠ B1) (h30 : B3 ≠ B0) (h31 : B3 ≠ B1) (h32 : B3 ≠ B2) (h40 : B4 ≠ B0) (h41 : B4 ≠ B1) (h42 : B4 ≠ B2) (h43 : B4 ≠ B3) : TabOf (tab5 B0 B1 B2 B3 B4) B1 "_law_together_right" := ⟨by simp [tab5], fun p hp e => by
  simp only [tab5, List.mem_cons, List.not_mem_nil, or_false] at hp
  rcases hp with rfl | rfl | rfl | rfl | rfl
  · exact absurd e h10.symm
  · rfl
  · exact absurd e h21
  · exact absurd e h31
  · exact absurd e h41⟩
theorem tab5_2 {B0 B1 B2 B3 B4 : Addr} (h10 : B1 ≠ B0) (h20 : B2 ≠ B0) (h21 : B2 ≠ B1) (h30 : B3 ≠ B0) (h31 : B3 ≠ B1) (h32 : B3 ≠ B2) (h40 : B4 ≠ B0) (h41 : B4 ≠ B1) (h42 : B4 ≠ B2) (h43 : B4 ≠ B3) : TabOf (tab5 B0 B1 B2 B3 B4) B2 "_law_times_right" := ⟨by simp [tab5], fun p hp e => by
  simp only [tab5, List.mem_cons, List.not_mem_nil, or_false] at hp
  rcases hp with rfl | rfl | rfl | rfl | rfl
  · exact absurd e h20.symm
  · exact absurd e h21.symm
  · rfl
  · exact absurd e h32
  · exact absurd e h42⟩
theorem tab5_3 {B0 B1 B2 B3 B4 : Addr} (h10 : B1 ≠ B0) (h20 : B2 ≠ B0) (h21 : B2 ≠ B1) (h30 : B3 ≠ B0) (h31 : B3 ≠ B1) (h32 : B3 ≠ B2) (h40 : B4 ≠ B0) (h41 : B4 ≠ B1) (h42 : B4 ≠ B2) (h43 : B4 ≠ B3) : TabOf (tab5 B0 B1 B2 B3 B4) B3 "_law_refused_right" := ⟨by simp [tab5], fun p hp e => by
  simp only [tab5, List.mem_cons, List.not_mem_nil, or_false] at hp
  rcases hp with rfl | rfl | rfl | rfl | rfl
  · exact absurd e h30.symm
  · exact absurd e h31.symm
  · exact absurd e h32.symm
  · rfl
  · exact absurd e h43⟩
theorem tab5_4 {B0 B1 B2 B3 B4 : Addr} (h10 : B1 ≠ B0) (h20 : B2 ≠ B0) (h21 : B2 ≠ B1) (h30 : B3 ≠ B0) (h31 : B3 ≠ B1) (h32 : B3 ≠ B2) (h40 : B4 ≠ B0) (h41 : B4 ≠ B1) (h42 : B4 ≠ B2) (h43 : B4 ≠ B3) : TabOf (tab5 B0 B1 B2 B3 B4) B4 "_law_text_right" := ⟨by simp [tab5], fun p hp e => by
  simp only [tab5, List.mem_cons, List.not_mem_nil, or_false] at hp
  rcases hp with rfl | rfl | rfl | rfl | rfl
  · exact absurd e h40.symm
  · exact absurd e h41.symm
  · exact absurd e h42.symm
  · exact absurd e h43.symm
  · rfl⟩
theorem kb_same {K : PySem.W.Frag} {x q : Str} {st : Stmt} {f : Addr} {fd : FuncData} {ps ks : List Str} (F : C8.Fun K x q st f fd) (df : fd.defaults = .none) (h : ∀ (kV doc pm : Value) (an : Option Addr) (cdv ct : Value) (us ws : List Value), us.length = 0 → ws.length = ks.length → bindArgs (PySem.W.fnOf x q (C8.fnArgs st) (C8.fnBody st) (C8.fnScope st) .none kV doc pm an cdv ct) ⟨us, ks.zip ws⟩ = pure (ps.zip ws)) :
    KBn K fd ps 0 ks (fun _ ws => ws) gV1 := by
  obtain ⟨oc, od, dV, kV, doc, pm, an, cdv, ct, osl, rfl, lk, hcd⟩ := F.ex
  have e : dV = .none := df
  subst e
  exact ⟨fun s us ws X h1 h2 => .of_eq (h kV doc pm an cdv ct us ws h1 h2), fun r1 r2 => r2⟩
theorem kb_one {K : PySem.W.Frag} {x q : Str} {st : Stmt} {f : Addr} {fd : FuncData} {ps ks : List Str} (F : C8.Fun K x q st f fd) (df : fd.defaults = .none) (h : ∀ (kV doc pm : Value) (an : Option Addr) (cdv ct : Value) (us ws : List Value), us.length = 1 → ws.length = ks.length → bindArgs (PySem.W.fnOf x q (C8.fnArgs st) (C8.fnBody st) (C8.fnScope st) .none kV doc pm an cdv ct) ⟨us, ks.zip ws⟩ = pure (ps.zip (us ++ ws))) :
    KBn K fd ps 1 ks (fun us ws => us ++ ws) (fun us zs => us ++ zs) := by
  obtain ⟨oc, od, dV, kV, doc, pm, an, cdv, ct, osl, rfl, lk, hcd⟩ := F.ex
  have e : dV = .none := df
  subst e
  exact ⟨fun s us ws X h1 h2 => .of_eq (h kV doc pm an cdv ct us ws h1 h2), fun r1 r2 => r1.append r2⟩
theorem vals_back : ∀ {vs : List V} {us : List Value}, Vals vs us → Vals vs.reverse us.reverse
  | _, _, .nil => .nil
  | _, _, .cons h r => by
    rw [List.reverse_cons, List.reverse_cons]
    exact (vals_back r).append (.cons h .nil)
theorem kb_turn {K : PySem.W.Frag} {x q : Str} {st : Stmt} {f : Addr} {fd : FuncData} {ps ks : List Str} (F : C8.Fun K x q st f fd) (df : fd.defaults = .none) (h : ∀ (kV doc pm : Value) (an : Option Addr) (cdv ct : Value) (us ws : List Value), us.length = 1 → ws.length = ks.length → bindArgs (PySem.W.fnOf x q (C8.fnArgs st) (C8.fnBody st) (C8.fnScope st) .none kV doc pm an cdv ct) ⟨us, ks.zip ws⟩ = pure (ps.zip (us ++ ws.reverse))) :
    KBn K fd ps 1 ks (fun us ws => us ++ ws.reverse) (fun us zs => us ++ zs.reverse) := by
  obtain ⟨oc, od, dV, kV, doc, pm, an, cdv, ct, osl, rfl, lk, hcd⟩ := F.ex
  have e : dV = .none := df
  subst e
  exact ⟨fun s us ws X h1 h2 => .of_eq (h kV doc pm an cdv ct us ws h1 h2), fun r1 r2 => r1.append (vals_back r2)⟩

theorem all_known {l : PySem.W.OpenLaw} {w : World} {K : PySem.W.Frag} {h : Heap} {mg : Str → Option Value} {fa : Addr} (X : K.In h) (G : h.Ns mainGlobals mg) (hfa : mg "law" = some (.ref fa))
    {L : Addr}
    {fii : Addr} {ocii kVii dcii pmii ctii cdii : Value} {odii anii : Option Addr} {slii : Array (Option Value)}
    {fiw : Addr} {ociw kViw dciw pmiw ctiw cdiw : Value} {odiw aniw : Option Addr} {sliw : Array (Option Value)}
    {fin : Addr} {ocin kVin dcin pmin ctin cdin : Value} {odin anin : Option Addr} {slin : Array (Option Value)}
    {fis : Addr} {ocis kVis dcis pmis ctis cdis : Value} {odis anis : Option Addr} {slis : Array (Option Value)}
    {fck : Addr} {occk kVck dcck pmck ctck cdck : Value} {odck anck : Option Addr} {slck : Array (Option Value)}
    {fio : Addr} {ocio kVio dcio pmio ctio cdio : Value} {odio anio : Option Addr} {slio : Array (Option Value)}
    {fno : Addr} {ocno kVno dcno pmno ctno cdno : Value} {odno anno : Option Addr} {slno : Array (Option Value)}
    {flp : Addr} {oclp kVlp dclp pmlp ctlp cdlp : Value} {odlp anlp : Option Addr} {sllp : Array (Option Value)}
    {fld : Addr} {ocld kVld dcld pmld ctld cdld : Value} {odld anld : Option Addr} {slld : Array (Option Value)}
    {flk : Addr} {oclk kVlk dclk pmlk ctlk cdlk : Value} {odlk anlk : Option Addr} {sllk : Array (Option Value)}
    {flh : Addr} {oclh kVlh dclh pmlh ctlh cdlh : Value} {odlh anlh : Option Addr} {sllh : Array (Option Value)}
    {flz : Addr} {oclz kVlz dclz pmlz ctlz cdlz : Value} {odlz anlz : Option Addr} {sllz : Array (Option Value)}
    {flb : Addr} {oclb kVlb dclb pmlb ctlb cdlb : Value} {odlb anlb : Option Addr} {sllb : Array (Option Value)}
    {flj : Addr} {oclj kVlj dclj pmlj ctlj cdlj : Value} {odlj anlj : Option Addr} {sllj : Array (Option Value)}
    {flu : Addr} {oclu kVlu dclu pmlu ctlu cdlu : Value} {odlu anlu : Option Addr} {sllu : Array (Option Value)}
    {flq : Addr} {oclq kVlq dclq pmlq ctlq cdlq : Value} {odlq anlq : Option Addr} {sllq : Array (Option Value)}
    {flw : Addr} {oclw kVlw dclw pmlw ctlw cdlw : Value} {odlw anlw : Option Addr} {sllw : Array (Option Value)}
    {fla : Addr} {ocla kVla dcla pmla ctla cdla : Value} {odla anla : Option Addr} {slla : Array (Option Value)}
    {frw : Addr} {ocrw kVrw dcrw pmrw ctrw cdrw : Value} {odrw anrw : Option Addr} {slrw : Array (Option Value)}
    {Tdrw : Addr} {ocDrw : Value} {odDrw : Option Addr} {slDrw : Array (Option Value)} {nDrw : Nat}
    {frs : Addr} {ocrs kVrs dcrs pmrs ctrs : Value} {odrs anrs : Option Addr} {slrs : Array (Option Value)}
    {flx : Addr} {oclx kVlx dclx pmlx ctlx : Value} {odlx anlx : Option Addr} {sllx : Array (Option Value)}
    {flt : Addr} {oclt kVlt dclt pmlt ctlt : Value} {odlt anlt : Option Addr} {sllt : Array (Option Value)}
    {flf : Addr} {oclf kVlf dclf pmlf ctlf : Value} {odlf anlf : Option Addr} {sllf : Array (Option Value)}
    {fle : Addr} {ocle kVle dcle pmle ctle : Value} {odle anle : Option Addr} {slle : Array (Option Value)}
    {c0 B0 : Addr} {oc_c0 : Value} {od_c0 : Option Addr} {us_c0 : Array Value} {sl_c0 : Array (Option Value)}
    {c1 B1 : Addr} {oc_c1 : Value} {od_c1 : Option Addr} {us_c1 : Array Value} {sl_c1 : Array (Option Value)}
    {c2 B2 : Addr} {oc_c2 : Value} {od_c2 : Option Addr} {us_c2 : Array Value} {sl_c2 : Array (Option Value)}
    {c3 B3 : Addr} {oc_c3 : Value} {od_c3 : Option Addr} {us_c3 : Array Value} {sl_c3 : Array (Option Value)}
    {c4 B4 : Addr} {oc_c4 : Value} {od_c4 : Option Addr} {us_c4 : Array Value} {sl_c4 : Array (Option Value)}
    {CC : Addr} {mcCC : Value}
    {fci : Addr} {occi kVci dcci pmci ctci cdci : Value} {odci anci : Option Addr} {slci : Array (Option Value)}
    {fco : Addr} {occo kVco dcco pmco ctco cdco : Value} {odco anco : Option Addr} {slco : Array (Option Value)}
    {pco : Addr} {rsco : List Value}
    {fcr : Addr} {occr kVcr dccr pmcr ctcr cdcr : Value} {odcr ancr : Option Addr} {slcr : Array (Option Value)}
    {pcr : Addr} {rscr : List Value}
    {fce : Addr} {occe kVce dcce pmce ctce cdce : Value} {odce ance : Option Addr} {slce : Array (Option Value)}
    {fcn : Addr} {occn kVcn dccn pmcn ctcn cdcn : Value} {odcn ancn : Option Addr} {slcn : Array (Option Value)}
    {fwt : Addr} {ocwt kVwt dcwt pmwt ctwt cdwt : Value} {odwt anwt : Option Addr} {slwt : Array (Option Value)}
    {fwo : Addr} {ocwo kVwo dcwo pmwo ctwo cdwo : Value} {odwo anwo : Option Addr} {slwo : Array (Option Value)}
    {fwg : Addr} {ocwg kVwg dcwg pmwg ctwg cdwg : Value} {odwg anwg : Option Addr} {slwg : Array (Option Value)}
    {fws : Addr} {ocws kVws dcws pmws ctws cdws : Value} {odws anws : Option Addr} {slws : Array (Option Value)}
    {foa : Addr} {ocoa kVoa dcoa pmoa ctoa cdoa : Value} {odoa anoa : Option Addr} {sloa : Array (Option Value)}
    {fou : Addr} {ocou kVou dcou pmou ctou cdou : Value} {odou anou : Option Addr} {slou : Array (Option Value)}
    {fom : Addr} {ocom kVom dcom pmom ctom cdom : Value} {odom anom : Option Addr} {slom : Array (Option Value)}
    {fog : Addr} {ocog kVog dcog pmog ctog cdog : Value} {odog anog : Option Addr} {slog : Array (Option Value)}
    {fol : Addr} {ocol kVol dcol pmol ctol cdol : Value} {odol anol : Option Addr} {slol : Array (Option Value)}
    {fot : Addr} {ocot kVot dcot pmot ctot cdot : Value} {odot anot : Option Addr} {slot : Array (Option Value)}
    {fow : Addr} {ocow kVow dcow pmow ctow cdow : Value} {odow anow : Option Addr} {slow : Array (Option Value)}
    {clsC : ClassData}
    {R : Addr}
    {fri : Addr} {ocri kVri dcri pmri ctri cdri : Value} {odri anri : Option Addr} {slri : Array (Option Value)}
    {Tdri : Addr} {ocDri : Value} {odDri : Option Addr} {slDri : Array (Option Value)} {tDri : Tok} {nDri : Nat}
    {frh : Addr} {ocrh kVrh dcrh pmrh ctrh cdrh : Value} {odrh anrh : Option Addr} {slrh : Array (Option Value)}
    {frr : Addr} {ocrr kVrr dcrr pmrr ctrr cdrr : Value} {odrr anrr : Option Addr} {slrr : Array (Option Value)}
    {frt : Addr} {ocrt kVrt dcrt pmrt ctrt cdrt : Value} {odrt anrt : Option Addr} {slrt : Array (Option Value)}
    {frm : Addr} {ocrm kVrm dcrm pmrm ctrm cdrm : Value} {odrm anrm : Option Addr} {slrm : Array (Option Value)}
    {frf : Addr} {ocrf kVrf dcrf pmrf ctrf cdrf : Value} {odrf anrf : Option Addr} {slrf : Array (Option Value)}
    {DC fEc : Addr} {ocEc kVEc dcEc pmEc cdEc ctEc : Value} {odEc anEc : Option Addr} {slEc : Array (Option Value)} {nmDc qDc : Str} {NDc : Addr} {bsDc bmDc : List Value} {snDc : List Str} {subDc : List Value} {abDc : Bool} {colDc : Option Bool} {ddDc : Option Addr} {e0c e1c e2c e3c e5c : Option Value}
    {DN fEn : Addr} {ocEn kVEn dcEn pmEn cdEn ctEn : Value} {odEn anEn : Option Addr} {slEn : Array (Option Value)} {nmDn qDn : Str} {NDn : Addr} {bsDn bmDn : List Value} {snDn : List Str} {subDn : List Value} {abDn : Bool} {colDn : Option Bool} {ddDn : Option Addr} {e0n e1n e2n e3n e5n : Option Value}
    {DS fEs : Addr} {ocEs kVEs dcEs pmEs cdEs ctEs : Value} {odEs anEs : Option Addr} {slEs : Array (Option Value)} {nmDs qDs : Str} {NDs : Addr} {bsDs bmDs : List Value} {snDs : List Str} {subDs : List Value} {abDs : Bool} {colDs : Option Bool} {ddDs : Option Addr} {e0s e1s e2s e3s e5s : Option Value}
    {DW fEw : Addr} {ocEw kVEw dcEw pmEw cdEw ctEw : Value} {odEw anEw : Option Addr} {slEw : Array (Option Value)} {nmDw qDw : Str} {NDw : Addr} {bsDw bmDw : List Value} {snDw : List Str} {subDw : List Value} {abDw : Bool} {colDw : Option Bool} {ddDw : Option Addr} {e0w e1w e2w e3w e5w : Option Value}
    {DX fEx : Addr} {ocEx kVEx dcEx pmEx cdEx ctEx : Value} {odEx anEx : Option Addr} {slEx : Array (Option Value)} {nmDx qDx : Str} {NDx : Addr} {bsDx bmDx : List Value} {snDx : List Str} {subDx : List Value} {abDx : Bool} {colDx : Option Bool} {ddDx : Option Addr} {e0x e1x e2x e3x e5x : Option Value}
    {DM fEm : Addr} {ocEm kVEm dcEm pmEm cdEm ctEm : Value} {odEm anEm : Option Addr} {slEm : Array (Option Value)} {nmDm qDm : Str} {NDm : Addr} {bsDm bmDm : List Value} {snDm : List Str} {subDm : List Value} {abDm : Bool} {colDm : Option Bool} {ddDm : Option Addr} {e0m e1m e2m e3m e5m : Option Value}
    {tMW : Tok} {vMW : Int}
    {tGP : Tok} {vGP : Int}
    {tLN : Tok} {vLN : Int}
    {tPF : Tok} {vPF : Int}
    {tPW : Tok} {vPW : Int}
    {zE : Str} {tE : Tok} {aW : Addr} {odW : Option Addr} {wsW : Array Value} {nW : Nat} {slW : Array (Option Value)}
    (aL : PySem.W.nsIn K mainGlobals "LateError" = some (some (.ref L)))
    (aii : PySem.W.nsIn K mainGlobals "is_integer" = some (some (.ref fii)))
    (lii : K.lookup fii = some ⟨ocii, odii, .func (PySem.W.fnOf "is_integer" "is_integer" (C8.fnArgs sIsInt) (C8.fnBody sIsInt) (C8.fnScope sIsInt) .none kVii dcii pmii anii cdii ctii), slii⟩)
    (cii : PySem.W.codeIn K cdii "is_integer" = true)
    (kii : PySem.W.keepIn K (.ref fii) = true)
    (aiw : PySem.W.nsIn K mainGlobals "is_within" = some (some (.ref fiw)))
    (liw : K.lookup fiw = some ⟨ociw, odiw, .func (PySem.W.fnOf "is_within" "is_within" (C8.fnArgs sWithin) (C8.fnBody sWithin) (C8.fnScope sWithin) .none kViw dciw pmiw aniw cdiw ctiw), sliw⟩)
    (ciw : PySem.W.codeIn K cdiw "is_within" = true)
    (kiw : PySem.W.keepIn K (.ref fiw) = true)
    (ain : PySem.W.nsIn K mainGlobals "is_name" = some (some (.ref fin)))
    (lin : K.lookup fin = some ⟨ocin, odin, .func (PySem.W.fnOf "is_name" "is_name" (C8.fnArgs sIsName) (C8.fnBody sIsName) (C8.fnScope sIsName) .none kVin dcin pmin anin cdin ctin), slin⟩)
    (cin : PySem.W.codeIn K cdin "is_name" = true)
    (kin : PySem.W.keepIn K (.ref fin) = true)
    (ais : PySem.W.nsIn K mainGlobals "is_speed" = some (some (.ref fis)))
    (lis : K.lookup fis = some ⟨ocis, odis, .func (PySem.W.fnOf "is_speed" "is_speed" (C8.fnArgs sIsp) (C8.fnBody sIsp) (C8.fnScope sIsp) .none kVis dcis pmis anis cdis ctis), slis⟩)
    (cis : PySem.W.codeIn K cdis "is_speed" = true)
    (kis : PySem.W.keepIn K (.ref fis) = true)
    (ack : PySem.W.nsIn K mainGlobals "check_speeds" = some (some (.ref fck)))
    (lck : K.lookup fck = some ⟨occk, odck, .func (PySem.W.fnOf "check_speeds" "check_speeds" (C8.fnArgs sChk) (C8.fnBody sChk) (C8.fnScope sChk) .none kVck dcck pmck anck cdck ctck), slck⟩)
    (cck : PySem.W.codeIn K cdck "check_speeds" = true)
    (kck : PySem.W.keepIn K (.ref fck) = true)
    (aio : PySem.W.nsIn K mainGlobals "integer_of" = some (some (.ref fio)))
    (lio : K.lookup fio = some ⟨ocio, odio, .func (PySem.W.fnOf "integer_of" "integer_of" (C8.fnArgs sIntOf) (C8.fnBody sIntOf) (C8.fnScope sIntOf) .none kVio dcio pmio anio cdio ctio), slio⟩)
    (cio : PySem.W.codeIn K cdio "integer_of" = true)
    (kio : PySem.W.keepIn K (.ref fio) = true)
    (ano : PySem.W.nsIn K mainGlobals "number_of" = some (some (.ref fno)))
    (lno : K.lookup fno = some ⟨ocno, odno, .func (PySem.W.fnOf "number_of" "number_of" (C8.fnArgs sNumOf) (C8.fnBody sNumOf) (C8.fnScope sNumOf) .none kVno dcno pmno anno cdno ctno), slno⟩)
    (cno : PySem.W.codeIn K cdno "number_of" = true)
    (kno : PySem.W.keepIn K (.ref fno) = true)
    (alp : PySem.W.nsIn K mainGlobals "_law_pen" = some (some (.ref flp)))
    (llp : K.lookup flp = some ⟨oclp, odlp, .func (PySem.W.fnOf "_law_pen" "_law_pen" (C8.fnArgs sPen) (C8.fnBody sPen) (C8.fnScope sPen) .none kVlp dclp pmlp anlp cdlp ctlp), sllp⟩)
    (clp : PySem.W.codeIn K cdlp "_law_pen" = true)
    (klp : PySem.W.keepIn K (.ref flp) = true)
    (ald : PySem.W.nsIn K mainGlobals "_law_draw" = some (some (.ref fld)))
    (lld : K.lookup fld = some ⟨ocld, odld, .func (PySem.W.fnOf "_law_draw" "_law_draw" (C8.fnArgs sDraw) (C8.fnBody sDraw) (C8.fnScope sDraw) .none kVld dcld pmld anld cdld ctld), slld⟩)
    (cld : PySem.W.codeIn K cdld "_law_draw" = true)
    (kld : PySem.W.keepIn K (.ref fld) = true)
    (alk : PySem.W.nsIn K mainGlobals "_law_pick" = some (some (.ref flk)))
    (llk : K.lookup flk = some ⟨oclk, odlk, .func (PySem.W.fnOf "_law_pick" "_law_pick" (C8.fnArgs sPick) (C8.fnBody sPick) (C8.fnScope sPick) .none kVlk dclk pmlk anlk cdlk ctlk), sllk⟩)
    (clk : PySem.W.codeIn K cdlk "_law_pick" = true)
    (klk : PySem.W.keepIn K (.ref flk) = true)
    (alh : PySem.W.nsIn K mainGlobals "_law_heard" = some (some (.ref flh)))
    (llh : K.lookup flh = some ⟨oclh, odlh, .func (PySem.W.fnOf "_law_heard" "_law_heard" (C8.fnArgs sHea) (C8.fnBody sHea) (C8.fnScope sHea) .none kVlh dclh pmlh anlh cdlh ctlh), sllh⟩)
    (clh : PySem.W.codeIn K cdlh "_law_heard" = true)
    (klh : PySem.W.keepIn K (.ref flh) = true)
    (alz : PySem.W.nsIn K mainGlobals "_law_speeds" = some (some (.ref flz)))
    (llz : K.lookup flz = some ⟨oclz, odlz, .func (PySem.W.fnOf "_law_speeds" "_law_speeds" (C8.fnArgs sLsp) (C8.fnBody sLsp) (C8.fnScope sLsp) .none kVlz dclz pmlz anlz cdlz ctlz), sllz⟩)
    (clz : PySem.W.codeIn K cdlz "_law_speeds" = true)
    (klz : PySem.W.keepIn K (.ref flz) = true)
    (alb : PySem.W.nsIn K mainGlobals "_law_both" = some (some (.ref flb)))
    (llb : K.lookup flb = some ⟨oclb, odlb, .func (PySem.W.fnOf "_law_both" "_law_both" (C8.fnArgs sLbo) (C8.fnBody sLbo) (C8.fnScope sLbo) .none kVlb dclb pmlb anlb cdlb ctlb), sllb⟩)
    (clb : PySem.W.codeIn K cdlb "_law_both" = true)
    (klb : PySem.W.keepIn K (.ref flb) = true)
    (alj : PySem.W.nsIn K mainGlobals "_law_is_in" = some (some (.ref flj)))
    (llj : K.lookup flj = some ⟨oclj, odlj, .func (PySem.W.fnOf "_law_is_in" "_law_is_in" (C8.fnArgs sLii) (C8.fnBody sLii) (C8.fnScope sLii) .none kVlj dclj pmlj anlj cdlj ctlj), sllj⟩)
    (clj : PySem.W.codeIn K cdlj "_law_is_in" = true)
    (klj : PySem.W.keepIn K (.ref flj) = true)
    (alu : PySem.W.nsIn K mainGlobals "_law_sum_due" = some (some (.ref flu)))
    (llu : K.lookup flu = some ⟨oclu, odlu, .func (PySem.W.fnOf "_law_sum_due" "_law_sum_due" (C8.fnArgs sLsd) (C8.fnBody sLsd) (C8.fnScope sLsd) .none kVlu dclu pmlu anlu cdlu ctlu), sllu⟩)
    (clu : PySem.W.codeIn K cdlu "_law_sum_due" = true)
    (klu : PySem.W.keepIn K (.ref flu) = true)
    (alq : PySem.W.nsIn K mainGlobals "_law_is_name" = some (some (.ref flq)))
    (llq : K.lookup flq = some ⟨oclq, odlq, .func (PySem.W.fnOf "_law_is_name" "_law_is_name" (C8.fnArgs sLin) (C8.fnBody sLin) (C8.fnScope sLin) .none kVlq dclq pmlq anlq cdlq ctlq), sllq⟩)
    (clq : PySem.W.codeIn K cdlq "_law_is_name" = true)
    (klq : PySem.W.keepIn K (.ref flq) = true)
    (alw : PySem.W.nsIn K mainGlobals "_law_text_due" = some (some (.ref flw)))
    (llw : K.lookup flw = some ⟨oclw, odlw, .func (PySem.W.fnOf "_law_text_due" "_law_text_due" (C8.fnArgs sLtd) (C8.fnBody sLtd) (C8.fnScope sLtd) .none kVlw dclw pmlw anlw cdlw ctlw), sllw⟩)
    (clw : PySem.W.codeIn K cdlw "_law_text_due" = true)
    (klw : PySem.W.keepIn K (.ref flw) = true)
    (ala : PySem.W.nsIn K mainGlobals "law" = some (some (.ref fla)))
    (lla : K.lookup fla = some ⟨ocla, odla, .func (PySem.W.fnOf "law" "law" (C8.fnArgs sLaw) (C8.fnBody sLaw) (C8.fnScope sLaw) .none kVla dcla pmla anla cdla ctla), slla⟩)
    (cla : PySem.W.codeIn K cdla "law" = true)
    (kla : PySem.W.keepIn K (.ref fla) = true)
    (arw : PySem.W.nsIn K mainGlobals "read_named" = some (some (.ref frw)))
    (lrw : K.lookup frw = some ⟨ocrw, odrw, .func (PySem.W.fnOf "read_named" "read_named" (C8.fnArgs sRN) (C8.fnBody sRN) (C8.fnScope sRN) (.ref Tdrw) kVrw dcrw pmrw anrw cdrw ctrw), slrw⟩)
    (crw : PySem.W.codeIn K cdrw "read_named" = true)
    (krw : PySem.W.keepIn K (.ref frw) = true)
    (lDrw : K.lookup Tdrw = some ⟨ocDrw, odDrw, .seq #[.none] nDrw, slDrw⟩)
    (ars : PySem.W.nsIn K mainGlobals "read_speeds" = some (some (.ref frs)))
    (lrs : K.lookup frs = some ⟨ocrs, odrs, .func (PySem.W.fnOf "read_speeds" "read_speeds" (C8.fnArgs sRsp) (C8.fnBody sRsp) (C8.fnScope sRsp) .none kVrs dcrs pmrs anrs (.ref c0) ctrs), slrs⟩)
    (crs : PySem.W.codeIn K (.ref c0) "read_speeds" = true)
    (krs : PySem.W.keepIn K (.ref frs) = true)
    (alx : PySem.W.nsIn K mainGlobals "_law_together_right" = some (some (.ref flx)))
    (llx : K.lookup flx = some ⟨oclx, odlx, .func (PySem.W.fnOf "_law_together_right" "_law_together_right" (C8.fnArgs sLtr) (C8.fnBody sLtr) (C8.fnScope sLtr) .none kVlx dclx pmlx anlx (.ref c1) ctlx), sllx⟩)
    (clx : PySem.W.codeIn K (.ref c1) "_law_together_right" = true)
    (klx : PySem.W.keepIn K (.ref flx) = true)
    (alt : PySem.W.nsIn K mainGlobals "_law_times_right" = some (some (.ref flt)))
    (llt : K.lookup flt = some ⟨oclt, odlt, .func (PySem.W.fnOf "_law_times_right" "_law_times_right" (C8.fnArgs sLti) (C8.fnBody sLti) (C8.fnScope sLti) .none kVlt dclt pmlt anlt (.ref c2) ctlt), sllt⟩)
    (clt : PySem.W.codeIn K (.ref c2) "_law_times_right" = true)
    (klt : PySem.W.keepIn K (.ref flt) = true)
    (alf : PySem.W.nsIn K mainGlobals "_law_refused_right" = some (some (.ref flf)))
    (llf : K.lookup flf = some ⟨oclf, odlf, .func (PySem.W.fnOf "_law_refused_right" "_law_refused_right" (C8.fnArgs sLrf) (C8.fnBody sLrf) (C8.fnScope sLrf) .none kVlf dclf pmlf anlf (.ref c3) ctlf), sllf⟩)
    (clf : PySem.W.codeIn K (.ref c3) "_law_refused_right" = true)
    (klf : PySem.W.keepIn K (.ref flf) = true)
    (ale : PySem.W.nsIn K mainGlobals "_law_text_right" = some (some (.ref fle)))
    (lle : K.lookup fle = some ⟨ocle, odle, .func (PySem.W.fnOf "_law_text_right" "_law_text_right" (C8.fnArgs sLte) (C8.fnBody sLte) (C8.fnScope sLte) .none kVle dcle pmle anle (.ref c4) ctle), slle⟩)
    (cle : PySem.W.codeIn K (.ref c4) "_law_text_right" = true)
    (kle : PySem.W.keepIn K (.ref fle) = true)
    (ltrs : K.lookup c0 = some ⟨oc_c0, od_c0, .fields us_c0, sl_c0⟩)
    (vtrs : us_c0[11]? = some (.ref B0))
    (ntrs : K.lookup B0 = none)
    (ltlx : K.lookup c1 = some ⟨oc_c1, od_c1, .fields us_c1, sl_c1⟩)
    (vtlx : us_c1[11]? = some (.ref B1))
    (ntlx : K.lookup B1 = none)
    (ltlt : K.lookup c2 = some ⟨oc_c2, od_c2, .fields us_c2, sl_c2⟩)
    (vtlt : us_c2[11]? = some (.ref B2))
    (ntlt : K.lookup B2 = none)
    (ltlf : K.lookup c3 = some ⟨oc_c3, od_c3, .fields us_c3, sl_c3⟩)
    (vtlf : us_c3[11]? = some (.ref B3))
    (ntlf : K.lookup B3 = none)
    (ltle : K.lookup c4 = some ⟨oc_c4, od_c4, .fields us_c4, sl_c4⟩)
    (vtle : us_c4[11]? = some (.ref B4))
    (ntle : K.lookup B4 = none)
    (nB10 : B1 ≠ B0)
    (nB20 : B2 ≠ B0)
    (nB21 : B2 ≠ B1)
    (nB30 : B3 ≠ B0)
    (nB31 : B3 ≠ B1)
    (nB32 : B3 ≠ B2)
    (nB40 : B4 ≠ B0)
    (nB41 : B4 ≠ B1)
    (nB42 : B4 ≠ B2)
    (nB43 : B4 ≠ B3)
    (aCC : PySem.W.nsIn K mainGlobals "Crew" = some (some (.ref CC)))
    (sTCC : PySem.W.typeIn K (.ref CC) = some mcCC)
    (sRCC : PySem.W.readsIn K CC mcCC = true)
    (sGCC : PySem.W.specialIn K (.ref CC) "__getattribute__" = some (some (.builtin "type.__getattribute__")))
    (pgCC : PySem.W.plainGet K CC Str.empty = true)
    (hdCC : PySem.W.hasDictIn K CC = true)
    (poCC : PySem.W.plainOver K CC = true)
    (saCC : PySem.W.findIn K (.ref CC) "__setattr__" = some (some (.builtin "object.__setattr__")))
    (mkCC : PySem.W.makesIn K CC = true)
    (kCCC : PySem.W.keepIn K (.ref CC) = true)
    (noCC_workers : PySem.W.findIn K (.ref CC) "workers" = some none)
    (noCC_speed : PySem.W.findIn K (.ref CC) "speed" = some none)
    (noCC_least_speed : PySem.W.findIn K (.ref CC) "least_speed" = some none)
    (noCC_greatest_speed : PySem.W.findIn K (.ref CC) "greatest_speed" = some none)
    (noCC_slowest : PySem.W.findIn K (.ref CC) "slowest" = some none)
    (noCC_fastest : PySem.W.findIn K (.ref CC) "fastest" = some none)
    (noCC__pairs : PySem.W.findIn K (.ref CC) "_pairs" = some none)
    (noCC__speeds : PySem.W.findIn K (.ref CC) "_speeds" = some none)
    (hCCC : PySem.W.findIn K (.ref CC) "__class__" = some (some (.builtin "object.__class__")))
    (hMCC : PySem.W.mroIn K CC (.type "object") = some true)
    (hG : PySem.W.specialIn K (.builtin "object.__class__") "__get__" = some (some (.builtin "getset_descriptor.__get__")))
    (hK : PySem.W.takesIn K (.builtin "object.__class__") = some true)
    (nECC : PySem.W.findIn K (.ref CC) "__ne__" = some (some (.builtin "object.__ne__")))
    (oiCC : PySem.W.kitOne K (.ref CC) (.type "int") = some false)
    (obCC : PySem.W.kitOne K (.ref CC) (.type "bool") = some false)
    (osCC : PySem.W.kitOne K (.ref CC) (.type "str") = some false)
    (aci : PySem.W.findIn K (.ref CC) "__init__" = some (some (.ref fci)))
    (ici : PySem.W.isFn K (.ref fci) = true)
    (lci : K.lookup fci = some ⟨occi, odci, .func (PySem.W.fnOf "__init__" "Crew.__init__" (C8.fnArgs sCrI) (C8.fnBody sCrI) (C8.fnScope sCrI) .none kVci dcci pmci anci cdci ctci), slci⟩)
    (cci : PySem.W.codeIn K cdci "Crew.__init__" = true)
    (kci : PySem.W.keepIn K (.ref fci) = true)
    (lco : K.lookup fco = some ⟨occo, odco, .func (PySem.W.fnOf "of" "Crew.of" (C8.fnArgs sCof) (C8.fnBody sCof) (C8.fnScope sCof) .none kVco dcco pmco anco cdco ctco), slco⟩)
    (cco : PySem.W.codeIn K cdco "Crew.of" = true)
    (kco : PySem.W.keepIn K (.ref fco) = true)
    (sco : PySem.W.findCls K (.ref CC) mcCC "of" = some (.get (.builtin "staticmethod.__get__") (.ref pco) .none (.ref CC)))
    (rco : PySem.W.recIn K pco "staticmethod" = some (.ref fco :: rsco))
    (lcr : K.lookup fcr = some ⟨occr, odcr, .func (PySem.W.fnOf "read" "Crew.read" (C8.fnArgs sCrd) (C8.fnBody sCrd) (C8.fnScope sCrd) .none kVcr dccr pmcr ancr cdcr ctcr), slcr⟩)
    (ccr : PySem.W.codeIn K cdcr "Crew.read" = true)
    (ficr : PySem.W.fnIn K fcr = true)
    (scr : PySem.W.findCls K (.ref CC) mcCC "read" = some (.get (.builtin "classmethod.__get__") (.ref pcr) .none (.ref CC)))
    (rcr : PySem.W.recIn K pcr "classmethod" = some (.ref fcr :: rscr))
    (ace : PySem.W.findIn K (.ref CC) "__eq__" = some (some (.ref fce)))
    (ice : PySem.W.isFn K (.ref fce) = true)
    (lce : K.lookup fce = some ⟨occe, odce, .func (PySem.W.fnOf "__eq__" "Crew.__eq__" (C8.fnArgs sCeq) (C8.fnBody sCeq) (C8.fnScope sCeq) .none kVce dcce pmce ance cdce ctce), slce⟩)
    (cce : PySem.W.codeIn K cdce "Crew.__eq__" = true)
    (kce : PySem.W.keepIn K (.ref fce) = true)
    (acn : PySem.W.findIn K (.ref CC) "__len__" = some (some (.ref fcn)))
    (icn : PySem.W.isFn K (.ref fcn) = true)
    (lcn : K.lookup fcn = some ⟨occn, odcn, .func (PySem.W.fnOf "__len__" "Crew.__len__" (C8.fnArgs sCln) (C8.fnBody sCln) (C8.fnScope sCln) .none kVcn dccn pmcn ancn cdcn ctcn), slcn⟩)
    (ccn : PySem.W.codeIn K cdcn "Crew.__len__" = true)
    (kcn : PySem.W.keepIn K (.ref fcn) = true)
    (awt : PySem.W.findIn K (.ref CC) "__iter__" = some (some (.ref fwt)))
    (iwt : PySem.W.isFn K (.ref fwt) = true)
    (lwt : K.lookup fwt = some ⟨ocwt, odwt, .func (PySem.W.fnOf "__iter__" "Crew.__iter__" (C8.fnArgs sCit) (C8.fnBody sCit) (C8.fnScope sCit) .none kVwt dcwt pmwt anwt cdwt ctwt), slwt⟩)
    (cwt : PySem.W.codeIn K cdwt "Crew.__iter__" = true)
    (kwt : PySem.W.keepIn K (.ref fwt) = true)
    (awo : PySem.W.findIn K (.ref CC) "__contains__" = some (some (.ref fwo)))
    (iwo : PySem.W.isFn K (.ref fwo) = true)
    (lwo : K.lookup fwo = some ⟨ocwo, odwo, .func (PySem.W.fnOf "__contains__" "Crew.__contains__" (C8.fnArgs sCco) (C8.fnBody sCco) (C8.fnScope sCco) .none kVwo dcwo pmwo anwo cdwo ctwo), slwo⟩)
    (cwo : PySem.W.codeIn K cdwo "Crew.__contains__" = true)
    (kwo : PySem.W.keepIn K (.ref fwo) = true)
    (awg : PySem.W.findIn K (.ref CC) "__getitem__" = some (some (.ref fwg)))
    (iwg : PySem.W.isFn K (.ref fwg) = true)
    (lwg : K.lookup fwg = some ⟨ocwg, odwg, .func (PySem.W.fnOf "__getitem__" "Crew.__getitem__" (C8.fnArgs sCgi) (C8.fnBody sCgi) (C8.fnScope sCgi) .none kVwg dcwg pmwg anwg cdwg ctwg), slwg⟩)
    (cwg : PySem.W.codeIn K cdwg "Crew.__getitem__" = true)
    (kwg : PySem.W.keepIn K (.ref fwg) = true)
    (aws : PySem.W.findIn K (.ref CC) "__str__" = some (some (.ref fws)))
    (iws : PySem.W.isFn K (.ref fws) = true)
    (lws : K.lookup fws = some ⟨ocws, odws, .func (PySem.W.fnOf "__str__" "Crew.__str__" (C8.fnArgs sCst) (C8.fnBody sCst) (C8.fnScope sCst) .none kVws dcws pmws anws cdws ctws), slws⟩)
    (cws : PySem.W.codeIn K cdws "Crew.__str__" = true)
    (kws : PySem.W.keepIn K (.ref fws) = true)
    (aoa : PySem.W.findIn K (.ref CC) "__add__" = some (some (.ref foa)))
    (ioa : PySem.W.isFn K (.ref foa) = true)
    (loa : K.lookup foa = some ⟨ocoa, odoa, .func (PySem.W.fnOf "__add__" "Crew.__add__" (C8.fnArgs sCad) (C8.fnBody sCad) (C8.fnScope sCad) .none kVoa dcoa pmoa anoa cdoa ctoa), sloa⟩)
    (coa : PySem.W.codeIn K cdoa "Crew.__add__" = true)
    (koa : PySem.W.keepIn K (.ref foa) = true)
    (aou : PySem.W.findIn K (.ref CC) "__sub__" = some (some (.ref fou)))
    (iou : PySem.W.isFn K (.ref fou) = true)
    (lou : K.lookup fou = some ⟨ocou, odou, .func (PySem.W.fnOf "__sub__" "Crew.__sub__" (C8.fnArgs sCsu) (C8.fnBody sCsu) (C8.fnScope sCsu) .none kVou dcou pmou anou cdou ctou), slou⟩)
    (cou : PySem.W.codeIn K cdou "Crew.__sub__" = true)
    (kou : PySem.W.keepIn K (.ref fou) = true)
    (aom : PySem.W.findIn K (.ref CC) "__mul__" = some (some (.ref fom)))
    (iom : PySem.W.isFn K (.ref fom) = true)
    (lom : K.lookup fom = some ⟨ocom, odom, .func (PySem.W.fnOf "__mul__" "Crew.__mul__" (C8.fnArgs sCmu) (C8.fnBody sCmu) (C8.fnScope sCmu) .none kVom dcom pmom anom cdom ctom), slom⟩)
    (com : PySem.W.codeIn K cdom "Crew.__mul__" = true)
    (kom : PySem.W.keepIn K (.ref fom) = true)
    (aog : PySem.W.findIn K (.ref CC) "__rmul__" = some (some (.ref fog)))
    (iog : PySem.W.isFn K (.ref fog) = true)
    (log : K.lookup fog = some ⟨ocog, odog, .func (PySem.W.fnOf "__rmul__" "Crew.__rmul__" (C8.fnArgs sCrm) (C8.fnBody sCrm) (C8.fnScope sCrm) .none kVog dcog pmog anog cdog ctog), slog⟩)
    (cog : PySem.W.codeIn K cdog "Crew.__rmul__" = true)
    (kog : PySem.W.keepIn K (.ref fog) = true)
    (aol : PySem.W.findIn K (.ref CC) "__le__" = some (some (.ref fol)))
    (iol : PySem.W.isFn K (.ref fol) = true)
    (lol : K.lookup fol = some ⟨ocol, odol, .func (PySem.W.fnOf "__le__" "Crew.__le__" (C8.fnArgs sCle) (C8.fnBody sCle) (C8.fnScope sCle) .none kVol dcol pmol anol cdol ctol), slol⟩)
    (col : PySem.W.codeIn K cdol "Crew.__le__" = true)
    (kol : PySem.W.keepIn K (.ref fol) = true)
    (aot : PySem.W.findIn K (.ref CC) "__lt__" = some (some (.ref fot)))
    (iot : PySem.W.isFn K (.ref fot) = true)
    (lot : K.lookup fot = some ⟨ocot, odot, .func (PySem.W.fnOf "__lt__" "Crew.__lt__" (C8.fnArgs sClt) (C8.fnBody sClt) (C8.fnScope sClt) .none kVot dcot pmot anot cdot ctot), slot⟩)
    (cot : PySem.W.codeIn K cdot "Crew.__lt__" = true)
    (kot : PySem.W.keepIn K (.ref fot) = true)
    (aow : PySem.W.findIn K (.ref CC) "with_speed" = some (some (.ref fow)))
    (iow : PySem.W.isFn K (.ref fow) = true)
    (low : K.lookup fow = some ⟨ocow, odow, .func (PySem.W.fnOf "with_speed" "Crew.with_speed" (C8.fnArgs sCws) (C8.fnBody sCws) (C8.fnScope sCws) .none kVow dcow pmow anow cdow ctow), slow⟩)
    (cow : PySem.W.codeIn K cdow "Crew.with_speed" = true)
    (kow : PySem.W.keepIn K (.ref fow) = true)
    (fng : PySem.W.fnIn K fwg = true)
    (sqc : PySem.W.noSeq K CC = true)
    (nbf : (Ow.BTs.all fun n => PySem.W.subIn K (.type n) (.ref CC) == some false && PySem.W.kitOne K (.type n) (.ref CC) == some false) = true)
    (first : PySem.W.selfFirst K CC = true)
    (ra : PySem.W.findIn K (.ref CC) "__radd__" = some none)
    (ru : PySem.W.findIn K (.ref CC) "__rsub__" = some none)
    (s1 : PySem.W.subIn K (.ref CC) (.type "int") = some false)
    (s2 : PySem.W.subIn K (.ref CC) (.type "bool") = some false)
    (mC : PySem.W.clsIn K CC = some clsC)
    (mro : clsC.mro = [.ref CC, .type "object"])
    (xA : PySem.W.findIn K (.ref CC) (dunderI "add") = some none)
    (yA : PySem.W.findIn K (.type "object") (dunderI "add") = some none)
    (xM : PySem.W.findIn K (.ref CC) (dunderI "mul") = some none)
    (yM : PySem.W.findIn K (.type "object") (dunderI "mul") = some none)
    (xU : PySem.W.findIn K (.ref CC) (dunderI "sub") = some none)
    (yU : PySem.W.findIn K (.type "object") (dunderI "sub") = some none)
    (aR : PySem.W.nsIn K mainGlobals "Reader" = some (some (.ref R)))
    (pgR : PySem.W.plainGet K R Str.empty = true)
    (hdR : PySem.W.hasDictIn K R = true)
    (poR : PySem.W.plainOver K R = true)
    (saR : PySem.W.findIn K (.ref R) "__setattr__" = some (some (.builtin "object.__setattr__")))
    (mkR : PySem.W.makesIn K R = true)
    (kCR : PySem.W.keepIn K (.ref R) = true)
    (noR__words : PySem.W.findIn K (.ref R) "_words" = some none)
    (noR__row : PySem.W.findIn K (.ref R) "_row" = some none)
    (noR__at : PySem.W.findIn K (.ref R) "_at" = some none)
    (ari : PySem.W.findIn K (.ref R) "__init__" = some (some (.ref fri)))
    (iri : PySem.W.isFn K (.ref fri) = true)
    (lri : K.lookup fri = some ⟨ocri, odri, .func (PySem.W.fnOf "__init__" "Reader.__init__" (C8.fnArgs sRI) (C8.fnBody sRI) (C8.fnScope sRI) (.ref Tdri) kVri dcri pmri anri cdri ctri), slri⟩)
    (cri : PySem.W.codeIn K cdri "Reader.__init__" = true)
    (kri : PySem.W.keepIn K (.ref fri) = true)
    (lDri : K.lookup Tdri = some ⟨ocDri, odDri, .seq #[.int 0 tDri] nDri, slDri⟩)
    (arh : PySem.W.findIn K (.ref R) "at_hand" = some (some (.ref frh)))
    (irh : PySem.W.isFn K (.ref frh) = true)
    (lrh : K.lookup frh = some ⟨ocrh, odrh, .func (PySem.W.fnOf "at_hand" "Reader.at_hand" (C8.fnArgs sRah) (C8.fnBody sRah) (C8.fnScope sRah) .none kVrh dcrh pmrh anrh cdrh ctrh), slrh⟩)
    (crh : PySem.W.codeIn K cdrh "Reader.at_hand" = true)
    (krh : PySem.W.keepIn K (.ref frh) = true)
    (arr : PySem.W.findIn K (.ref R) "refuse" = some (some (.ref frr)))
    (irr : PySem.W.isFn K (.ref frr) = true)
    (lrr : K.lookup frr = some ⟨ocrr, odrr, .func (PySem.W.fnOf "refuse" "Reader.refuse" (C8.fnArgs sRrf) (C8.fnBody sRrf) (C8.fnScope sRrf) .none kVrr dcrr pmrr anrr cdrr ctrr), slrr⟩)
    (crr : PySem.W.codeIn K cdrr "Reader.refuse" = true)
    (krr : PySem.W.keepIn K (.ref frr) = true)
    (art : PySem.W.findIn K (.ref R) "take" = some (some (.ref frt)))
    (irt : PySem.W.isFn K (.ref frt) = true)
    (lrt : K.lookup frt = some ⟨ocrt, odrt, .func (PySem.W.fnOf "take" "Reader.take" (C8.fnArgs sRtk) (C8.fnBody sRtk) (C8.fnScope sRtk) .none kVrt dcrt pmrt anrt cdrt ctrt), slrt⟩)
    (crt : PySem.W.codeIn K cdrt "Reader.take" = true)
    (krt : PySem.W.keepIn K (.ref frt) = true)
    (arm : PySem.W.findIn K (.ref R) "more" = some (some (.ref frm)))
    (irm : PySem.W.isFn K (.ref frm) = true)
    (lrm : K.lookup frm = some ⟨ocrm, odrm, .func (PySem.W.fnOf "more" "Reader.more" (C8.fnArgs sRmo) (C8.fnBody sRmo) (C8.fnScope sRmo) .none kVrm dcrm pmrm anrm cdrm ctrm), slrm⟩)
    (crm : PySem.W.codeIn K cdrm "Reader.more" = true)
    (krm : PySem.W.keepIn K (.ref frm) = true)
    (arf : PySem.W.findIn K (.ref R) "finish" = some (some (.ref frf)))
    (irf : PySem.W.isFn K (.ref frf) = true)
    (lrf : K.lookup frf = some ⟨ocrf, odrf, .func (PySem.W.fnOf "finish" "Reader.finish" (C8.fnArgs sRfi) (C8.fnBody sRfi) (C8.fnScope sRfi) .none kVrf dcrf pmrf anrf cdrf ctrf), slrf⟩)
    (crf : PySem.W.codeIn K cdrf "Reader.finish" = true)
    (krf : PySem.W.keepIn K (.ref frf) = true)
    (aDc : PySem.W.nsIn K mainGlobals "BadCrew" = some (some (.ref DC)))
    (xDc : K.lookup DC = some (excClassObj nmDc qDc DC NDc bsDc bmDc true snDc subDc abDc colDc ddDc e0c e1c e2c e3c e5c "ValueError.__new__"))
    (xBc : PySem.HandSPX.refsVE bmDc = true)
    (xsc : PySem.W.findIn K (.ref DC) "__setattr__" = some (some (.builtin "object.__setattr__")))
    (xec : PySem.W.subIn K (.ref DC) (.type "BaseException") = some true)
    (xtc : PySem.W.typeIn K (.ref DC) = some (.type "type"))
    (xkc : PySem.W.keepIn K (.ref DC) = true)
    (xic : PySem.W.findIn K (.ref DC) "__init__" = some (some (.ref fEc)))
    (xfc : PySem.W.typeIn K (.ref fEc) = some (.type "function"))
    (lEc : K.lookup fEc = some ⟨ocEc, odEc, .func (PySem.W.fnOf "__init__" "BadCrew.__init__" (C8.fnArgs sBcrE) (C8.fnBody sBcrE) (C8.fnScope sBcrE) .none kVEc dcEc pmEc anEc cdEc ctEc), slEc⟩)
    (cEc : PySem.W.codeIn K cdEc "BadCrew.__init__" = true)
    (xvc0 : PySem.W.findIn K (.ref DC) "part" = some none)
    (xgc : PySem.W.findIn K (.ref DC) "__getattribute__" = some (some (.builtin "BaseException.__getattribute__")))
    (xnc : PySem.W.findIn K (.ref DC) "__getattr__" = some none)
    (xdc : PySem.W.hasDictIn K DC = true)
    (xcc : PySem.W.findIn K (.ref DC) "__class__" = some (some (.builtin "object.__class__")))
    (xmc : PySem.W.mroIn K DC (.type "object") = some true)
    (xoc : PySem.W.kitOne K (.ref DC) (.ref DC) = some true)
    (xLc : PySem.W.exmOne K (.ref DC) (.ref L) = some true)
    (xVc : PySem.W.kitOne K (.ref DC) (.type "ValueError") = some true)
    (aDn : PySem.W.nsIn K mainGlobals "BadName" = some (some (.ref DN)))
    (xDn : K.lookup DN = some (excClassObj nmDn qDn DN NDn bsDn bmDn true snDn subDn abDn colDn ddDn e0n e1n e2n e3n e5n "ValueError.__new__"))
    (xBn : PySem.HandSPX.refsVE bmDn = true)
    (xsn : PySem.W.findIn K (.ref DN) "__setattr__" = some (some (.builtin "object.__setattr__")))
    (xen : PySem.W.subIn K (.ref DN) (.type "BaseException") = some true)
    (xtn : PySem.W.typeIn K (.ref DN) = some (.type "type"))
    (xkn : PySem.W.keepIn K (.ref DN) = true)
    (xin : PySem.W.findIn K (.ref DN) "__init__" = some (some (.ref fEn)))
    (xfn : PySem.W.typeIn K (.ref fEn) = some (.type "function"))
    (lEn : K.lookup fEn = some ⟨ocEn, odEn, .func (PySem.W.fnOf "__init__" "BadName.__init__" (C8.fnArgs sBnmE) (C8.fnBody sBnmE) (C8.fnScope sBnmE) .none kVEn dcEn pmEn anEn cdEn ctEn), slEn⟩)
    (cEn : PySem.W.codeIn K cdEn "BadName.__init__" = true)
    (xvn0 : PySem.W.findIn K (.ref DN) "value" = some none)
    (xgn : PySem.W.findIn K (.ref DN) "__getattribute__" = some (some (.builtin "BaseException.__getattribute__")))
    (xnn : PySem.W.findIn K (.ref DN) "__getattr__" = some none)
    (xdn : PySem.W.hasDictIn K DN = true)
    (xcn : PySem.W.findIn K (.ref DN) "__class__" = some (some (.builtin "object.__class__")))
    (xmn : PySem.W.mroIn K DN (.type "object") = some true)
    (xon : PySem.W.kitOne K (.ref DN) (.ref DN) = some true)
    (xLn : PySem.W.exmOne K (.ref DN) (.ref L) = some true)
    (xVn : PySem.W.kitOne K (.ref DN) (.type "ValueError") = some true)
    (aDs : PySem.W.nsIn K mainGlobals "BadSpeed" = some (some (.ref DS)))
    (xDs : K.lookup DS = some (excClassObj nmDs qDs DS NDs bsDs bmDs true snDs subDs abDs colDs ddDs e0s e1s e2s e3s e5s "ValueError.__new__"))
    (xBs : PySem.HandSPX.refsVE bmDs = true)
    (xss : PySem.W.findIn K (.ref DS) "__setattr__" = some (some (.builtin "object.__setattr__")))
    (xes : PySem.W.subIn K (.ref DS) (.type "BaseException") = some true)
    (xts : PySem.W.typeIn K (.ref DS) = some (.type "type"))
    (xks : PySem.W.keepIn K (.ref DS) = true)
    (xis : PySem.W.findIn K (.ref DS) "__init__" = some (some (.ref fEs)))
    (xfs : PySem.W.typeIn K (.ref fEs) = some (.type "function"))
    (lEs : K.lookup fEs = some ⟨ocEs, odEs, .func (PySem.W.fnOf "__init__" "BadSpeed.__init__" (C8.fnArgs sBspE) (C8.fnBody sBspE) (C8.fnScope sBspE) .none kVEs dcEs pmEs anEs cdEs ctEs), slEs⟩)
    (cEs : PySem.W.codeIn K cdEs "BadSpeed.__init__" = true)
    (xvs0 : PySem.W.findIn K (.ref DS) "value" = some none)
    (xgs : PySem.W.findIn K (.ref DS) "__getattribute__" = some (some (.builtin "BaseException.__getattribute__")))
    (xns : PySem.W.findIn K (.ref DS) "__getattr__" = some none)
    (xds : PySem.W.hasDictIn K DS = true)
    (xcs : PySem.W.findIn K (.ref DS) "__class__" = some (some (.builtin "object.__class__")))
    (xms : PySem.W.mroIn K DS (.type "object") = some true)
    (xos : PySem.W.kitOne K (.ref DS) (.ref DS) = some true)
    (xLs : PySem.W.exmOne K (.ref DS) (.ref L) = some true)
    (xVs : PySem.W.kitOne K (.ref DS) (.type "ValueError") = some true)
    (aDw : PySem.W.nsIn K mainGlobals "NoWorker" = some (some (.ref DW)))
    (xDw : K.lookup DW = some (excClassObj nmDw qDw DW NDw bsDw bmDw true snDw subDw abDw colDw ddDw e0w e1w e2w e3w e5w "ValueError.__new__"))
    (xBw : PySem.HandSPX.refsVE bmDw = true)
    (xsw : PySem.W.findIn K (.ref DW) "__setattr__" = some (some (.builtin "object.__setattr__")))
    (xew : PySem.W.subIn K (.ref DW) (.type "BaseException") = some true)
    (xtw : PySem.W.typeIn K (.ref DW) = some (.type "type"))
    (xkw : PySem.W.keepIn K (.ref DW) = true)
    (xiw : PySem.W.findIn K (.ref DW) "__init__" = some (some (.ref fEw)))
    (xfw : PySem.W.typeIn K (.ref fEw) = some (.type "function"))
    (lEw : K.lookup fEw = some ⟨ocEw, odEw, .func (PySem.W.fnOf "__init__" "NoWorker.__init__" (C8.fnArgs sNwkE) (C8.fnBody sNwkE) (C8.fnScope sNwkE) .none kVEw dcEw pmEw anEw cdEw ctEw), slEw⟩)
    (cEw : PySem.W.codeIn K cdEw "NoWorker.__init__" = true)
    (xvw0 : PySem.W.findIn K (.ref DW) "name" = some none)
    (xgw : PySem.W.findIn K (.ref DW) "__getattribute__" = some (some (.builtin "BaseException.__getattribute__")))
    (xnw : PySem.W.findIn K (.ref DW) "__getattr__" = some none)
    (xdw : PySem.W.hasDictIn K DW = true)
    (xcw : PySem.W.findIn K (.ref DW) "__class__" = some (some (.builtin "object.__class__")))
    (xmw : PySem.W.mroIn K DW (.type "object") = some true)
    (xow : PySem.W.kitOne K (.ref DW) (.ref DW) = some true)
    (xLw : PySem.W.exmOne K (.ref DW) (.ref L) = some true)
    (xVw : PySem.W.kitOne K (.ref DW) (.type "ValueError") = some true)
    (aDx : PySem.W.nsIn K mainGlobals "BadText" = some (some (.ref DX)))
    (xDx : K.lookup DX = some (excClassObj nmDx qDx DX NDx bsDx bmDx true snDx subDx abDx colDx ddDx e0x e1x e2x e3x e5x "ValueError.__new__"))
    (xBx : PySem.HandSPX.refsVE bmDx = true)
    (xsx : PySem.W.findIn K (.ref DX) "__setattr__" = some (some (.builtin "object.__setattr__")))
    (xex : PySem.W.subIn K (.ref DX) (.type "BaseException") = some true)
    (xtx : PySem.W.typeIn K (.ref DX) = some (.type "type"))
    (xkx : PySem.W.keepIn K (.ref DX) = true)
    (xix : PySem.W.findIn K (.ref DX) "__init__" = some (some (.ref fEx)))
    (xfx : PySem.W.typeIn K (.ref fEx) = some (.type "function"))
    (lEx : K.lookup fEx = some ⟨ocEx, odEx, .func (PySem.W.fnOf "__init__" "BadText.__init__" (C8.fnArgs sTxE) (C8.fnBody sTxE) (C8.fnScope sTxE) .none kVEx dcEx pmEx anEx cdEx ctEx), slEx⟩)
    (cEx : PySem.W.codeIn K cdEx "BadText.__init__" = true)
    (xvx0 : PySem.W.findIn K (.ref DX) "line" = some none)
    (xvx1 : PySem.W.findIn K (.ref DX) "word" = some none)
    (xgx : PySem.W.findIn K (.ref DX) "__getattribute__" = some (some (.builtin "BaseException.__getattribute__")))
    (xnx : PySem.W.findIn K (.ref DX) "__getattr__" = some none)
    (xdx : PySem.W.hasDictIn K DX = true)
    (xcx : PySem.W.findIn K (.ref DX) "__class__" = some (some (.builtin "object.__class__")))
    (xmx : PySem.W.mroIn K DX (.type "object") = some true)
    (xox : PySem.W.kitOne K (.ref DX) (.ref DX) = some true)
    (xLx : PySem.W.exmOne K (.ref DX) (.ref L) = some true)
    (xVx : PySem.W.kitOne K (.ref DX) (.type "ValueError") = some true)
    (aDm : PySem.W.nsIn K mainGlobals "TooMany" = some (some (.ref DM)))
    (xDm : K.lookup DM = some (excClassObj nmDm qDm DM NDm bsDm bmDm true snDm subDm abDm colDm ddDm e0m e1m e2m e3m e5m "ValueError.__new__"))
    (xBm : PySem.HandSPX.refsVE bmDm = true)
    (xsm : PySem.W.findIn K (.ref DM) "__setattr__" = some (some (.builtin "object.__setattr__")))
    (xem : PySem.W.subIn K (.ref DM) (.type "BaseException") = some true)
    (xtm : PySem.W.typeIn K (.ref DM) = some (.type "type"))
    (xkm : PySem.W.keepIn K (.ref DM) = true)
    (xim : PySem.W.findIn K (.ref DM) "__init__" = some (some (.ref fEm)))
    (xfm : PySem.W.typeIn K (.ref fEm) = some (.type "function"))
    (lEm : K.lookup fEm = some ⟨ocEm, odEm, .func (PySem.W.fnOf "__init__" "TooMany.__init__" (C8.fnArgs sMnE) (C8.fnBody sMnE) (C8.fnScope sMnE) .none kVEm dcEm pmEm anEm cdEm ctEm), slEm⟩)
    (cEm : PySem.W.codeIn K cdEm "TooMany.__init__" = true)
    (xvm0 : PySem.W.findIn K (.ref DM) "what" = some none)
    (xvm1 : PySem.W.findIn K (.ref DM) "most" = some none)
    (xgm : PySem.W.findIn K (.ref DM) "__getattribute__" = some (some (.builtin "BaseException.__getattribute__")))
    (xnm : PySem.W.findIn K (.ref DM) "__getattr__" = some none)
    (xdm : PySem.W.hasDictIn K DM = true)
    (xcm : PySem.W.findIn K (.ref DM) "__class__" = some (some (.builtin "object.__class__")))
    (xmm : PySem.W.mroIn K DM (.type "object") = some true)
    (xom : PySem.W.kitOne K (.ref DM) (.ref DM) = some true)
    (xLm : PySem.W.exmOne K (.ref DM) (.ref L) = some true)
    (xVm : PySem.W.kitOne K (.ref DM) (.type "ValueError") = some true)
    (xNcn : PySem.W.kitOne K (.ref DC) (.ref DN) = some false)
    (xNcs : PySem.W.kitOne K (.ref DC) (.ref DS) = some false)
    (xNcw : PySem.W.kitOne K (.ref DC) (.ref DW) = some false)
    (xNcx : PySem.W.kitOne K (.ref DC) (.ref DX) = some false)
    (xNcm : PySem.W.kitOne K (.ref DC) (.ref DM) = some false)
    (xNnc : PySem.W.kitOne K (.ref DN) (.ref DC) = some false)
    (xNns : PySem.W.kitOne K (.ref DN) (.ref DS) = some false)
    (xNnw : PySem.W.kitOne K (.ref DN) (.ref DW) = some false)
    (xNnx : PySem.W.kitOne K (.ref DN) (.ref DX) = some false)
    (xNnm : PySem.W.kitOne K (.ref DN) (.ref DM) = some false)
    (xNsc : PySem.W.kitOne K (.ref DS) (.ref DC) = some false)
    (xNsn : PySem.W.kitOne K (.ref DS) (.ref DN) = some false)
    (xNsw : PySem.W.kitOne K (.ref DS) (.ref DW) = some false)
    (xNsx : PySem.W.kitOne K (.ref DS) (.ref DX) = some false)
    (xNsm : PySem.W.kitOne K (.ref DS) (.ref DM) = some false)
    (xNwc : PySem.W.kitOne K (.ref DW) (.ref DC) = some false)
    (xNwn : PySem.W.kitOne K (.ref DW) (.ref DN) = some false)
    (xNws : PySem.W.kitOne K (.ref DW) (.ref DS) = some false)
    (xNwx : PySem.W.kitOne K (.ref DW) (.ref DX) = some false)
    (xNwm : PySem.W.kitOne K (.ref DW) (.ref DM) = some false)
    (xNxc : PySem.W.kitOne K (.ref DX) (.ref DC) = some false)
    (xNxn : PySem.W.kitOne K (.ref DX) (.ref DN) = some false)
    (xNxs : PySem.W.kitOne K (.ref DX) (.ref DS) = some false)
    (xNxw : PySem.W.kitOne K (.ref DX) (.ref DW) = some false)
    (xNxm : PySem.W.kitOne K (.ref DX) (.ref DM) = some false)
    (xNmc : PySem.W.kitOne K (.ref DM) (.ref DC) = some false)
    (xNmn : PySem.W.kitOne K (.ref DM) (.ref DN) = some false)
    (xNms : PySem.W.kitOne K (.ref DM) (.ref DS) = some false)
    (xNmw : PySem.W.kitOne K (.ref DM) (.ref DW) = some false)
    (xNmx : PySem.W.kitOne K (.ref DM) (.ref DX) = some false)
    (gMW : PySem.W.nsIn K mainGlobals "MOST_WORKERS" = some (some (.int vMW tMW)))
    (eMW : vMW = 8)
    (gGP : PySem.W.nsIn K mainGlobals "GREATEST_SPEED" = some (some (.int vGP tGP)))
    (eGP : vGP = 60)
    (gLN : PySem.W.nsIn K mainGlobals "LONGEST_NAME" = some (some (.int vLN tLN)))
    (eLN : vLN = 8)
    (gPF : PySem.W.nsIn K mainGlobals "PIECE_FIGURES" = some (some (.int vPF tPF)))
    (ePF : vPF = 60)
    (gPW : PySem.W.nsIn K mainGlobals "PIECE_WORTH" = some (some (.int vPW tPW)))
    (ePW : vPW = 10 ^ 60)
    (gE : PySem.W.nsIn K mainGlobals "LETTERS" = some (some (.str zE tE)))
    (eE : zE = letters)
    (gW : PySem.W.nsIn K mainGlobals "TEXT_WORDS" = some (some (.ref aW)))
    (lW : K.lookup aW = some ⟨.type "tuple", odW, .seq wsW nW, slW⟩)
    (sW : wsW.size ≤ 100)
    (vW : Vals resV wsW.toList)
    (z_int : PySem.W.nsIn K mainGlobals "int" = some none)
    (z_list : PySem.W.nsIn K mainGlobals "list" = some none)
    (z_len : PySem.W.nsIn K mainGlobals "len" = some none)
    (z_abs : PySem.W.nsIn K mainGlobals "abs" = some none)
    (z_bool : PySem.W.nsIn K mainGlobals "bool" = some none)
    (z_str : PySem.W.nsIn K mainGlobals "str" = some none)
    (z_isinstance : PySem.W.nsIn K mainGlobals "isinstance" = some none)
    (z_range : PySem.W.nsIn K mainGlobals "range" = some none)
    (z_repr : PySem.W.nsIn K mainGlobals "repr" = some none)
    (z_all : PySem.W.nsIn K mainGlobals "all" = some none)
    (z_sorted : PySem.W.nsIn K mainGlobals "sorted" = some none)
    (z_tuple : PySem.W.nsIn K mainGlobals "tuple" = some none)
    (z_sum : PySem.W.nsIn K mainGlobals "sum" = some none)
    (z_min : PySem.W.nsIn K mainGlobals "min" = some none)
    (z_max : PySem.W.nsIn K mainGlobals "max" = some none)
    (z_dict : PySem.W.nsIn K mainGlobals "dict" = some none)
    (z_iter : PySem.W.nsIn K mainGlobals "iter" = some none)
    (z_ValueError : PySem.W.nsIn K mainGlobals "ValueError" = some none)
    (z_any : PySem.W.nsIn K mainGlobals "any" = some none)
    (z_set : PySem.W.nsIn K mainGlobals "set" = some none) :
    ∃ (fd : FuncData) (tb : List (Str × Addr × Addr)) (sp : Sp), (∀ e ∈ tb, e.1 ∈ (["read_speeds", "_law_together_right", "_law_times_right", "_law_refused_right", "_law_text_right"] : List Str) ∧ PySem.W.tabIn K e.1 = some (e.2.1, e.2.2) ∧ K.lookup e.2.2 = none) ∧ (∀ (s : Shared) (u : Value), BindsTo s fd ⟨[u], []⟩ [("_law_script", u)]) ∧
      (∀ base : Heap, K.In base → base.Ns mainGlobals mg → (∀ e ∈ tb, TabB base mg e.2.1 e.2.2) → FnG l.prog w K mg base 21 fa fd ["_law_script"] sp) ∧
      ∀ (H : Hp) (a : Addr) (ns : List Int), (∀ e ∈ tb, H e.2.2 = some (.tbl #[])) → SqL K H a (ns.map V.int) → ns.length ≤ 63 → sp [.ref a] H (fun v _ => v = .bl true) C8.E0 := by
  have e := hfa.symm.trans (PySem.W.mg_of X G ala)
  cases e
  subst eMW eGP eLN ePF ePW eE
  have Fii : C8.Def K mg "is_integer" sIsInt fii _ := ⟨⟨_, _, _, _, _, _, _, _, _, _, rfl, lii, cii⟩, PySem.W.mg_of X G aii, kii⟩
  have bii : Binds K _ ["value"] [] := Fii.fn.binds rfl fun _ _ _ _ _ _ us hl => match us, hl with | [_], _ => rfl
  have Fiw : C8.Def K mg "is_within" sWithin fiw _ := ⟨⟨_, _, _, _, _, _, _, _, _, _, rfl, liw, ciw⟩, PySem.W.mg_of X G aiw, kiw⟩
  have biw : Binds K _ ["value", "least", "most"] [] := Fiw.fn.binds rfl fun _ _ _ _ _ _ us hl => match us, hl with | [_, _, _], _ => rfl
  have Fin : C8.Def K mg "is_name" sIsName fin _ := ⟨⟨_, _, _, _, _, _, _, _, _, _, rfl, lin, cin⟩, PySem.W.mg_of X G ain, kin⟩
  have bin : Binds K _ ["value"] [] := Fin.fn.binds rfl fun _ _ _ _ _ _ us hl => match us, hl with | [_], _ => rfl
  have Fis : C8.Def K mg "is_speed" sIsp fis _ := ⟨⟨_, _, _, _, _, _, _, _, _, _, rfl, lis, cis⟩, PySem.W.mg_of X G ais, kis⟩
  have bis : Binds K _ ["value"] [] := Fis.fn.binds rfl fun _ _ _ _ _ _ us hl => match us, hl with | [_], _ => rfl
  have Fck : C8.Def K mg "check_speeds" sChk fck _ := ⟨⟨_, _, _, _, _, _, _, _, _, _, rfl, lck, cck⟩, PySem.W.mg_of X G ack, kck⟩
  have bck : Binds K _ ["names", "speeds"] [] := Fck.fn.binds rfl fun _ _ _ _ _ _ us hl => match us, hl with | [_, _], _ => rfl
  have Fio : C8.Def K mg "integer_of" sIntOf fio _ := ⟨⟨_, _, _, _, _, _, _, _, _, _, rfl, lio, cio⟩, PySem.W.mg_of X G aio, kio⟩
  have bio : Binds K _ ["word"] [] := Fio.fn.binds rfl fun _ _ _ _ _ _ us hl => match us, hl with | [_], _ => rfl
  have Fno : C8.Def K mg "number_of" sNumOf fno _ := ⟨⟨_, _, _, _, _, _, _, _, _, _, rfl, lno, cno⟩, PySem.W.mg_of X G ano, kno⟩
  have bno : Binds K _ ["word", "least", "most"] [] := Fno.fn.binds rfl fun _ _ _ _ _ _ us hl => match us, hl with | [_, _, _], _ => rfl
  have Flp : C8.Def K mg "_law_pen" sPen flp _ := ⟨⟨_, _, _, _, _, _, _, _, _, _, rfl, llp, clp⟩, PySem.W.mg_of X G alp, klp⟩
  have blp : Binds K _ ["_law_script"] [] := Flp.fn.binds rfl fun _ _ _ _ _ _ us hl => match us, hl with | [_], _ => rfl
  have Fld : C8.Def K mg "_law_draw" sDraw fld _ := ⟨⟨_, _, _, _, _, _, _, _, _, _, rfl, lld, cld⟩, PySem.W.mg_of X G ald, kld⟩
  have bld : Binds K _ ["_law_pen_here", "_law_many"] [] := Fld.fn.binds rfl fun _ _ _ _ _ _ us hl => match us, hl with | [_, _], _ => rfl
  have Flk : C8.Def K mg "_law_pick" sPick flk _ := ⟨⟨_, _, _, _, _, _, _, _, _, _, rfl, llk, clk⟩, PySem.W.mg_of X G alk, klk⟩
  have blk : Binds K _ ["_law_pen_here", "_law_some"] [] := Flk.fn.binds rfl fun _ _ _ _ _ _ us hl => match us, hl with | [_, _], _ => rfl
  have Flh : C8.Def K mg "_law_heard" sHea flh _ := ⟨⟨_, _, _, _, _, _, _, _, _, _, rfl, llh, clh⟩, PySem.W.mg_of X G alh, klh⟩
  have blh : Binds K _ ["_law_ask"] [] := Flh.fn.binds rfl fun _ _ _ _ _ _ us hl => match us, hl with | [_], _ => rfl
  have Flz : C8.Def K mg "_law_speeds" sLsp flz _ := ⟨⟨_, _, _, _, _, _, _, _, _, _, rfl, llz, clz⟩, PySem.W.mg_of X G alz, klz⟩
  have blz : Binds K _ ["_law_pen_here", "_law_names", "_law_least"] [] := Flz.fn.binds rfl fun _ _ _ _ _ _ us hl => match us, hl with | [_, _, _], _ => rfl
  have Flb : C8.Def K mg "_law_both" sLbo flb _ := ⟨⟨_, _, _, _, _, _, _, _, _, _, rfl, llb, clb⟩, PySem.W.mg_of X G alb, klb⟩
  have blb : Binds K _ ["_law_speeds_here", "_law_others"] [] := Flb.fn.binds rfl fun _ _ _ _ _ _ us hl => match us, hl with | [_, _], _ => rfl
  have Flj : C8.Def K mg "_law_is_in" sLii flj _ := ⟨⟨_, _, _, _, _, _, _, _, _, _, rfl, llj, clj⟩, PySem.W.mg_of X G alj, klj⟩
  have blj : Binds K _ ["_law_speeds_here", "_law_others"] [] := Flj.fn.binds rfl fun _ _ _ _ _ _ us hl => match us, hl with | [_, _], _ => rfl
  have Flu : C8.Def K mg "_law_sum_due" sLsd flu _ := ⟨⟨_, _, _, _, _, _, _, _, _, _, rfl, llu, clu⟩, PySem.W.mg_of X G alu, klu⟩
  have blu : Binds K _ ["_law_speeds_here", "_law_others"] [] := Flu.fn.binds rfl fun _ _ _ _ _ _ us hl => match us, hl with | [_, _], _ => rfl
  have Flq : C8.Def K mg "_law_is_name" sLin flq _ := ⟨⟨_, _, _, _, _, _, _, _, _, _, rfl, llq, clq⟩, PySem.W.mg_of X G alq, klq⟩
  have blq : Binds K _ ["_law_word"] [] := Flq.fn.binds rfl fun _ _ _ _ _ _ us hl => match us, hl with | [_], _ => rfl
  have Flw : C8.Def K mg "_law_text_due" sLtd flw _ := ⟨⟨_, _, _, _, _, _, _, _, _, _, rfl, llw, clw⟩, PySem.W.mg_of X G alw, klw⟩
  have blw : Binds K _ ["_law_text"] [] := Flw.fn.binds rfl fun _ _ _ _ _ _ us hl => match us, hl with | [_], _ => rfl
  have Fla : C8.Def K mg "law" sLaw fa _ := ⟨⟨_, _, _, _, _, _, _, _, _, _, rfl, lla, cla⟩, PySem.W.mg_of X G ala, kla⟩
  have bla : Binds K _ ["_law_script"] [] := Fla.fn.binds rfl fun _ _ _ _ _ _ us hl => match us, hl with | [_], _ => rfl
  have Frw : C8.Def K mg "read_named" sRN frw _ := ⟨⟨_, _, _, _, _, _, _, _, _, _, rfl, lrw, crw⟩, PySem.W.mg_of X G arw, krw⟩
  have FDrw : FunD K "read_named" "read_named" (C8.fnArgs sRN) (C8.fnBody sRN) (C8.fnScope sRN) [.non] [] frw _ := ⟨⟨_, _, _, _, _, _, _, _, _, _, rfl, lrw, crw, .inr ⟨by simp, Tdrw, _, [.none], nDrw, rfl, lDrw, rfl, .cons rfl .nil⟩, .inl rfl⟩, krw⟩
  have Frs : DefC K mg "read_speeds" sRsp frs _ c0 := ⟨⟨_, _, _, _, _, _, _, _, _, rfl, lrs, crs⟩, PySem.W.mg_of X G ars, krs⟩
  have brs : Binds K _ ["reader"] [] := C8.Fun.binds (st := sRsp) (x := "read_speeds") (qual := "read_speeds") (f := frs) ⟨_, _, _, _, _, _, _, _, _, _, rfl, lrs, crs⟩ rfl fun _ _ _ _ _ _ us hl => match us, hl with | [_], _ => rfl
  have Flx : DefC K mg "_law_together_right" sLtr flx _ c1 := ⟨⟨_, _, _, _, _, _, _, _, _, rfl, llx, clx⟩, PySem.W.mg_of X G alx, klx⟩
  have blx : Binds K _ ["_law_pen_here", "_law_speeds_here", "_law_others"] [] := C8.Fun.binds (st := sLtr) (x := "_law_together_right") (qual := "_law_together_right") (f := flx) ⟨_, _, _, _, _, _, _, _, _, _, rfl, llx, clx⟩ rfl fun _ _ _ _ _ _ us hl => match us, hl with | [_, _, _], _ => rfl
  have Flt : DefC K mg "_law_times_right" sLti flt _ c2 := ⟨⟨_, _, _, _, _, _, _, _, _, rfl, llt, clt⟩, PySem.W.mg_of X G alt, klt⟩
  have blt : Binds K _ ["_law_pen_here", "_law_speeds_here"] [] := C8.Fun.binds (st := sLti) (x := "_law_times_right") (qual := "_law_times_right") (f := flt) ⟨_, _, _, _, _, _, _, _, _, _, rfl, llt, clt⟩ rfl fun _ _ _ _ _ _ us hl => match us, hl with | [_, _], _ => rfl
  have Flf : DefC K mg "_law_refused_right" sLrf flf _ c3 := ⟨⟨_, _, _, _, _, _, _, _, _, rfl, llf, clf⟩, PySem.W.mg_of X G alf, klf⟩
  have blf : Binds K _ ["_law_pen_here", "_law_speeds_here"] [] := C8.Fun.binds (st := sLrf) (x := "_law_refused_right") (qual := "_law_refused_right") (f := flf) ⟨_, _, _, _, _, _, _, _, _, _, rfl, llf, clf⟩ rfl fun _ _ _ _ _ _ us hl => match us, hl with | [_, _], _ => rfl
  have Fle : DefC K mg "_law_text_right" sLte fle _ c4 := ⟨⟨_, _, _, _, _, _, _, _, _, rfl, lle, cle⟩, PySem.W.mg_of X G ale, kle⟩
  have ble : Binds K _ ["_law_pen_here", "_law_speeds_here"] [] := C8.Fun.binds (st := sLte) (x := "_law_text_right") (qual := "_law_text_right") (f := fle) ⟨_, _, _, _, _, _, _, _, _, _, rfl, lle, cle⟩ rfl fun _ _ _ _ _ _ us hl => match us, hl with | [_, _], _ => rfl
  have rCC : CRead K CC mcCC := ⟨sRCC, sGCC⟩
  have clCC : Cls K CC := ⟨pgCC, hdCC, poCC, saCC⟩
  have ICC : C8.InsC K CC := ⟨clCC, hCCC, hG, hK, hMCC, by unfold PySem.W.kitOne; rw [if_pos (by simp)]⟩
  have Fci : C8.Fun K "__init__" "Crew.__init__" sCrI fci _ := ⟨_, _, _, _, _, _, _, _, _, _, rfl, lci, cci⟩
  have tci : Meth K CC "__init__" fci := ⟨aci, ici, kci⟩
  have Fco : C8.Fun K "of" "Crew.of" sCof fco _ := ⟨_, _, _, _, _, _, _, _, _, _, rfl, lco, cco⟩
  have bco : Binds K _ ["speeds"] [] := Fco.binds rfl fun _ _ _ _ _ _ us hl => match us, hl with | [_], _ => rfl
  have Sco : SMet K CC "of" pco fco := ⟨⟨_, sTCC, sRCC, sco⟩, sGCC, ⟨_, rco⟩, kco⟩
  have Fcr : C8.Fun K "read" "Crew.read" sCrd fcr _ := ⟨_, _, _, _, _, _, _, _, _, _, rfl, lcr, ccr⟩
  have bcr : Binds K _ ["cls", "text"] [] := Fcr.binds rfl fun _ _ _ _ _ _ us hl => match us, hl with | [_, _], _ => rfl
  have Scr : CMet K CC mcCC "read" pcr fcr := ⟨scr, ⟨_, rcr⟩, ficr⟩
  have Fce : C8.Fun K "__eq__" "Crew.__eq__" sCeq fce _ := ⟨_, _, _, _, _, _, _, _, _, _, rfl, lce, cce⟩
  have bce : Binds K _ ["self", "other"] [] := Fce.binds rfl fun _ _ _ _ _ _ us hl => match us, hl with | [_, _], _ => rfl
  have tce : Meth K CC "__eq__" fce := ⟨ace, ice, kce⟩
  have Fcn : C8.Fun K "__len__" "Crew.__len__" sCln fcn _ := ⟨_, _, _, _, _, _, _, _, _, _, rfl, lcn, ccn⟩
  have bcn : Binds K _ ["self"] [] := Fcn.binds rfl fun _ _ _ _ _ _ us hl => match us, hl with | [_], _ => rfl
  have tcn : Meth K CC "__len__" fcn := ⟨acn, icn, kcn⟩
  have Fwt : C8.Fun K "__iter__" "Crew.__iter__" sCit fwt _ := ⟨_, _, _, _, _, _, _, _, _, _, rfl, lwt, cwt⟩
  have bwt : Binds K _ ["self"] [] := Fwt.binds rfl fun _ _ _ _ _ _ us hl => match us, hl with | [_], _ => rfl
  have twt : Meth K CC "__iter__" fwt := ⟨awt, iwt, kwt⟩
  have Fwo : C8.Fun K "__contains__" "Crew.__contains__" sCco fwo _ := ⟨_, _, _, _, _, _, _, _, _, _, rfl, lwo, cwo⟩
  have bwo : Binds K _ ["self", "x"] [] := Fwo.binds rfl fun _ _ _ _ _ _ us hl => match us, hl with | [_, _], _ => rfl
  have two : Meth K CC "__contains__" fwo := ⟨awo, iwo, kwo⟩
  have Fwg : C8.Fun K "__getitem__" "Crew.__getitem__" sCgi fwg _ := ⟨_, _, _, _, _, _, _, _, _, _, rfl, lwg, cwg⟩
  have bwg : Binds K _ ["self", "at"] [] := Fwg.binds rfl fun _ _ _ _ _ _ us hl => match us, hl with | [_, _], _ => rfl
  have twg : Meth K CC "__getitem__" fwg := ⟨awg, iwg, kwg⟩
  have Fws : C8.Fun K "__str__" "Crew.__str__" sCst fws _ := ⟨_, _, _, _, _, _, _, _, _, _, rfl, lws, cws⟩
  have bws : Binds K _ ["self"] [] := Fws.binds rfl fun _ _ _ _ _ _ us hl => match us, hl with | [_], _ => rfl
  have tws : Meth K CC "__str__" fws := ⟨aws, iws, kws⟩
  have Foa : C8.Fun K "__add__" "Crew.__add__" sCad foa _ := ⟨_, _, _, _, _, _, _, _, _, _, rfl, loa, coa⟩
  have boa : Binds K _ ["self", "other"] [] := Foa.binds rfl fun _ _ _ _ _ _ us hl => match us, hl with | [_, _], _ => rfl
  have toa : Meth K CC "__add__" foa := ⟨aoa, ioa, koa⟩
  have Fou : C8.Fun K "__sub__" "Crew.__sub__" sCsu fou _ := ⟨_, _, _, _, _, _, _, _, _, _, rfl, lou, cou⟩
  have bou : Binds K _ ["self", "other"] [] := Fou.binds rfl fun _ _ _ _ _ _ us hl => match us, hl with | [_, _], _ => rfl
  have tou : Meth K CC "__sub__" fou := ⟨aou, iou, kou⟩
  have Fom : C8.Fun K "__mul__" "Crew.__mul__" sCmu fom _ := ⟨_, _, _, _, _, _, _, _, _, _, rfl, lom, com⟩
  have bom : Binds K _ ["self", "other"] [] := Fom.binds rfl fun _ _ _ _ _ _ us hl => match us, hl with | [_, _], _ => rfl
  have tom : Meth K CC "__mul__" fom := ⟨aom, iom, kom⟩
  have Fog : C8.Fun K "__rmul__" "Crew.__rmul__" sCrm fog _ := ⟨_, _, _, _, _, _, _, _, _, _, rfl, log, cog⟩
  have bog : Binds K _ ["self", "other"] [] := Fog.binds rfl fun _ _ _ _ _ _ us hl => match us, hl with | [_, _], _ => rfl
  have tog : Meth K CC "__rmul__" fog := ⟨aog, iog, kog⟩
  have Fol : C8.Fun K "__le__" "Crew.__le__" sCle fol _ := ⟨_, _, _, _, _, _, _, _, _, _, rfl, lol, col⟩
  have bol : Binds K _ ["self", "other"] [] := Fol.binds rfl fun _ _ _ _ _ _ us hl => match us, hl with | [_, _], _ => rfl
  have tol : Meth K CC "__le__" fol := ⟨aol, iol, kol⟩
  have Fot : C8.Fun K "__lt__" "Crew.__lt__" sClt fot _ := ⟨_, _, _, _, _, _, _, _, _, _, rfl, lot, cot⟩
  have bot : Binds K _ ["self", "other"] [] := Fot.binds rfl fun _ _ _ _ _ _ us hl => match us, hl with | [_, _], _ => rfl
  have tot : Meth K CC "__lt__" fot := ⟨aot, iot, kot⟩
  have Fow : C8.Fun K "with_speed" "Crew.with_speed" sCws fow _ := ⟨_, _, _, _, _, _, _, _, _, _, rfl, low, cow⟩
  have bow : Binds K _ ["self", "name", "speed"] [] := Fow.binds rfl fun _ _ _ _ _ _ us hl => match us, hl with | [_, _, _], _ => rfl
  have tow : Meth K CC "with_speed" fow := ⟨aow, iow, kow⟩
  have clR : Cls K R := ⟨pgR, hdR, poR, saR⟩
  have Fri : C8.Fun K "__init__" "Reader.__init__" sRI fri _ := ⟨_, _, _, _, _, _, _, _, _, _, rfl, lri, cri⟩
  have FDri : FunD K "__init__" "Reader.__init__" (C8.fnArgs sRI) (C8.fnBody sRI) (C8.fnScope sRI) [.int 0] [] fri _ := ⟨⟨_, _, _, _, _, _, _, _, _, _, rfl, lri, cri, .inr ⟨by simp, Tdri, _, [.int 0 tDri], nDri, rfl, lDri, rfl, .cons ⟨_, rfl⟩ .nil⟩, .inl rfl⟩, kri⟩
  have Frh : C8.Fun K "at_hand" "Reader.at_hand" sRah frh _ := ⟨_, _, _, _, _, _, _, _, _, _, rfl, lrh, crh⟩
  have brh : Binds K _ ["self"] [] := Frh.binds rfl fun _ _ _ _ _ _ us hl => match us, hl with | [_], _ => rfl
  have trh : Meth K R "at_hand" frh := ⟨arh, irh, krh⟩
  have Frr : C8.Fun K "refuse" "Reader.refuse" sRrf frr _ := ⟨_, _, _, _, _, _, _, _, _, _, rfl, lrr, crr⟩
  have brr : Binds K _ ["self"] [] := Frr.binds rfl fun _ _ _ _ _ _ us hl => match us, hl with | [_], _ => rfl
  have trr : Meth K R "refuse" frr := ⟨arr, irr, krr⟩
  have Frt : C8.Fun K "take" "Reader.take" sRtk frt _ := ⟨_, _, _, _, _, _, _, _, _, _, rfl, lrt, crt⟩
  have brt : Binds K _ ["self", "worth"] [] := Frt.binds rfl fun _ _ _ _ _ _ us hl => match us, hl with | [_, _], _ => rfl
  have trt : Meth K R "take" frt := ⟨art, irt, krt⟩
  have Frm : C8.Fun K "more" "Reader.more" sRmo frm _ := ⟨_, _, _, _, _, _, _, _, _, _, rfl, lrm, crm⟩
  have brm : Binds K _ ["self"] [] := Frm.binds rfl fun _ _ _ _ _ _ us hl => match us, hl with | [_], _ => rfl
  have trm : Meth K R "more" frm := ⟨arm, irm, krm⟩
  have Frf : C8.Fun K "finish" "Reader.finish" sRfi frf _ := ⟨_, _, _, _, _, _, _, _, _, _, rfl, lrf, crf⟩
  have brf : Binds K _ ["self"] [] := Frf.binds rfl fun _ _ _ _ _ _ us hl => match us, hl with | [_], _ => rfl
  have trf : Meth K R "finish" frf := ⟨arf, irf, krf⟩
  have FEc : C8.Fun K "__init__" "BadCrew.__init__" sBcrE fEc _ := ⟨_, _, _, _, _, _, _, _, _, _, rfl, lEc, cEc⟩
  have bEc : Binds K _ ["self", "part"] [] := FEc.binds rfl fun _ _ _ _ _ _ us hl => match us, hl with | [_, _], _ => rfl
  have OXc : OexC K DC := ⟨⟨_, _, _, _, _, _, _, _, _, _, _, _, _, _, _, xDc, xBc⟩, xsc, xec, xtc, xkc⟩
  have XFc : XfC K DC := ⟨xgc, xnc, xec, xdc⟩
  have XCc : Hx.XCls K DC := ⟨xgc, xnc, xec, xdc, xcc, hG, hK, xmc⟩
  have FEn : C8.Fun K "__init__" "BadName.__init__" sBnmE fEn _ := ⟨_, _, _, _, _, _, _, _, _, _, rfl, lEn, cEn⟩
  have bEn : Binds K _ ["self", "value"] [] := FEn.binds rfl fun _ _ _ _ _ _ us hl => match us, hl with | [_, _], _ => rfl
  have OXn : OexC K DN := ⟨⟨_, _, _, _, _, _, _, _, _, _, _, _, _, _, _, xDn, xBn⟩, xsn, xen, xtn, xkn⟩
  have XFn : XfC K DN := ⟨xgn, xnn, xen, xdn⟩
  have XCn : Hx.XCls K DN := ⟨xgn, xnn, xen, xdn, xcn, hG, hK, xmn⟩
  have FEs : C8.Fun K "__init__" "BadSpeed.__init__" sBspE fEs _ := ⟨_, _, _, _, _, _, _, _, _, _, rfl, lEs, cEs⟩
  have bEs : Binds K _ ["self", "value"] [] := FEs.binds rfl fun _ _ _ _ _ _ us hl => match us, hl with | [_, _], _ => rfl
  have OXs : OexC K DS := ⟨⟨_, _, _, _, _, _, _, _, _, _, _, _, _, _, _, xDs, xBs⟩, xss, xes, xts, xks⟩
  have XFs : XfC K DS := ⟨xgs, xns, xes, xds⟩
  have XCs : Hx.XCls K DS := ⟨xgs, xns, xes, xds, xcs, hG, hK, xms⟩
  have FEw : C8.Fun K "__init__" "NoWorker.__init__" sNwkE fEw _ := ⟨_, _, _, _, _, _, _, _, _, _, rfl, lEw, cEw⟩
  have bEw : Binds K _ ["self", "name"] [] := FEw.binds rfl fun _ _ _ _ _ _ us hl => match us, hl with | [_, _], _ => rfl
  have OXw : OexC K DW := ⟨⟨_, _, _, _, _, _, _, _, _, _, _, _, _, _, _, xDw, xBw⟩, xsw, xew, xtw, xkw⟩
  have XFw : XfC K DW := ⟨xgw, xnw, xew, xdw⟩
  have XCw : Hx.XCls K DW := ⟨xgw, xnw, xew, xdw, xcw, hG, hK, xmw⟩
  have FEx : C8.Fun K "__init__" "BadText.__init__" sTxE fEx _ := ⟨_, _, _, _, _, _, _, _, _, _, rfl, lEx, cEx⟩
  have bEx : Binds K _ ["self", "line", "word"] [] := FEx.binds rfl fun _ _ _ _ _ _ us hl => match us, hl with | [_, _, _], _ => rfl
  have OXx : OexC K DX := ⟨⟨_, _, _, _, _, _, _, _, _, _, _, _, _, _, _, xDx, xBx⟩, xsx, xex, xtx, xkx⟩
  have XFx : XfC K DX := ⟨xgx, xnx, xex, xdx⟩
  have XCx : Hx.XCls K DX := ⟨xgx, xnx, xex, xdx, xcx, hG, hK, xmx⟩
  have FEm : C8.Fun K "__init__" "TooMany.__init__" sMnE fEm _ := ⟨_, _, _, _, _, _, _, _, _, _, rfl, lEm, cEm⟩
  have bEm : Binds K _ ["self", "what", "most"] [] := FEm.binds rfl fun _ _ _ _ _ _ us hl => match us, hl with | [_, _, _], _ => rfl
  have OXm : OexC K DM := ⟨⟨_, _, _, _, _, _, _, _, _, _, _, _, _, _, _, xDm, xBm⟩, xsm, xem, xtm, xkm⟩
  have XFm : XfC K DM := ⟨xgm, xnm, xem, xdm⟩
  have XCm : Hx.XCls K DM := ⟨xgm, xnm, xem, xdm, xcm, hG, hK, xmm⟩
  have T0 : Txt mg := { n_int := PySem.W.mg_none_of X G z_int, n_list := PySem.W.mg_none_of X G z_list, n_len := PySem.W.mg_none_of X G z_len, n_abs := PySem.W.mg_none_of X G z_abs, n_bool := PySem.W.mg_none_of X G z_bool, n_str := PySem.W.mg_none_of X G z_str, n_isinstance := PySem.W.mg_none_of X G z_isinstance, n_range := PySem.W.mg_none_of X G z_range, n_repr := PySem.W.mg_none_of X G z_repr, n_all := PySem.W.mg_none_of X G z_all }
  have T : TxtC mg := { toTxt := T0, n_sorted := PySem.W.mg_none_of X G z_sorted, n_tuple := PySem.W.mg_none_of X G z_tuple, n_sum := PySem.W.mg_none_of X G z_sum, n_min := PySem.W.mg_none_of X G z_min, n_max := PySem.W.mg_none_of X G z_max, n_dict := PySem.W.mg_none_of X G z_dict, n_iter := PySem.W.mg_none_of X G z_iter, c_MW := ⟨_, PySem.W.mg_of X G gMW⟩ }
  have TN : TxtN mg := { toTxt := T0, c_PF := ⟨_, PySem.W.mg_of X G gPF⟩, c_PW := ⟨_, PySem.W.mg_of X G gPW⟩ }
  have TK : TxtK K mg := { toTxt := T0, c_LN := ⟨_, PySem.W.mg_of X G gLN⟩, c_LE := ⟨_, PySem.W.mg_of X G gE⟩, c_TW := ⟨aW, PySem.W.mg_of X G gW, fun H => .inr ⟨_, _, _, lW, rfl, rfl, Nat.le_trans sW (by decide), vW⟩⟩ }
  have hany := PySem.W.mg_none_of X G z_any
  have hset := PySem.W.mg_none_of X G z_set
  have TO0 : TabOf (tab5 B0 B1 B2 B3 B4) B0 "read_speeds" := tab5_0 nB10 nB20 nB21 nB30 nB31 nB32 nB40 nB41 nB42 nB43
  have TO1 : TabOf (tab5 B0 B1 B2 B3 B4) B1 "_law_together_right" := tab5_1 nB10 nB20 nB21 nB30 nB31 nB32 nB40 nB41 nB42 nB43
  have TO2 : TabOf (tab5 B0 B1 B2 B3 B4) B2 "_law_times_right" := tab5_2 nB10 nB20 nB21 nB30 nB31 nB32 nB40 nB41 nB42 nB43
  have TO3 : TabOf (tab5 B0 B1 B2 B3 B4) B3 "_law_refused_right" := tab5_3 nB10 nB20 nB21 nB30 nB31 nB32 nB40 nB41 nB42 nB43
  have TO4 : TabOf (tab5 B0 B1 B2 B3 B4) B4 "_law_text_right" := tab5_4 nB10 nB20 nB21 nB30 nB31 nB32 nB40 nB41 nB42 nB43
  have R2 : Hrd K mg DC DN DS DW DX DM L := { ml := PySem.W.mg_of X G aL, mv := PySem.W.mg_none_of X G z_ValueError, cDC := ⟨XFc, XCc, xoc, xVc, xLc⟩, mDC := PySem.W.mg_of X G aDc, nDC_part := xvc0, kDC_DN := xNcn, kDC_DS := xNcs, kDC_DW := xNcw, kDC_DX := xNcx, kDC_DM := xNcm, cDN := ⟨XFn, XCn, xon, xVn, xLn⟩, mDN := PySem.W.mg_of X G aDn, nDN_value := xvn0, kDN_DC := xNnc, kDN_DS := xNns, kDN_DW := xNnw, kDN_DX := xNnx, kDN_DM := xNnm, cDS := ⟨XFs, XCs, xos, xVs, xLs⟩, mDS := PySem.W.mg_of X G aDs, nDS_value := xvs0, kDS_DC := xNsc, kDS_DN := xNsn, kDS_DW := xNsw, kDS_DX := xNsx, kDS_DM := xNsm, cDW := ⟨XFw, XCw, xow, xVw, xLw⟩, mDW := PySem.W.mg_of X G aDw, nDW_name := xvw0, kDW_DC := xNwc, kDW_DN := xNwn, kDW_DS := xNws, kDW_DX := xNwx, kDW_DM := xNwm, cDX := ⟨XFx, XCx, xox, xVx, xLx⟩, mDX := PySem.W.mg_of X G aDx, nDX_line := xvx0, nDX_word := xvx1, kDX_DC := xNxc, kDX_DN := xNxn, kDX_DS := xNxs, kDX_DW := xNxw, kDX_DM := xNxm, cDM := ⟨XFm, XCm, xom, xVm, xLm⟩, mDM := PySem.W.mg_of X G aDm, nDM_what := xvm0, nDM_most := xvm1, kDM_DC := xNmc, kDM_DN := xNmn, kDM_DS := xNms, kDM_DW := xNmw, kDM_DX := xNmx }
  have KBco : KBn K _ ["speeds"] 0 ["speeds"] (fun _ ws => ws) gV1 := kb_same Fco rfl fun _ _ _ _ _ _ us ws h1 h2 => match us, ws, h1, h2 with | [], [_], _, _ => rfl
  have KBcr : KBn K _ ["cls", "text"] 1 ["text"] (fun us ws => us ++ ws) (fun us zs => us ++ zs) := kb_one Fcr rfl fun _ _ _ _ _ _ us ws h1 h2 => match us, ws, h1, h2 with | [_], [_], _, _ => rfl
  have KBow : KBn K _ ["self", "name", "speed"] 1 ["speed", "name"] (fun us ws => us ++ ws.reverse) (fun us zs => us ++ zs.reverse) := kb_turn Fow rfl fun _ _ _ _ _ _ us ws h1 h2 => match us, ws, h1, h2 with | [_], [_, _], _, _ => rfl
  obtain ⟨dsw, vdw, brw⟩ := FDrw.binds1 (ps := ["reader", "worth_of", "most"]) 3 1 (by simp) rfl (fun Tq kVq dcq pmq anq cdq ctq us its h1 h2 => match us, its, h1, h2 with | [_, _, _], [_], _, _ => ⟨_, rfl, rfl⟩)
  obtain rfl : dsw = [] := by cases (show Vals [] dsw from vdw); rfl
  obtain ⟨ds, vds, bri⟩ := FDri.binds1 (ps := ["self", "text", "row"]) 2 0 (by simp) rfl (fun Tq kVq dcq pmq anq cdq ctq us its h1 h2 => match us, its, h1, h2 with | [_, _], [_], _, _ => ⟨_, rfl, rfl⟩)
  refine ⟨PySem.W.fnOf "law" "law" (C8.fnArgs sLaw) (C8.fnBody sLaw) (C8.fnScope sLaw) .none kVla dcla pmla anla cdla ctla, [("read_speeds", c0, B0), ("_law_together_right", c1, B1), ("_law_times_right", c2, B2), ("_law_refused_right", c3, B3), ("_law_text_right", c4, B4)], spLaw K (tab5 B0 B1 B2 B3 B4), ?tbs, fun s u => .of_eq rfl, fun base KB GB TBS => ?_, ?hsp⟩
  case tbs =>
    exact fun e he => by
      simp only [List.mem_cons, List.not_mem_nil, or_false] at he
      rcases he with rfl | rfl | rfl | rfl | rfl
      · exact ⟨by simp, tabIn_of ars lrs rfl ltrs vtrs, ntrs⟩
      · exact ⟨by simp, tabIn_of alx llx rfl ltlx vtlx, ntlx⟩
      · exact ⟨by simp, tabIn_of alt llt rfl ltlt vtlt, ntlt⟩
      · exact ⟨by simp, tabIn_of alf llf rfl ltlf vtlf, ntlf⟩
      · exact ⟨by simp, tabIn_of ale lle rfl ltle vtle, ntle⟩
  case hsp =>
    exact fun H a ns hB hS hl => ⟨a, ns, rfl, hS, hl, fun p hp => by
      simp only [tab5, List.mem_cons, List.not_mem_nil, or_false] at hp
      rcases hp with rfl | rfl | rfl | rfl | rfl
      · exact TabS.nil (hB _ (List.Mem.head _))
      · exact TabS.nil (hB _ (List.Mem.tail _ (List.Mem.head _)))
      · exact TabS.nil (hB _ (List.Mem.tail _ (List.Mem.tail _ (List.Mem.head _))))
      · exact TabS.nil (hB _ (List.Mem.tail _ (List.Mem.tail _ (List.Mem.tail _ (List.Mem.head _)))))
      · exact TabS.nil (hB _ (List.Mem.tail _ (List.Mem.tail _ (List.Mem.tail _ (List.Mem.tail _ (List.Mem.head _)))))), fun _ => rfl⟩
  have TBrs : TabB base mg c0 B0 := TBS ("read_speeds", c0, B0) (by simp)
  have TBlx : TabB base mg c1 B1 := TBS ("_law_together_right", c1, B1) (by simp)
  have TBlt : TabB base mg c2 B2 := TBS ("_law_times_right", c2, B2) (by simp)
  have TBlf : TabB base mg c3 B3 := TBS ("_law_refused_right", c3, B3) (by simp)
  have TBle : TabB base mg c4 B4 := TBS ("_law_text_right", c4, B4) (by simp)
  have ERc : Err1 "BadCrew" "part" l.prog w K mg base DC fEc _ := ⟨OXc, xic, xfc, fn_BcrE FEc OXc xvc0, bEc, PySem.W.mg_of X G aDc⟩
  have ERn : Err1 "BadName" "value" l.prog w K mg base DN fEn _ := ⟨OXn, xin, xfn, fn_BnmE FEn OXn xvn0, bEn, PySem.W.mg_of X G aDn⟩
  have ERs : Err1 "BadSpeed" "value" l.prog w K mg base DS fEs _ := ⟨OXs, xis, xfs, fn_BspE FEs OXs xvs0, bEs, PySem.W.mg_of X G aDs⟩
  have ERw : Err1 "NoWorker" "name" l.prog w K mg base DW fEw _ := ⟨OXw, xiw, xfw, fn_NwkE FEw OXw xvw0, bEw, PySem.W.mg_of X G aDw⟩
  have ERm : Err2 "TooMany" "what" "most" l.prog w K mg base DM fEm _ := ⟨OXm, xim, xfm, fn_mnE FEm OXm xvm0 xvm1, bEm, PySem.W.mg_of X G aDm⟩
  have ERx : Err2 "BadText" "line" "word" l.prog w K mg base DX fEx _ := ⟨OXx, xix, xfx, fn_txE FEx OXx xvx0 xvx1, bEx, PySem.W.mg_of X G aDx⟩
  have Dii := cal_isint (P := l.prog) (w := w) (base := base) Fii bii T0
  have Diw := cal_within Fiw biw T0 Dii
  have Din := cal_isname (P := l.prog) (w := w) (base := base) Fin bin TK
  have Dis := cal_isp (P := l.prog) (w := w) (base := base) Fis bis ⟨_, PySem.W.mg_of X G gGP⟩ Diw
  have Dio := cal_intof (P := l.prog) (w := w) (base := base) Fio bio TN
  have Dno := cal_numof Fno bno Dio Diw
  have Z : CrC K mg CC := ⟨clCC, PySem.W.mg_of X G aCC, noCC_workers, noCC_speed, noCC_least_speed, noCC_greatest_speed, noCC_slowest, noCC_fastest, noCC__pairs, noCC__speeds⟩
  have FK := fn_chk (P := l.prog) (w := w) (base := base) Fck ERn ERs Din Dis
  have CM : CrM l.prog w K mg base CC DN DS DC DM fci := ⟨Z, ⟨mkCC, aci, ici, kCCC⟩, fn_crI Fci rfl T Z ERc ERm Fck bck FK⟩
  have FO := fn_cof (P := l.prog) (w := w) (base := base) Fco T CM ERc Fck bck FK
  have OF : OfC l.prog w K mg base CC DN DS DC DM pco fco _ := ⟨Sco, FO, bco⟩
  have ME : MetX l.prog w K mg base 2 CC "__eq__" (spCeq K CC) := ⟨_, _, _, tce, fn_ceq Fce T Z ICC, bce⟩
  have ML : MetX l.prog w K mg base 1 CC "__len__" (spCln CC) := ⟨_, _, _, tcn, fn_cln Fcn T Z, bcn⟩
  have MT : MetX l.prog w K mg base 1 CC "__iter__" (spCit CC) := ⟨_, _, _, twt, fn_cit Fwt T Z, bwt⟩
  have MO : MetX l.prog w K mg base 1 CC "__contains__" (spCco K CC) := ⟨_, _, _, two, fn_cco Fwo T Z, bwo⟩
  have MG : MetG l.prog w K mg base 3 CC (spCgi K CC DW) := ⟨⟨_, _, _, twg, fng, fn_cgi Fwg T Z ERw MO, bwg⟩, sqc⟩
  have MS : MetX l.prog w K mg base 2 CC "__str__" (spCst CC) := ⟨_, _, _, tws, fn_cst Fws T Z, bws⟩
  have NC : NeC K CC := ⟨hMCC, nECC⟩
  have O : CrK l.prog w K mg base CC DN DS DC DM DW fci := ⟨CM, ML, MT, MO, MG, ME, MS, NC⟩
  have XO : StC l.prog w K mg base CC DN DS DC DM := ⟨_, _, _, _, OF, KBco⟩
  have OK : OpK K CC := ⟨first, ⟨_, aog⟩⟩
  have MU : MetX l.prog w K mg base 9 CC "__sub__" (spCsu K CC DN DS DC DM DW) := ⟨_, _, _, tou, fn_csu Fou T CM ERw OF MO, bou⟩
  have MM : MetX l.prog w K mg base 9 CC "__mul__" (spCmu K CC DN DS DC DM) := ⟨_, _, _, tom, fn_cmu Fom T CM ERs OF Dis, bom⟩
  have MA : MetX l.prog w K mg base 9 CC "__add__" (spCad K CC DN DS DC DM) := ⟨_, _, _, toa, fn_cad Foa T hany CM ERc ICC OF MO, boa⟩
  have MR : MetX l.prog w K mg base 10 CC "__rmul__" (spCrm K CC DN DS DC DM) := ⟨_, _, _, tog, fn_crm Fog OK MM, bog⟩
  have LE : MetX l.prog w K mg base 3 CC "__le__" (spCle K CC DC) := ⟨_, _, _, tol, fn_cle Fol T hset Z ERc ICC, bol⟩
  have LT : MetX l.prog w K mg base 4 CC "__lt__" (spClt K CC DC) := ⟨_, _, _, tot, fn_clt Fot LE ME ICC, bot⟩
  have OC : OpC l.prog w K mg base CC DN DS DC DM DW := { toOpK := OK, MA := MA, MU := MU, MM := MM, MR := MR, LE := LE, LT := LT, ins := ICC, mul := ⟨_, aom⟩, radd := ra, rsub := ru, s1 := s1, s2 := s2, na := ⟨⟨_, mC, mro⟩, xA, yA⟩, nu := ⟨⟨_, mC, mro⟩, xU, yU⟩, nm := ⟨⟨_, mC, mro⟩, xM, yM⟩ }
  have XW : WsK l.prog w K mg base CC DN DS DC DM := ⟨_, _, _, tow, fn_cws Fow T CM ERn OF Din, bow, KBow⟩
  have NB : NbC K CC := ⟨nbf, oiCC, obCC, osCC⟩
  have RC : RdC K R := ⟨clR, noR__words, noR__row, noR__at⟩
  have Mrh : MetX l.prog w K mg base 1 R "at_hand" (spRah R) := ⟨_, _, _, trh, fn_rah Frh T0 RC, brh⟩
  have Mrr : MetX l.prog w K mg base 3 R "refuse" (spRrf R DX) := ⟨_, _, _, trr, fn_rrf Frr RC ERx, brr⟩
  have Mrt : MetX l.prog w K mg base 5 R "take" (spRtk R DX) := ⟨_, _, _, trt, fn_rtk Frt RC Mrr, brt⟩
  have Mrm : MetX l.prog w K mg base 3 R "more" (spRmo R) := ⟨_, _, _, trm, fn_rmo Frm RC Mrh, brm⟩
  have Mrf : MetX l.prog w K mg base 5 R "finish" (spRfi R DX) := ⟨_, _, _, trf, fn_rfi Frf T0 RC Mrr, brf⟩
  have RM : RdMs l.prog w K mg base R DX := ⟨RC, Mrh, Mrt, Mrm, Mrf⟩
  have RK : RdK l.prog w K mg base R DX fri _ ds := ⟨⟨mkR, ari, iri, kCR⟩, fn_ri Fri T0 RC ERx, PySem.W.mg_of X G aR, bri, vds⟩
  have FRN := fn_rn (P := l.prog) (w := w) (base := base) Frw T RM Din
  have FRS := fn_rsp (P := l.prog) (w := w) (base := base) (TT := tab5 B0 B1 B2 B3 B4) Frs T ⟨_, PySem.W.mg_of X G gGP⟩ TBrs TO0.mem TO0.own Dno Frw brw FRN
  have CR : RdCr l.prog w K mg base CC DX pcr fcr (tab5 B0 B1 B2 B3 B4) mcCC _ _ := ⟨rCC, Scr, fn_crd Fcr RK RM (PySem.W.mg_of X G ars) krs brs FRS OF, bcr, KBcr⟩
  have D1 := cal_draw (P := l.prog) (w := w) (K := K) (base := base) Fld bld T0.toTxt0
  have D2 := cal_pick Flk blk T0.toTxt0 D1
  have D0 := cal_pen (P := l.prog) (w := w) (base := base) Flp blp T0.toTxt0
  have DZ := cal_lsp Flz blz T D1 D2
  have DB := cal_lbo (P := l.prog) (w := w) (base := base) Flb blb T
  have DI := cal_lii (P := l.prog) (w := w) (base := base) Flj blj T
  have DU := cal_lsd Flu blu T O XO DB
  have DQ := cal_lin (P := l.prog) (w := w) (base := base) Flq blq T
  have DT := cal_ltd Flw blw T O XO DQ
  have DTR := cal_ltr Flx blx Flh blh TBlx TO1 R2 T O OC XO XW D1 D2 DB DI DU
  have DTI := cal_lti Flt blt Flh blh TBlt TO2 R2 T O OC XO D2
  have DRF := cal_lrf Flf blf Flh blh TBlf TO3 R2 T O OC XO XW NB D2
  have DTE := cal_lte Fle ble Flh blh TBle TO4 R2 T O OC XO NB CR D1 D2 DT
  exact fn_law (DX := DX) Fla.fn T O OC D0 D1 DZ DB DTR DTI DRF DTE
end Lw
open PySem PySem.W PyProof.Rows
set_option maxRecDepth 100000 in
set_option maxHeartbeats 0 in
theorem PySem.Challenge.cw_latechunks_k15_crews_together_and_their_holds : PySem.Challenge.rw_latechunks_k15_crews_together_and_their.Holds := by
  w_on; o_law; k_head; (case hw => w_witness2)
  k_fill
  refine Lw.walk_endL (l := PySem.Challenge.rw_latechunks_k15_crews_together_and_their) (x := "_law_script") (xts := (["read_speeds", "_law_together_right", "_law_times_right", "_law_refused_right", "_law_text_right"] : List Str)) (k := 21) rfl (by decide) rfl ⟨rfl, by decide, by decide⟩ (fun w h Y => PySem.W.km_in_of Y) ?hrec ?F
  case hrec => first | rfl | decide +kernel
  case F =>
    intro w mg fa h KX G hmg
    refine' Lw.all_known KX G hmg ?aL ?aii ?lii ?cii ?kii ?aiw ?liw ?ciw ?kiw ?ain ?lin ?cin ?kin ?ais ?lis ?cis ?kis ?ack ?lck ?cck ?kck ?aio ?lio ?cio ?kio ?ano ?lno ?cno ?kno ?alp ?llp ?clp ?klp ?ald ?lld ?cld ?kld ?alk ?llk ?clk ?klk ?alh ?llh ?clh ?klh ?alz ?llz ?clz ?klz ?alb ?llb ?clb ?klb ?alj ?llj ?clj ?klj ?alu ?llu ?clu ?klu ?alq ?llq ?clq ?klq ?alw ?llw ?clw ?klw ?ala ?lla ?cla ?kla ?arw ?lrw ?crw ?krw ?lDrw ?ars ?lrs ?crs ?krs ?alx ?llx ?clx ?klx ?alt ?llt ?clt ?klt ?alf ?llf ?clf ?klf ?ale ?lle ?cle ?kle ?ltrs ?vtrs ?ntrs ?ltlx ?vtlx ?ntlx ?ltlt ?vtlt ?ntlt ?ltlf ?vtlf ?ntlf ?ltle ?vtle ?ntle ?nB10 ?nB20 ?nB21 ?nB30 ?nB31 ?nB32 ?nB40 ?nB41 ?nB42 ?nB43 ?aCC ?sTCC ?sRCC ?sGCC ?pgCC ?hdCC ?poCC ?saCC ?mkCC ?kCCC ?noCC_workers ?noCC_speed ?noCC_least_speed ?noCC_greatest_speed ?noCC_slowest ?noCC_fastest ?noCC__pairs ?noCC__speeds ?hCCC ?hMCC ?hG ?hK ?nECC ?oiCC ?obCC ?osCC ?aci ?ici ?lci ?cci ?kci ?lco ?cco ?kco ?sco ?rco ?lcr ?ccr ?ficr ?scr ?rcr ?ace ?ice ?lce ?cce ?kce ?acn ?icn ?lcn ?ccn ?kcn ?awt ?iwt ?lwt ?cwt ?kwt ?awo ?iwo ?lwo ?cwo ?kwo ?awg ?iwg ?lwg ?cwg ?kwg ?aws ?iws ?lws ?cws ?kws ?aoa ?ioa ?loa ?coa ?koa ?aou ?iou ?lou ?cou ?kou ?aom ?iom ?lom ?com ?kom ?aog ?iog ?log ?cog ?kog ?aol ?iol ?lol ?col ?kol ?aot ?iot ?lot ?cot ?kot ?aow ?iow ?low ?cow ?kow ?fng ?sqc ?nbf ?first ?ra ?ru ?s1 ?s2 ?mC ?mro ?xA ?yA ?xM ?yM ?xU ?yU ?aR ?pgR ?hdR ?poR ?saR ?mkR ?kCR ?noR__words ?noR__row ?noR__at ?ari ?iri ?lri ?cri ?kri ?lDri ?arh ?irh ?lrh ?crh ?krh ?arr ?irr ?lrr ?crr ?krr ?art ?irt ?lrt ?crt ?krt ?arm ?irm ?lrm ?crm ?krm ?arf ?irf ?lrf ?crf ?krf ?aDc ?xDc ?xBc ?xsc ?xec ?xtc ?xkc ?xic ?xfc ?lEc ?cEc ?xvc0 ?xgc ?xnc ?xdc ?xcc ?xmc ?xoc ?xLc ?xVc ?aDn ?xDn ?xBn ?xsn ?xen ?xtn ?xkn ?xin ?xfn ?lEn ?cEn ?xvn0 ?xgn ?xnn ?xdn ?xcn ?xmn ?xon ?xLn ?xVn ?aDs ?xDs ?xBs ?xss ?xes ?xts ?xks ?xis ?xfs ?lEs ?cEs ?xvs0 ?xgs ?xns ?xds ?xcs ?xms ?xos ?xLs ?xVs ?aDw ?xDw ?xBw ?xsw ?xew ?xtw ?xkw ?xiw ?xfw ?lEw ?cEw ?xvw0 ?xgw ?xnw ?xdw ?xcw ?xmw ?xow ?xLw ?xVw ?aDx ?xDx ?xBx ?xsx ?xex ?xtx ?xkx ?xix ?xfx ?lEx ?cEx ?xvx0 ?xvx1 ?xgx ?xnx ?xdx ?xcx ?xmx ?xox ?xLx ?xVx ?aDm ?xDm ?xBm ?xsm ?xem ?xtm ?xkm ?xim ?xfm ?lEm ?cEm ?xvm0 ?xvm1 ?xgm ?xnm ?xdm ?xcm ?xmm ?xom ?xLm ?xVm ?xNcn ?xNcs ?xNcw ?xNcx ?xNcm ?xNnc ?xNns ?xNnw ?xNnx ?xNnm ?xNsc ?xNsn ?xNsw ?xNsx ?xNsm ?xNwc ?xNwn ?xNws ?xNwx ?xNwm ?xNxc ?xNxn ?xNxs ?xNxw ?xNxm ?xNmc ?xNmn ?xNms ?xNmw ?xNmx ?gMW ?eMW ?gGP ?eGP ?gLN ?eLN ?gPF ?ePF ?gPW ?ePW ?gE ?eE ?gW ?lW ?sW ?vW ?z_int ?z_list ?z_len ?z_abs ?z_bool ?z_str ?z_isinstance ?z_range ?z_repr ?z_all ?z_sorted ?z_tuple ?z_sum ?z_min ?z_max ?z_dict ?z_iter ?z_ValueError ?z_any ?z_set
    (case aL => k_is); (case aCC => k_is); (case sTCC => k_is); (case sRCC => k_is)
    (case sGCC => k_is); (case sco => k_is); (case rco => k_is); (case scr => k_is)
    (case rcr => k_is); (case mC => k_is); (case aR => k_is); (case aDc => k_is)
    (case aDn => k_is); (case aDs => k_is); (case aDw => k_is); (case aDx => k_is)
    (case aDm => k_is); (case aii => k_is); (case lii => k_is); (case cii => k_is)
    (case kii => k_is); (case aiw => k_is); (case liw => k_is); (case ciw => k_is)
    (case kiw => k_is); (case ain => k_is); (case lin => k_is); (case cin => k_is)
    (case kin => k_is); (case ais => k_is); (case lis => k_is); (case cis => k_is)
    (case kis => k_is); (case ack => k_is); (case lck => k_is); (case cck => k_is)
    (case kck => k_is); (case aio => k_is); (case lio => k_is); (case cio => k_is)
    (case kio => k_is); (case ano => k_is); (case lno => k_is); (case cno => k_is)
    (case kno => k_is); (case alp => k_is); (case llp => k_is); (case clp => k_is)
    (case klp => k_is); (case ald => k_is); (case lld => k_is); (case cld => k_is)
    (case kld => k_is); (case alk => k_is); (case llk => k_is); (case clk => k_is)
    (case klk => k_is); (case alh => k_is); (case llh => k_is); (case clh => k_is)
    (case klh => k_is); (case alz => k_is); (case llz => k_is); (case clz => k_is)
    (case klz => k_is); (case alb => k_is); (case llb => k_is); (case clb => k_is)
    (case klb => k_is); (case alj => k_is); (case llj => k_is); (case clj => k_is)
    (case klj => k_is); (case alu => k_is); (case llu => k_is); (case clu => k_is)
    (case klu => k_is); (case alq => k_is); (case llq => k_is); (case clq => k_is)
    (case klq => k_is); (case alw => k_is); (case llw => k_is); (case clw => k_is)
    (case klw => k_is); (case ala => k_is); (case lla => k_is); (case cla => k_is)
    (case kla => k_is); (case arw => k_is); (case lrw => k_is); (case crw => k_is)
    (case krw => k_is); (case lDrw => k_is); (case ars => k_is); (case lrs => k_is)
    (case crs => k_is); (case krs => k_is); (case alx => k_is); (case llx => k_is)
    (case clx => k_is); (case klx => k_is); (case alt => k_is); (case llt => k_is)
    (case clt => k_is); (case klt => k_is); (case alf => k_is); (case llf => k_is)
    (case clf => k_is); (case klf => k_is); (case ale => k_is); (case lle => k_is)
    (case cle => k_is); (case kle => k_is); (case ltrs => k_is); (case vtrs => first | rfl | decide +kernel)
    (case ntrs => first | kernel_rfl | rfl); (case ltlx => k_is); (case vtlx => first | rfl | decide +kernel); (case ntlx => first | kernel_rfl | rfl)
    (case ltlt => k_is); (case vtlt => first | rfl | decide +kernel); (case ntlt => first | kernel_rfl | rfl); (case ltlf => k_is)
    (case vtlf => first | rfl | decide +kernel); (case ntlf => first | kernel_rfl | rfl); (case ltle => k_is); (case vtle => first | rfl | decide +kernel)
    (case ntle => first | kernel_rfl | rfl); (case nB10 => decide); (case nB20 => decide); (case nB21 => decide)
    (case nB30 => decide); (case nB31 => decide); (case nB32 => decide); (case nB40 => decide)
    (case nB41 => decide); (case nB42 => decide); (case nB43 => decide); (case pgCC => k_is)
    (case hdCC => k_is); (case poCC => k_is); (case saCC => k_is); (case mkCC => k_is)
    (case kCCC => k_is); (case noCC_workers => k_is); (case noCC_speed => k_is); (case noCC_least_speed => k_is)
    (case noCC_greatest_speed => k_is); (case noCC_slowest => k_is); (case noCC_fastest => k_is); (case noCC__pairs => k_is)
    (case noCC__speeds => k_is); (case hCCC => k_is); (case hMCC => k_is); (case hG => k_is)
    (case hK => k_is); (case nECC => k_is); (case oiCC => first | kernel_rfl | rfl | decide +kernel); (case obCC => first | kernel_rfl | rfl | decide +kernel)
    (case osCC => first | kernel_rfl | rfl | decide +kernel); (case aci => k_is); (case ici => k_is); (case lci => k_is)
    (case cci => k_is); (case kci => k_is); (case lco => k_is); (case cco => k_is)
    (case kco => k_is); (case lcr => k_is); (case ccr => k_is); (case ficr => k_is)
    (case ace => k_is); (case ice => k_is); (case lce => k_is); (case cce => k_is)
    (case kce => k_is); (case acn => k_is); (case icn => k_is); (case lcn => k_is)
    (case ccn => k_is); (case kcn => k_is); (case awt => k_is); (case iwt => k_is)
    (case lwt => k_is); (case cwt => k_is); (case kwt => k_is); (case awo => k_is)
    (case iwo => k_is); (case lwo => k_is); (case cwo => k_is); (case kwo => k_is)
    (case awg => k_is); (case iwg => k_is); (case lwg => k_is); (case cwg => k_is)
    (case kwg => k_is); (case aws => k_is); (case iws => k_is); (case lws => k_is)
    (case cws => k_is); (case kws => k_is); (case aoa => k_is); (case ioa => k_is)
    (case loa => k_is); (case coa => k_is); (case koa => k_is); (case aou => k_is)
    (case iou => k_is); (case lou => k_is); (case cou => k_is); (case kou => k_is)
    (case aom => k_is); (case iom => k_is); (case lom => k_is); (case com => k_is)
    (case kom => k_is); (case aog => k_is); (case iog => k_is); (case log => k_is)
    (case cog => k_is); (case kog => k_is); (case aol => k_is); (case iol => k_is)
    (case lol => k_is); (case col => k_is); (case kol => k_is); (case aot => k_is)
    (case iot => k_is); (case lot => k_is); (case cot => k_is); (case kot => k_is)
    (case aow => k_is); (case iow => k_is); (case low => k_is); (case cow => k_is)
    (case kow => k_is); (case fng => first | kernel_rfl | rfl | decide +kernel); (case sqc => k_is); (case nbf => first | kernel_rfl | rfl | decide +kernel)
    (case first => k_is); (case ra => k_is); (case ru => k_is); (case s1 => k_is)
    (case s2 => k_is); (case mro => first | rfl | decide +kernel); (case xA => k_is); (case yA => k_is)
    (case xM => k_is); (case yM => k_is); (case xU => k_is); (case yU => k_is)
    (case pgR => k_is); (case hdR => k_is); (case poR => k_is); (case saR => k_is)
    (case mkR => k_is); (case kCR => k_is); (case noR__words => k_is); (case noR__row => k_is)
    (case noR__at => k_is); (case ari => k_is); (case iri => k_is); (case lri => k_is)
    (case cri => k_is); (case kri => k_is); (case lDri => k_is); (case arh => k_is)
    (case irh => k_is); (case lrh => k_is); (case crh => k_is); (case krh => k_is)
    (case arr => k_is); (case irr => k_is); (case lrr => k_is); (case crr => k_is)
    (case krr => k_is); (case art => k_is); (case irt => k_is); (case lrt => k_is)
    (case crt => k_is); (case krt => k_is); (case arm => k_is); (case irm => k_is)
    (case lrm => k_is); (case crm => k_is); (case krm => k_is); (case arf => k_is)
    (case irf => k_is); (case lrf => k_is); (case crf => k_is); (case krf => k_is)
    (case xDc => k_is); (case xBc => first | rfl | decide +kernel); (case xsc => k_is); (case xec => k_is)
    (case xtc => k_is); (case xkc => k_is); (case xic => k_is); (case xfc => k_is)
    (case lEc => k_is); (case cEc => k_is); (case xvc0 => k_is); (case xgc => k_is)
    (case xnc => k_is); (case xdc => k_is); (case xcc => k_is); (case xmc => k_is)
    (case xoc => first | kernel_rfl | rfl | decide +kernel); (case xLc => first | kernel_rfl | rfl | decide +kernel); (case xVc => first | kernel_rfl | rfl | decide +kernel); (case xDn => k_is)
    (case xBn => first | rfl | decide +kernel); (case xsn => k_is); (case xen => k_is); (case xtn => k_is)
    (case xkn => k_is); (case xin => k_is); (case xfn => k_is); (case lEn => k_is)
    (case cEn => k_is); (case xvn0 => k_is); (case xgn => k_is); (case xnn => k_is)
    (case xdn => k_is); (case xcn => k_is); (case xmn => k_is); (case xon => first | kernel_rfl | rfl | decide +kernel)
    (case xLn => first | kernel_rfl | rfl | decide +kernel); (case xVn => first | kernel_rfl | rfl | decide +kernel); (case xDs => k_is); (case xBs => first | rfl | decide +kernel)
    (case xss => k_is); (case xes => k_is); (case xts => k_is); (case xks => k_is)
    (case xis => k_is); (case xfs => k_is); (case lEs => k_is); (case cEs => k_is)
    (case xvs0 => k_is); (case xgs => k_is); (case xns => k_is); (case xds => k_is)
    (case xcs => k_is); (case xms => k_is); (case xos => first | kernel_rfl | rfl | decide +kernel); (case xLs => first | kernel_rfl | rfl | decide +kernel)
    (case xVs => first | kernel_rfl | rfl | decide +kernel); (case xDw => k_is); (case xBw => first | rfl | decide +kernel); (case xsw => k_is)
    (case xew => k_is); (case xtw => k_is); (case xkw => k_is); (case xiw => k_is)
    (case xfw => k_is); (case lEw => k_is); (case cEw => k_is); (case xvw0 => k_is)
    (case xgw => k_is); (case xnw => k_is); (case xdw => k_is); (case xcw => k_is)
    (case xmw => k_is); (case xow => first | kernel_rfl | rfl | decide +kernel); (case xLw => first | kernel_rfl | rfl | decide +kernel); (case xVw => first | kernel_rfl | rfl | decide +kernel)
    (case xDx => k_is); (case xBx => first | rfl | decide +kernel); (case xsx => k_is); (case xex => k_is)
    (case xtx => k_is); (case xkx => k_is); (case xix => k_is); (case xfx => k_is)
    (case lEx => k_is); (case cEx => k_is); (case xvx0 => k_is); (case xvx1 => k_is)
    (case xgx => k_is); (case xnx => k_is); (case xdx => k_is); (case xcx => k_is)
    (case xmx => k_is); (case xox => first | kernel_rfl | rfl | decide +kernel); (case xLx => first | kernel_rfl | rfl | decide +kernel); (case xVx => first | kernel_rfl | rfl | decide +kernel)
    (case xDm => k_is); (case xBm => first | rfl | decide +kernel); (case xsm => k_is); (case xem => k_is)
    (case xtm => k_is); (case xkm => k_is); (case xim => k_is); (case xfm => k_is)
    (case lEm => k_is); (case cEm => k_is); (case xvm0 => k_is); (case xvm1 => k_is)
    (case xgm => k_is); (case xnm => k_is); (case xdm => k_is); (case xcm => k_is)
    (case xmm => k_is); (case xom => first | kernel_rfl | rfl | decide +kernel); (case xLm => first | kernel_rfl | rfl | decide +kernel); (case xVm => first | kernel_rfl | rfl | decide +kernel)
    (case xNcn => first | kernel_rfl | rfl | decide +kernel); (case xNcs => first | kernel_rfl | rfl | decide +kernel); (case xNcw => first | kernel_rfl | rfl | decide +kernel); (case xNcx => first | kernel_rfl | rfl | decide +kernel)
    (case xNcm => first | kernel_rfl | rfl | decide +kernel); (case xNnc => first | kernel_rfl | rfl | decide +kernel); (case xNns => first | kernel_rfl | rfl | decide +kernel); (case xNnw => first | kernel_rfl | rfl | decide +kernel)
    (case xNnx => first | kernel_rfl | rfl | decide +kernel); (case xNnm => first | kernel_rfl | rfl | decide +kernel); (case xNsc => first | kernel_rfl | rfl | decide +kernel); (case xNsn => first | kernel_rfl | rfl | decide +kernel)
    (case xNsw => first | kernel_rfl | rfl | decide +kernel); (case xNsx => first | kernel_rfl | rfl | decide +kernel); (case xNsm => first | kernel_rfl | rfl | decide +kernel); (case xNwc => first | kernel_rfl | rfl | decide +kernel)
    (case xNwn => first | kernel_rfl | rfl | decide +kernel); (case xNws => first | kernel_rfl | rfl | decide +kernel); (case xNwx => first | kernel_rfl | rfl | decide +kernel); (case xNwm => first | kernel_rfl | rfl | decide +kernel)
    (case xNxc => first | kernel_rfl | rfl | decide +kernel); (case xNxn => first | kernel_rfl | rfl | decide +kernel); (case xNxs => first | kernel_rfl | rfl | decide +kernel); (case xNxw => first | kernel_rfl | rfl | decide +kernel)
    (case xNxm => first | kernel_rfl | rfl | decide +kernel); (case xNmc => first | kernel_rfl | rfl | decide +kernel); (case xNmn => first | kernel_rfl | rfl | decide +kernel); (case xNms => first | kernel_rfl | rfl | decide +kernel)
    (case xNmw => first | kernel_rfl | rfl | decide +kernel); (case xNmx => first | kernel_rfl | rfl | decide +kernel); (case gMW => k_is); (case eMW => first | rfl | decide +kernel)
    (case gGP => k_is); (case eGP => first | rfl | decide +kernel); (case gLN => k_is); (case eLN => first | rfl | decide +kernel)
    (case gPF => k_is); (case ePF => first | rfl | decide +kernel); (case gPW => k_is); (case ePW => first | rfl | decide +kernel)
    (case gE => k_is); (case eE => first | rfl | decide +kernel); (case gW => k_is); (case lW => k_is)
    (case sW => first | rfl | decide +kernel); (case vW => exact .cons ⟨_, rfl⟩ (.cons ⟨_, rfl⟩ (.cons ⟨_, rfl⟩ (.cons ⟨_, rfl⟩ (.cons ⟨_, rfl⟩ (.cons ⟨_, rfl⟩ (.cons ⟨_, rfl⟩ (.cons ⟨_, rfl⟩ (.cons ⟨_, rfl⟩ (.cons ⟨_, rfl⟩ (.nil))))))))))); (case z_int => k_is); (case z_list => k_is)
    (case z_len => k_is); (case z_abs => k_is); (case z_bool => k_is); (case z_str => k_is)
    (case z_isinstance => k_is); (case z_range => k_is); (case z_repr => k_is); (case z_all => k_is)
    (case z_sorted => k_is); (case z_tuple => k_is); (case z_sum => k_is); (case z_min => k_is)
    (case z_max => k_is); (case z_dict => k_is); (case z_iter => k_is); (case z_ValueError => k_is)
    (case z_any => k_is); (case z_set => k_is)
