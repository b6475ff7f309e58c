import PyProof.Rows.All
import Wide.All
import OpenK.AllK
import Wide.FinOn
import HandS.ForMost
import HandS.Wide
import HandS.Codes
import HandS.EndBits
import HandS.Lambda
import HandS.IsInst
import PyProof.IsiBase
import KE.KIsAll
import HandS.Walk
import HandS.Words
import HandS.Exc
import HandS.ExcField
import HandS.ExcIs
import HandS.Dict
import HandS.SlotsOwn
import KE.KOpsOwn
import PyProof.TwoTypes
import HandS.Zip
import HandS.Iter
import KE.GoesMore
import HandS.ExcInit
import HandS.ExcValue
import HandS.Style
import HandS.Defaults
import HandS.MakeKwOnly
import HandS.StrMore
import PyProof.StrOps2
import HandS.Text
import KE.IntTextText
import HandS.ClsMeth
import HandS.Star
import HandS.FStr
import HandS.RaiseMore
import KE.KCallOwn
import PyProof.Methods
import HandS.IterNext
import HandS.IterVal
import KE.KOwnIter
import OpenK.KMeth
import HandS.TupAny
import HandS.TupMul
import HandS.WideBits
import HandS.DictSub
import KE.KFromBytes
import HandS.Comp
import HandS.SortInts
import HandS.Rev
import HandS.Evl
import HandS.EndTab
import HandS.MakeKw
import PySem.Challenge.RW_latechunks_k09_chunks_made_and_refused
set_option Elab.async false
set_option linter.all false
set_option maxRecDepth 100000
set_option maxHeartbeats 4000000
namespace Lw
open PySem PySem.Spec PyProof.Rows L2
def top (i : Nat) : Stmt := PySem.Challenge.pw_latechunks_k09_chunks_made_and_refused.main.body.getD i (.Pass ⟨0, 0, 0, 0⟩)

theorem stir {x s : Int} (hx0 : 0 ≤ x) (hx : x < 2147483648) (hs0 : 0 ≤ s) (hs : s ≤ 1000000) (e f g : Int) (he0 : 0 ≤ e) (he : e ≤ 1000) (hf0 : 0 ≤ f) (hf : f ≤ 1000000) (hg0 : 0 ≤ g) (hg : g ≤ 1000000) :
    (x * (2 * s + e) + f * s * s + g).natAbs < 2 ^ 64 := by
  have a0 : 0 ≤ x * (2 * s + e) := Int.mul_nonneg hx0 (by omega)
  have a1 : x * (2 * s + e) ≤ 2147483648 * 2001000 := Int.mul_le_mul (by omega) (by omega) (by omega) (by omega)
  have b0 : 0 ≤ f * s := Int.mul_nonneg hf0 hs0
  have b1 : f * s ≤ 1000000 * 1000000 := Int.mul_le_mul hf hs hs0 (by omega)
  have c0 : 0 ≤ f * s * s := Int.mul_nonneg b0 hs0
  have c1 : f * s * s ≤ 1000000 * 1000000 * 1000000 := Int.mul_le_mul b1 hs hs0 (by omega)
  omega
theorem fsmall {f s : Int} (hf0 : 0 ≤ f) (hf : f ≤ 1000000) (hs0 : 0 ≤ s) (hs : s ≤ 1000000) : -(2 ^ 64) < f * s ∧ f * s < 2 ^ 64 := by
  have b0 : 0 ≤ f * s := Int.mul_nonneg hf0 hs0
  have b1 : f * s ≤ 1000000 * 1000000 := Int.mul_le_mul hf hs hs0 (by omega)
  omega
theorem fm0 {a d : Int} (hd : 0 < d) : 0 ≤ Int.fmod a d := Int.fmod_nonneg_of_pos _ hd
theorem fm1 {a d : Int} (hd : 0 < d) (h : d ≤ 2147483648) : Int.fmod a d < 2147483648 := Int.lt_of_lt_of_le (Int.fmod_lt_of_pos _ hd) h
theorem fm64 {a d : Int} (hd : 0 < d) (h : d ≤ 2147483648) : -(2 ^ 64) < Int.fmod a d ∧ Int.fmod a d < 2 ^ 64 := by
  have h0 := fm0 (a := a) hd
  have h1 := fm1 (a := a) hd h
  omega
theorem ite_false_of {c : Bool} {A B : Prop} (h : ¬ c = true) (hb : B) : if c = true then A else B := by rw [if_neg h]; exact hb
/-- behind an if: what both ways end in -/
theorem join_if {t u : TS} {D : Ends} {b : Bool} {σ : L2.St} {H : Hp} (Pj : L2.St → Hp → Prop) (hr : ∀ σ' H', Pj σ' H' → D.nx σ' H') (h : (∀ σ' H', Pj σ' H' → D.nx σ' H') → if b = true then t D σ H else u D σ H) : if b = true then t D σ H else u D σ H := h hr
theorem lay_ints : ∀ xs : List Int, PyData.canLayAll0 (xs.map PyData.int) = true
  | [] => rfl
  | x :: r => by
    show (PyData.canLay0 (.int x) && PyData.canLayAll0 (r.map PyData.int)) = true
    rw [lay_ints r]; rfl
theorem depth_ints : ∀ xs : List Int, PyData.depthAll (xs.map PyData.int) = 0
  | [] => rfl
  | x :: r => by
    show max (PyData.depth (.int x)) (PyData.depthAll (r.map PyData.int)) = 0
    rw [depth_ints r]; rfl
theorem shaped_ints (xs : List Int) : SeqAt.shaped (.list (xs.map PyData.int)) = true := by
  unfold SeqAt.shaped
  have h1 : PyData.canLay0 (.list (xs.map PyData.int)) = true := lay_ints xs
  have h2 : PyData.depth (.list (xs.map PyData.int)) = 1 := by
    show PyData.depthAll (xs.map PyData.int) + 1 = 1
    rw [depth_ints]
  rw [h1, h2]; rfl
theorem dp_ints {K : PySem.W.Frag} {H : Hp} : ∀ xs : List Int, DpAll K H (xs.map V.int) (xs.map PyData.int)
  | [] => .nil
  | x :: r => .cons (.int x) (dp_ints r)
theorem eqv_nil (xs : List Int) : PyData.eqv (.list (xs.map PyData.int)) (.list []) = decide (xs = []) := by
  cases xs <;> rfl
abbrev sPen : Stmt := top 28
abbrev sDraw : Stmt := top 29
abbrev sPick : Stmt := top 30
/-- all but what stands at p is as it was -/
def Kp (p : Addr) (H H' : Hp) : Prop := ∀ b o, b ≠ p → H b = some o → H' b = some o
/-- a pen at p: its numbers at l, its place, its rest -/
structure PenAt (H : Hp) (p l : Addr) (xs : List Int) (s g : Int) : Prop where
  at_ : H p = some (.lst [.ref l, .int s, .int g])
  ls : H l = some (.lst (xs.map V.int))
  ne : p ≠ l
  s0 : 0 ≤ s
  g0 : 0 ≤ g
def Pen (H : Hp) (p l : Addr) (n : Nat) : Prop := ∃ xs s g, PenAt H p l xs s g ∧ s ≤ n
def spDraw : Sp := fun vs H Q _ => ∃ (p l : Addr) (n : Nat) (m : Int), vs = [.ref p, .int m] ∧ 0 < m ∧ m < 2 ^ 200 ∧ Pen H p l n ∧ n ≤ 1000000 ∧
  ∀ (r : Int) (H' : Hp), 0 ≤ r → r < m → Pen H' p l (n + 1) → Kp p H H' → Q (.int r) H'
structure Txt0 (mg : Str → Option Value) : Prop where
  n_int : mg "int" = none
  n_list : mg "list" = none
  n_len : mg "len" = none
  n_abs : mg "abs" = none
section
variable {P : Program} {w : World} {K : PySem.W.Frag} {mg : Str → Option Value} {base : Heap}
theorem scDraw : FnScope ["_law_pen_here", "_law_many", "_law_digit", "_law_spot", "_law_cell", "_law_great", "_law_mixed"] ["_law_pen_here", "_law_many"] (C8.fnScope sDraw) := C8.fnScope_by (by decide +kernel)
theorem cal_draw {f : Addr} {fd : FuncData} (F : C8.Def K mg "_law_draw" sDraw f fd) (b : Binds K fd ["_law_pen_here", "_law_many"] []) (T : Txt0 mg) : C8.Cal P w K mg base 1 "_law_draw" spDraw [] := by
  refine C8.cal0 F b .nil scDraw (fun vs H Q E h => ?_) (fun cdv A outer st H vs Q E hr h => ?_)
  · obtain ⟨p, l, n, m, rfl, _⟩ := h
    rfl
  · obtain ⟨p, l, n, m, rfl, hm, hm2, ⟨xs, s, g, ⟨hp, hl, ne, s0, g0⟩, hs⟩, hn, k⟩ := h
    refine ⟨_, (pss_cons (ps_if (pt_cmpR op_gt (pe_ix ix_list (pv 0) pe_int (fun _ _ => rfl)) pe_int (nomark _)) (pss_cons (ps_set (i := 2) scDraw.nd rfl (Or.inl rfl) (pe_op op_modN (pe_callTy call_int1 (by rfl) T.n_int (by decide +kernel) (pa_cons (pe_ix ix_list (pv 0) pe_int (fun _ _ => rfl)) pa_nil)) (pv 1)))
  (pss_cons (ps_asg (pe_op op_fdivW (pe_callTy call_int1 (by rfl) T.n_int (by decide +kernel) (pa_cons (pe_ix ix_list (pv 0) pe_int (fun _ _ => rfl)) pa_nil)) (pv 1)) (pg_sub (pv 0) pe_int set_list))
  (pss_one (ps_ret (pv 2))))) pss_nil)
  (pss_cons (ps_set (i := 3) scDraw.nd rfl (Or.inl rfl) (pe_ix ix_list (pv 0) pe_int (fun _ _ => rfl)))
  (pss_cons (ps_asg (pe_op op_add (pv 3) pe_int) (pg_sub (pv 0) pe_int set_list))
  (pss_cons (ps_set (i := 4) scDraw.nd rfl (Or.inl rfl) (pe_op op_add (pe_op op_mul pe_int (pv 3)) pe_int))
  (pss_cons (ps_if (pt_cmpR (op_neD hr.units) (pe_ix ix_list (pv 0) pe_int (fun _ _ => rfl)) (pe_lst pa_nil) (nomark _)) (pss_one (ps_set (i := 4) scDraw.nd rfl (Or.inl rfl) (pe_ix ix_list (pe_ix ix_list (pv 0) pe_int (fun _ _ => rfl)) (pe_op op_modN (pe_callTy call_int1 (by rfl) T.n_int (by decide +kernel) (pa_cons (pv 3) pa_nil)) (pe_callB call_len_seq (by rfl) T.n_len (by decide +kernel) (pa_cons (pe_ix ix_list (pv 0) pe_int (fun _ _ => rfl)) pa_nil))) (fun _ _ => rfl)))) pss_nil)
  (pss_cons (ps_if (PW.pt (pw_and (pt_cmpR op_lt (pv 3) (pe_callB call_len_seq (by rfl) T.n_len (by decide +kernel) (pa_cons (pe_ix ix_list (pv 0) pe_int (fun _ _ => rfl)) pa_nil)) (nomark _)) (pw_and1 (pt_cmpR op_ge (pe_callB call_abs (by rfl) T.n_abs (by decide +kernel) (pa_cons (pv 4) pa_nil)) (pe_op op_pow pe_int pe_int) (nomark _))))) (pss_cons (ps_set (i := 5) scDraw.nd rfl (Or.inl rfl) (pe_op op_add (pe_op op_mul pe_int (pe_op op_sub (pe_callB call_abs (by rfl) T.n_abs (by decide +kernel) (pa_cons (pv 4) pa_nil)) (pe_op op_pow pe_int pe_int))) (pe_callTy call_int1 (by rfl) T.n_int (by decide +kernel) (pa_cons (pe_cmpR op_lt (pv 4) pe_int (nomark _)) pa_nil))))
  (pss_cons (ps_asg (pe_op op_fdivW (pe_callTy call_int1 (by rfl) T.n_int (by decide +kernel) (pa_cons (pv 5) pa_nil)) (pv 1)) (pg_sub (pv 0) pe_int set_list))
  (pss_one (ps_ret (pe_op op_modN (pe_callTy call_int1 (by rfl) T.n_int (by decide +kernel) (pa_cons (pv 5) pa_nil)) (pv 1)))))) pss_nil)
  (pss_cons (ps_set (i := 6) scDraw.nd rfl (Or.inl rfl) (pe_op op_modN (pe_callTy call_int1 (by rfl) T.n_int (by decide +kernel) (pa_cons (pe_op op_pow (pe_op op_add (pe_op op_add (pe_op op_modN (pe_callTy call_int1 (by rfl) T.n_int (by decide +kernel) (pa_cons (pv 4) pa_nil)) pe_int) (pe_op op_mul pe_int (pv 3))) pe_int) pe_int) pa_nil)) pe_int))
  (pss_cons (ps_set (i := 6) scDraw.nd rfl (Or.inl rfl) (pe_op op_modN (pe_callTy call_int1 (by rfl) T.n_int (by decide +kernel) (pa_cons (pe_op op_pow (pe_op op_add (pe_op op_add (pe_op op_mul (pv 6) (pe_op op_add (pe_op op_mul pe_int (pv 3)) pe_int)) (pe_op op_mul (pe_op op_mul pe_int (pv 3)) (pv 3))) pe_int) pe_int) pa_nil)) pe_int))
  (pss_one (ps_ret (pe_op op_modN (pe_callTy call_int1 (by rfl) T.n_int (by decide +kernel) (pa_cons (pe_op op_fdivW (pv 6) pe_int) pa_nil)) (pv 1)))))))))))), ?_⟩
    have hmb : CDivW 0 m := wide_div (b := 200) hm (by omega) (by decide) (by decide)
    refine ⟨_, rfl, p, _, _, _, rfl, rfl, SqL.of hp, rfl, _, _, rfl, rfl, _, rfl, ite2 (fun c => ?_) (fun c => ?_)⟩
    · -- the rest is above 0: a digit of it
      refine ⟨_, rfl, p, _, _, _, rfl, rfl, SqL.of hp, rfl, Or.inl ⟨_, rfl, ?_⟩⟩
      refine ⟨_, rfl, _, _, rfl, rfl, (by omega), ?_⟩
      refine ⟨_, rfl, p, _, _, _, rfl, rfl, SqL.of hp, rfl, Or.inl ⟨_, rfl, ?_⟩⟩
      refine ⟨_, rfl, _, _, rfl, rfl, hmb, ?_⟩
      refine ⟨_, rfl, p, _, _, _, rfl, rfl, hp, rfl, ?_⟩
      refine ⟨_, rfl, ?_⟩
      refine k _ _ (Int.fmod_nonneg_of_pos _ hm) (Int.fmod_lt_of_pos _ hm) ⟨xs, s, g / m, ⟨?_, ?_, ne, s0, Int.ediv_nonneg g0 (Int.le_of_lt hm)⟩, by omega⟩ fun b o hb e => ?_
      · rw [upd_same]; rfl
      · rw [upd_ne (Ne.symm ne)]; exact hl
      · rw [upd_ne hb]; exact e
    · -- the next place
      refine ⟨_, rfl, p, _, _, _, rfl, rfl, SqL.of hp, rfl, ?_⟩
      refine ⟨_, rfl, _, _, rfl, rfl, _, rfl, p, _, _, _, rfl, rfl, hp, rfl, ?_⟩
      have hp1 : upd H p (.lst [V.ref l, V.int (s + 1), V.int g]) p = some (.lst [V.ref l, V.int (s + 1), V.int g]) := upd_same
      have hl1 : upd H p (.lst [V.ref l, V.int (s + 1), V.int g]) l = some (.lst (xs.map V.int)) := by rw [upd_ne (Ne.symm ne)]; exact hl
      have k1 : Kp p H (upd H p (.lst [V.ref l, V.int (s + 1), V.int g])) := fun b o hb e => by rw [upd_ne hb]; exact e
      show tSeq _ _ _ _ (upd H p (.lst [V.ref l, V.int (s + 1), V.int g]))
      generalize upd H p (.lst [V.ref l, V.int (s + 1), V.int g]) = H1 at hp1 hl1 k1 ⊢
      have fin : ∀ (r g' : Int) (H' : Hp), 0 ≤ r → r < m → 0 ≤ g' → H' p = some (.lst [V.ref l, V.int (s + 1), V.int g']) → Kp p H1 H' → Q (.int r) H' := fun r g' H' h0 h1 h2 h3 h4 =>
        k r H' h0 h1 ⟨xs, s + 1, g', ⟨h3, h4 _ _ (Ne.symm ne) hl1, ne, by omega, h2⟩, by omega⟩ fun b o hb e => h4 b o hb (k1 b o hb e)
      refine ⟨_, rfl, _, _, rfl, rfl, Or.inl (by decide), _, _, rfl, rfl, ?_⟩
      refine ⟨_, rfl, p, _, _, _, rfl, rfl, SqL.of hp1, rfl, (by show 0 ≤ sizeLine; decide), fun q hq => ?_⟩
      have lq : l ≠ q := ne_of_none hl1 hq
      have pq : p ≠ q := ne_of_none hp1 hq
      have hl2 : upd H1 q (.lst []) l = some (.lst (xs.map V.int)) := by rw [upd_ne lq]; exact hl1
      have hp2 : upd H1 q (.lst []) p = some (.lst [V.ref l, V.int (s + 1), V.int g]) := by rw [upd_ne pq]; exact hp1
      have k2 : Kp p H1 (upd H1 q (.lst [])) := fun b o hb e => by rw [upd_ne (ne_of_none e hq)]; exact e
      refine ⟨.list (xs.map PyData.int), .list [], .lst (SqL.of hl2) (dp_ints xs), .lst (SqL.of upd_same) .nil, shaped_ints xs, rfl, _, rfl, ?_⟩
      generalize upd H1 q (.lst []) = H2 at hl2 hp2 k2 ⊢
      refine join_if (fun σ' H' => ∃ cell : Int, σ' = [some (V.ref p), some (V.int m), none, some (V.int s), some (V.int cell), none, none] ∧ H' = H2) ?rest (fun go => ?_)
      case rest =>
        rintro σ' H' ⟨cell, rfl, rfl⟩
        refine ⟨_, rfl, _, rfl, p, _, _, _, rfl, rfl, SqL.of hp2, rfl, l, xs.map V.int, rfl, .inl (SqL.of hl2), _, _, rfl, rfl, _, rfl, ?_⟩
        refine ite2 (fun c2 => ?_) (fun c2 => ?_)
        · refine ⟨_, rfl, _, rfl, _, _, rfl, rfl, ⟨by decide, by decide, by decide⟩, _, _, rfl, rfl, _, rfl, ?_⟩
          refine ite2 (fun c3 => ?_) (fun c3 => ?_)
          · refine ⟨_, rfl, _, rfl, _, _, rfl, rfl, ⟨by decide, by decide, by decide⟩, _, _, rfl, rfl, _, _, rfl, rfl, Or.inl (by decide), _, rfl, _, _, rfl, rfl, Or.inr ⟨_, rfl, _, _, rfl, rfl, ?_⟩⟩
            have hge : (10 : Int) ^ (18 : Int).toNat ≤ (if cell < 0 then -cell else cell) := of_decide_eq_true c3
            generalize hG : 2 * ((if cell < 0 then -cell else cell) - 10 ^ (18 : Int).toNat) + (if decide (cell < 0) = true then (1 : Int) else 0) = G
            have hG0 : 0 ≤ G := by
              rw [← hG]
              have h1 : 0 ≤ (if decide (cell < 0) = true then (1 : Int) else 0) := by split <;> decide
              omega
            refine ⟨_, rfl, Or.inl ⟨_, rfl, _, rfl, _, _, rfl, rfl, (by exact hmb), _, rfl, p, _, _, _, rfl, rfl, hp2, rfl, ?_⟩⟩
            refine ⟨_, rfl, Or.inl ⟨_, rfl, _, rfl, _, _, rfl, rfl, (by show ¬ (_ = _); omega), ?_⟩⟩
            refine fin _ (G / m) _ (fm0 hm) (Int.fmod_lt_of_pos _ hm) (Int.ediv_nonneg hG0 (Int.le_of_lt hm)) ?_ fun b o hb e => ?_
            · rw [upd_same, ← hG]; rfl
            · rw [upd_ne hb]; exact k2 b o hb e
          · refine ⟨_, rfl, Or.inl ⟨_, rfl, ?_⟩⟩
            refine ⟨_, _, rfl, rfl, (by show ¬ (_ = _); decide), _, rfl, _, _, rfl, rfl, Or.inl (by decide), _, _, rfl, rfl, _, _, rfl, rfl, ?_⟩
            generalize hz : Int.fmod cell _ = z
            have hz0 : 0 ≤ z := by rw [← hz]; exact fm0 (by decide)
            have hz1 : z < 2147483648 := by rw [← hz]; exact fm1 (by decide) (by decide)
            refine ⟨_, _, rfl, rfl, ⟨by decide, by decide, by omega⟩, Or.inl ⟨_, rfl, ?_⟩⟩
            refine ⟨_, _, rfl, rfl, (by show ¬ (_ = _); decide), ?_⟩
            refine ⟨_, rfl, _, rfl, _, _, rfl, rfl, Or.inl (by decide), _, _, rfl, rfl, _, _, rfl, rfl, Or.inl (by exact fm64 (by decide) (by decide)), ?_⟩
            refine ⟨_, rfl, _, _, rfl, rfl, Or.inl (by decide), _, rfl, _, _, rfl, rfl, Or.inl (by exact fsmall (by decide) (by decide) s0 (by omega)), _, _, rfl, rfl, _, _, rfl, rfl, ?_⟩
            refine ⟨_, _, rfl, rfl, ⟨by decide, by decide, by exact stir (fm0 (by decide)) (fm1 (by decide) (by decide)) s0 (by omega) _ _ _ (by decide) (by decide) (by decide) (by decide) (by decide) (by decide)⟩, Or.inl ⟨_, rfl, ?_⟩⟩
            refine ⟨_, _, rfl, rfl, (by show ¬ (_ = _); decide), ?_⟩
            refine ⟨_, rfl, _, _, rfl, rfl, ⟨by decide, by decide⟩, Or.inl ⟨_, rfl, _, rfl, _, _, rfl, rfl, (by show ¬ (_ = _); omega), ?_⟩⟩
            exact fin _ g _ (fm0 hm) (Int.fmod_lt_of_pos _ hm) g0 hp2 k2
        · refine iteF ?_
          refine ⟨_, rfl, Or.inl ⟨_, rfl, ?_⟩⟩
          refine ⟨_, _, rfl, rfl, (by show ¬ (_ = _); decide), _, rfl, _, _, rfl, rfl, Or.inl (by decide), _, _, rfl, rfl, _, _, rfl, rfl, ?_⟩
          generalize hz : Int.fmod cell _ = z
          have hz0 : 0 ≤ z := by rw [← hz]; exact fm0 (by decide)
          have hz1 : z < 2147483648 := by rw [← hz]; exact fm1 (by decide) (by decide)
          refine ⟨_, _, rfl, rfl, ⟨by decide, by decide, by omega⟩, Or.inl ⟨_, rfl, ?_⟩⟩
          refine ⟨_, _, rfl, rfl, (by show ¬ (_ = _); decide), ?_⟩
          refine ⟨_, rfl, _, rfl, _, _, rfl, rfl, Or.inl (by decide), _, _, rfl, rfl, _, _, rfl, rfl, Or.inl (by exact fm64 (by decide) (by decide)), ?_⟩
          refine ⟨_, rfl, _, _, rfl, rfl, Or.inl (by decide), _, rfl, _, _, rfl, rfl, Or.inl (by exact fsmall (by decide) (by decide) s0 (by omega)), _, _, rfl, rfl, _, _, rfl, rfl, ?_⟩
          refine ⟨_, _, rfl, rfl, ⟨by decide, by decide, by exact stir (fm0 (by decide)) (fm1 (by decide) (by decide)) s0 (by omega) _ _ _ (by decide) (by decide) (by decide) (by decide) (by decide) (by decide)⟩, Or.inl ⟨_, rfl, ?_⟩⟩
          refine ⟨_, _, rfl, rfl, (by show ¬ (_ = _); decide), ?_⟩
          refine ⟨_, rfl, _, _, rfl, rfl, ⟨by decide, by decide⟩, Or.inl ⟨_, rfl, _, rfl, _, _, rfl, rfl, (by show ¬ (_ = _); omega), ?_⟩⟩
          exact fin _ g _ (fm0 hm) (Int.fmod_lt_of_pos _ hm) g0 hp2 k2
      refine ite2 (fun c1 => ?_) (fun c1 => ?_)
      · rw [eqv_nil] at c1
        have hx : xs ≠ [] := by simpa using c1
        have hlen : 0 < xs.length := List.length_pos_iff.mpr hx
        refine ⟨_, rfl, p, _, _, _, rfl, rfl, SqL.of hp2, rfl, ?_⟩
        refine ⟨_, rfl, Or.inl ⟨_, rfl, ?_⟩⟩
        refine ⟨_, rfl, p, _, _, _, rfl, rfl, SqL.of hp2, rfl, l, xs.map V.int, rfl, .inl (SqL.of hl2), ?_⟩
        have hL : ((xs.map V.int).length : Int) = (xs.length : Int) := by rw [List.length_map]
        have hb1 : 0 ≤ s.fmod ((xs.map V.int).length : Int) := Int.fmod_nonneg_of_pos _ (by omega)
        have hb2 : s.fmod ((xs.map V.int).length : Int) < ((xs.map V.int).length : Int) := Int.fmod_lt_of_pos _ (by omega)
        obtain ⟨j, hj⟩ : ∃ j : Nat, s.fmod ((xs.map V.int).length : Int) = (j : Int) := ⟨(s.fmod ((xs.map V.int).length : Int)).toNat, by omega⟩
        have hjl : j < xs.length := by omega
        have hat : atI (xs.map V.int) (s.fmod ((xs.map V.int).length : Int)) = some (V.int xs[j]) := by
          rw [hj]; exact atI_nat (by simp [hjl])
        refine ⟨_, _, rfl, rfl, (by omega), ?_⟩
        refine ⟨l, _, _, V.int xs[j], rfl, rfl, SqL.of hl2, hat, ?_⟩
        exact go _ _ ⟨xs[j], rfl, rfl⟩
      · exact go _ _ ⟨_, rfl, rfl⟩
end
end Lw
namespace Lw
open PySem PySem.Spec PyProof.Rows L2

theorem Kp.refl (p : Addr) (H : Hp) : Kp p H H := fun _ _ _ e => e
theorem Kp.trans {p : Addr} {H H1 H2 : Hp} (a : Kp p H H1) (b : Kp p H1 H2) : Kp p H H2 := fun c o hc e => b c o hc (a c o hc e)
theorem Kp.of {p : Addr} {H H' : Hp} (s : Same H H') : Kp p H H' := fun b o _ e => s b o e
theorem Kp.seq {K : PySem.W.Frag} {p a : Addr} {H H' : Hp} {ys : List V} (k : Kp p H H') (ne : a ≠ p) (h : SqL K H a ys) : SqL K H' a ys := by
  rcases h with (h | ⟨o, h⟩) | h
  · exact .inl (.inl (k _ _ ne h))
  · exact .inl (.inr ⟨o, k _ _ ne h⟩)
  · exact .inr h
theorem same_new {H : Hp} {q : Addr} {o : HO} (hq : H q = none) : Same H (upd H q o) := fun b u e => by rw [upd_ne (ne_of_none e hq)]; exact e
theorem Pen.keep {H H' : Hp} {p l : Addr} {n : Nat} (h : Pen H p l n) (s : Same H H') : Pen H' p l n := by
  obtain ⟨xs, a, g, ⟨h1, h2, h3, h4, h5⟩, h6⟩ := h
  exact ⟨xs, a, g, ⟨s _ _ h1, s _ _ h2, h3, h4, h5⟩, h6⟩
theorem Pen.at {H : Hp} {p l : Addr} {n : Nat} (h : Pen H p l n) : ∃ o, H p = some o := by
  obtain ⟨xs, a, g, h, _⟩ := h
  exact ⟨_, h.at_⟩
theorem Pen.ne_new {H : Hp} {p l q : Addr} {n : Nat} (h : Pen H p l n) (hq : H q = none) : q ≠ p := by
  obtain ⟨o, h1⟩ := h.at
  exact (ne_of_none h1 hq).symm
theorem Pen.more {H : Hp} {p l : Addr} {n m : Nat} (h : Pen H p l n) (hm : n ≤ m) : Pen H p l m := by
  obtain ⟨xs, a, g, h1, h2⟩ := h
  exact ⟨xs, a, g, h1, by omega⟩
def spPick (K : PySem.W.Frag) : Sp := fun vs H Q _ => ∃ (p l a : Addr) (n : Nat) (ys : List V), vs = [.ref p, .ref a] ∧ Pen H p l n ∧ n ≤ 1000000 ∧ SqL K H a ys ∧ a ≠ p ∧ 0 < ys.length ∧ ys.length < 1000000 ∧
  ∀ (j : Nat) (v : V) (H' : Hp), ys[j]? = some v → Pen H' p l (n + 1) → Kp p H H' → Q v H'
def spPen (K : PySem.W.Frag) : Sp := fun vs H Q _ => ∃ (a : Addr) (ns : List Int), vs = [.ref a] ∧ SqL K H a (ns.map V.int) ∧ ns.length ≤ 63 ∧ ∀ (p l : Addr) (H' : Hp), Pen H' p l 0 → Same H H' → H p = none → Q (.ref p) H'
theorem Pen.over {H : Hp} {p l q : Addr} {n : Nat} {o : HO} (h : Pen H p l n) (h1 : q ≠ p) (h2 : q ≠ l) : Pen (upd H q o) p l n := by
  obtain ⟨xs, a, g, ⟨e1, e2, e3, e4, e5⟩, h6⟩ := h
  exact ⟨xs, a, g, ⟨by rw [upd_ne h1.symm]; exact e1, by rw [upd_ne h2.symm]; exact e2, e3, e4, e5⟩, h6⟩
theorem Pen.ne_new2 {H : Hp} {p l q : Addr} {n : Nat} (h : Pen H p l n) (hq : H q = none) : q ≠ l := by
  obtain ⟨xs, a, g, h, _⟩ := h
  exact (ne_of_none h.ls hq).symm
section
variable {P : Program} {w : World} {K : PySem.W.Frag} {mg : Str → Option Value} {base : Heap}
theorem scPick : FnScope ["_law_pen_here", "_law_some"] ["_law_pen_here", "_law_some"] (C8.fnScope sPick) := C8.fnScope_by (by decide +kernel)
theorem cal_pick {f : Addr} {fd : FuncData} (F : C8.Def K mg "_law_pick" sPick f fd) (b : Binds K fd ["_law_pen_here", "_law_some"] []) (T : Txt0 mg) (D : C8.Cal P w K mg base 1 "_law_draw" spDraw []) : C8.Cal P w K mg base 2 "_law_pick" (spPick K) [] := by
  refine C8.cal0 F b .nil scPick (fun vs H Q E h => ?_) (fun cdv A outer st H vs Q E hr h => ?_)
  · obtain ⟨p, l, a, n, ys, rfl, _⟩ := h
    rfl
  · obtain ⟨p, l, a, n, ys, rfl, hp, hn, hs, ne, h0, h1, k⟩ := h
    refine ⟨_, (pss_one (ps_ret (pe_ix ix_list (pv 1) (C8.pe_c D hr (by decide) (by rfl) (pa_cons (pv 0) (pa_cons (pe_callB call_len_seq (by rfl) T.n_len (by decide +kernel) (pa_cons (pv 1) pa_nil)) pa_nil))) (fun _ _ => rfl)))), ?_⟩
    refine ⟨_, rfl, _, rfl, _, rfl, a, ys, rfl, .inl hs, ?_⟩
    refine ⟨p, l, n, _, rfl, (by omega), (by omega), hp, hn, fun r H' r0 r1 hp' k' => ?_⟩
    obtain ⟨j, hj⟩ : ∃ j : Nat, r = (j : Int) := ⟨r.toNat, by omega⟩
    subst hj
    have hjl : j < ys.length := by omega
    refine ⟨a, ys, _, ys[j], rfl, rfl, k'.seq ne hs, atI_nat (by simp [hjl]), ?_⟩
    exact k j _ H' (by simp [hjl]) hp' k'
theorem scPen : FnScope ["_law_script"] ["_law_script"] (C8.fnScope sPen) := C8.fnScope_by (by decide +kernel)
theorem cut_ints (xs : List Int) (lo hi : Option Int) : cutV (xs.map V.int) lo hi = ((xs.drop (HT.sIx xs.length 0 lo)).take (HT.sIx xs.length xs.length hi - HT.sIx xs.length 0 lo)).map V.int := by
  unfold cutV
  rw [List.length_map, List.map_take, List.map_drop]
theorem cal_pen {f : Addr} {fd : FuncData} (F : C8.Def K mg "_law_pen" sPen f fd) (b : Binds K fd ["_law_script"] []) (T : Txt0 mg) : C8.Cal P w K mg base 1 "_law_pen" (spPen K) [] := by
  refine C8.cal0 F b .nil scPen (fun vs H Q E h => ?_) (fun cdv A outer st H vs Q E hr h => ?_)
  · obtain ⟨a, ns, rfl, _⟩ := h
    rfl
  · obtain ⟨a, ns, rfl, hs, hl, k⟩ := h
    refine ⟨_, (pss_one (ps_ret (pe_lst (pa_cons (pe_callTy call_list_of (by rfl) T.n_list (by decide +kernel) (pa_cons (pe_slice sl_list (pv 0) po_none (po_some pe_int)) pa_nil)) (pa_cons pe_int (pa_cons pe_int pa_nil)))))), ?_⟩
    refine ⟨_, rfl, _, rfl, a, _, rfl, hs, fun c hc => ?_⟩
    refine ⟨c, _, rfl, .inl (SqL.of upd_same), fun l hl2 => ?_⟩
    refine ⟨(by show 3 ≤ sizeLine; decide), fun p hp => ?_⟩
    have s1 := same_new (o := HO.lst (cutV (ns.map V.int) none (some 63))) hc
    have s2 := same_new (o := HO.lst (cutV (ns.map V.int) none (some 63))) hl2
    have s3 := same_new (o := HO.lst [V.ref l, V.int 0, V.int 0]) hp
    have pl : p ≠ l := fun e => by rw [e, upd_same] at hp; cases hp
    refine k p l _ ⟨((ns.drop (HT.sIx ns.length 0 none)).take (HT.sIx ns.length ns.length (some 63) - HT.sIx ns.length 0 none)), 0, 0, ⟨upd_same, ?_, pl, by omega, by omega⟩, by omega⟩ ((s1.trans s2).trans s3) ((s1.trans s2).free hp)
    rw [upd_ne pl.symm, upd_same, cut_ints]
end
end Lw
namespace Lw
open PySem PySem.Spec PyProof.Rows L2

/-! ### defs that are called where no repr runs -/
/-- a def's promise where nothing is being shown -/
structure FnG (P : Program) (w : World) (K : PySem.W.Frag) (mg : Str → Option Value) (base : Heap) (k : Nat) (f : Addr) (fd : FuncData) (ps : List Str) (sp : Sp) : Prop where
  len : ∀ vs H Q E, sp vs H Q E → vs.length = ps.length
  run : ∀ (A : Around) (outer : List Env) (s : Shared) (H : Hp) (args : Args) (us : List Value) (vs : List V) (Q : VK) (E : XK), A.guards = some [] → Room k A → Env0 P w K mg base A outer s H →
    BindsTo s fd args (ps.zip us) → Vals vs us → sp vs H Q E → codeAny (model P w) A (.call (.ref f) args) (CR C8.CX0 outer P w H s Q E) s
structure CalG (P : Program) (w : World) (K : PySem.W.Frag) (mg : Str → Option Value) (base : Heap) (k : Nat) (x : Str) (sp : Sp) (dvs : List V) : Prop where
  ex : ∃ (f : Addr) (fd : FuncData) (ps : List Str) (ds : List Value), FnG P w K mg base k f fd ps sp ∧ mg x = some (.ref f) ∧ PySem.W.keepIn K (.ref f) = true ∧ Binds K fd ps ds ∧ Vals dvs ds
section
variable {P : Program} {w : World} {K : PySem.W.Frag} {mg : Str → Option Value} {base : Heap}
theorem calG {x : Str} {st : Stmt} {f : Addr} {fd : FuncData} {N ps : List Str} {ds : List Value} {dvs : List V} {k : Nat} {sp : Sp} (F : C8.Def K mg x st f fd) (b : Binds K fd ps ds) (d : Vals dvs ds) (S : FnScope N ps (C8.fnScope st))
    (len : ∀ vs H Q E, sp vs H Q E → vs.length = ps.length)
    (body : ∀ (cdv : Value) (A : Around) (outer : List Env) (s : Shared) (H : Hp) (vs : List V) (Q : VK) (E : XK), (A.deeper (envOfC x (C8.fnScope st) s.heap.objs.size f cdv)).guards = some [] → Room k (A.deeper (envOfC x (C8.fnScope st) s.heap.objs.size f cdv)) → sp vs H Q E →
      ∃ t, PSs (cxOf C8.CX0 P w K mg base N x (C8.fnScope st) f cdv A outer s H E).nox (C8.fnBody st) t ∧ t { nx := fun _ H' => Q .non H', rt := Q } (start N vs) H) : CalG P w K mg base (k + 1) x sp dvs := by
  refine ⟨f, fd, ps, ds, ⟨len, ?_⟩, F.mgf, F.kp, b, d⟩
  intro A outer s H args us vs Q E hg hr e0 hb r hs
  obtain ⟨oc, od, dV, kV, doc, pm, an, cdv, ct, osl, rfl, lk, hcd⟩ := F.fn.ex
  refine LamX.run_ofS lk hcd S hr e0 hb r (len _ _ _ _ hs) fun hr' => ?_
  obtain ⟨t, h1, h2⟩ := body cdv A outer s H vs Q E hg hr' hs
  exact ⟨t, h1.nox, h2⟩
end
section
variable {X : Cx} {k j : Nat} {x : Str} {sp : Sp} {dvs : List V} {p pos : Pos} {e : Expr} {es : List Expr} {t : TA}
theorem pe_g (c : CalG X.prog X.w X.K X.mg X.base k x sp dvs) (hG : X.A.guards = some []) (hr : Room j X.A) (hk : k ≤ j) (hg : Gl X x) (ha : PA X (e :: es) t)
    (hdb : (x == ("__debug__" : Str)) = false := by decide) (he : starEach (e :: es) X.env = (false, eval e X.env) :: starEach es X.env := by rfl) (hpl : (backTo pos (starEach es X.env)).any (·.1) = false := by rfl) :
    PE X (.Call (.Name x p) (e :: es) [] pos) (tCall sp dvs C8.E0 t) := by
  obtain ⟨f, fd, ps, ds, F, hm, kp, b, d⟩ := c.ex
  refine ⟨fun pins s σ H Q I h => ?_⟩
  refine wpAny_Call_Name_kw (ld_glob I hg hm ?_ hdb)
  refine PySem.W.callWith_K (h₀ := X.base) I.ok.mod.kin kp (thn (ha.run pos pins s σ H _ I h) fun us s1 g => ?_) he hpl
  obtain ⟨vs, H1, I1, r, q⟩ := g
  refine ⟨I1.kIn, ?_⟩
  have r2 := r.append d
  have hl : (us ++ ds).length = ps.length := r2.length.symm.trans (F.len _ _ _ _ q)
  refine wpAny_call (codeAny_mono (F.run X.A X.stack s1 H1 ⟨us, []⟩ (us ++ ds) (vs ++ dvs) Q C8.E0 hG (hr.mono hk) I1.env0 (b s1 us I1.kIn hl) r2 q) fun r s' hq => ?_)
  match r, hq with
  | .error e, hq => exact hq.elim
  | .ok (.ret u), hq => exact I1.after hq
  | .ok .next, hq => exact hq.elim
  | .ok .brk, hq => exact hq.elim
  | .ok .cont, hq => exact hq.elim
/-! ### repr of data -/
def rRepr (K : PySem.W.Frag) : List V → Hp → VK → Prop := fun xs H Q => ∃ (a : Addr) (d : PyData), xs = [.ref a] ∧ Dp K H (.ref a) d ∧ d.showable = true ∧ d.hasDict = false ∧ d.depth ≤ 100 ∧ d.shown.length ≤ sizeLine ∧ Q (.str d.shown) H
theorem call_reprD (hG : X.A.guards = some []) (hr : Room 0 X.A) : CallR X (.builtin "repr") (rRepr X.K) := by
  intro pins s σ H xs us Q I r h
  obtain ⟨a, d, rfl, hd, h1, h2, h3, h4, q⟩ := h
  obtain ⟨u, rfl, ru⟩ := vals1 r
  have e : u = Value.ref a := ru
  subst e
  obtain ⟨as, rd⟩ := Dp.reads I d _ _ hd rfl
  have hun := hr.un
  exact repr_of_reads' rd h1 (fun z => by rw [h2] at z; cases z) hG (by omega) (fun _ _ e => e) (fun h' u' tk kp => ⟨.str d.shown, H, I.kept kp, ⟨u', rfl⟩, q⟩) h4
end
end Lw
namespace Lw
open PySem PySem.Spec PyProof.Rows L2

open LamX
/-! ### a lambda as a value -/
def FnO (f : Addr) : HO := .ext fun h => ∃ o : Obj, h.get? f = some o ∧ o.cls = .type "function"
section
variable {X : Cx} {pins : List (Addr × Obj)} {σ : L2.St} {H : Hp} {s : Shared}
theorem lay_fn {h' : Heap} {t' : Nat} {o : Obj} (I : Inv X pins σ H { s with heap := h', toks := t' }) (ho : o.cls = .type "function") (hs : o.isFreed = false) :
    Inv X pins σ (upd H h'.objs.size (FnO h'.objs.size)) { s with heap := h'.push o, toks := t' } := by
  refine I.laid (h' := h'.push o) (t' := t') (fun b u e => Heap.get?_push_of_some _ e) (Nat.le_refl _) ?_
  have g : (h'.push o).get? h'.objs.size = some o := Heap.get?_push_size _ hs
  refine ⟨⟨o, g, ho⟩, ⟨o, g⟩, ?_⟩
  rintro h1 h2 ⟨u, e1, e2⟩ st
  exact ⟨u, st u e1, e2⟩
theorem lam_val {T : List (Addr × Str)} {c B : Addr} {params : Arguments} {body : Expr} {scope : Scope} {pos : Pos} {E Q : Value → Shared → Prop} (I : Inv X pins σ H s) (TB : TabB X.base X.mg c B) (hcode : X.env.code = .ref c)
    (hm : (B, X.env.qual ++ "<lambda>") ∈ T) (hu : ∀ p ∈ T, p.1 = B → p.2 = X.env.qual ++ "<lambda>") (hT : Tabs T H) (hdef : defaultsOf params X.env = ([], []))
    (hfree : ∀ y ∈ scope.names, y.2 = .free → ∃ c, X.env.cells.lookup y.1 = some c)
    (h : ∀ (f : Addr) (H1 : Hp) (s' : Shared), Inv X pins σ (upd H1 f (FnO f)) s' → ExtN H H1 → Tabs T H1 → H1 f = none → Q (.ref f) s') :
    wpAny (model X.prog X.w) X.A (eval (.Lambda params body scope pos) X.env) Q E s := by
  have known := hT _ hm
  obtain ⟨ps, hB, trip, amg⟩ := known
  refine PySem.W.kla_eval hdef ?_
  have hat : s.heap.get? B = some { cls := .none, data := .fields ps } := I.hok B _ hB
  have blt := TB.bm.keeps I.bk
  have hdc := TB.code.keeps I.bk
  have glb := I.mod.glob.keeps I.bk
  rcases hc : codeAmong pos ps.toList with _ | cv
  · refine PySem.W.kla_makeFunction (mg := X.mg) (c := c) (P := B) (ps := ps) (closure_ok hfree) I.ok.glob glb hcode hdc hat trip hc TB.gP blt ?_
    intro c2 ctv h' tk hx hge hlt hrec htb
    obtain ⟨c3, oc, vs, t, e3, g1, g2, g3⟩ := hrec
    cases e3
    have nC : H c2 = none := I.hok.fresh hge
    have I0 := inv_table (t' := tk) (more := #[rawInt pos.line, rawInt pos.col, .ref c2]) (h' := h') I hB hx htb hge ⟨oc, vs, t, g1, g2, g3⟩
    have stays : ExtN H (upd (upd H B (.tbl (ps ++ #[rawInt pos.line, rawInt pos.col, .ref c2]))) c2 (CodeO c2 (X.env.qual ++ "<lambda>"))) := by
      intro b o e n
      rw [upd_ne (ne_of_none e nC)]
      by_cases hb : b = B
      · subst hb
        rw [hB] at e
        exact absurd (Option.some.inj e).symm (n ps)
      · rw [upd_ne hb]; exact e
    refine h h'.objs.size _ _ (lay_fn (t' := tk) I0 rfl rfl) stays ?_ ?_
    · intro p hp
      by_cases hb : p.1 = B
      · rw [hu p hp hb, hb]
        refine ⟨ps ++ #[rawInt pos.line, rawInt pos.col, .ref c2], ?_, ?_, ?_⟩
        · rw [upd_ne (ne_of_none hB nC), upd_same]
        · rw [show (ps ++ #[rawInt pos.line, rawInt pos.col, .ref c2]).toList = ps.toList ++ [rawInt pos.line, rawInt pos.col, .ref c2] by simp]
          exact PySem.TriplesOk_snoc _ _ _ _ trip
        · intro p' cv' hcv
          rw [show (ps ++ #[rawInt pos.line, rawInt pos.col, .ref c2]).toList = ps.toList ++ [rawInt pos.line, rawInt pos.col, .ref c2] by simp] at hcv
          rcases among_app _ trip hcv with z | z
          · obtain ⟨c0, a1, a2⟩ := amg p' cv' z
            exact ⟨c0, a1, stays _ _ a2 codeO_ne⟩
          · exact ⟨c2, z, upd_same⟩
      · obtain ⟨qs, a1, a2, a3⟩ := hT p hp
        refine ⟨qs, ?_, a2, ?_⟩
        · rw [upd_ne (ne_of_none a1 nC), upd_ne hb]; exact a1
        · intro p' cv' hcv
          obtain ⟨c0, b1, b2⟩ := a3 p' cv' hcv
          exact ⟨c0, b1, stays _ _ b2 codeO_ne⟩
    · have n1 : h'.objs.size ≠ c2 := Nat.ne_of_gt hlt
      have n2 : h'.objs.size ≠ B := Nat.ne_of_gt (Nat.lt_of_lt_of_le (Heap.lt_size hat) (Nat.le_trans hge (Nat.le_of_lt hlt)))
      rw [upd_ne n1, upd_ne n2]
      exact I.hok.fresh (Nat.le_trans hge (Nat.le_of_lt hlt))
  · obtain ⟨c2, e, hco⟩ := amg pos cv hc
    subst e
    refine PySem.W.kla_makeFunctionHit (mg := X.mg) (c := c) (P := B) (ps := ps) (closure_ok hfree) I.ok.glob glb hcode hdc hat trip hc blt ?_
    intro ctv h' tk hx hsz
    have I0 : Inv X pins σ H { s with heap := h', toks := tk } := I.kept hx
    exact h h'.objs.size H _ (lay_fn (t' := tk) I0 rfl rfl) (ExtN.refl H) hT (I.hok.fresh hsz)
end
def tLamV (T : List (Addr × Str)) : TE := fun _ H Q => Tabs T H ∧ ∀ (f : Addr) (H1 : Hp), ExtN H H1 → Tabs T H1 → H1 f = none → Q (.ref f) (upd H1 f (FnO f))
section
variable {X : Cx}
theorem pe_lamV {T : List (Addr × Str)} {c B : Addr} {params : Arguments} {body : Expr} {scope : Scope} {pos : Pos} (TB : TabB X.base X.mg c B) (hcode : X.env.code = .ref c)
    (hm : (B, X.env.qual ++ "<lambda>") ∈ T) (hu : ∀ p ∈ T, p.1 = B → p.2 = X.env.qual ++ "<lambda>") (hdef : defaultsOf params X.env = ([], [])) (L : ∀ y ∈ scope.names, y.2 ≠ .free) :
    PE X (.Lambda params body scope pos) (tLamV T) := by
  refine ⟨fun pins s σ H Q I h => ?_⟩
  refine lam_val I TB hcode hm hu h.1 hdef (fun y hy e => absurd e (L y hy)) fun f H1 s' I1 eN T1 nf => ?_
  exact ⟨.ref f, _, I1, rfl, h.2 f H1 eN T1 nf⟩
end
end Lw
namespace Lf
open PySem
open Sem (wp)

theorem ga : Slot "function" "__getattribute__" "object.__getattribute__" := by
  refine .of (owner := "object") (n := "__getattribute__") ?_ (by decide +kernel) (by decide +kernel) (by decide +kernel) ?_ ?_
  · rw [typeLookup_type, builtinLookup_eq_fast]
    kernel_rfl
  · first
      | exact .inl (by decide +kernel)
      | exact .inr (by decide +kernel)
  · rw [isSubtype_type]
    kernel_rfl
theorem lkc : typeLookup (.type "function") "__class__" = pure (some (.builtin "object.__class__")) := by
  rw [typeLookup_type, builtinLookup_eq_fast]
  kernel_rfl
theorem sub_own : isSubtype (.type "function") (.type (".".intercalate ("object.__class__".cutAt '.').dropLast)) = pure true := by
  rw [F.owner_object_class]
  rw [isSubtype_type]
  kernel_rfl
section
variable {prog : Program} {w : World} {A : Around} {E : Value → Shared → Prop} {h : Heap} {g : Array GenState} {d : Drawn} {t : Nat} {os : OsState} {a : Addr} {o : Obj}
theorem fn_get {R : Result → Shared → Prop} (hx : h.get? a = some o) (hc : o.cls = .type "function")
    (hq : R (.ok (.ret (.type "function"))) ⟨h, g, d, t, os⟩) :
    codeAny (model prog w) A (.call (.builtin "getset_descriptor.__get__") ⟨[.builtin "object.__class__", .ref a, .type "function"], []⟩) R ⟨h, g, d, t, os⟩ := by
  have i1 : (⟨h, g, d, t, os⟩ : Shared).TypeIs (.ref a) "function" := ⟨o, hx, hc⟩
  have i2 : (⟨h, g, d, t, os⟩ : Shared).TypeIs (.builtin "object.__class__") "getset_descriptor" := F.typeOf_object_class
  have i3 := sub_own
  refine codeAny_call_builtin F.slot_gs_get.plain F.entry_gs_get ?_
  refine F.slot_gs_get.check _ _ _ _ _ _ _ _ i2 (F.args_gs_get _ _ _) ?_
  repeat (any_goals (first | assumption | wp_step))
  refine ⟨Code.quiet_builtin _ (by decide +kernel), ?_⟩
  refine codeAny_builtin F.entry_object_class ?_
  repeat (any_goals (first | assumption | wp_step))
theorem fn_ga {tk : Tok} {Q : Fin → Shared → Prop} (hx : h.get? a = some o) (hc : o.cls = .type "function")
    (hq : Q (.done (.ret (.type "function"))) ⟨h, g, d, t, os⟩) :
    wpAny (model prog w) A (Builtin.«object.__getattribute__» ⟨[.ref a, .str "__class__" tk], []⟩) Q E ⟨h, g, d, t, os⟩ := by
  have i1 : (⟨h, g, d, t, os⟩ : Shared).TypeIs (.ref a) "function" := ⟨o, hx, hc⟩
  have i2 : (⟨h, g, d, t, os⟩ : Shared).TypeIs (.builtin "object.__class__") "getset_descriptor" := F.typeOf_object_class
  have i3 := lkc
  have i4 := F.typeOf_object_class
  have i5 := F.slot_gs_get.lookup
  have i6 := F.slot_gs_set.lookup
  repeat (any_goals (first | assumption | wp_step))
  refine fn_get hx hc ?_
  repeat (any_goals (first | assumption | wp_step))
theorem fn_call {tk : Tok} {R : Result → Shared → Prop} (hx : h.get? a = some o) (hc : o.cls = .type "function")
    (hq : R (.ok (.ret (.type "function"))) ⟨h, g, d, t, os⟩) :
    codeAny (model prog w) A (.call (.builtin "object.__getattribute__") ⟨[.ref a, .str "__class__" tk], []⟩) R ⟨h, g, d, t, os⟩ := by
  refine codeAny_call_builtin ga.plain F.entry_object_getattribute ?_
  exact ga.check _ _ _ _ _ _ _ _ (show (⟨h, g, d, t, os⟩ : Shared).TypeIs (.ref a) "function" from ⟨o, hx, hc⟩) (F.args_object_getattribute_2 _ _) (fn_ga hx hc hq)
theorem fn_by {tk : Tok} {Q : Value → Shared → Prop} (hx : h.get? a = some o) (hc : o.cls = .type "function") (hq : Q (.type "function") ⟨h, g, d, t, os⟩) :
    wpAny (model prog w) A (getAttrBy (.ref a) (.str "__class__" tk) false) Q E ⟨h, g, d, t, os⟩ := by
  have i1 : (⟨h, g, d, t, os⟩ : Shared).TypeIs (.ref a) "function" := ⟨o, hx, hc⟩
  have i2 := ga.lookup
  have i3 := ga.bind (.ref a)
  repeat (any_goals (first | assumption | wp_step))
  refine fn_call hx hc ?_
  repeat (any_goals (first | assumption | wp_step))
theorem fn_attr {Q : Option Value → Shared → Prop} (hx : h.get? a = some o) (hc : o.cls = .type "function") (hq : Q (some (.type "function")) ⟨h, g, d, t + 1, os⟩) :
    wpAny (model prog w) A (getAttr? (.ref a) "__class__") Q E ⟨h, g, d, t, os⟩ := by
  unfold getAttr? getAttrBy?
  repeat (any_goals (first | assumption | with_reducible apply fn_by hx hc | wp_step))
end
end Lf
namespace Lw
open PySem PySem.Spec PyProof.Rows L2

open LamX
theorem kitx_fn {K : PySem.W.Frag} {a : Addr} : PySem.W.KitX K (.ref a) (.type "function") (PySem.W.KitAt a "function") := PySem.W.kitx_of PySem.W.kitAt_ty (fun {_ _ _ _ _ s} p k => by
  obtain ⟨h, g, d, t, os⟩ := s
  obtain ⟨o, h1, h2⟩ := p
  exact Lf.fn_attr h1 h2 k)
/-- a value's type: a def's, too -/
inductive TyZ (K : PySem.W.Frag) (H : Hp) : V → Value → Prop where
  | x {v : V} {t : Value} (h : TyX K H v t) : TyZ K H v t
  | fn {a : Addr} (e : H a = some (FnO a)) : TyZ K H (.ref a) (.type "function")
def rIsz (K : PySem.W.Frag) : List V → Hp → VK → Prop := fun xs H Q => ∃ (x c : V) (t u : Value) (b : Bool), xs = [x, c] ∧ ClsV c u ∧ TyZ K H x t ∧ PySem.W.kitOne K t u = some b ∧ Q (.bl b) H
theorem call_isz {X : Cx} : CallR X (.builtin "isinstance") (rIsz X.K) := by
  intro pins s σ H xs us Q I r h
  obtain ⟨x, c, t, u, b, rfl, k, ty, e, q⟩ := h
  obtain ⟨u1, u2, rfl, r1, r2⟩ := vals2 r
  have e2 := k.eq r2
  subst e2
  cases ty with
  | x ty =>
    obtain ⟨W, Z, p, hx⟩ := kit_of I r1 ty
    exact PySem.W.kia_one Z I.kIn p e hx fun tk => ⟨.bl b, H, I.tok tk, rfl, q⟩
  | @fn a ea =>
    have e3 : u1 = Value.ref a := r1
    subst e3
    obtain ⟨⟨o, h1, h2⟩, _⟩ := I.hok a _ ea
    exact PySem.W.kia_one kitx_fn I.kIn ⟨o, h1, h2⟩ e (fun z => by cases z) fun tk => ⟨.bl b, H, I.tok tk, rfl, q⟩
end Lw
namespace Lw
open PySem PySem.Spec PyProof.Rows L2

/-! ### try: body / except X as n: suite, the caught exception held behind the suite -/
/-- an exception's object: its class, its dict -/
def ExO (a : Addr) (cls : Value) (d : Option Addr) : HO := .ext fun h => ∃ o, h.get? a = some o ∧ Zc cls d o ∧ ∃ vs, o.data = .fields vs
section
variable {X : Cx} {pins : List (Addr × Obj)} {σ : L2.St} {H : Hp} {s : Shared}
/-- a pinned object is tracked from now on -/
theorem promote {a : Addr} {o : Obj} {cls : Value} {d : Option Addr} (I : Inv X ((a, o) :: pins) σ H s) (hz : Zc cls d o) (hf : ∃ vs, o.data = .fields vs) (new : X.s_0.heap.get? a = none) (apart : ∀ p ∈ X.pn ++ pins, p.1 ≠ a) : Inv X pins σ (upd H a (ExO a cls d)) s := by
  obtain ⟨ha, na, nL, nF, nC⟩ := I.pin (a, o) (List.mem_append_right _ List.mem_cons_self)
  have here : ∀ b, b ≠ a → upd H a (ExO a cls d) b = H b := fun b n => upd_ne n
  have known : ∀ b u, H b = some u → b ≠ a := fun b u e z => by rw [z, na] at e; cases e
  have old : ∀ b u, X.s_0.heap.get? b = some u → b ≠ a := fun b u e z => by rw [z, new] at e; cases e
  refine ⟨I.ok, I.os, I.bare, ⟨I.base.keep, I.base.slot, fun b u e n hx => ?_, I.base.there, fun b xs e => ?_, fun b u v e => ?_, fun b ps e => ?_⟩, I.loc, I.cell, ?_, fun y c e => ?_, fun p hp => ?_, fun b u e => ?_, I.len⟩
  · rw [here b (old b u e)]
    exact I.base.free b u e n hx
  · have z := I.base.tups b xs e
    rw [here b (known b _ z)]
    exact z
  · have z := I.base.frzs b u v e
    rw [here b (known b _ z)]
    exact z
  · obtain ⟨more, z⟩ := I.base.tbls b ps e
    exact ⟨more, by rw [here b (known b _ z)]; exact z⟩
  · rw [here _ nL.symm]
    exact I.free
  · have ne : c ≠ a := fun z => by
      obtain ⟨v, oc, hoc, hdc⟩ := I.cell y c e
      rw [z, ha] at hoc
      cases hoc
      exact nC v hdc
    rw [here c ne]
    exact I.freeC y c e
  · have hp2 : p ∈ X.pn ++ ((a, o) :: pins) := by
      rcases List.mem_append.mp hp with h | h
      · exact List.mem_append_left _ h
      · exact List.mem_append_right _ (List.mem_cons_of_mem _ h)
    obtain ⟨e1, e2, e3⟩ := I.pin p hp2
    exact ⟨e1, by rw [here _ (apart p hp)]; exact e2, e3⟩
  · by_cases q : b = a
    · subst q
      rw [upd_same] at e
      cases e
      refine ⟨⟨o, ha, hz, hf⟩, ⟨o, ha⟩, ?_⟩
      rintro h1 h2 ⟨u, e1, e2⟩ st
      exact ⟨u, st u e1, e2⟩
    · rw [here b q] at e
      exact (I.hok b u e).stay (fun _ _ _ z => z) (fun c z => by rw [here c (known c _ z)]; exact z) fun c xs z => by rw [here c (known c _ z)]; exact z
end
end Lw
namespace Lw
open PySem PySem.Spec PyProof.Rows L2

/-- what the body's exceptions must be: of the class that is named; the suite ends plainly, and the exception stays known behind it -/
def wHeld (K : PySem.W.Frag) (c : Value) (i n : Nat) (ts : Addr → Value → Option Addr → TS) (D : Ends) : WX := fun cls d σ H => σ.length = n →
  PySem.W.exmOne K cls c = some true ∧ ∀ a, H a = none → ts a cls d { nx := fun σ' H' => H' a = none → D.nx (σ'.set i none) (upd H' a (ExO a cls d)), rt := fun _ _ => False, bk := fun _ _ => False, ct := fun _ _ => False } (σ.set i (some (.ref a))) H
section
variable {X : Cx} {x n : Str} {c : Value} {i : Nat} {body suite : List Stmt} {b₀ : Stmt} {np pos pos' : Pos} {tb : WX → TS} {ts : Addr → Value → Option Addr → TS}
theorem ps_try_held (stk : X.stack = X.env :: X.outer) (frm : X.env.frame = some X.env.locals) (hN : X.N.Nodup) (hi : X.N[i]? = some n) (loc : X.env.kindOf n = some .local) (nm : Names X x c) (noex : X.ex = [])
    (hb : ∀ (W : WX) (pn : List (Addr × Obj)) (xe : Value → Shared → Prop), Takes (X.tr pn xe) W → PassesOwn (model X.prog X.w) X.A X.env xe → PSs (X.tr pn xe) body (tb W))
    (hsu : ∀ (a : Addr) (oe : Obj) (cls : Value) (d : Option Addr) (pn : List (Addr × Obj)), Zc cls d oe → (∃ vs, oe.data = .fields vs) → PSs (X.suite a ((a, oe) :: pn)) (b₀ :: suite) (ts a cls d)) :
    PS X (.Try body [.ExceptHandler (some (.Name x np)) (some n) (b₀ :: suite) pos'] [] [] pos) (fun D σ H => tb (wHeld X.K c i X.N.length ts D) D σ H) := by
  refine ⟨fun pins s σ H D I h => ?_⟩
  have ok := I.ok
  have frames : X.A.frames = some (X.env :: X.outer) := by rw [ok.frames, stk]
  refine wpAny_Try_except ?_
  refine wpAny_mono ((hb (wHeld X.K c i X.N.length ts D) (X.pn ++ pins) (fun e s₁ => wpAny (model X.prog X.w) X.A (noteFrame e X.env) (fun _ s₂ => wpAny (model X.prog X.w) X.A (setFlight e none) (fun _ s₃ =>
    wpAny (model X.prog X.w) X.A (handleBy e X.env [.ExceptHandler (some (.Name x np)) (some n) (b₀ :: suite) pos']) (SP X pins D) X.xe s₃) X.xe s₂) X.xe s₁) (fun u s' air => ?_) PassesOwn.looking).run [] s σ H D (I.toTry _) h) (fun f s1 q => ?_) (fun e s1 q => q)
  · obtain ⟨a, B, sI, pins', σ', H', cls, d, rfl, JT, nb, up, sky, na, os, ag, hw⟩ := air
    have J : Inv X pins σ' H' sI := JT.ofTry ok
    obtain ⟨ours, go⟩ := hw J.len
    rw [stk] at sky
    show wpAny (model X.prog X.w) X.A (noteFrame (.ref a) X.env) _ _ _
    refine Sky.land Zc.steady frames frm sky fun hA flA upA => ?_
    have JA : Inv X pins σ' H' { s' with heap := hA } := J.landed nb flA.1 (up.trans upA) os ag
    obtain ⟨oA, vsA, eA, zA, dA⟩ := flA.there
    -- the exception's object is no frame, and it is new
    have noFrame : a ∉ frs (X.env :: X.outer) := fun hm => by
      obtain ⟨_, o', e', hnf⟩ := flA.2.2.1.mem hm
      rw [eA] at e'
      cases e'
      exact hnf _ dA
    have nL : a ≠ X.env.locals := fun z => noFrame (List.mem_filterMap.mpr ⟨X.env, List.mem_cons_self, by rw [frm, z]⟩)
    have nF : a ∉ X.fs := fun hm => by
      obtain ⟨e, he, q⟩ := List.mem_filterMap.mp hm
      exact noFrame (List.mem_filterMap.mpr ⟨e, List.mem_cons_of_mem _ he, q⟩)
    have nB : B.get? a = none := flA.2.1
    have ground : ∀ b o, sI.heap.get? b = some o → b ≠ a := fun b o e z => by
      rw [z] at e
      have k := nb a o e (by rw [stk]; exact noFrame)
      rw [nB] at k
      cases k
    have fresh : X.s_0.heap.get? a = none := by
      cases e : X.s_0.heap.get? a with
      | none => rfl
      | some o =>
        obtain ⟨o', e'⟩ := J.base.there a o e (by rw [noex]; simp)
        exact absurd rfl (ground a o' e')
    have apart : ∀ p ∈ X.pn ++ pins, p.1 ≠ a := fun p hp => ground p.1 p.2 (J.pin p hp).1
    refine wpAny_handleBy_cons (codeAny_handlers_test ?_) (by intro q; cases q)
    have LT : PySem.W.Looks (model X.prog X.w) hA (typeOf (.ref a)) cls := fun A Q E s k q => wpAny_typeOf_ref (k _ _ eA) (by rw [zA.1]; exact q)
    have LM := PySem.W.exm_one (M := model X.prog X.w) JA.kIn LT ours
    have SA := JA.suite eA dA na nL nF
    have look : ∀ {Q : Value → Shared → Prop} {E : Value → Shared → Prop}, Q c { s' with heap := hA } → wpAny (model X.prog X.w) (X.A.mark (some (.ref a))) (eval (.Name x np) X.env) Q E { s' with heap := hA } := fun {Q E} q => by
      rcases nm with ⟨g1, g2, g3 | ⟨g3, g4, g5⟩⟩
      · exact ld_glob (X := X.suite a ((a, oA) :: (X.pn ++ pins))) SA g1 g3 q g2
      · exact ld_blt (X := X.suite a ((a, oA) :: (X.pn ++ pins))) SA g1 g3 g4 q g5 g2
    refine look (LM.here ?_)
    refine codeAny_handlers_suite_as ?_
    refine HandSPX.lands_againZ flA fun hB flB upB => ?_
    have JB : Inv X pins σ' H' { s' with heap := hB } := J.landed nb flB.1 ((up.trans upA).trans upB) os ag
    obtain ⟨oB, vsB, eB, zB, dB⟩ := flB.there
    refine store_ok (X := X.suite a ((a, oB) :: (X.pn ++ pins))) (v := .ref a) (JB.suite eB dB na nL nF) hN hi (.inl loc) rfl (fun s5 S5 => ?_) (.inr loc)
    refine wpAny_mono ((hsu a oB cls d (X.pn ++ pins) zB ⟨_, dB⟩).run [] s5 _ H' _ S5 (go a na)) (fun f s6 q => ?_) (fun _ _ z => False.elim z)
    cases f with
    | next =>
      obtain ⟨σ6, H6, S6, q6⟩ := q
      have held : Inv X ((a, oB) :: pins) σ6 H6 s6 := ⟨ok, S6.os, S6.bare, S6.base, S6.loc, S6.cell, S6.free, S6.freeC, fun p hp => by
        refine S6.pin p (List.mem_append_left _ ?_)
        show p ∈ (a, oB) :: (X.pn ++ pins)
        rcases List.mem_append.mp hp with h | h
        · exact List.mem_cons_of_mem _ (List.mem_append_left _ h)
        · rcases List.mem_cons.mp h with h | h
          · rw [h]; exact List.mem_cons_self
          · exact List.mem_cons_of_mem _ (List.mem_append_right _ h), S6.hok, S6.len⟩
      refine gone_ok held hN hi loc fun s7 I7 => ?_
      exact ⟨_, _, promote I7 zB ⟨_, dB⟩ fresh apart, q6 (I7.pin (a, oB) (List.mem_append_right _ List.mem_cons_self)).2.1⟩
    | brk =>
      obtain ⟨_, _, _, z⟩ := q
      exact z.elim
    | cont =>
      obtain ⟨_, _, _, z⟩ := q
      exact z.elim
    | ret u =>
      obtain ⟨_, _, _, _, _, z⟩ := q
      exact z.elim
  · cases f with
    | next =>
      obtain ⟨σ1, H1, I1, q1⟩ := q
      exact wpAny_execs_nil ⟨σ1, H1, I1.ofTry ok, q1⟩
    | brk =>
      obtain ⟨σ1, H1, I1, q1⟩ := q
      exact ⟨σ1, H1, I1.ofTry ok, q1⟩
    | cont =>
      obtain ⟨σ1, H1, I1, q1⟩ := q
      exact ⟨σ1, H1, I1.ofTry ok, q1⟩
    | ret u =>
      obtain ⟨v1, σ1, H1, I1, r1, q1⟩ := q
      exact ⟨v1, σ1, H1, I1.ofTry ok, r1, q1⟩
end
end Lw
namespace Lw
open PySem PySem.Spec PyProof.Rows L2

section
variable {X : Cx} {pins : List (Addr × Obj)} {σ : L2.St} {H : Hp} {s : Shared}
theorem held_at {a : Addr} {cls : Value} {d : Option Addr} (I : Inv X pins σ H s) (h : H a = some (ExO a cls d)) : ∃ o vs, s.heap.get? a = some o ∧ o.cls = cls ∧ o.dict = d ∧ o.data = .fields vs := by
  obtain ⟨⟨o, h1, h2, vs, h3⟩, _⟩ := (show ObjOk X.prog X.w H s.heap a (ExO a cls d) from I.hok a _ h)
  exact ⟨o, vs, h1, h2.1, h2.2, h3⟩
/-- the exception as an instance, its attributes known -/
theorem held_inst {a C dd : Addr} {fs : List (Str × V)} (I : Inv X pins σ H s) (h : H a = some (ExO a (.ref C) (some dd))) (hd : H dd = some (.xd fs)) : ∃ o od, PySem.W.InstAt s.heap a o C (some od) ∧ ∀ f v, fs.lookup f = some v → ∃ u, PySem.W.lookIn f od = some (some u) ∧ RelV v u := by
  obtain ⟨o, vs, h1, h2, h3, h4⟩ := held_at I h
  obtain ⟨mA, hns, hr⟩ := (show ObjOk X.prog X.w H s.heap dd (.xd fs) from I.hok dd _ hd)
  obtain ⟨od, ho, hl⟩ := lookIn_ns hns
  refine ⟨o, od, ⟨h1, h2, by unfold PySem.W.notCls; rw [h4] <;> rfl, by rw [h3]; exact ho⟩, fun f v e => ?_⟩
  obtain ⟨u, hu, ru⟩ := RelO.some_of (v := v) (o := mA f) (by rw [← e]; exact hr f)
  exact ⟨u, by rw [hl, hu], ru⟩
/-- e.f of an exception that is held -/
def tHeld (C : Addr) (f : Str) (te : TE) : TE := fun σ H Q => te σ H fun x H1 => ∃ (a dd : Addr) (fs : List (Str × V)) (v : V), x = .ref a ∧ H1 a = some (ExO a (.ref C) (some dd)) ∧ H1 dd = some (.xd fs) ∧ fs.lookup f = some v ∧ Q v H1
theorem pe_held {C : Addr} {e : Expr} {te : TE} {pos : Pos} {f : Str} (T : XfC X.K C) (hno : PySem.W.findIn X.K (.ref C) f = some none) (he : PE X e te) (hb : attributeBase e f X.env (eval e X.env) = eval e X.env := by rfl) : PE X (.Attribute e f pos) (tHeld C f te) := by
  refine ⟨fun pins s σ H Q I q => attr_of hb (thn (he.run pins s σ H _ I q) fun u s1 got => ?_)⟩
  obtain ⟨x, H1, I1, rx, a, dd, fs, v, rfl, ha, hd, hl, q⟩ := got
  obtain rfl : u = Value.ref a := rx
  obtain ⟨o, od, J, fld⟩ := held_inst I1 ha hd
  obtain ⟨u, hu, ru⟩ := fld f v hl
  exact HandSPX.exc_get I1.kIn J T.ga T.gg T.exC (PySem.W.findObj_own T.hdC hno rfl hu) (handed_of ru) ⟨v, H1, I1.tok _, ru, q⟩
end
end Lw
namespace Lw.Hx
open PySem PySem.Spec PySem.Calls PyProof.Rows PySem.W

/-! ### isinstance of an exception that has attributes -/
/-- what isinstance asks of the exception's class -/
structure XCls (K : Frag) (D : Addr) : Prop where
  ga : findIn K (.ref D) "__getattribute__" = some (some (.builtin "BaseException.__getattribute__"))
  gt : findIn K (.ref D) "__getattr__" = some none
  sub : subIn K (.ref D) (.type "BaseException") = some true
  dct : hasDictIn K D = true
  ca : findIn K (.ref D) "__class__" = some (some (.builtin "object.__class__"))
  cn : specialIn K (.builtin "object.__class__") "__get__" = some (some (.builtin "getset_descriptor.__get__"))
  ct : takesIn K (.builtin "object.__class__") = some true
  cm : mroIn K D (.type "object") = some true
section
variable {prog : Program} {w : World} {A : Around} {E : Value → Shared → Prop} {s : Shared} {K : Frag} {x D : Addr} {ox : Obj} {od : Option Obj}
theorem finds (c : XCls K D) : findObj K D od "__class__" = some (.bind (.builtin "getset_descriptor.__get__") (.builtin "object.__class__")) := by
  obtain ⟨cd, hc, _⟩ := any_some c.dct
  unfold findObj
  rw [hc, Option.bind_some, c.ca, Option.bind_some]
  simp only [c.cn, c.ct, Option.bind_some]
theorem class_of (c : XCls K D) {Q : Option Value → Shared → Prop} (X : K.In s.heap) (I : InstAt s.heap x ox D od) (h : Q (some (.ref D)) { s with toks := s.toks + 1 }) : wpAny (model prog w) A (getAttr? (.ref x) "__class__") Q E s := by
  have found := finds (od := od) c
  obtain ⟨hp, gs, dr, tk, os⟩ := s
  have kind := I.type (M := model prog w)
  have asks := looks_findIn (M := model prog w) X c.ga
  have more := looks_findIn (M := model prog w) X c.gt
  have seen := looks_find (M := model prog w) X I found
  have under : Looks (model prog w) hp (isInstance (.ref x) (.type "BaseException")) true := kind.andThen (looks_subIn X c.sub)
  have n2 : (Value.builtin "BaseException.__getattribute__" == Value.builtin "object.__getattribute__") = false := by decide +kernel
  have n1 : (onTheHeap (Value.ref D) && Value.builtin "BaseException.__getattribute__" == Value.builtin "object.__getattribute__") = false := by rw [n2]; rfl
  unfold getAttr? getAttrBy? getAttrBy
  refine wpAny_bind (wpAny_mkText (wpAny_bind (wpAny_attempt (wpAny_holding (wpAny_bind (kind.at (wpAny_bind (asks.at ?_))))))))
  show wpAny _ _ (ite ((onTheHeap (Value.ref D) && Value.builtin "BaseException.__getattribute__" == Value.builtin "object.__getattribute__") = true) _ _) _ _ _
  rw [n1, if_neg (by decide)]
  unfold getAttrByItsOwn hookBefore
  refine wpAny_bind ?_
  rw [if_pos (show onTheHeap (.ref D) = true from rfl)]
  refine more.at (wpAny_bind (wpAny_attempt (wpAny_holding ?_)))
  unfold callGetattribute
  rw [if_neg (show ¬ (false && onTheHeap (Value.builtin "BaseException.__getattribute__")) = true from by decide)]
  unfold boundAndCalled
  rw [PySem.F.excAttr_ValueError.ga.bind (.ref x)]
  refine wpAny_bind (wpAny_pure ?_)
  show wpAny _ _ (call (.builtin "BaseException.__getattribute__") [.ref x, .str "__class__" tk]) _ _ _
  refine wpAny_call (codeAny_call_builtin PySem.F.excAttr_ValueError.ga.plain PySem.F.entry_bexc_ga ?_)
  refine @check_slot (model prog w) _ _ ⟨hp, gs, dr, tk + 1, os⟩ "BaseException.__getattribute__" "BaseException" "__getattribute__" (.ref x) [.str "__class__" tk] [] _ (by decide +kernel) (by decide +kernel) under (PySem.F.args_bexc_ga (.ref x) (.str "__class__" tk)) ?_
  unfold Builtin.«object.__getattribute__»
  refine wpAny_bind (wpAny_of_eq (a := ((Value.ref x : Value), [Value.str "__class__" tk])) (by first | rfl | (simp only [slotArgs] <;> rfl)) ?_)
  refine wpAny_bind (wpAny_pure (wpAny_bind (kind.at (wpAny_bind (seen.at ?_)))))
  show wpAny _ _ (holding [Value.builtin "object.__class__"] (call (.builtin "getset_descriptor.__get__") [.builtin "object.__class__", .ref x, .ref D]) >>= ret) _ _ _
  refine wpAny_bind (wpAny_holding (wpAny_call (class_get (s := ⟨hp, gs, dr, tk + 1, os⟩) X I c.cm ?_)))
  refine wpAny_pure ?_
  show wpAny _ _ (handedOut (.ref D)) _ _ _
  rw [handedOut_of (v := .ref D) rfl]
  first
    | exact wpAny_pure (wpAny_pure h)
    | exact wpAny_pure h
    | exact wpAny_pure (wpAny_bind (wpAny_pure (wpAny_pure h)))
theorem no_list (c : XCls K D) : ∃ o cd, K.lookup D = some o ∧ o.data = .cls cd := by
  obtain ⟨cd, hc, _⟩ := any_some c.dct
  unfold clsIn at hc
  split at hc
  · rename_i c' d' cd' sl' ho
    exact ⟨_, _, ho, rfl⟩
  · cases hc
theorem kitx_held (c : XCls K D) : KitX K (.ref x) (.ref D) (fun h => InstAt h x ox D od) where
  ty := fun _ _ _ I => I.type
  it := fun _ _ X _ => by
    obtain ⟨o, cd, ho, hd⟩ := no_list c
    intro A' Q' E' s' k q
    unfold isType loadHead
    refine wpAny_bind (wpAny_loadPart (k _ _ (X _ _ ho)) ?_)
    rw [hd]
    exact wpAny_pure q
  ne := fun h tp dd its n sl X htp => by
    refine Bool.eq_false_iff.mpr fun q => ?_
    have e : D = tp := Value.ref.inj (beq_iff_eq.mp q)
    obtain ⟨o, cd, ho, hd⟩ := no_list c
    have z := X _ _ ho
    rw [e, htp] at z
    cases z
    cases hd
  ca := fun X I k => class_of c X I k
end
end Lw.Hx
namespace Lw
open PySem PySem.Spec PyProof.Rows L2

/-- a value's kind: an exception's that is held, too -/
inductive TyW (K : PySem.W.Frag) (H : Hp) : V → Value → Prop where
  | z {v : V} {t : Value} (h : TyZ K H v t) : TyW K H v t
  | held {a D dd : Addr} {fs : List (Str × V)} (e : H a = some (ExO a (.ref D) (some dd))) (hd : H dd = some (.xd fs)) (c : Hx.XCls K D) : TyW K H (.ref a) (.ref D)
def rIsw (K : PySem.W.Frag) : List V → Hp → VK → Prop := fun xs H Q => ∃ (x c : V) (t u : Value) (b : Bool), xs = [x, c] ∧ ClsV c u ∧ TyW K H x t ∧ PySem.W.kitOne K t u = some b ∧ Q (.bl b) H
theorem call_isw {X : Cx} : CallR X (.builtin "isinstance") (rIsw X.K) := by
  intro pins s σ H xs us Q I r h
  obtain ⟨x, c, t, u, b, rfl, k, ty, e, q⟩ := h
  cases ty with
  | z ty => exact call_isz pins s σ H _ us Q I r ⟨x, c, t, u, b, rfl, k, ty, e, q⟩
  | @held a D dd fs ea hd cl =>
    obtain ⟨w1, w2, rfl, r1, r2⟩ := vals2 r
    obtain rfl := k.eq r2
    obtain rfl : w1 = Value.ref a := r1
    obtain ⟨o, od, J, _⟩ := held_inst I ea hd
    exact PySem.W.kia_one (Hx.kitx_held cl) I.kIn J e (fun z => by cases z) fun tk => ⟨.bl b, H, I.tok tk, rfl, q⟩
end Lw
namespace Lw
open PySem PySem.Spec PyProof.Rows L2
open LamX
/-! ### repr of any value of the drawn ones -/
theorem SqL.sames {K : PySem.W.Frag} {a : Addr} {H H' : Hp} {ys : List V} (s : Same H H') (h : SqL K H a ys) : SqL K H' a ys := by
  rcases h with (h | ⟨o, h⟩) | h
  · exact .inl (.inl (s _ _ h))
  · exact .inl (.inr ⟨o, s _ _ h⟩)
  · exact .inr h
theorem SqT.sames {K : PySem.W.Frag} {a : Addr} {H H' : Hp} {ys : List V} (s : Same H H') (h : SqT K H a ys) : SqT K H' a ys := by
  rcases h with (h | ⟨o, h⟩) | h
  · exact .inl (.inl (s _ _ h))
  · exact .inl (.inr ⟨o, s _ _ h⟩)
  · exact .inr h
mutual
theorem Dp.sames {K : PySem.W.Frag} {H H' : Hp} (s : Same H H') : ∀ {v : V} {d : PyData}, Dp K H v d → Dp K H' v d
  | _, _, .non => .non
  | _, _, .bl b => .bl b
  | _, _, .int i => .int i
  | _, _, .str x => .str x
  | _, _, .lst h hs => .lst (SqL.sames s h) (DpAll.sames s hs)
  | _, _, .tup h hs => .tup (SqT.sames s h) (DpAll.sames s hs)
theorem DpAll.sames {K : PySem.W.Frag} {H H' : Hp} (s : Same H H') : ∀ {vs : List V} {ds : List PyData}, DpAll K H vs ds → DpAll K H' vs ds
  | _, _, .nil => .nil
  | _, _, .cons h hs => .cons (Dp.sames s h) (DpAll.sames s hs)
end
inductive Rp (K : PySem.W.Frag) (H : Hp) : V → Str → Prop where
  | non : Rp K H .non "None"
  | bl (b : Bool) : Rp K H (.bl b) (if b then "True" else "False")
  | str (z : Str) (h : (reprText z).length ≤ sizeLine) : Rp K H (.str z) (reprText z)
  | int (i : Int) (h : i.natAbs.log2 < 1920) : Rp K H (.int i) (toString i)
  | data {a : Addr} {d : PyData} (h : Dp K H (.ref a) d) (h1 : d.showable = true) (h2 : d.hasDict = false) (h3 : d.depth ≤ 100) (h4 : d.shown.length ≤ sizeLine) : Rp K H (.ref a) d.shown
  | dnil {a : Addr} (h : H a = some (.dK [])) : Rp K H (.ref a) (PyData.dict []).shown
theorem Rp.same {K : PySem.W.Frag} {H H' : Hp} {v : V} {r : Str} (s : Same H H') (h : Rp K H v r) : Rp K H' v r := by
  cases h with
  | non => exact .non
  | bl b => exact .bl b
  | str z h => exact .str z h
  | int i h => exact .int i h
  | data h h1 h2 h3 h4 => exact .data (Lw.Dp.sames s h) h1 h2 h3 h4
  | dnil h => exact .dnil (s _ _ h)
def rRpx (K : PySem.W.Frag) : List V → Hp → VK → Prop := fun xs H Q => ∃ (v : V) (r : Str), xs = [v] ∧ Rp K H v r ∧ Q (.str r) H
section
variable {X : Cx}
theorem call_reprX (hG : X.A.guards = some []) (hr : Room 0 X.A) : CallR X (.builtin "repr") (rRpx X.K) := by
  intro pins s σ H xs us Q I r h
  obtain ⟨v, z, rfl, hv, q⟩ := h
  obtain ⟨u, rfl, ru⟩ := vals1 r
  have hun := hr.un
  cases hv with
  | non =>
    cases (show u = Value.none from ru)
    exact PySem.P.repr_of_none ⟨.str "None", H, I.tok _, ⟨_, rfl⟩, q⟩
  | int i h =>
    obtain ⟨t, rfl⟩ := (show ∃ t, u = Value.int i t from ru)
    exact PySem.P.repr_of_int h ⟨.str (toString i), H, I.tok _, ⟨_, rfl⟩, q⟩
  | bl b =>
    cases (show u = Value.bool b from ru)
    refine PySem.P.repr_of_bool ⟨.str (if b then "True" else "False"), H, I.tok _, ⟨_, rfl⟩, ?_⟩
    cases b <;> exact q
  | str z h =>
    obtain ⟨t, rfl⟩ := (show ∃ t, u = Value.str z t from ru)
    exact PySem.P.repr_of_str ⟨.str (reprText z), H, I.tok _, ⟨_, rfl⟩, q⟩ h
  | @data a d h h1 h2 h3 h4 =>
    cases (show u = Value.ref a from ru)
    obtain ⟨as, rd⟩ := Dp.reads I d _ _ h rfl
    exact repr_of_reads' rd h1 (fun z => by rw [h2] at z; cases z) hG (by omega) (fun _ _ e => e) (fun h' u' tk kp => ⟨.str d.shown, H, I.kept kp, ⟨u', rfl⟩, q⟩) h4
  | @dnil a h =>
    cases (show u = Value.ref a from ru)
    obtain ⟨_, hm, vs, kv, o, es, ep, ho, hx, hd, _, pr, _⟩ := dk_of I.hok h
    have e0 : vs = [] := by cases kv; rfl
    subst e0
    have e1 : es.toList = [] := by
      generalize es.toList = l at pr
      cases pr
      rfl
    have rd : Reads s.heap (.ref a) (.dict []) [a] := Reads.dict (as := []) (bs := []) ho hx.1 hd (by rw [e1]; exact .nil) (by rw [e1]; exact .nil)
    refine repr_of_reads' rd rfl (fun _ z => ?_) hG (by show _ + ((PyData.dict []).depth + 1) < cLine; have : (PyData.dict []).depth ≤ 1 := by decide
                                                        omega) (fun _ _ e => e) (fun h' u' tk kp => ⟨.str _, H, I.kept kp, ⟨u', rfl⟩, q⟩) (by decide)
    rw [List.mem_singleton] at z
    rw [← z] at hm
    simp at hm
end
end Lw
namespace Lw
open PySem PySem.Spec PyProof.Rows L2

/-! ### own operators: + - * // % and the sign, of instances of one class and of a built-in value beside -/
section
variable {X : Cx} {C : Addr} {k j : Nat} {sp : Sp} {pins : List (Addr × Obj)} {σ : L2.St} {H : Hp} {s : Shared}
theorem ins_at {a dx : Addr} {fs : List (Str × V)} (I : Inv X pins σ H s) (h : H a = some (.ins C dx fs)) : ∃ ox od, PySem.W.InstAt s.heap a ox C (some od) := by
  obtain ⟨mA, O, _⟩ := ins_get I.hok h
  obtain ⟨od, J, _⟩ := O.look
  exact ⟨_, od, J⟩
/-- a method of the class, called with an instance and another value -/
theorem run_two {m : Str} {us : List Value} {vs : List V} {Q : VK} (M : C8.Met X.prog X.w X.K X.mg X.base k C m sp []) (hr : Room j X.A) (hk : k ≤ j) (I : Inv X pins σ H s) (r : Vals vs us) (q : sp vs H Q C8.E0) :
    ∃ g : Addr, Meth X.K C m g ∧ wpAny (model X.prog X.w) X.A (call (.ref g) us) (PySem.W.CmpBack (EP X pins σ Q)) X.xe s := by
  obtain ⟨g, fd, ps, ds, hC, hm, F, b, d⟩ := M.ex
  have q' : sp (vs ++ []) H Q C8.E0 := by rw [List.append_nil]; exact q
  refine ⟨g, hm, wpAny_mono (run_fn F (hr.mono hk) b d C8.pass0 I r q') (fun w s' z => ?_) fun _ _ x => x⟩
  obtain ⟨z', H', I', rz, qz⟩ := z
  exact SlX.cmpback rz ⟨z', H', I', rz, qz⟩
def rSame (C : Addr) (sp : Sp) : R2 := fun x y H Q => ∃ a dx fs b dy gs, x = .ref a ∧ y = .ref b ∧ H a = some (.ins C dx fs) ∧ H b = some (.ins C dy gs) ∧ sp [x, y] H Q C8.E0
theorem op_same {op : Operator} (M : C8.Met X.prog X.w X.K X.mg X.base k C (PySem.dunder op.info.2) sp []) (hc : PySem.W.selfFirst X.K C = true) (hr : Room j X.A) (hk : k ≤ j) : OpR X (binaryOp op) (rSame C sp) := by
  intro pins s σ H x y v u Q I rx ry h
  obtain ⟨a, dx, fs, b, dy, gs, rfl, rfl, ha, hb, q⟩ := h
  cases (show v = Value.ref a from rx)
  cases (show u = Value.ref b from ry)
  obtain ⟨_, _, J⟩ := ins_at I ha
  obtain ⟨_, _, J'⟩ := ins_at I hb
  obtain ⟨g, hm, w⟩ := run_two (us := [.ref a, .ref b]) (vs := [.ref a, .ref b]) M hr hk I (.cons rfl (.cons rfl .nil)) q
  obtain ⟨m, hF⟩ := I.fr
  exact PySem.W.binop_K hF I.ok.mod.kin J J'.type hc hm.at_ hm.fn w
/-- what the operator asks of the class and of a built-in type beside it -/
structure Beside (K : PySem.W.Frag) (C : Addr) (op : Operator) (T : String) : Prop where
  first : PySem.W.selfFirst K C = true
  back : ∃ rc, PySem.W.findIn K (.ref C) (dunderR op.info.2) = some rc ∧ (rc = none ∨ ∃ g : Addr, rc = some (.ref g))
  ahead : ∃ fo, PySem.W.findIn K (.type T) (PySem.dunder op.info.2) = some fo
  behind : ∃ ro, PySem.W.findIn K (.type T) (dunderR op.info.2) = some ro
  sub : PySem.W.subIn K (.type T) (.ref C) = some false
/-- a built-in value's kind, as typeOf tells it -/
inductive Kind : V → String → Prop where
  | int (i : Int) : Kind (.int i) "int"
  | bl (b : Bool) : Kind (.bl b) "bool"
  | non : Kind .non "NoneType"
  | str (z : Str) : Kind (.str z) "str"
theorem Kind.type {y : V} {T : String} {u : Value} (h : Kind y T) (r : RelV y u) : typeOf u = pure (.type T) := by
  cases h with
  | int i => obtain ⟨t, e⟩ := (show ∃ t, u = Value.int i t from r); subst e; rfl
  | bl b => cases (show u = Value.bool b from r); rfl
  | non => cases (show u = Value.none from r); rfl
  | str z => obtain ⟨t, e⟩ := (show ∃ t, u = Value.str z t from r); subst e; rfl
def rBeside (K : PySem.W.Frag) (C : Addr) (op : Operator) (sp : Sp) : R2 := fun x y H Q => ∃ a dx fs T, x = .ref a ∧ H a = some (.ins C dx fs) ∧ Kind y T ∧ Beside K C op T ∧ sp [x, y] H Q C8.E0
theorem op_beside {op : Operator} (M : C8.Met X.prog X.w X.K X.mg X.base k C (PySem.dunder op.info.2) sp []) (hr : Room j X.A) (hk : k ≤ j) : OpR X (binaryOp op) (rBeside X.K C op sp) := by
  intro pins s σ H x y v u Q I rx ry h
  obtain ⟨a, dx, fs, T, rfl, ha, hT, hB, q⟩ := h
  cases (show v = Value.ref a from rx)
  obtain ⟨_, _, J⟩ := ins_at I ha
  obtain ⟨g, hm, w⟩ := run_two (us := [.ref a, u]) (vs := [.ref a, y]) M hr hk I (.cons rfl (.cons ry .nil)) q
  obtain ⟨m, hF⟩ := I.fr
  obtain ⟨rc, r1, r2⟩ := hB.back
  obtain ⟨fo, f1⟩ := hB.ahead
  obtain ⟨ro, o1⟩ := hB.behind
  exact PySem.W.ksp_binT hF I.ok.mod.kin J (hT.type ry) hB.first hm.at_ hm.fn r1 r2 f1 o1 hB.sub w
def rSign (C : Addr) (sp : Sp) : V → Hp → VK → Prop := fun x H Q => ∃ a dx fs, x = .ref a ∧ H a = some (.ins C dx fs) ∧ sp [x] H Q C8.E0
theorem un_sign (M : C8.Met X.prog X.w X.K X.mg X.base k C "__neg__" sp []) (hr : Room j X.A) (hk : k ≤ j) : UnR X (unaryOp .USub) (rSign C sp) := by
  intro pins s σ H x v Q I rx h
  obtain ⟨a, dx, fs, rfl, ha, q⟩ := h
  cases (show v = Value.ref a from rx)
  obtain ⟨_, _, J⟩ := ins_at I ha
  obtain ⟨g, fd, ps, ds, hC, hm, F, b, d⟩ := M.ex
  obtain ⟨m, hF⟩ := I.fr
  have q' : sp ([V.ref a] ++ []) H Q C8.E0 := q
  exact PySem.W.ksp_neg hF I.ok.mod.kin J hm.at_ hm.fn (run_fn (us := [.ref a]) (vs := [.ref a]) F (hr.mono hk) b d C8.pass0 I (.cons rfl .nil) q')
end
end Lw
namespace Lw.Ow
open PySem PySem.Spec PyProof.Rows PySem.W PySem.Calls

/-! ### own operators, the instance on the right -/
section
variable {prog : Program} {w : World} {A : Around} {E : Value → Shared → Prop} {s : Shared} {K : Frag} {x C f g : Addr} {ox : Obj} {od : Option Obj}
theorem right_bare {op : Operator} {a : Value} {T : String} {Q : Value → Shared → Prop} (X : K.In s.heap) (I : InstAt s.heap x ox C od) (ht : Looks (model prog w) s.heap (typeOf a) (.type T)) (hc : selfFirst K C = true) (hs : findIn K (.ref C) (PySem.dunder op.info.2) = some (some (.ref f))) (hr : findIn K (.ref C) (dunderR op.info.2) = some (some (.ref g)))
    (hg : isFn K (.ref g) = true) (hL : fillsNumberSlot (.type T) op.info.2 = pure false) (h : wpAny (model prog w) A (call (.ref g) [.ref x, a]) (PySem.W.CmpBack Q) E s) : wpAny (model prog w) A (binaryOp op a (.ref x)) Q E s := by
  obtain ⟨cd, rest, hcd, hm⟩ := ksp_first hc
  rcases hi : op.info with ⟨sym, nm⟩
  rw [hi] at hs hr hL
  dsimp only at hs hr hL
  have one := ksp_try X I hr hg h
  obtain ⟨hh, gg, d, tt, os⟩ := s
  have L2 : Looks (model prog w) hh (typeOf (.ref x)) (.ref C) := I.type
  have L3 : Looks (model prog w) hh (fillsNumberSlot (.ref C) nm) true := fills_K X hcd hm hs
  have hne : (Value.type T == Value.ref C) = false := Bool.eq_false_iff.mpr fun q => by cases beq_iff_eq.mp q
  simp only [binaryOp, hi]
  refine wpAny_holding (wpAny_bind ?_)
  unfold binaryOp1
  refine wpAny_bind (ht.at (wpAny_bind (L2.at (wpAny_bind (wpAny_of_eq hL ?_)))))
  simp only [hne, Bool.false_eq_true, if_false]
  refine wpAny_bind (L3.at ?_)
  simp only [Bool.false_and, Bool.false_eq_true, if_false, pure_bind, Bool.not_false, Bool.and_true, if_true]
  refine wpAny_bind (wpAny_mono one (fun r s' hr' => ?_) fun _ _ e => e)
  obtain ⟨v, rfl, hq⟩ := hr'
  exact wpAny_bind (wpAny_rule (wpAny_pure (wpAny_pure hq)))
theorem right_number {op : Operator} {a : Value} {T id : String} {Q : Value → Shared → Prop} (X : K.In s.heap) (I : InstAt s.heap x ox C od) (ht : typeOf a = pure (.type T)) (hT : s.TypeIs a T) (hc : selfFirst K C = true) (hs : findIn K (.ref C) (PySem.dunder op.info.2) = some (some (.ref f))) (hr : findIn K (.ref C) (dunderR op.info.2) = some (some (.ref g)))
    (hg : isFn K (.ref g) = true) (hL : fillsNumberSlot (.type T) op.info.2 = pure true) (hsub : subIn K (.ref C) (.type T) = some false) (sl : Slot T (PySem.dunder op.info.2) id) (hd : ∀ Q' : Value → Shared → Prop, Q' .notImplemented s → wpAny (model prog w) A (call (.builtin id) [a, .ref x]) Q' E s)
    (h : wpAny (model prog w) A (call (.ref g) [.ref x, a]) (PySem.W.CmpBack Q) E s) : wpAny (model prog w) A (binaryOp op a (.ref x)) Q E s := by
  obtain ⟨cd, rest, hcd, hm⟩ := ksp_first hc
  rcases hi : op.info with ⟨sym, nm⟩
  rw [hi] at hs hr hL sl
  dsimp only at hs hr hL sl
  have one := ksp_try X I hr hg h
  have two := wpAny_tryMethod_declines (Q := fun r s' => r = none ∧ s' = s) hT sl (hd _ ⟨rfl, rfl, rfl⟩)
  obtain ⟨hh, gg, d, tt, os⟩ := s
  have L2 : Looks (model prog w) hh (typeOf (.ref x)) (.ref C) := I.type
  have L3 : Looks (model prog w) hh (fillsNumberSlot (.ref C) nm) true := fills_K X hcd hm hs
  have L4 : Looks (model prog w) hh (isSubtype (.ref C) (.type T)) false := looks_subIn X hsub
  have hpy : numberSlotInPython (.type T) nm = pure false := rfl
  have hne : (Value.type T == Value.ref C) = false := Bool.eq_false_iff.mpr fun q => by cases beq_iff_eq.mp q
  simp only [binaryOp, hi]
  refine wpAny_holding (wpAny_bind ?_)
  unfold binaryOp1
  refine wpAny_bind (wpAny_of_eq ht (wpAny_bind (L2.at (wpAny_bind (wpAny_of_eq hL ?_)))))
  simp only [hne, Bool.false_eq_true, if_false]
  refine wpAny_bind (L3.at ?_)
  simp only [Bool.and_self, if_true]
  refine wpAny_bind (L4.at ?_)
  simp only [Bool.false_eq_true, if_false, pure_bind, Bool.not_false, Bool.and_self, if_true, hpy]
  refine wpAny_bind (wpAny_mono two (fun r s' z => ?_) fun _ _ e => e)
  obtain ⟨rfl, rfl⟩ := z
  refine wpAny_bind (wpAny_mono one (fun r s' hr' => ?_) fun _ _ e => e)
  obtain ⟨v, rfl, hq⟩ := hr'
  exact wpAny_bind (wpAny_rule (wpAny_pure (wpAny_pure hq)))
end
end Lw.Ow
namespace Lw.Ow
open PySem PySem.Spec PyProof.Rows

section
variable {prog : Program} {w : World} {A : Around} {E : Value → Shared → Prop} {s : Shared}
theorem binary_no {nm : String} {f : Int → Int → Sem Fin} {i : Int} {t : Tok} {x : Addr} {o : Obj} {Q : Value → Shared → Prop} (ho : s.heap.get? x = some o) (hp : o.data = .plain) (h : Q .notImplemented s) :
    wpAny (model prog w) A (Builtin.Int.intBinary nm f false ⟨[.int i t, .ref x], []⟩) (fun fin s' => ∃ v, fin = .done (.ret v) ∧ Q v s') E s := by
  unfold Builtin.Int.intBinary
  refine wpAny_bind (wpAny_of_eq (a := (Value.int i t, [Value.ref x])) rfl ?_)
  refine wpAny_bind (wpAny_of_eq (a := i) rfl ?_)
  refine wpAny_bind ?_
  show wpAny _ _ (load x >>= fun ob => match ob.data with | .prim (.int i _) => pure (some i) | _ => pure none) _ _ _
  refine wpAny_bind (wpAny_load ho ?_)
  rw [hp]
  exact wpAny_pure (wpAny_bind (wpAny_rule (wpAny_pure ⟨_, rfl, h⟩)))
theorem no_add {i : Int} {t : Tok} {x : Addr} {o : Obj} {Q : Value → Shared → Prop} (ho : s.heap.get? x = some o) (hp : o.data = .plain) (h : Q .notImplemented s) : wpAny (model prog w) A (call (.builtin "int.__add__") [.int i t, .ref x]) Q E s :=
  wpAny_call_entry F.slot_int_add (typeIs_int s i t) F.entry_int_add (binary_no ho hp h) (F.args_int_add_2 _ _)
theorem no_sub {i : Int} {t : Tok} {x : Addr} {o : Obj} {Q : Value → Shared → Prop} (ho : s.heap.get? x = some o) (hp : o.data = .plain) (h : Q .notImplemented s) : wpAny (model prog w) A (call (.builtin "int.__sub__") [.int i t, .ref x]) Q E s :=
  wpAny_call_entry F.slot_int_sub (typeIs_int s i t) F.entry_int_sub (binary_no ho hp h) (F.args_int_sub_2 _ _)
theorem no_mul {i : Int} {t : Tok} {x : Addr} {o : Obj} {Q : Value → Shared → Prop} (ho : s.heap.get? x = some o) (hp : o.data = .plain) (h : Q .notImplemented s) : wpAny (model prog w) A (call (.builtin "int.__mul__") [.int i t, .ref x]) Q E s :=
  wpAny_call_entry F.slot_int_mul (typeIs_int s i t) F.entry_int_mul (binary_no ho hp h) (F.args_int_mul_2 _ _)
theorem no_mod {i : Int} {t : Tok} {x : Addr} {o : Obj} {Q : Value → Shared → Prop} (ho : s.heap.get? x = some o) (hp : o.data = .plain) (h : Q .notImplemented s) : wpAny (model prog w) A (call (.builtin "int.__mod__") [.int i t, .ref x]) Q E s :=
  wpAny_call_entry F.slot_int_mod (typeIs_int s i t) F.entry_int_mod (binary_no ho hp h) (F.args_int_mod_2 _ _)
theorem no_floordiv {i : Int} {t : Tok} {x : Addr} {o : Obj} {Q : Value → Shared → Prop} (ho : s.heap.get? x = some o) (hp : o.data = .plain) (h : Q .notImplemented s) : wpAny (model prog w) A (call (.builtin "int.__floordiv__") [.int i t, .ref x]) Q E s := by
  refine wpAny_call_entry F.slot_int_floordiv (typeIs_int s i t) F.entry_int_floordiv ?_ (F.args_int_floordiv_2 _ _)
  unfold Builtin.«int.__floordiv__»
  refine wpAny_bind ?_
  unfold Builtin.exactOperandsForPylong
  rw [if_pos (by rfl)]
  dsimp only
  refine wpAny_bind (wpAny_of_eq (a := some i) rfl ?_)
  refine wpAny_bind ?_
  show wpAny _ _ (load x >>= fun ob => match ob.data with | .prim (.int i _) => pure (some i) | _ => pure none) _ _ _
  refine wpAny_bind (wpAny_load ho ?_)
  rw [hp]
  exact wpAny_pure (wpAny_pure (binary_no ho hp h))
end

end Lw.Ow
namespace Lw
open PySem PySem.Spec PyProof.Rows L2
section
variable {X : Cx} {C f : Addr} {k j : Nat} {sp : Sp}
def rRight (C : Addr) (P : V → Prop) (sp : Sp) : R2 := fun x y H Q => ∃ a dx fs, P x ∧ y = .ref a ∧ H a = some (.ins C dx fs) ∧ sp [y, x] H Q C8.E0
theorem ins_plain {pins : List (Addr × Obj)} {σ : L2.St} {H : Hp} {s : Shared} {a dx : Addr} {fs : List (Str × V)} (I : Inv X pins σ H s) (h : H a = some (.ins C dx fs)) : ∃ ox od, PySem.W.InstAt s.heap a ox C (some od) ∧ s.heap.get? a = some ox ∧ ox.data = .plain := by
  obtain ⟨mA, O, _⟩ := ins_get I.hok h
  obtain ⟨od, J, _⟩ := O.look
  exact ⟨_, od, J, J.at_, rfl⟩
/-- an int beside an instance on the right -/
theorem op_rightI {op : Operator} {id : String} (M : C8.Met X.prog X.w X.K X.mg X.base k C (dunderR op.info.2) sp []) (hc : PySem.W.selfFirst X.K C = true) (hs : PySem.W.findIn X.K (.ref C) (PySem.dunder op.info.2) = some (some (.ref f))) (hL : fillsNumberSlot (.type "int") op.info.2 = pure true)
    (hsub : PySem.W.subIn X.K (.ref C) (.type "int") = some false) (sl : Slot "int" (PySem.dunder op.info.2) id) (hd : ∀ {A : Around} {E : Value → Shared → Prop} {s : Shared} {i : Int} {t : Tok} {x : Addr} {o : Obj} {Q' : Value → Shared → Prop}, s.heap.get? x = some o → o.data = .plain → Q' .notImplemented s → wpAny (model X.prog X.w) A (call (.builtin id) [.int i t, .ref x]) Q' E s)
    (hr : Room j X.A) (hk : k ≤ j) : OpR X (binaryOp op) (rRight C (fun x => ∃ i, x = .int i) sp) := by
  intro pins s σ H x y v u Q I rx ry h
  obtain ⟨a, dx, fs, ⟨i, rfl⟩, rfl, ha, q⟩ := h
  cases (show u = Value.ref a from ry)
  obtain ⟨t, rfl⟩ := (show ∃ t, v = Value.int i t from rx)
  obtain ⟨ox, od, J, hx, hp⟩ := ins_plain I ha
  obtain ⟨g, hm, w⟩ := run_two (us := [.ref a, .int i t]) (vs := [.ref a, .int i]) M hr hk I (.cons rfl (.cons ⟨t, rfl⟩ .nil)) q
  exact Ow.right_number I.kIn J rfl (typeIs_int s i t) hc hs hm.at_ hm.fn hL hsub sl (fun Q' z => hd hx hp z) w
/-- a value whose type has no number slot for the operator -/
theorem op_rightB {op : Operator} {T : String} (M : C8.Met X.prog X.w X.K X.mg X.base k C (dunderR op.info.2) sp []) (hc : PySem.W.selfFirst X.K C = true) (hs : PySem.W.findIn X.K (.ref C) (PySem.dunder op.info.2) = some (some (.ref f))) (hL : fillsNumberSlot (.type T) op.info.2 = pure false)
    (hr : Room j X.A) (hk : k ≤ j) : OpR X (binaryOp op) (rRight C (fun x => Kind x T) sp) := by
  intro pins s σ H x y v u Q I rx ry h
  obtain ⟨a, dx, fs, hT, rfl, ha, q⟩ := h
  cases (show u = Value.ref a from ry)
  obtain ⟨ox, od, J, hx, hp⟩ := ins_plain I ha
  obtain ⟨g, hm, w⟩ := run_two (us := [.ref a, v]) (vs := [.ref a, x]) M hr hk I (.cons rfl (.cons rx .nil)) q
  exact Ow.right_bare I.kIn J (PySem.W.Looks.of_pure (hT.type rx)) hc hs hm.at_ hm.fn hL w
end
end Lw
namespace Lw.Ow
open PySem PySem.Spec PyProof.Rows PySem.W PySem.Calls

/-! ### x op= y of instances whose class has no operator of that kind -/
section
variable {prog : Program} {w : World} {A : Around} {E : Value → Shared → Prop} {s : Shared} {K : Frag} {x C f g : Addr} {ox : Obj} {od : Option Obj}
/-- the operator's first half tells a value -/
def Told (Q : Value → Shared → Prop) (r : Option Value) (s' : Shared) : Prop := ∃ v, r = some v ∧ Q v s'
theorem half_same {nm : String} {b : Value} {Q : Value → Shared → Prop} (X : K.In s.heap) (I : InstAt s.heap x ox C od) (hb : Looks (model prog w) s.heap (typeOf b) (.ref C)) (hc : selfFirst K C = true) (hs : findIn K (.ref C) (PySem.dunder nm) = some (some (.ref f))) (hf : isFn K (.ref f) = true)
    (h : wpAny (model prog w) A (call (.ref f) [.ref x, b]) (PySem.W.CmpBack Q) E s) : wpAny (model prog w) A (binaryOp1 nm (.ref x) b) (Told Q) E s := by
  obtain ⟨cd, rest, hcd, hm⟩ := ksp_first hc
  have one := ksp_try X I hs hf h
  obtain ⟨hh, gg, d, tt, os⟩ := s
  have L1 : Looks (model prog w) hh (typeOf (.ref x)) (.ref C) := I.type
  have L2 : Looks (model prog w) hh (typeOf b) (.ref C) := hb
  have L3 : Looks (model prog w) hh (fillsNumberSlot (.ref C) nm) true := fills_K X hcd hm hs
  unfold binaryOp1
  refine wpAny_bind (L1.at (wpAny_bind (L2.at (wpAny_bind (L3.at ?_)))))
  simp only [beq_self_eq_true, if_true]
  refine wpAny_bind (wpAny_pure ?_)
  simp only [Bool.and_false, Bool.false_and, Bool.false_eq_true, if_false, if_true, pure_bind]
  refine wpAny_bind (wpAny_mono one (fun r s' z => ?_) fun _ _ e => e)
  obtain ⟨v, rfl, hq⟩ := z
  exact wpAny_pure ⟨v, rfl, hq⟩
/-- no class above has the operator of that kind -/
theorem bare_inplace {nm : String} {add : Bool} {cd : ClassData} {h : Heap} {M : Model} (X : K.In h) (hc : clsIn K C = some cd) (hm : cd.mro = [.ref C, .type "object"]) (h1 : findIn K (.ref C) (dunderI nm) = some none) (h2 : findIn K (.type "object") (dunderI nm) = some none) : Looks M h (fillsInplaceSlot (.ref C) nm add) false := by
  intro A Q E s k q
  have Lm : Looks M h (mroOf (.ref C)) cd.mro := (looks_clsIn X hc).andThen (f := fun cd => pure cd.mro) .now
  have Lm2 := Lm.keeps k
  obtain ⟨hh, gg, d, tt, os⟩ := s
  have X2 : K.In hh := X.keeps k
  have L1 : Looks M hh (typeLookup (.ref C) (dunderI nm)) none := looks_findIn X2 h1
  have L2 : Looks M hh (typeLookup (.type "object") (dunderI nm)) none := looks_findIn X2 h2
  unfold fillsInplaceSlot
  refine wpAny_bind (Lm2.at ?_)
  rw [hm, List.anyM_cons]
  refine wpAny_bind (wpAny_bind (L1.at ?_))
  refine wpAny_pure ?_
  rw [List.anyM_cons]
  refine wpAny_bind (wpAny_bind (L2.at ?_))
  refine wpAny_pure ?_
  rw [List.anyM_nil]
  exact wpAny_pure q
theorem inplace_of {op : Operator} {b : Value} {cd : ClassData} {Q : Value → Shared → Prop} (X : K.In s.heap) (I : InstAt s.heap x ox C od) (hc : clsIn K C = some cd) (hm : cd.mro = [.ref C, .type "object"]) (h1 : findIn K (.ref C) (dunderI op.info.2) = some none) (h2 : findIn K (.type "object") (dunderI op.info.2) = some none)
    (h : wpAny (model prog w) A (binaryOp1 op.info.2 (.ref x) b) (Told Q) E s) : wpAny (model prog w) A (inplaceOp op (.ref x) b) Q E s := by
  have L1 : Looks (model prog w) s.heap (typeOf (.ref x)) (.ref C) := I.type
  have L2 : Looks (model prog w) s.heap (fillsInplaceSlot (.ref C) op.info.2 (op == .Add)) false := bare_inplace X hc hm h1 h2
  unfold inplaceOp
  refine wpAny_holding ?_
  refine wpAny_bind (L1.here (wpAny_bind (L2.here ?_)))
  simp only [Bool.false_eq_true, if_false, pure_bind]
  refine wpAny_bind (wpAny_mono h (fun r s' z => ?_) fun _ _ e => e)
  obtain ⟨v, rfl, hq⟩ := z
  exact wpAny_pure hq
end
end Lw.Ow
namespace Lw.Ow
open PySem PySem.Spec PyProof.Rows PySem.W PySem.Calls

section
variable {prog : Program} {w : World} {A : Around} {E : Value → Shared → Prop} {s : Shared} {K : Frag} {x C f g : Addr} {ox : Obj} {od : Option Obj}
theorem half_left {nm : String} {b : Value} {T : String} {fo ro rc : Option Value} {Q : Value → Shared → Prop} (X : K.In s.heap) (I : InstAt s.heap x ox C od) (hb : Looks (model prog w) s.heap (typeOf b) (.type T)) (hc : selfFirst K C = true) (hs : findIn K (.ref C) (PySem.dunder nm) = some (some (.ref f))) (hf : isFn K (.ref f) = true)
    (hr : findIn K (.ref C) (dunderR nm) = some rc) (hp : rc = none ∨ ∃ g : Addr, rc = some (.ref g)) (h1 : findIn K (.type T) (PySem.dunder nm) = some fo) (h2 : findIn K (.type T) (dunderR nm) = some ro) (hsub : subIn K (.type T) (.ref C) = some false)
    (h : wpAny (model prog w) A (call (.ref f) [.ref x, b]) (PySem.W.CmpBack Q) E s) : wpAny (model prog w) A (binaryOp1 nm (.ref x) b) (Told Q) E s := by
  obtain ⟨cd, rest, hcd, hm⟩ := ksp_first hc
  have one := ksp_try X I hs hf h
  obtain ⟨hh, gg, d, tt, os⟩ := s
  have L1 : Looks (model prog w) hh (typeOf (.ref x)) (.ref C) := I.type
  have L3 : Looks (model prog w) hh (fillsNumberSlot (.ref C) nm) true := fills_K X hcd hm hs
  have L4 : Looks (model prog w) hh (fillsNumberSlot (.type T) nm) ((fo.isSome && !isSeqSlot fo) || (ro.isSome && !isSeqSlot ro)) := ksp_fillsT X h1 h2
  have L5 : Looks (model prog w) hh (isSubtype (.type T) (.ref C)) false := looks_subIn X hsub
  have L6 : Looks (model prog w) hh (numberSlotInPython (.ref C) nm) true := ksp_inPy X hs hr hp
  have L7 : Looks (model prog w) hh (numberSlotInPython (.type T) nm) false := Looks.of_pure rfl
  have L8 : Looks (model prog w) hh (typeLookup (.type T) (dunderR nm)) ro := looks_findIn X h2
  have hne : (Value.ref C == Value.type T) = false := Bool.eq_false_iff.mpr fun q => by cases beq_iff_eq.mp q
  have done : ∀ {r : Option Value} {s' : Shared}, (∃ v, r = some v ∧ Q v s') → ∃ v, r = some v ∧ Told Q r s' := fun ⟨v, e, q⟩ => ⟨v, e, v, e, q⟩
  generalize ((fo.isSome && !isSeqSlot fo) || (ro.isSome && !isSeqSlot ro)) = right at L4
  unfold binaryOp1
  refine wpAny_bind (L1.at (wpAny_bind (hb.at (wpAny_bind (L3.at ?_)))))
  simp only [hne, Bool.false_eq_true, if_false]
  refine wpAny_bind (L4.at ?_)
  cases right with
  | false =>
    simp only [Bool.and_false, Bool.false_and, Bool.false_eq_true, if_false, if_true, pure_bind]
    refine wpAny_bind (wpAny_mono one (fun r s' z => ?_) fun _ _ e => e)
    obtain ⟨v, rfl, hq⟩ := z
    exact wpAny_pure ⟨v, rfl, hq⟩
  | true =>
    simp only [Bool.and_self, if_true]
    refine wpAny_bind (L5.at ?_)
    simp only [Bool.false_eq_true, if_false, if_true, Bool.not_false, Bool.and_self]
    refine wpAny_bind (L6.at ?_)
    simp only [if_true]
    refine wpAny_bind (L7.at ?_)
    simp only [Bool.not_false, if_true]
    refine wpAny_bind (L8.at ?_)
    refine wpAny_bind (wpAny_mono one (fun r s' z => ?_) fun _ _ e => e)
    obtain ⟨v, rfl, hq⟩ := z
    exact wpAny_pure ⟨v, rfl, hq⟩
theorem half_number {nm : String} {a : Value} {T id : String} {Q : Value → Shared → Prop} (X : K.In s.heap) (I : InstAt s.heap x ox C od) (ht : typeOf a = pure (.type T)) (hT : s.TypeIs a T) (hc : selfFirst K C = true) (hs : findIn K (.ref C) (PySem.dunder nm) = some (some (.ref f))) (hr : findIn K (.ref C) (dunderR nm) = some (some (.ref g)))
    (hg : isFn K (.ref g) = true) (hL : fillsNumberSlot (.type T) nm = pure true) (hsub : subIn K (.ref C) (.type T) = some false) (sl : Slot T (PySem.dunder nm) id) (hd : ∀ Q' : Value → Shared → Prop, Q' .notImplemented s → wpAny (model prog w) A (call (.builtin id) [a, .ref x]) Q' E s)
    (h : wpAny (model prog w) A (call (.ref g) [.ref x, a]) (PySem.W.CmpBack Q) E s) : wpAny (model prog w) A (binaryOp1 nm a (.ref x)) (Told Q) E s := by
  obtain ⟨cd, rest, hcd, hm⟩ := ksp_first hc
  have one := ksp_try X I hr hg h
  have two := wpAny_tryMethod_declines (Q := fun r s' => r = none ∧ s' = s) hT sl (hd _ ⟨rfl, rfl, rfl⟩)
  obtain ⟨hh, gg, d, tt, os⟩ := s
  have L2 : Looks (model prog w) hh (typeOf (.ref x)) (.ref C) := I.type
  have L3 : Looks (model prog w) hh (fillsNumberSlot (.ref C) nm) true := fills_K X hcd hm hs
  have L4 : Looks (model prog w) hh (isSubtype (.ref C) (.type T)) false := looks_subIn X hsub
  have hpy : numberSlotInPython (.type T) nm = pure false := rfl
  have hne : (Value.type T == Value.ref C) = false := Bool.eq_false_iff.mpr fun q => by cases beq_iff_eq.mp q
  unfold binaryOp1
  refine wpAny_bind (wpAny_of_eq ht (wpAny_bind (L2.at (wpAny_bind (wpAny_of_eq hL ?_)))))
  simp only [hne, Bool.false_eq_true, if_false]
  refine wpAny_bind (L3.at ?_)
  simp only [Bool.and_self, if_true]
  refine wpAny_bind (L4.at ?_)
  simp only [Bool.false_eq_true, if_false, pure_bind, Bool.not_false, Bool.and_self, if_true, hpy]
  refine wpAny_bind (wpAny_mono two (fun r s' z => ?_) fun _ _ e => e)
  obtain ⟨rfl, rfl⟩ := z
  refine wpAny_bind (wpAny_mono one (fun r s' z => ?_) fun _ _ e => e)
  obtain ⟨v, rfl, hq⟩ := z
  exact wpAny_bind (wpAny_rule (wpAny_pure ⟨v, rfl, hq⟩))
end
end Lw.Ow
namespace Lw
open PySem PySem.Spec PyProof.Rows L2

/-- a class right below object that has no operator of the kind op= -/
structure NoInplace (K : PySem.W.Frag) (C : Addr) (op : Operator) : Prop where
  mro : ∃ cd, PySem.W.clsIn K C = some cd ∧ cd.mro = [.ref C, .type "object"]
  own : PySem.W.findIn K (.ref C) (dunderI op.info.2) = some none
  obj : PySem.W.findIn K (.type "object") (dunderI op.info.2) = some none
section
variable {X : Cx} {C f : Addr} {k j : Nat} {sp : Sp}
theorem iop_same {op : Operator} (M : C8.Met X.prog X.w X.K X.mg X.base k C (PySem.dunder op.info.2) sp []) (hc : PySem.W.selfFirst X.K C = true) (ni : NoInplace X.K C op) (hr : Room j X.A) (hk : k ≤ j) : OpR X (inplaceOp op) (rSame C sp) := by
  intro pins s σ H x y v u Q I rx ry h
  obtain ⟨a, dx, fs, b, dy, gs, rfl, rfl, ha, hb, q⟩ := h
  cases (show v = Value.ref a from rx)
  cases (show u = Value.ref b from ry)
  obtain ⟨_, _, J⟩ := ins_at I ha
  obtain ⟨_, _, J'⟩ := ins_at I hb
  obtain ⟨g, hm, w⟩ := run_two (us := [.ref a, .ref b]) (vs := [.ref a, .ref b]) M hr hk I (.cons rfl (.cons rfl .nil)) q
  obtain ⟨cd, h1, h2⟩ := ni.mro
  exact Ow.inplace_of I.kIn J h1 h2 ni.own ni.obj (Ow.half_same I.kIn J J'.type hc hm.at_ hm.fn w)
theorem iop_beside {op : Operator} (M : C8.Met X.prog X.w X.K X.mg X.base k C (PySem.dunder op.info.2) sp []) (ni : NoInplace X.K C op) (hr : Room j X.A) (hk : k ≤ j) : OpR X (inplaceOp op) (rBeside X.K C op sp) := by
  intro pins s σ H x y v u Q I rx ry h
  obtain ⟨a, dx, fs, T, rfl, ha, hT, hB, q⟩ := h
  cases (show v = Value.ref a from rx)
  obtain ⟨_, _, J⟩ := ins_at I ha
  obtain ⟨g, hm, w⟩ := run_two (us := [.ref a, u]) (vs := [.ref a, y]) M hr hk I (.cons rfl (.cons ry .nil)) q
  obtain ⟨cd, h1, h2⟩ := ni.mro
  obtain ⟨rc, r1, r2⟩ := hB.back
  obtain ⟨fo, f1⟩ := hB.ahead
  obtain ⟨ro, o1⟩ := hB.behind
  exact Ow.inplace_of I.kIn J h1 h2 ni.own ni.obj (Ow.half_left I.kIn J (PySem.W.Looks.of_pure (hT.type ry)) hB.first hm.at_ hm.fn r1 r2 f1 o1 hB.sub w)
/-- i op= x, i an int, x an instance -/
theorem iop_rightI {op : Operator} {id : String} (M : C8.Met X.prog X.w X.K X.mg X.base k C (dunderR op.info.2) sp []) (hc : PySem.W.selfFirst X.K C = true) (hs : PySem.W.findIn X.K (.ref C) (PySem.dunder op.info.2) = some (some (.ref f))) (hL : fillsNumberSlot (.type "int") op.info.2 = pure true) (hI : fillsInplaceSlot (.type "int") op.info.2 (op == .Add) = pure false)
    (hsub : PySem.W.subIn X.K (.ref C) (.type "int") = some false) (sl : Slot "int" (PySem.dunder op.info.2) id) (hd : ∀ {A : Around} {E : Value → Shared → Prop} {s : Shared} {i : Int} {t : Tok} {x : Addr} {o : Obj} {Q' : Value → Shared → Prop}, s.heap.get? x = some o → o.data = .plain → Q' .notImplemented s → wpAny (model X.prog X.w) A (call (.builtin id) [.int i t, .ref x]) Q' E s)
    (hr : Room j X.A) (hk : k ≤ j) : OpR X (inplaceOp op) (rRight C (fun x => ∃ i, x = .int i) sp) := by
  intro pins s σ H x y v u Q I rx ry h
  obtain ⟨a, dx, fs, ⟨i, rfl⟩, rfl, ha, q⟩ := h
  cases (show u = Value.ref a from ry)
  obtain ⟨t, rfl⟩ := (show ∃ t, v = Value.int i t from rx)
  obtain ⟨ox, od, J, hx, hp⟩ := ins_plain I ha
  obtain ⟨g, hm, w⟩ := run_two (us := [.ref a, .int i t]) (vs := [.ref a, .int i]) M hr hk I (.cons rfl (.cons ⟨t, rfl⟩ .nil)) q
  have half := Ow.half_number I.kIn J rfl (typeIs_int s i t) hc hs hm.at_ hm.fn hL hsub sl (fun Q' z => hd hx hp z) w
  unfold inplaceOp
  refine wpAny_holding ?_
  refine wpAny_bind (wpAny_of_eq (a := Value.type "int") rfl (wpAny_bind (wpAny_of_eq hI ?_)))
  simp only [Bool.false_eq_true, if_false, pure_bind]
  refine wpAny_bind (wpAny_mono half (fun r s' z => ?_) fun _ _ e => e)
  obtain ⟨v, rfl, hq⟩ := z
  exact wpAny_pure hq
theorem int_no_inplace : fillsInplaceSlot (.type "int") "add" true = pure false ∧ fillsInplaceSlot (.type "int") "sub" false = pure false ∧ fillsInplaceSlot (.type "int") "mul" false = pure false := by
  refine ⟨?_, ?_, ?_⟩ <;> · simp only [fillsInplaceSlot, typeLookup_type]; rfl
end
end Lw
namespace Lw
open PySem PySem.Spec PyProof.Rows L2
end Lw
namespace Lw.Zm
open PySem PySem.Spec PyProof.Rows L2
/-! ### zip of a list and a tuple -/
/-- the list at a and the tuple at b as they stand at each turn -/
def ItzM (K : PySem.W.Frag) (a b : Addr) : It where
  go i H := ∃ (xs ys : List V) (x y : V), (SqL K H a xs ∧ xs[i]? = some x) ∧ SqT K H b ys ∧ ys[i]? = some y
  yld i H v H' := ∃ T x y, (v = .ref T ∧ H T = none ∧ H' = upd H T (.tup [x, y])) ∧ (∀ xs, SqL K H a xs → xs[i]? = some x) ∧ ∀ ys, SqT K H b ys → ys[i]? = some y
  stop i H := ∃ xs ys : List V, SqL K H a xs ∧ SqT K H b ys ∧ xs.length = ys.length ∧ i = xs.length
theorem sep {z TI TO i1 i2 a b : Addr} (D : ZipApart z TI TO i1 i2 a b) : ZipSep2 z TI TO i1 i2 [i1, a] [i2, b] where
  TIz := D.TIz
  TOz := D.TOz
  TITO := D.TITO
  TIi1 := D.TIi1
  TIi2 := D.TIi2
  mem1 := List.mem_cons_self
  mem2 := List.mem_cons_self
  zf1 := fun h => by
    rcases List.mem_cons.mp h with e | h
    · exact D.i1z e.symm
    · exact D.l1z (List.mem_singleton.mp h).symm
  zf2 := fun h => by
    rcases List.mem_cons.mp h with e | h
    · exact D.i2z e.symm
    · exact D.l2z (List.mem_singleton.mp h).symm
  Tf1 := fun h => by
    rcases List.mem_cons.mp h with e | h
    · exact D.TOi1 e
    · exact D.l1TO (List.mem_singleton.mp h).symm
  Tf2 := fun h => by
    rcases List.mem_cons.mp h with e | h
    · exact D.TOi2 e
    · exact D.l2TO (List.mem_singleton.mp h).symm
  sep1_2 := fun h => by
    rcases List.mem_cons.mp h with e | h
    · exact D.i12 e
    · exact D.l2i1 (List.mem_singleton.mp h).symm
  sep2_1 := fun h => by
    rcases List.mem_cons.mp h with e | h
    · exact D.i12 e.symm
    · exact D.l1i2 (List.mem_singleton.mp h).symm
/-- how the five records of such a zip stand -/
def Rec (z TI TO i1 i2 a b : Addr) (i : Nat) (h : Heap) : Prop := (IsZip h z TI TO .none ∧ IsPair h TI (.ref i1) (.ref i2) ∧ ∃ x y, IsPair h TO x y) ∧ h.IsListIter i1 a i ∧ h.IsTupleIter i2 b i
theorem five {z TI TO i1 i2 c : Addr} (h : c ∈ [z, TI, TO, i1, i2]) : c = z ∨ c = TI ∨ c = TO ∨ c = i1 ∨ c = i2 := by simpa using h
theorem Rec.lt {z TI TO i1 i2 a b : Addr} {i : Nat} {h : Heap} (r : Rec z TI TO i1 i2 a b i h) : ∀ c ∈ [z, TI, TO, i1, i2], ∃ o, h.get? c = some o ∧ ∀ v, o.data ≠ .cell v := by
  obtain ⟨⟨r1, r2, p, q, r3⟩, ⟨o4, g4, _, d4⟩, o5, g5, _, d5⟩ := r
  intro c hc
  rcases five hc with rfl | rfl | rfl | rfl | rfl
  · exact ⟨_, r1, fun v z => nomatch z⟩
  · exact ⟨_, r2, fun v z => nomatch z⟩
  · exact ⟨_, r3, fun v z => nomatch z⟩
  · exact ⟨o4, g4, fun v z => by rw [d4] at z; cases z⟩
  · exact ⟨o5, g5, fun v z => by rw [d5] at z; cases z⟩
theorem turn {P : Program} {w : World} {K : PySem.W.Frag} {elts : List Expr} {kk : Nat} {tpos : Pos} {a b z TI TO i1 i2 : Addr} (D : ZipApart z TI TO i1 i2 a b) :
    Turn P w K (.Tuple elts kk tpos) (ItzM K a b) [z, TI, TO, i1, i2] z (Rec z TI TO i1 i2 a b) where
  mem := List.mem_cons_self
  obj := fun i h r => r.lt
  keep := fun i h h' r k => by
    obtain ⟨⟨r1, r2, p, q, r3⟩, r4, r5⟩ := r
    exact ⟨⟨k _ (by simp) _ r1, k _ (by simp) _ r2, p, q, k _ (by simp) _ r3⟩, r4.at fun o g => k _ (by simp) o g, r5.at fun o g => k _ (by simp) o g⟩
  item := by
    intro X hP hw hK hc i pins s σ H E I hf r hg
    subst hP
    subst hw
    subst hK
    have below := r.lt
    obtain ⟨⟨r1, r2, p, q, r3⟩, r4, r5⟩ := r
    obtain ⟨xs, ys, x, y, ⟨sx, ex⟩, sy, ey⟩ := hg
    obtain ⟨us, ru, pu, _⟩ := I.list sx
    obtain ⟨ws, rw', pw, _⟩ := I.tuple sy
    obtain ⟨u, hu, ru1⟩ := ru.get ex
    obtain ⟨v, hv, rv1⟩ := rw'.get ey
    have l1 : i < us.toArray.size := by
      have := (List.getElem?_eq_some_iff.mp hu).1
      simpa using this
    have l2 : i < ws.toArray.size := by
      have := (List.getElem?_eq_some_iff.mp hv).1
      simpa using this
    have hh := I.ok.hd hc
    refine wpAny_pyNext_zipD2_item (sep D) (Draws.list (A := X.A.in1) hh i1 a D.l1i1 us.toArray) (Draws.tuple (A := X.A.in1) hh i2 b D.l2i2 ws.toArray) r1 r2 r3 ⟨r4, pu.isList⟩ ⟨r5, pw⟩ l1 l2 fun x1 x2 h' tk p1 p2 z1 t1 st1 st2 tT sz kp => ?_
    have e1 : x1 = u := by
      have : us.toArray[i]? = some u := by simpa using hu
      rw [this] at p1
      exact (Option.some.inj p1).symm
    have e2 : x2 = v := by
      have : ws.toArray[i]? = some v := by simpa using hv
      rw [this] at p2
      exact (Option.some.inj p2).symm
    subst e1
    subst e2
    refine ⟨_, rfl, wpAny_letOwnedTupleGo_zip (s := { s with heap := h', toks := tk }) z1 fun h2 z2 sb => ?_⟩
    have lz : ∀ c ∈ [z, TI, TO, i1, i2], c < s.heap.objs.size := fun c hc => by
      obtain ⟨o, g, _⟩ := below c hc
      exact Heap.lt_size g
    have atT : h2.get? s.heap.objs.size = some { cls := .type "tuple", data := .seq #[x1, x2] } := (sb.2 _ (Nat.ne_of_gt (lz z List.mem_cons_self))).trans tT
    have new : ObjOk X.prog X.w (upd H s.heap.objs.size (.tup [x, y])) h2 s.heap.objs.size (.tup [x, y]) := ⟨(show 2 ≤ sizeLine by decide), [x1, x2], .cons ru1 (.cons rv1 .nil), _, atT, rfl, _, rfl⟩
    have same : ∀ c o, c ∉ [z, TI, TO, i1, i2] → s.heap.get? c = some o → h2.get? c = some o := fun c o n g => by
      have ne : ∀ d ∈ [z, TI, TO, i1, i2], c ≠ d := fun d hd e => n (e ▸ hd)
      exact (sb.2 c (ne z (by simp))).trans (kp c o (ne z (by simp)) (ne TO (by simp)) (ne i1 (by simp)) (ne i2 (by simp)) g)
    have J : Inv X pins σ (upd H s.heap.objs.size (.tup [x, y])) { s with heap := h2, toks := tk } := I.turnedNew (ch := [z, TI, TO, i1, i2]) same hf (Nat.le_refl _) new
    refine ⟨.ref s.heap.objs.size, _, J, rfl, ⟨_, x, y, ⟨rfl, I.hok.fresh (Nat.le_refl _), rfl⟩, fun l hl => ?_, fun l hl => ?_⟩, ⟨⟨z2, ?_, x1, x2, ?_⟩, ?_, ?_⟩, fun c hc => ?_⟩
    · rw [I.list_inj hl sx]
      exact ex
    · rw [I.tuple_inj hl sy]
      exact ey
    · exact (sb.2 _ D.TIz).trans (kp _ _ D.TIz D.TITO D.TIi1 D.TIi2 r2)
    · exact (sb.2 _ D.TOz).trans t1
    · exact st1.1.at fun o g => (sb.2 _ D.i1z).trans g
    · exact st2.1.at fun o g => (sb.2 _ D.i2z).trans g
    · rw [upd_ne (Nat.ne_of_lt (lz c hc))]
      exact (hf c hc).1
  done := by
    intro X hP hw hK hc i pins s σ H E I hf r hg
    subst hP
    subst hw
    subst hK
    obtain ⟨⟨r1, r2, p, q, r3⟩, r4, r5⟩ := r
    obtain ⟨xs, ys, sx, sy, el, ei⟩ := hg
    obtain ⟨us, ru, pu, _⟩ := I.list sx
    obtain ⟨ws, rw', pw, _⟩ := I.tuple sy
    have n1 := ru.length
    have n2 := rw'.length
    have hh := I.ok.hd hc
    have m1 : us.toArray.size = us.length := by simp
    have m2 : ws.toArray.size = ws.length := by simp
    refine wpAny_pyNext_zipD2_end (sep D) (Draws.list (A := X.A.in1) hh i1 a D.l1i1 us.toArray) (Draws.tuple (A := X.A.in1) hh i2 b D.l2i2 ws.toArray) r1 r2 r3 ⟨r4, pu.isList⟩ ⟨r5, pw⟩ (by omega) (by omega) (.inl (by omega)) fun h' tk kp => ?_
    refine ⟨rfl, I.turnedL (ch := [z, TI, TO, i1, i2]) (fun c o n g => ?_) hf⟩
    have ne : ∀ d ∈ [z, TI, TO, i1, i2], c ≠ d := fun d hd e => n (e ▸ hd)
    exact kp c o (ne z (by simp)) (ne TO (by simp)) (ne i1 (by simp)) (ne i2 (by simp)) g
  self := fun A i s Q E r h => wpAny_pyIter_zip r.1.1 h
def iZipM (K : PySem.W.Frag) (ta : TA) : TI := fun σ H R => ta σ H fun vs H1 => ∃ a b xs ys, vs = [.ref a, .ref b] ∧ (SqL K H1 a xs ∧ SqT K H1 b ys) ∧ R (ItzM K a b) H1
theorem pi_zipM {X : Cx} {e e2 : Expr} {ta : TA} {p pos tpos : Pos} {elts : List Expr} {kk : Nat} (hg : Gl X "zip") (hm : X.mg "zip" = none) (ha : PA X [e, e2] ta)
    (hs : starEach [e, e2] X.env = (false, eval e X.env) :: starEach [e2] X.env := by rfl) (hpl : (backTo pos (starEach [e2] X.env)).any (·.1) = false := by rfl) :
    PI X (.Tuple elts kk tpos) (.Call (.Name "zip" p) [e, e2] [] pos) (iZipM X.K ta) := by
  refine ⟨fun pins s σ H R I h => Call_ (ld_blt I hg hm PyProof.Rows.boot_zip (PyProof.Rows.callWith_type1 (thn (ha.run pos pins s σ H _ I h) fun us s1 got => ?_) hs hpl))⟩
  obtain ⟨vs, H1, J, rv, a, b, xs, ys, rfl, ⟨sx, sy⟩, go⟩ := got
  obtain ⟨u1, u2, rfl, e1, e2'⟩ := vals2 rv
  obtain rfl : u1 = Value.ref a := e1
  obtain rfl : u2 = Value.ref b := e2'
  obtain ⟨us, ru, pu, _⟩ := J.list sx
  obtain ⟨ws, rw', pw, _⟩ := J.tuple sy
  obtain ⟨ob, gb, _⟩ := id pw
  refine zip_begins2 (begins_list a us.toArray) (begins_tuple b ws.toArray) pu.isList pw fun h' z1 t1 t2 g1 g2 sz kp => wpAny_pyIter_zip z1 ?_
  have J' : Inv X pins σ H1 { s1 with heap := h' } := J.kept (t' := s1.toks) kp
  refine ⟨_, [s1.heap.objs.size + 4, s1.heap.objs.size + 2, s1.heap.objs.size + 3, s1.heap.objs.size, s1.heap.objs.size + 1], _, _, H1, rfl, J', turn (PySem.W.ktu_apart s1.heap.objs.size a b pu.lt (Heap.lt_size gb)), ⟨⟨z1, t1, _, _, t2⟩, ⟨_, g1, rfl, rfl⟩, _, g2, rfl, rfl⟩, fun c hc => ?_, go⟩
  have le : s1.heap.objs.size ≤ c := by
    rcases five hc with rfl | rfl | rfl | rfl | rfl <;> first | exact Nat.le_refl _ | exact Nat.le_add_right _ _
  exact J.fpOk le (J.hok.fresh le)
theorem walk {K : PySem.W.Frag} {a b : Addr} {xs ys : List V} (hl : xs.length = ys.length) : Walk (ItzM K a b) xs.length (fun H => SqL K H a xs ∧ SqT K H b ys) (fun i H v H' => ∃ T x y, (v = .ref T ∧ H T = none ∧ H' = upd H T (.tup [x, y])) ∧ xs[i]? = some x ∧ ys[i]? = some y) := by
  refine ⟨fun i H hi q => ?_, fun H q => ⟨xs, ys, q.1, q.2, hl, rfl⟩, fun i H v H' hi q y => ?_⟩
  · have h2 : i < ys.length := by omega
    exact ⟨xs, ys, xs[i], ys[i], ⟨q.1, by simp [hi]⟩, q.2, by simp [h2]⟩
  · obtain ⟨T, x, z, h1, h2, h3⟩ := y
    exact ⟨T, x, z, h1, h2 _ q.1, h3 _ q.2⟩
end Lw.Zm
namespace Lw
open PySem PySem.Spec PyProof.Rows L2

open LamX
/-! ### lambdas without captured names, with parameters: made here, called anywhere -/
/-- the object at f is the lambda of this text -/
def LamN (q : Str) (params : Arguments) (body : Expr) (scope : Scope) (f c' : Addr) : HO := .ext fun h => ∃ pm ctv : Value, h.get? f = some (PySem.W.kla_obj "<lambda>" q params body scope [] pm c' ctv)
theorem lamN_ne {q : Str} {params : Arguments} {body : Expr} {scope : Scope} {f c' : Addr} (ps : Array Value) : LamN q params body scope f c' ≠ .tbl ps := fun z => by
  unfold LamN at z
  cases z
/-- what its call does -/
structure LamF (P : Program) (w : World) (K : PySem.W.Frag) (mg : Str → Option Value) (base : Heap) (k : Nat) (ps : List Str) (sp : Sp) (q : Str) (params : Arguments) (body : Expr) (scope : Scope) (f c' : Addr) : Prop where
  S : FnScope ps ps scope
  bind : ∀ (pm cv ctv : Value) (us : List Value), us.length = ps.length → bindArgs (PySem.W.kla_fn "<lambda>" q params body scope [] pm cv ctv) ⟨us, []⟩ = pure (ps.zip us)
  len : ∀ vs H Q E, sp vs H Q E → vs.length = ps.length
  run : ∀ (A : Around) (out : List Env) (s : Shared) (H : Hp) (vs : List V) (Q : VK), Room k (A.deeper (envOfC q scope s.heap.objs.size f (.ref c'))) → sp vs H Q C8.E0 →
    ∃ te, PE (cxOf C8.CX0 P w K mg base ps q scope f (.ref c') A out s H C8.E0) body te ∧ te (start ps vs) H Q
def LamAt (P : Program) (w : World) (K : PySem.W.Frag) (mg : Str → Option Value) (base : Heap) (k : Nat) (ps : List Str) (sp : Sp) (H : Hp) (f : Addr) : Prop := ∃ (q : Str) (params : Arguments) (body : Expr) (scope : Scope) (c' : Addr),
  H f = some (LamN q params body scope f c') ∧ H c' = some (CodeO c' q) ∧ LamF P w K mg base k ps sp q params body scope f c'
theorem LamAt.extn {P : Program} {w : World} {K : PySem.W.Frag} {mg : Str → Option Value} {base : Heap} {k : Nat} {ps : List Str} {sp : Sp} {H H' : Hp} {f : Addr} (h : LamAt P w K mg base k ps sp H f) (e : ExtN H H') : LamAt P w K mg base k ps sp H' f := by
  obtain ⟨q, params, body, scope, c', h1, h2, a⟩ := h
  exact ⟨q, params, body, scope, c', e _ _ h1 lamN_ne, e _ _ h2 codeO_ne, a⟩
section
variable {X : Cx} {pins : List (Addr × Obj)} {σ : L2.St} {H : Hp} {s : Shared} {k : Nat} {ps : List Str} {sp : Sp}
theorem run_lam {f : Addr} {us : List Value} {vs : List V} {Q : VK} (L : LamAt X.prog X.w X.K X.mg X.base k ps sp H f) (hr : Room (k + 1) X.A) (I : Inv X pins σ H s) (r : Vals vs us) (q : sp vs H Q C8.E0) :
    wpAny (model X.prog X.w) X.A (call (.ref f) us) (EP X pins σ Q) X.xe s := by
  obtain ⟨qn, params, body, scope, c', hf, hc, F⟩ := L
  obtain ⟨⟨pm, ctv, of1⟩, _, _⟩ := I.hok f _ hf
  obtain ⟨⟨oc, vc, t', hoc, hdc, hvc⟩, _, _⟩ := I.hok c' _ hc
  have hl : us.length = ps.length := r.length.symm.trans (F.len _ _ _ _ q)
  have kinds : ∀ y ∈ ps.zip us, scope.names.lookup y.1 = some .local ∨ (scope.names.lookup y.1 = some .cell ∧ ((cellsFrom (s.heap.objs.size + 1) scope.names []).lookup y.1).isSome = true) := fun ⟨m, v⟩ hy => by
    rcases F.S.par m (List.of_mem_zip hy).1 with z | z
    · exact .inl z
    · exact .inr ⟨z, PySem.W.cellsFrom_some _ _ _ (.inl z)⟩
  have rc : codeAny (model X.prog X.w) X.A (.call (.ref f) ⟨us, []⟩) (CR C8.CX0 X.stack X.prog X.w H s Q C8.E0) s := by
    refine PySem.W.kla_callFunE hr.depth of1 rfl F.S.co F.S.gen rfl ⟨c', oc, vc, t', rfl, hoc, hdc, hvc⟩ ?_
    rw [F.bind _ _ _ us hl]
    refine wpAny_pure (wpAny_newFunctionEnv_cells F.S.kind kinds fun env he s1 cll => ?_)
    subst he
    refine ⟨I.nolimit.keeps cll.toInCall.keep, ?_⟩
    obtain ⟨te, ht, hq⟩ := F.run X.A X.stack s H vs Q (hr.deeper _) q
    have I0 := inv_start (CX := C8.CX0) (A := X.A) (E := C8.E0) F.S hr.hd I.env0 (F.len _ _ _ _ q) r cll
    refine PySem.W.kla_codeExpr (wpAny_mono (ht.run [] s1 (start ps vs) H _ I0 hq) (fun v s' hs => ?_) fun e s' hs => hs)
    obtain ⟨v', H', J, rv, z⟩ := hs
    exact ⟨v', H', J.os, J.bare, J.base, J.hok, rv, z⟩
  refine wpAny_call (codeAny_mono rc fun r s' hq => ?_)
  match r, hq with
  | .error e, hq => exact hq.elim
  | .ok (.ret u), hq => exact I.after hq
  | .ok .next, hq => exact hq.elim
  | .ok .brk, hq => exact hq.elim
  | .ok .cont, hq => exact hq.elim
/-- e(a, ..), e any expression that gives such a lambda -/
theorem pe_lamcallN {fe a : Expr} {es : List Expr} {pos : Pos} {tf : TE} {ta : TA} (hr : Room (k + 1) X.A) (hf : PE X fe tf) (ha : PA X (a :: es) ta)
    (ht : eval (.Call fe (a :: es) [] pos) X.env = (do callWith pos (← eval fe X.env) [] (backTo pos (starEach (a :: es) X.env)) (backToKw pos (keywordEach [] X.env))) := by rfl)
    (he : starEach (a :: es) X.env = (false, eval a X.env) :: starEach es X.env := by rfl) (hpl : (backTo pos (starEach es X.env)).any (·.1) = false := by rfl) :
    PE X (.Call fe (a :: es) [] pos) (fun σ H Q => tf σ H fun x H1 => ∃ (f : Addr) (ps : List Str) (sp : Sp), x = .ref f ∧ LamAt X.prog X.w X.K X.mg X.base k ps sp H1 f ∧ ta σ H1 fun vs H2 => LamAt X.prog X.w X.K X.mg X.base k ps sp H2 f ∧ sp vs H2 Q C8.E0) := by
  refine ⟨fun pins s σ H Q I h => ?_⟩
  refine Call_ (thn (hf.run pins s σ H _ I h) fun u s1 ⟨x, H1, I1, r1, f, ps, sp, ex, l1, q⟩ => ?_) ht
  subst ex
  obtain rfl : u = Value.ref f := r1
  have fnAt : ∀ {H' : Hp} {t : Shared}, Inv X pins σ H' t → LamAt X.prog X.w X.K X.mg X.base k ps sp H' f → PySem.W.FnAt f t.heap := fun {H' t} J L => by
    obtain ⟨qn, params, body, scope, c', hf, _, _⟩ := L
    obtain ⟨⟨pm, ctv, e⟩, _, _⟩ := J.hok f _ hf
    exact ⟨_, _, _, _, e⟩
  refine PySem.W.callWith_F (fnAt I1 l1) (thn (ha.run pos pins s1 σ H1 _ I1 q) fun us s2 ⟨vs, H2, I2, r2, l2, q2⟩ => ⟨fnAt I2 l2, ?_⟩) he hpl
  exact run_lam l2 hr I2 r2 q2
def tLamN (P : Program) (w : World) (K : PySem.W.Frag) (mg : Str → Option Value) (base : Heap) (k : Nat) (ps : List Str) (sp : Sp) (T : List (Addr × Str)) : TE := fun _ H Q => Tabs T H ∧ ∀ (f : Addr) (H1 : Hp), ExtN H H1 → Tabs T H1 → H f = none → LamAt P w K mg base k ps sp H1 f → Q (.ref f) H1
theorem lay_lamN {h' : Heap} {t' : Nat} {q : Str} {params : Arguments} {body : Expr} {scope : Scope} {c' : Addr} {pm ctv : Value} (I : Inv X pins σ H { s with heap := h', toks := t' }) :
    Inv X pins σ (upd H h'.objs.size (LamN q params body scope h'.objs.size c')) { s with heap := h'.push (PySem.W.kla_obj "<lambda>" q params body scope [] pm c' ctv), toks := t' } := by
  refine I.laid (h' := h'.push _) (t' := t') (fun b u e => Heap.get?_push_of_some _ e) (Nat.le_refl _) ?_
  have g : (h'.push (PySem.W.kla_obj "<lambda>" q params body scope [] pm c' ctv)).get? h'.objs.size = some (PySem.W.kla_obj "<lambda>" q params body scope [] pm c' ctv) := Heap.get?_push_size _ rfl
  refine ⟨⟨pm, ctv, g⟩, ⟨_, g⟩, ?_⟩
  rintro h1 h2 ⟨pm, ctv, e⟩ st
  exact ⟨pm, ctv, st _ e⟩
theorem pe_lamN {T : List (Addr × Str)} {c B : Addr} {params : Arguments} {body : Expr} {scope : Scope} {pos : Pos} (TB : TabB X.base X.mg c B) (hcode : X.env.code = .ref c)
    (hm : (B, X.env.qual ++ "<lambda>") ∈ T) (hu : ∀ p ∈ T, p.1 = B → p.2 = X.env.qual ++ "<lambda>") (hdef : defaultsOf params X.env = ([], [])) (nofree : ∀ y ∈ scope.names, y.2 ≠ .free) (nocl : cloFrom X.env.cells scope.names [] = [])
    (act : ∀ f c', LamF X.prog X.w X.K X.mg X.base k ps sp (X.env.qual ++ "<lambda>") params body scope f c') : PE X (.Lambda params body scope pos) (tLamN X.prog X.w X.K X.mg X.base k ps sp T) := by
  refine ⟨fun pins s σ H Q I h => ?_⟩
  obtain ⟨hT, h⟩ := h
  obtain ⟨pt, hB, trip, amg⟩ := hT _ hm
  refine PySem.W.kla_eval hdef ?_
  have hat : s.heap.get? B = some { cls := .none, data := .fields pt } := I.hok B _ hB
  have blt := TB.bm.keeps I.bk
  have hdc := TB.code.keeps I.bk
  have glb := I.mod.glob.keeps I.bk
  have cl := closure_ok (scope := scope) (env := X.env) (fun y hy e => absurd e (nofree y hy))
  rw [nocl] at cl
  have tell : ∀ {H1 : Hp} {f c' : Addr} {s' : Shared}, Inv X pins σ (upd H1 f (LamN (X.env.qual ++ "<lambda>") params body scope f c')) s' → ExtN H H1 → Tabs T H1 → H1 f = none → H f = none → H1 c' = some (CodeO c' (X.env.qual ++ "<lambda>")) →
      EP X pins σ Q (.ref f) s' := fun {H1 f c' s'} I1 eN T1 n1 n0 hc => by
    have sm := same_new (o := LamN (X.env.qual ++ "<lambda>") params body scope f c') n1
    exact ⟨.ref f, _, I1, rfl, h f _ (fun b o e n => sm _ _ (eN b o e n)) (T1.ext sm) n0 ⟨_, params, body, scope, c', upd_same, sm _ _ hc, act f c'⟩⟩
  rcases hc : codeAmong pos pt.toList with _ | cv
  · refine PySem.W.kla_makeFunction (mg := X.mg) (c := c) (P := B) (ps := pt) cl I.ok.glob glb hcode hdc hat trip hc TB.gP blt ?_
    intro c2 ctv h' tk hx hge hlt hrec htb
    obtain ⟨c3, oc, vs, t', e3, g1, g2, g3⟩ := hrec
    cases e3
    have nC : H c2 = none := I.hok.fresh hge
    have I0 := inv_table (t' := tk) (more := #[rawInt pos.line, rawInt pos.col, .ref c2]) (h' := h') I hB hx htb hge ⟨oc, vs, t', g1, g2, g3⟩
    have stays : ExtN H (upd (upd H B (.tbl (pt ++ #[rawInt pos.line, rawInt pos.col, .ref c2]))) c2 (CodeO c2 (X.env.qual ++ "<lambda>"))) := by
      intro b o e n
      rw [upd_ne (ne_of_none e nC)]
      by_cases hb : b = B
      · subst hb
        rw [hB] at e
        exact absurd (Option.some.inj e).symm (n pt)
      · rw [upd_ne hb]; exact e
    have fresh : H h'.objs.size = none := I.hok.fresh (Nat.le_trans hge (Nat.le_of_lt hlt))
    refine tell (lay_lamN (t' := tk) (c' := c2) (ctv := ctv) I0) stays ?_ ?_ fresh upd_same
    · intro p hp
      by_cases hb : p.1 = B
      · rw [hu p hp hb, hb]
        refine ⟨pt ++ #[rawInt pos.line, rawInt pos.col, .ref c2], ?_, ?_, ?_⟩
        · rw [upd_ne (ne_of_none hB nC), upd_same]
        · rw [show (pt ++ #[rawInt pos.line, rawInt pos.col, .ref c2]).toList = pt.toList ++ [rawInt pos.line, rawInt pos.col, .ref c2] by simp]
          exact PySem.TriplesOk_snoc _ _ _ _ trip
        · intro p' cv' hcv
          rw [show (pt ++ #[rawInt pos.line, rawInt pos.col, .ref c2]).toList = pt.toList ++ [rawInt pos.line, rawInt pos.col, .ref c2] by simp] at hcv
          rcases among_app _ trip hcv with z | z
          · obtain ⟨c0, a1, a2⟩ := amg p' cv' z
            exact ⟨c0, a1, stays _ _ a2 codeO_ne⟩
          · exact ⟨c2, z, upd_same⟩
      · obtain ⟨qs, a1, a2, a3⟩ := hT p hp
        refine ⟨qs, ?_, a2, ?_⟩
        · rw [upd_ne (ne_of_none a1 nC), upd_ne hb]; exact a1
        · intro p' cv' hcv
          obtain ⟨c0, b1, b2⟩ := a3 p' cv' hcv
          exact ⟨c0, b1, stays _ _ b2 codeO_ne⟩
    · have n1 : h'.objs.size ≠ c2 := Nat.ne_of_gt hlt
      have n2 : h'.objs.size ≠ B := Nat.ne_of_gt (Nat.lt_of_lt_of_le (Heap.lt_size hat) (Nat.le_trans hge (Nat.le_of_lt hlt)))
      rw [upd_ne n1, upd_ne n2]
      exact fresh
  · obtain ⟨c2, e, hco⟩ := amg pos cv hc
    subst e
    refine PySem.W.kla_makeFunctionHit (mg := X.mg) (c := c) (P := B) (ps := pt) cl I.ok.glob glb hcode hdc hat trip hc blt ?_
    intro ctv h' tk hx hsz
    have I0 : Inv X pins σ H { s with heap := h', toks := tk } := I.kept hx
    exact tell (lay_lamN (t' := tk) (c' := c2) (ctv := ctv) I0) (ExtN.refl H) hT (I.hok.fresh hsz) (I.hok.fresh hsz) hco
end
end Lw
namespace Lw
open PySem PySem.Spec PyProof.Rows L2

open LamX
abbrev sIsInt : Stmt := top 3
abbrev sWithin : Stmt := top 4
abbrev sSize : Stmt := top 5
/-- what the top has told of the module's names -/
structure Txt (mg : Str → Option Value) : Prop extends Txt0 mg where
  n_bool : mg "bool" = none
  n_str : mg "str" = none
  n_isinstance : mg "isinstance" = none
  n_range : mg "range" = none
  n_repr : mg "repr" = none
  n_all : mg "all" = none
  c_GS : ∃ t, mg "GREATEST_SIZE" = some (.int (10 ^ 30) t)
/-- any value that a caller may pass here -/
inductive Anyv (K : PySem.W.Frag) (H : Hp) : V → Prop where
  | int (i : Int) : Anyv K H (.int i)
  | non : Anyv K H .non
  | bl (b : Bool) : Anyv K H (.bl b)
  | str (z : Str) : Anyv K H (.str z)
  | obj {a : Addr} {t : Value} (h : TyZ K H (.ref a) t) (h1 : PySem.W.kitOne K t (.type "int") = some false) (h2 : PySem.W.kitOne K t (.type "bool") = some false) (h3 : PySem.W.kitOne K t (.type "str") = some false) : Anyv K H (.ref a)
def isI : V → Bool
  | .int _ => true
  | _ => false
def clsI : V → Bool
  | .int _ => true
  | .bl _ => true
  | _ => false
def clsB : V → Bool
  | .bl _ => true
  | _ => false
def isS : V → Bool
  | .str _ => true
  | _ => false
def inB (x : V) (lo hi : Int) : Bool := match x with
  | .int i => decide (lo ≤ i) && decide (i ≤ hi)
  | _ => false
def spIsInt (K : PySem.W.Frag) : Sp := fun vs H Q _ => ∃ x, vs = [x] ∧ Anyv K H x ∧ Q (.bl (isI x)) H
def spWithin (K : PySem.W.Frag) : Sp := fun vs H Q _ => ∃ x lo hi, vs = [x, .int lo, .int hi] ∧ Anyv K H x ∧ Q (.bl (inB x lo hi)) H
def spSize (K : PySem.W.Frag) : Sp := fun vs H Q _ => ∃ x, vs = [x] ∧ Anyv K H x ∧ Q (.bl (inB x 1 (10 ^ 30))) H
section
variable {P : Program} {w : World} {K : PySem.W.Frag} {mg : Str → Option Value} {base : Heap}
theorem isz_int {H : Hp} {x : V} {Q : V → Hp → Prop} (a : Anyv K H x) (q : Q (.bl (clsI x)) H) : rIsz K [x, .ty "int"] H Q := by
  cases a with
  | int i => exact ⟨_, _, .type "int", .type "int", true, rfl, .ty "int", .x (.base (.int i)), kit_ty (r := true) (by decide +kernel), q⟩
  | non => exact ⟨_, _, .type "NoneType", .type "int", false, rfl, .ty "int", .x (.base .non), kit_ty (r := false) (by decide +kernel), q⟩
  | bl b => exact ⟨_, _, .type "bool", .type "int", true, rfl, .ty "int", .x (.base (.bl b)), kit_ty (r := true) (by decide +kernel), q⟩
  | str z => exact ⟨_, _, .type "str", .type "int", false, rfl, .ty "int", .x (.base (.str z)), kit_ty (r := false) (by decide +kernel), q⟩
  | obj h h1 h2 h3 => exact ⟨_, _, _, .type "int", _, rfl, .ty "int", h, h1, q⟩
theorem isz_bool {H : Hp} {x : V} {Q : V → Hp → Prop} (a : Anyv K H x) (q : Q (.bl (clsB x)) H) : rIsz K [x, .ty "bool"] H Q := by
  cases a with
  | int i => exact ⟨_, _, .type "int", .type "bool", false, rfl, .ty "bool", .x (.base (.int i)), kit_ty (r := false) (by decide +kernel), q⟩
  | non => exact ⟨_, _, .type "NoneType", .type "bool", false, rfl, .ty "bool", .x (.base .non), kit_ty (r := false) (by decide +kernel), q⟩
  | bl b => exact ⟨_, _, .type "bool", .type "bool", true, rfl, .ty "bool", .x (.base (.bl b)), kit_ty (r := true) (by decide +kernel), q⟩
  | str z => exact ⟨_, _, .type "str", .type "bool", false, rfl, .ty "bool", .x (.base (.str z)), kit_ty (r := false) (by decide +kernel), q⟩
  | obj h h1 h2 h3 => exact ⟨_, _, _, .type "bool", _, rfl, .ty "bool", h, h2, q⟩
theorem isz_str {H : Hp} {x : V} {Q : V → Hp → Prop} (a : Anyv K H x) (q : Q (.bl (isS x)) H) : rIsz K [x, .ty "str"] H Q := by
  cases a with
  | int i => exact ⟨_, _, .type "int", .type "str", false, rfl, .ty "str", .x (.base (.int i)), kit_ty (r := false) (by decide +kernel), q⟩
  | non => exact ⟨_, _, .type "NoneType", .type "str", false, rfl, .ty "str", .x (.base .non), kit_ty (r := false) (by decide +kernel), q⟩
  | bl b => exact ⟨_, _, .type "bool", .type "str", false, rfl, .ty "str", .x (.base (.bl b)), kit_ty (r := false) (by decide +kernel), q⟩
  | str z => exact ⟨_, _, .type "str", .type "str", true, rfl, .ty "str", .x (.base (.str z)), kit_ty (r := true) (by decide +kernel), q⟩
  | obj h h1 h2 h3 => exact ⟨_, _, _, .type "str", _, rfl, .ty "str", h, h3, q⟩
theorem scIsInt : FnScope ["value"] ["value"] (C8.fnScope sIsInt) := C8.fnScope_by (by decide +kernel)
theorem fn_isint {f : Addr} {fd : FuncData} (F : C8.Def K mg "is_integer" sIsInt f fd) (T : Txt mg) : FnOk P w K mg base C8.CX0 1 f fd ["value"] (spIsInt K) := by
  refine C8.fn0 F.fn scIsInt (fun vs H Q E h => ?_) (fun cdv A outer st H vs Q E hr h => ?_)
  · obtain ⟨x, rfl, _⟩ := h
    rfl
  · obtain ⟨x, rfl, a, k⟩ := h
    refine ⟨_, (pss_one (ps_ret (pe_and (pe_callB call_isz (by rfl) T.n_isinstance (by decide +kernel) (pa_cons (pv 0) (pa_cons (pe_bltn (v := .ty "int") (by rfl) T.n_int (by decide +kernel) rfl) pa_nil))) (pe_one (pe_not (pe_callB call_isz (by rfl) T.n_isinstance (by decide +kernel) (pa_cons (pv 0) (pa_cons (pe_bltn (v := .ty "bool") (by rfl) T.n_bool (by decide +kernel) rfl) pa_nil)))))))), ?_⟩
    refine ⟨_, rfl, ?_⟩
    dsimp only [tCons, tC, tNil]
    refine isz_int a ⟨_, rfl, ?_⟩
    cases a with
    | int i =>
      refine iteT ⟨_, rfl, ?_⟩
      dsimp only [tCons, tC, tNil]
      exact isz_bool (.int i) ⟨_, rfl, k⟩
    | bl b =>
      refine iteT ⟨_, rfl, ?_⟩
      dsimp only [tCons, tC, tNil]
      exact isz_bool (.bl b) ⟨_, rfl, k⟩
    | non => exact iteF k
    | str z => exact iteF k
    | obj h h1 h2 h3 => exact iteF k
theorem cal_isint {f : Addr} {fd : FuncData} (F : C8.Def K mg "is_integer" sIsInt f fd) (b : Binds K fd ["value"] []) (T : Txt mg) : C8.Cal P w K mg base 1 "is_integer" (spIsInt K) [] :=
  ⟨f, fd, _, [], fn_isint F T, F.mgf, F.kp, b, .nil⟩
theorem scWithin : FnScope ["value", "least", "most"] ["value", "least", "most"] (C8.fnScope sWithin) := C8.fnScope_by (by decide +kernel)
theorem fn_within {f : Addr} {fd : FuncData} (F : C8.Def K mg "is_within" sWithin f fd) (T : Txt mg) (D : C8.Cal P w K mg base 1 "is_integer" (spIsInt K) []) : FnOk P w K mg base C8.CX0 2 f fd ["value", "least", "most"] (spWithin K) := by
  refine C8.fn0 F.fn scWithin (fun vs H Q E h => ?_) (fun cdv A outer st H vs Q E hr h => ?_)
  · obtain ⟨x, lo, hi, rfl, _⟩ := h
    rfl
  · obtain ⟨x, lo, hi, rfl, a, k⟩ := h
    refine ⟨_, (pss_one (ps_ret (pe_and (C8.pe_c D hr (by decide) (by rfl) (pa_cons (pv 0) pa_nil)) (pe_one (pe_chain op_le op_le (pv 1) (pv 0) (pv 2)))))), ?_⟩
    refine ⟨_, rfl, x, rfl, a, _, rfl, ?_⟩
    cases a with
    | int i =>
      refine iteT ⟨_, rfl, _, rfl, _, _, rfl, rfl, _, rfl, ite2 (fun c => ?_) (fun c => ?_)⟩
      · refine ⟨_, rfl, _, _, rfl, rfl, ?_⟩
        rw [show inB (.int i) lo hi = decide (i ≤ hi) by simp [inB, of_decide_eq_true c]] at k
        exact k
      · rw [show inB (.int i) lo hi = false by simp [inB, of_decide_eq_false (Bool.eq_false_iff.mpr c)]] at k
        exact k
    | bl b => exact iteF k
    | non => exact iteF k
    | str z => exact iteF k
    | obj h h1 h2 h3 => exact iteF k
theorem cal_within {f : Addr} {fd : FuncData} (F : C8.Def K mg "is_within" sWithin f fd) (b : Binds K fd ["value", "least", "most"] []) (T : Txt mg) (D : C8.Cal P w K mg base 1 "is_integer" (spIsInt K) []) : C8.Cal P w K mg base 2 "is_within" (spWithin K) [] :=
  ⟨f, fd, _, [], fn_within F T D, F.mgf, F.kp, b, .nil⟩
theorem scSize : FnScope ["value"] ["value"] (C8.fnScope sSize) := C8.fnScope_by (by decide +kernel)
theorem fn_size {f : Addr} {fd : FuncData} (F : C8.Def K mg "is_size" sSize f fd) (T : Txt mg) (D : C8.Cal P w K mg base 2 "is_within" (spWithin K) []) : FnOk P w K mg base C8.CX0 3 f fd ["value"] (spSize K) := by
  refine C8.fn0 F.fn scSize (fun vs H Q E h => ?_) (fun cdv A outer st H vs Q E hr h => ?_)
  · obtain ⟨x, rfl, _⟩ := h
    rfl
  · obtain ⟨x, rfl, a, k⟩ := h
    obtain ⟨tk, hGS⟩ := T.c_GS
    refine ⟨_, (pss_one (ps_ret (C8.pe_c D hr (by decide) (by rfl) (pa_cons (pv 0) (pa_cons pe_int (pa_cons (pe_glob (v := .int (10 ^ 30)) rfl hGS ⟨_, rfl⟩) pa_nil)))))), ?_⟩
    exact ⟨_, rfl, x, _, _, rfl, a, k⟩
theorem cal_size {f : Addr} {fd : FuncData} (F : C8.Def K mg "is_size" sSize f fd) (b : Binds K fd ["value"] []) (T : Txt mg) (D : C8.Cal P w K mg base 2 "is_within" (spWithin K) []) : C8.Cal P w K mg base 3 "is_size" (spSize K) [] :=
  ⟨f, fd, _, [], fn_size F T D, F.mgf, F.kp, b, .nil⟩
end
end Lw
namespace Lw
open PySem PySem.Spec PyProof.Rows L2

open LamX
/-- a comprehension over a text, whose tests and element leave the heap as it is -/
theorem lc_text {z : Str} {g : TG} {tt : TT} {te : TE} {vs : List Nat} {σ : L2.St} {H1 : Hp} {D : Addr} {Qd : Hp → Prop} (σc : Nat → L2.St) (flt : Nat → Bool) (f : Nat → V)
    (hg : ∀ c H (R : L2.St → Hp → Prop), R (σc c) H → g (.str ⟨#[c]⟩) (wipe σ vs) H R) (hw : ∀ c, wipe (σc c) vs = wipe σ vs) (ht : ∀ c H (R : Bool → Hp → Prop), R (flt c) H → tt (σc c) H R)
    (he : ∀ c H (R : V → Hp → Prop), flt c = true → R (f c) H → te (σc c) H R) (hz : z.cps.size ≤ 1000000) (hd : Qd (upd H1 D (.lst ((z.cps.toList.filter flt).map f)))) :
    ∃ W : Nat → Nat → Hp → Prop, (∃ m, W 0 m (upd H1 D (.lst []))) ∧ ∀ i m H, W i m H →
      ((Its z).stop i H ∧ Qd H) ∨ ((Its z).go i H ∧ ∃ Nx : Hp → Prop, (∀ H', Nx H' → ∃ m', m' < m ∧ W (i + 1) m' H') ∧ ∀ x H', (Its z).yld i H x H' → g x (wipe σ vs) H' fun σ2 H2 => wipe σ2 vs = wipe σ vs ∧ tt σ2 H2 fun b H3 =>
        if b = true then te σ2 H3 fun y H4 => ∃ acc, H4 D = some (.lst acc) ∧ acc.length < sizeLine ∧ Nx (upd H4 D (.lst (acc ++ [y]))) else Nx H3) := by
  refine lc_it (walk_str (z := z)) (fun i H => H = upd H1 D (.lst (((z.cps.toList.take i).filter flt).map f))) (by simp) (fun _ _ _ _ => trivial) ?_ ?_
  · intro i x H H' hi hP hY
    obtain ⟨rfl, c, hc, rfl⟩ := hY
    have hc' : z.cps.toList[i]? = some c := by rw [Array.getElem?_toList]; exact hc
    have htake : z.cps.toList.take (i + 1) = z.cps.toList.take i ++ [c] := by
      rw [List.take_add_one, hc']; rfl
    refine hg c _ _ ⟨hw c, ht c _ _ ?_⟩
    rw [hP]
    cases hf : flt c with
    | true =>
      refine iteT (he c _ _ hf ⟨_, upd_same, ?_, ?_⟩)
      · have h1 : (((z.cps.toList.take i).filter flt).map f).length ≤ z.cps.toList.length := by
          rw [List.length_map]
          exact Nat.le_trans (List.length_filter_le _ _) (List.length_take_le' _ _)
        rw [Array.length_toList] at h1
        exact Nat.lt_of_le_of_lt (Nat.le_trans h1 hz) (by show 1000000 < sizeLine; decide)
      · rw [upd_upd, htake, List.filter_append, List.map_append]
        simp [hf]
    | false =>
      refine iteF ?_
      rw [htake, List.filter_append, List.map_append]
      simp [hf]
  · rintro H rfl
    have e : z.cps.toList.take z.cps.size = z.cps.toList := List.take_of_length_le (by rw [Array.length_toList]; exact Nat.le_refl _)
    rw [e]
    exact hd
theorem inV_str (z : Str) : ∀ ws : List Str, inV (.str z) (ws.map V.str) = decide (z ∈ ws)
  | [] => rfl
  | x :: r => by
    show (eqV (.str x) (.str z) || inV (.str z) (r.map V.str)) = decide (z ∈ x :: r)
    rw [inV_str z r]
    show ((x == z) || decide (z ∈ r)) = _
    by_cases h : z = x
    · subst h; simp
    · have h2 : ¬ x = z := fun e => h e.symm
      simp [h, h2]
theorem flat_strs (ws : List Str) : (ws.map V.str).all flatV = true := by
  induction ws with
  | nil => rfl
  | cons x r ih => show (true && (r.map V.str).all flatV) = true; rw [ih]; rfl
theorem dp_signs {K : PySem.W.Frag} {H : Hp} : ∀ cs : List Nat, DpAll K H (cs.map fun c => V.str ⟨#[c]⟩) (cs.map fun c => PyData.str ⟨#[c]⟩)
  | [] => .nil
  | c :: r => .cons (.str _) (dp_signs r)
theorem lay_signs : ∀ cs : List Nat, (∀ c ∈ cs, c < 1114112) → PyData.canLayAll0 (cs.map fun c => PyData.str ⟨#[c]⟩) = true
  | [], _ => rfl
  | c :: r, h => by
    have h1 : PyData.canLay0 (.str ⟨#[c]⟩) = true := by
      show (#[c] : Array Nat).all (· < 1114112) = true
      simp [h c List.mem_cons_self]
    show (PyData.canLay0 (.str ⟨#[c]⟩) && PyData.canLayAll0 (r.map fun c => PyData.str ⟨#[c]⟩)) = true
    rw [h1, lay_signs r fun d hd => h d (List.mem_cons_of_mem _ hd)]; rfl
theorem depth_signs : ∀ cs : List Nat, PyData.depthAll (cs.map fun c => PyData.str ⟨#[c]⟩) = 0
  | [] => rfl
  | c :: r => by
    show max 0 (PyData.depthAll (r.map fun c => PyData.str ⟨#[c]⟩)) = 0
    rw [depth_signs r]; rfl
theorem shaped_signs (cs : List Nat) (h : ∀ c ∈ cs, c < 1114112) : SeqAt.shaped (.list (cs.map fun c => PyData.str ⟨#[c]⟩)) = true := by
  unfold SeqAt.shaped
  have h1 : PyData.canLay0 (.list (cs.map fun c => PyData.str ⟨#[c]⟩)) = true := lay_signs cs h
  have h2 : PyData.depth (.list (cs.map fun c => PyData.str ⟨#[c]⟩)) = 1 := by
    show PyData.depthAll (cs.map fun c => PyData.str ⟨#[c]⟩) + 1 = 1
    rw [depth_signs]
  rw [h1, h2]; rfl
theorem eqv_signs (cs : List Nat) : PyData.eqv (.list (cs.map fun c => PyData.str ⟨#[c]⟩)) (.list []) = cs.isEmpty := by
  cases cs <;> rfl
theorem filt_nil (p : Nat → Bool) : ∀ l : List Nat, (l.filter fun c => !p c).isEmpty = l.all p
  | [] => rfl
  | c :: r => by
    have ih := filt_nil p r
    cases h : p c with
    | true => simp only [List.filter_cons, h, Bool.not_true, List.all_cons, Bool.true_and]; exact ih
    | false => simp [h]
end Lw
namespace Lw
open PySem PySem.Spec PyProof.Rows L2

open SX PySem.NumText
/-! ### texts as lists of signs -/
def figs : List Nat → List Nat
  | 45 :: r => r
  | cs => cs
theorem figs_minus (r : List Nat) : figs (45 :: r) = r := rfl
theorem figs_other {c : Nat} (r : List Nat) (h : c ≠ 45) : figs (c :: r) = c :: r := by
  unfold figs
  split
  · rename_i e
    exact absurd (List.cons.inj e).1 h
  · rfl
theorem len1 : Str.length (S [45]) = 1 := rfl
theorem sub_head (c d : Nat) (r : List Nat) : Builtin.Str.subAt (S (c :: r)) (S [d]) 0 = decide (c = d) := by
  unfold Builtin.Str.subAt
  show ((c :: r).toArray.extract 0 (0 + 1) == #[d]) = _
  simp
  by_cases h : c = d <;> simp [h]
theorem rm_minus (cs : List Nat) : Txt.removeprefix (S cs) (S [45]) = S (figs cs) := by
  unfold Txt.removeprefix
  cases cs with
  | nil => rfl
  | cons c r =>
    rw [sub_head]
    by_cases h : c = 45
    · subst h
      rw [figs_minus]
      simp only [decide_true, if_true]
      show (if (((45 :: r).toArray.size - 1) == (45 :: r).toArray.size) = true then S (45 :: r) else Builtin.Str.strSub (S (45 :: r)) 1 ((45 :: r).toArray.size)) = S r
      have e : ((45 :: r).toArray.size - 1 == (45 :: r).toArray.size) = false := by simp
      rw [e]
      simp [Builtin.Str.strSub, S]
    · rw [figs_other r h]
      simp only [decide_eq_false h, Bool.false_eq_true, if_false]
      rfl
theorem sw_head (c d : Nat) (r : List Nat) : Txt.startswith (S (c :: r)) (S [d]) = decide (c = d) := by
  unfold Txt.startswith
  rw [sub_head]
  have e : decide (0 + (S [d]).length ≤ (S (c :: r)).length) = true := decide_eq_true (by rw [S_len, S_len]; simp)
  rw [e, Bool.true_and]
theorem sw_nil (d : Nat) : Txt.startswith (S []) (S [d]) = false := by
  unfold Txt.startswith
  have e : decide (0 + (S [d]).length ≤ (S []).length) = false := decide_eq_false (by rw [S_len, S_len]; simp)
  rw [e, Bool.false_and]
theorem ascii_S {cs : List Nat} (h : ∀ c ∈ cs, c < 128) : Txt.isascii (S cs) = true := by
  unfold Txt.isascii
  show cs.toArray.all (· < 128) = true
  simp only [List.all_toArray, List.all_eq_true, decide_eq_true_eq]
  exact h
theorem dig128 : ∀ c, c < 128 → Unicode.isDigit c = (decide (48 ≤ c) && decide (c ≤ 57)) := by decide +kernel
/-- all are figures, and there is one -/
def digB (cs : List Nat) : Bool := !cs.isEmpty && cs.all fun c => decide (48 ≤ c) && decide (c ≤ 57)
theorem isdigit_S {cs : List Nat} (h : ∀ c ∈ cs, c < 128) : Txt.isdigit (S cs) = digB cs := by
  unfold Txt.isdigit digB
  have e1 : decide ((S cs).length > 0) = !cs.isEmpty := by
    rw [S_len]
    cases cs <;> simp
  have e2 : (S cs).cps.all Unicode.isDigit = cs.all fun c => decide (48 ≤ c) && decide (c ≤ 57) := by
    show cs.toArray.all Unicode.isDigit = _
    rw [List.all_toArray]
    induction cs with
    | nil => rfl
    | cons c r ih =>
      rw [List.all_cons, List.all_cons, dig128 c (h c List.mem_cons_self), ih (fun d hd => h d (List.mem_cons_of_mem _ hd)) (by rw [S_len]; cases r <;> simp)]
  rw [e1, e2]
theorem digB_all {cs : List Nat} (h : digB cs = true) : AllDigits cs ∧ cs ≠ [] := by
  unfold digB at h
  rw [Bool.and_eq_true] at h
  refine ⟨fun c hc => ?_, fun e => by rw [e] at h; exact absurd h.1 (by decide)⟩
  have := List.all_eq_true.mp h.2 c hc
  rw [Bool.and_eq_true, decide_eq_true_eq, decide_eq_true_eq] at this
  exact this
theorem figs_sub {cs : List Nat} {c : Nat} (h : c ∈ figs cs) : c ∈ cs := by
  unfold figs at h
  split at h
  · exact List.mem_cons_of_mem _ h
  · exact h
theorem figs_len (cs : List Nat) : (figs cs).length ≤ cs.length := by
  unfold figs
  split
  · simp
  · exact Nat.le_refl _
/-! ### what figures are worth -/
theorem fold_app (a b : List Nat) (x : Nat) : (a ++ b).foldl (fun acc c => acc * 10 + (c - 48)) x = b.foldl (fun acc c => acc * 10 + (c - 48)) (a.foldl (fun acc c => acc * 10 + (c - 48)) x) := List.foldl_append
theorem fold_from : ∀ (b : List Nat) (x : Nat), b.foldl (fun acc c => acc * 10 + (c - 48)) x = x * 10 ^ b.length + digitsVal b
  | [], x => by simp [digitsVal]
  | c :: r, x => by
    show r.foldl _ (x * 10 + (c - 48)) = x * 10 ^ (r.length + 1) + r.foldl _ (0 * 10 + (c - 48))
    rw [fold_from r, fold_from r (0 * 10 + (c - 48)), Nat.pow_succ, Nat.zero_mul, Nat.zero_add, Nat.add_mul, Nat.mul_assoc, Nat.mul_comm 10 (10 ^ r.length), Nat.add_assoc]
theorem val_app (a b : List Nat) : digitsVal (a ++ b) = digitsVal a * 10 ^ b.length + digitsVal b := by
  show (a ++ b).foldl _ 0 = _
  rw [fold_app, fold_from b]; rfl
theorem val_zeros : ∀ k : Nat, digitsVal (List.replicate k 48) = 0
  | 0 => rfl
  | k + 1 => val_zeros k
theorem val_lt : ∀ cs : List Nat, AllDigits cs → digitsVal cs < 10 ^ cs.length
  | [], _ => by decide
  | c :: r, h => by
    have h1 := h c List.mem_cons_self
    have ih := val_lt r fun d hd => h d (List.mem_cons_of_mem _ hd)
    have e : digitsVal (c :: r) = (c - 48) * 10 ^ r.length + digitsVal r := by
      rw [show c :: r = [c] ++ r from rfl, val_app]
      show (0 * 10 + (c - 48)) * _ + _ = _
      rw [Nat.zero_mul, Nat.zero_add]
    rw [e, List.length_cons, Nat.pow_succ]
    have h2 : (c - 48) * 10 ^ r.length ≤ 9 * 10 ^ r.length := Nat.mul_le_mul_right _ (by omega)
    omega
theorem ten_two (n : Nat) : 10 ^ n ≤ 2 ^ (4 * n) := by
  rw [Nat.pow_mul]
  exact Nat.pow_le_pow_left (by decide) n
theorem all_zeros (k : Nat) : AllDigits (List.replicate k 48) := fun c hc => by
  rw [List.eq_of_mem_replicate hc]
  decide
theorem AllDigits.app {a b : List Nat} (ha : AllDigits a) (hb : AllDigits b) : AllDigits (a ++ b) := fun c hc => (List.mem_append.mp hc).elim (ha c) (hb c)
/-- the integer that a text writes just as str does -/
def intOf (cs : List Nat) : Option Int :=
  if digB (figs cs) = true then
    if (figs cs).head? = some 48 ∧ cs ≠ [48] then none
    else if cs.head? = some 45 then some (-((digitsVal (figs cs) : Nat) : Int)) else some ((digitsVal (figs cs) : Nat) : Int)
  else none
def optV : Option Int → V
  | none => .non
  | some i => .int i
end Lw
namespace Lw
open PySem PySem.Spec PyProof.Rows L2

open SX PySem.NumText
abbrev sIntOf : Stmt := top 17
theorem rep_list (z : Array Nat) : ∀ n : Nat, ∀ acc : Array Nat, ((List.replicate n z).foldl (· ++ ·) acc).toList = acc.toList ++ (List.replicate n z.toList).flatten
  | 0, acc => by simp
  | n + 1, acc => by
    rw [List.replicate_succ, List.foldl_cons, rep_list z n, List.replicate_succ, List.flatten_cons, Array.toList_append, List.append_assoc]
/-- a text, so many times -/
theorem op_mulS {X : Cx} : OpR X (binaryOp .Mult) (fun x y H Q => ∃ (cs : List Nat) (n : Int), x = .str (S cs) ∧ y = .int n ∧ 0 ≤ n ∧ n ≤ 10000 ∧ cs.length ≤ 1000 ∧ Q (.str (S (List.replicate n.toNat cs).flatten)) H) := by
  intro pins s σ H x y v u Q I rx ry h
  obtain ⟨cs, n, rfl, rfl, h0, h1, h2, q⟩ := h
  obtain ⟨t, rfl⟩ := rx
  obtain ⟨t2, rfl⟩ := ry
  refine PySem.P.mul_str ?_ ?_ ?_ ?_
  · rw [decide_eq_false (show ¬ n < -(2 ^ 63 : Int) by omega), decide_eq_false (show ¬ n ≥ 2 ^ 63 by omega)]; rfl
  · intro hn _ hz
    rw [S_len] at hz
    have : (9223372036854775807 : Int) / n ≥ 922337203685477 := by
      rw [ge_iff_le, Int.le_ediv_iff_mul_le (by omega)]
      omega
    have e : ((2 : Int) ^ 63 - 1) = 9223372036854775807 := by decide
    rw [e] at hz
    omega
  · intro hn _
    rw [S_len]
    have : cs.length * n.toNat ≤ 1000 * 10000 := Nat.mul_le_mul h2 (by omega)
    refine decide_eq_false ?_
    exact Nat.not_lt.mpr (Nat.le_trans this (by rw [sizeLine_eq]; decide))
  · by_cases hn : n < 1
    · rw [if_pos hn]
      have e : n.toNat = 0 := by omega
      rw [e] at q
      exact ⟨by decide, ⟨.str (S []), H, I.tok _, ⟨_, rfl⟩, q⟩⟩
    · rw [if_neg hn]
      by_cases hc : (n == 1 || (S cs).length == 0) = true
      · rw [if_pos hc]
        have e : (List.replicate n.toNat cs).flatten = cs := by
          rw [Bool.or_eq_true, beq_iff_eq, beq_iff_eq, S_len] at hc
          rcases hc with e | e
          · subst e; simp
          · rw [List.length_eq_zero_iff.mp e]; simp
        rw [e] at q
        exact ⟨.str (S cs), H, I, ⟨t, rfl⟩, q⟩
      · rw [if_neg hc]
        have e : (⟨(List.replicate n.toNat (S cs).cps).foldl (· ++ ·) #[]⟩ : Str) = S (List.replicate n.toNat cs).flatten := by
          refine congrArg Str.mk ?_
          refine Array.toList_inj.mp ?_
          rw [rep_list]; simp [S]
        rw [e]
        refine ⟨?_, ⟨.str _, H, I.tok _, ⟨_, rfl⟩, q⟩⟩
        rw [S_len, List.length_flatten, List.map_replicate, List.sum_replicate_nat]
        exact Nat.le_trans (Nat.mul_le_mul (show n.toNat ≤ 10000 by omega) h2) (by rw [sizeLine_eq]; decide)
theorem join_ifS {c : TT} {t u : TS} {D : Ends} {σ : L2.St} {H : Hp} (Pj : L2.St → Hp → Prop) (hr : ∀ σ' H', Pj σ' H' → D.nx σ' H') (h : (∀ σ' H', Pj σ' H' → D.nx σ' H') → tIfS c t u D σ H) : tIfS c t u D σ H := h hr
theorem nxt {t u : TS} {D D' : Ends} {σ : L2.St} {H : Hp} (e : D'.nx = tSeq t u D) (h : t { D with nx := u D } σ H) : tNext D' σ H := by
  show D'.nx σ H
  rw [e]; exact h
theorem slice_mid {a : List Nat} {i j : Int} (h0 : 0 ≤ i) (h1 : i ≤ j) (h2 : j ≤ (a.length : Int)) : Txt.slice (S a) (some i) (some j) = S ((a.drop i.toNat).take (j - i).toNat) :=
  beq_iff_eq.mp (PyProof.Rows.slice_closesL (x := S a) h0 h1 (by rw [S_len]; exact h2))
theorem rg60 (m : Nat) (hm : m ≤ 1000) : RgC 0 ((60 * m : Nat) : Int) 60 m := by
  refine ⟨by decide, by decide, ?_, ?_⟩
  · have key : ∀ x : Int, 0 ≤ x → x ≤ 100000 → Builtin.Range.rangeFitsLong x = true := fun x h0 h1 => by
      unfold Builtin.Range.rangeFitsLong
      rw [decide_eq_true (show -(2 ^ 63) ≤ x by omega), decide_eq_true (show x < 2 ^ 63 by omega)]; rfl
    have size : Builtin.Range.rangeSize 0 ((60 * m : Nat) : Int) 60 = (m : Int) := by
      unfold Builtin.Range.rangeSize
      rw [if_pos (show (60 : Int) > 0 by decide)]
      split <;> omega
    unfold Builtin.Range.small
    rw [size, if_pos (show (60 : Int) > 0 by decide), key 0 (by omega) (by omega), key _ (by omega) (by omega), key 60 (by omega) (by omega), key _ (by omega) (by omega), key _ (by omega) (by omega)]
    simp
  · unfold Builtin.Range.rangeSize
    rw [if_pos (show (60 : Int) > 0 by decide)]
    split <;> omega
structure TxtN (mg : Str → Option Value) : Prop extends Txt mg where
  c_PF : ∃ t, mg "PIECE_FIGURES" = some (.int 60 t)
  c_PW : ∃ t, mg "PIECE_WORTH" = some (.int (10 ^ 60) t)
def TextOk (x : V) : Prop := ∀ z, x = .str z → ∃ cs, z = S cs ∧ (∀ c ∈ cs, c < 128) ∧ cs.length ≤ 5000
def intV : V → Option Int
  | .str z => intOf z.cps.toList
  | _ => none
def spIntOf (K : PySem.W.Frag) : Sp := fun vs H Q _ => ∃ x, vs = [x] ∧ Anyv K H x ∧ TextOk x ∧ Q (optV (intV x)) H
section
variable {P : Program} {w : World} {K : PySem.W.Frag} {mg : Str → Option Value} {base : Heap}
theorem scIntOf : FnScope ["word", "figures", "filled", "worth", "at"] ["word"] (C8.fnScope sIntOf) := C8.fnScope_by (by decide +kernel)
theorem cal_intof {f : Addr} {fd : FuncData} (F : C8.Def K mg "integer_of" sIntOf f fd) (b : Binds K fd ["word"] []) (T : TxtN mg) : C8.Cal P w K mg base 1 "integer_of" (spIntOf K) [] := by
  refine C8.cal0 F b .nil scIntOf (fun vs H Q E h => ?_) (fun cdv A outer st H vs Q E hr h => ?_)
  · obtain ⟨x, rfl, _⟩ := h
    rfl
  · obtain ⟨x, rfl, a, ok, k⟩ := h
    obtain ⟨t1, hPF⟩ := T.c_PF
    obtain ⟨t2, hPW⟩ := T.c_PW
    refine ⟨_, (pss_cons (ps_if (pt_not (pt_val (pe_callB call_isz (by rfl) T.n_isinstance (by decide +kernel) (pa_cons (pv 0) (pa_cons (pe_bltn (v := .ty "str") (by rfl) T.n_str (by decide +kernel) rfl) pa_nil))))) (pss_one (ps_ret pe_non)) pss_nil)
  (pss_cons (ps_set (i := 1) scIntOf.nd rfl (Or.inl rfl) (pe_m1 PySem.F.slot_str_removeprefix PySem.F.type_str_removeprefix mt_removeprefix (pv 0) pe_str))
  (pss_cons (ps_if (PW.pt (pw_or (pt_not (pt_val (pe_m0 PySem.F.slot_str_isascii PySem.F.type_str_isascii mt_isascii (pv 1)))) (pw_or1 (pt_not (pt_val (pe_m0 PySem.F.slot_str_isdigit PySem.F.type_str_isdigit mt_isdigit (pv 1))))))) (pss_one (ps_ret pe_non)) pss_nil)
  (pss_cons (ps_if (PW.pt (pw_and (pt_val (pe_m1 PySem.F.slot_str_startswith PySem.F.type_str_startswith mt_startswith (pv 1) pe_str)) (pw_and1 (pt_cmpR op_ne (pv 0) pe_str (nomark _))))) (pss_one (ps_ret pe_non)) pss_nil)
  (pss_cons (ps_set (i := 2) scIntOf.nd rfl (Or.inl rfl) (pe_op op_add_str (pe_op op_mulS pe_str (pe_op op_modN (pe_un un_neg (pe_callB call_len_str (by rfl) T.n_len (by decide +kernel) (pa_cons (pv 1) pa_nil))) (pe_glob (v := .int 60) rfl hPF ⟨_, rfl⟩))) (pv 1)))
  (pss_cons (ps_set (i := 3) scIntOf.nd rfl (Or.inl rfl) pe_int)
  (pss_cons (ps_for PassesOwn.never rfl (pi_range3 (by rfl) T.n_range (pa_cons pe_int (pa_cons (pe_callB call_len_str (by rfl) T.n_len (by decide +kernel) (pa_cons (pv 2) pa_nil)) (pa_cons (pe_glob (v := .int 60) rfl hPF ⟨_, rfl⟩) pa_nil)))) (pg_name (i := 4) scIntOf.nd rfl (Or.inl rfl)) (pss_one (ps_set (i := 3) scIntOf.nd rfl (Or.inl rfl) (pe_op op_add (pe_op op_mulW (pv 3) (pe_glob (v := .int (10 ^ 60)) rfl hPW ⟨_, rfl⟩)) (pe_callTy call_int_str (by rfl) T.n_int (by decide +kernel) (pa_cons (pe_slice C8.sl_txt (pv 2) (po_some (pv 4)) (po_some (pe_op op_add (pv 4) (pe_glob (v := .int 60) rfl hPF ⟨_, rfl⟩)))) pa_nil))))))
  (pss_one (ps_ret (pe_ifExp (pt_val (pe_m1 PySem.F.slot_str_startswith PySem.F.type_str_startswith mt_startswith (pv 0) pe_str)) (pe_un un_neg (pv 3)) (pv 3))))))))))), ?_⟩
    refine ⟨_, rfl, ?_⟩
    dsimp only [tCons, tC, tNil]
    refine isz_str a ⟨_, rfl, ?_⟩
    cases a with
    | str z =>
      obtain ⟨cs, rfl, h128, hlen⟩ := ok z rfl
      refine iteF ?_
      have hl : (S cs).length ≤ sizeLine := by rw [S_len]; exact Nat.le_trans hlen (by decide)
      have f128 : ∀ c ∈ figs cs, c < 128 := fun c hc => h128 c (figs_sub hc)
      have flen : (figs cs).length ≤ 5000 := Nat.le_trans (figs_len cs) hlen
      refine ⟨_, rfl, ⟨_, rfl⟩, _, _, rfl, rfl, hl, ?_⟩
      rw [show (Str.ofString "-") = S [45] from rfl, rm_minus]
      refine ⟨_, rfl, ⟨_, rfl⟩, _, rfl, rfl, trivial, _, rfl, ?_⟩
      rw [ascii_S f128]
      refine iteF ⟨_, rfl, ⟨_, rfl⟩, _, rfl, rfl, trivial, _, rfl, ?_⟩
      rw [isdigit_S f128]
      have kk : ∀ o : Option Int, o = intOf cs → Q (optV o) H := fun o e => by rw [e]; exact k
      cases hd : digB (figs cs) with
      | false =>
        refine iteT (kk none ?_)
        unfold intOf
        rw [hd]; rfl
      | true =>
        refine iteF ?_
        obtain ⟨hall, hne⟩ := digB_all hd
        obtain ⟨f, fr, hfig⟩ : ∃ f fr, figs cs = f :: fr := by
          cases e : figs cs with
          | nil => exact absurd e hne
          | cons f fr => exact ⟨f, fr, rfl⟩
        have bad : ¬ ((figs cs).head? = some 48 ∧ cs ≠ [48]) → ∀ o : Option Int, (o = if cs.head? = some 45 then some (-((digitsVal (figs cs) : Nat) : Int)) else some ((digitsVal (figs cs) : Nat) : Int)) → Q (optV o) H := fun hb o e => by
          refine kk o ?_
          unfold intOf
          rw [if_pos hd, if_neg hb]; exact e
        have s0 : Str.ofString "0" = S [48] := rfl
        dsimp only [tNext, tSeq]
        refine join_ifS (fun σ' H' => σ' = [some (.str (S cs)), some (.str (S (figs cs))), none, none, none] ∧ H' = H ∧ ¬ ((figs cs).head? = some 48 ∧ cs ≠ [48])) ?rest (fun go => ?_)
        case rest =>
          rintro σ' H' ⟨rfl, rfl, hb⟩
          have fl : ((S (figs cs)).length : Int) = ((figs cs).length : Int) := by rw [S_len]
          obtain ⟨pad, hpad⟩ : ∃ pad : Nat, Int.fmod (-((S (figs cs)).length : Int)) 60 = (pad : Int) := ⟨(Int.fmod (-((S (figs cs)).length : Int)) 60).toNat, by have := fm0 (a := -((S (figs cs)).length : Int)) (d := 60) (by decide); omega⟩
          have hpad' : (-((figs cs).length : Int)) % 60 = (pad : Int) := by rw [← fl, ← hpad, Int.fmod_eq_emod_of_nonneg _ (by decide)]
          obtain ⟨m, hm⟩ : ∃ m : Nat, pad + (figs cs).length = 60 * m := ⟨(pad + (figs cs).length) / 60, by omega⟩
          have hfl : (S (figs cs)).length ≤ sizeLine := by rw [S_len]; exact Nat.le_trans flen (by decide)
          refine ⟨_, rfl, _, rfl, hfl, _, rfl, _, _, rfl, rfl, (by show ¬ (_ = _); decide), [48], _, s0 ▸ rfl, rfl, ?_⟩
          rw [hpad]
          have pl : pad < 60 := by omega
          have ez : (List.replicate ((pad : Int).toNat) [48]).flatten = List.replicate pad 48 := by
            rw [Int.toNat_natCast]
            induction pad with
            | zero => rfl
            | succ p ih => rw [List.replicate_succ, List.flatten_cons, List.replicate_succ]; simp
          rw [ez]
          obtain ⟨fill, hfill⟩ : ∃ fill, fill = List.replicate pad 48 ++ figs cs := ⟨_, rfl⟩
          have flenF : fill.length = 60 * m := by rw [hfill, List.length_append, List.length_replicate]; exact hm
          have allF : AllDigits fill := by rw [hfill]; exact AllDigits.app (all_zeros pad) hall
          have valF : digitsVal fill = digitsVal (figs cs) := by rw [hfill, val_app, val_zeros, Nat.zero_mul, Nat.zero_add]
          have hm60 : m ≤ 90 := by omega
          have lF : (S fill).length ≤ sizeLine := by rw [S_len, flenF]; exact Nat.le_trans (show 60 * m ≤ 5400 by omega) (by decide)
          refine ⟨by omega, by omega, by decide, _, rfl, _, _, rfl, rfl, ?_, ?_⟩
          · rw [S_len, S_len, List.length_replicate]; exact Nat.le_trans (show pad + (figs cs).length ≤ 5400 by omega) (by decide)
          rw [S_cat, ← hfill]
          refine ⟨_, rfl, _, rfl, lF, 0, _, 60, m, rfl, ?_, for_rangeC (fun i σ' H2 => ∃ at_, σ' = [some (V.str (S cs)), some (V.str (S (figs cs))), some (V.str (S fill)), some (V.int ((digitsVal (fill.take (60 * i)) : Nat) : Int)), at_] ∧ H2 = H') ⟨none, rfl, rfl⟩ ?_ ?_⟩
          · rw [show ((S fill).length : Int) = ((60 * m : Nat) : Int) by rw [S_len, flenF]]
            exact rg60 m (by omega)
          · rintro i σ' H2 hi ⟨at_, rfl, rfl⟩
            have h60 : 60 * i + 60 ≤ 60 * m := by omega
            have sl : Txt.slice (S fill) (some (0 + ((i : Nat) : Int) * 60)) (some (0 + ((i : Nat) : Int) * 60 + 60)) = S ((fill.drop (60 * i)).take 60) := by
              rw [slice_mid (by omega) (by omega) (by rw [flenF]; omega)]
              rw [show (0 + ((i : Nat) : Int) * 60).toNat = 60 * i by omega, show (0 + ((i : Nat) : Int) * 60 + 60 - (0 + ((i : Nat) : Int) * 60)).toNat = 60 by omega]
            have cl : ((fill.drop (60 * i)).take 60).length = 60 := by rw [List.length_take, List.length_drop, flenF]; omega
            have cd : AllDigits ((fill.drop (60 * i)).take 60) := fun c hc => allF c (List.mem_of_mem_drop (List.mem_of_mem_take hc))
            have tk : fill.take (60 * (i + 1)) = fill.take (60 * i) ++ (fill.drop (60 * i)).take 60 := by rw [Nat.mul_succ, List.take_add]
            have td : AllDigits (fill.take (60 * i)) := fun c hc => allF c (List.mem_of_mem_take hc)
            have tl : (fill.take (60 * i)).length = 60 * i := by rw [List.length_take, flenF]; omega
            have big : (((digitsVal (fill.take (60 * i)) : Nat) : Int)).natAbs < 2 ^ (4 * (60 * i) + 1) := by
              have h1 := val_lt _ td
              rw [tl] at h1
              have h2 := ten_two (60 * i)
              have h3 : (2 : Nat) ^ (4 * (60 * i)) < 2 ^ (4 * (60 * i) + 1) := Nat.pow_lt_pow_right (by decide) (by omega)
              rw [Int.natAbs_natCast]
              omega
            refine ⟨_, rfl, _, _, rfl, rfl, wide_mul big (show ((10 : Int) ^ 60).natAbs < 2 ^ 240 by decide) (by omega) (by decide) (by omega), ?_⟩
            have hint : intText? (Txt.slice (S fill) (some (0 + ((i : Nat) : Int) * 60)) (some (0 + ((i : Nat) : Int) * 60 + 60))) = some ((digitsVal ((fill.drop (60 * i)).take 60) : Nat) : Int) := by
              rw [sl]
              exact intText_digits (x := S ((fill.drop (60 * i)).take 60)) cd (fun e => by rw [show (fill.drop (60 * i)).take 60 = [] from e] at cl; exact absurd cl (by decide)) (by rw [S_len, cl]; decide)
            have hsl : (Txt.slice (S fill) (some (0 + ((i : Nat) : Int) * 60)) (some (0 + ((i : Nat) : Int) * 60 + 60))).length ≤ 640 := by rw [sl, S_len, cl]; decide
            have val : ((digitsVal (fill.take (60 * i)) : Nat) : Int) * 10 ^ 60 + ((digitsVal ((fill.drop (60 * i)).take 60) : Nat) : Int) = ((digitsVal (fill.take (60 * (i + 1))) : Nat) : Int) := by
              rw [tk, val_app, cl]
              rw [Int.natCast_add, Int.natCast_mul, Int.natCast_pow]; rfl
            refine ⟨_, rfl, ⟨_, rfl, _, rfl, ⟨_, rfl, _, _, rfl, rfl, _, rfl, _, rfl, lF, _, _, rfl, hint, hsl, _, _, rfl, rfl, some (V.int (0 + ((i : Nat) : Int) * 60)), ?_, rfl⟩⟩⟩
            rw [← val]; rfl
          · rintro σ' H2 ⟨at_, rfl, rfl⟩
            have full : fill.take (60 * m) = fill := List.take_of_length_le (by omega)
            rw [full, valF]
            refine ⟨_, rfl, ⟨_, rfl⟩, _, _, rfl, rfl, _, rfl, ?_⟩
            obtain ⟨c, r, hcs⟩ : ∃ c r, cs = c :: r := by
              cases e : cs with
              | nil => rw [e] at hfig; cases hfig
              | cons c r => exact ⟨c, r, rfl⟩
            have esw : Txt.startswith (S cs) (S [45]) = decide (c = 45) := by rw [hcs]; exact sw_head c 45 r
            rw [esw]
            refine ite2 (fun c2 => ?_) (fun c2 => ?_)
            · have e2 : c = 45 := of_decide_eq_true c2
              refine ⟨_, rfl, _, rfl, bad hb (some (-((digitsVal (figs cs) : Nat) : Int))) ?_⟩
              rw [if_pos (show cs.head? = some 45 by rw [hcs, e2]; rfl)]
            · have e2 : c ≠ 45 := of_decide_eq_false (Bool.eq_false_iff.mpr c2)
              refine ⟨_, rfl, bad hb (some ((digitsVal (figs cs) : Nat) : Int)) ?_⟩
              rw [if_neg (show ¬ cs.head? = some 45 by rw [hcs]; exact fun z => e2 (Option.some.inj z))]
        refine ⟨_, rfl, ⟨_, rfl⟩, _, _, rfl, rfl, _, rfl, ?_⟩
        rw [hfig, s0, sw_head]
        refine ite2 (fun c0 => ?_) (fun c0 => ?_)
        · refine ⟨_, rfl, rfl, _, rfl, ite2 (fun c1 => ?_) (fun c1 => ?_)⟩
          · refine kk none ?_
            unfold intOf
            rw [if_pos hd, if_pos]
            refine ⟨by rw [hfig, of_decide_eq_true c0]; rfl, fun e => ?_⟩
            rw [e] at c1
            exact absurd c1 (by decide)
          · refine go _ _ ⟨by rw [hfig]; rfl, rfl, fun hb => hb.2 ?_⟩
            have e : V.str (S cs) = V.str (S [48]) := by simpa using c1
            exact S_inj (V.str.inj e)
        · refine iteF (go _ _ ⟨by rw [hfig]; rfl, rfl, fun hb => ?_⟩)
          rw [hfig] at hb
          have e : f = 48 := Option.some.inj hb.1
          exact c0 (decide_eq_true e)
    | int i => exact iteT k
    | bl b => exact iteT k
    | non => exact iteT k
    | obj h h1 h2 h3 => exact iteT k
end
end Lw
namespace Lw
open PySem PySem.Spec PyProof.Rows L2
open SX PySem.NumText TL
abbrev sNumOf : Stmt := top 18
theorem dig_back : ∀ cs : List Nat, AllDigits cs → (cs.map Char.ofNat).map Char.toNat = cs
  | [], _ => rfl
  | c :: r, h => by
    have h1 := h c List.mem_cons_self
    have e : (Char.ofNat c).toNat = c := by
      have k : ∀ d : Nat, d < 58 → (Char.ofNat d).toNat = d := by decide
      exact k c (by omega)
    rw [List.map_cons, List.map_cons, e, dig_back r fun d hd => h d (List.mem_cons_of_mem _ hd)]
theorem num_back {c : Nat} {r : List Nat} (h : AllDigits (c :: r)) (hc : 49 ≤ c ∨ r = []) : numL (digitsVal (c :: r)) = c :: r := by
  unfold numL
  rw [toDigits_digitsVal r.length (c :: r) rfl h (hc.elim (fun h => .inr ⟨c, r, rfl, h⟩) fun e => .inl (by rw [e]; rfl)), dig_back _ h]
theorem num_head : ∀ n : Nat, 0 < n → ∃ c r, numL n = c :: r ∧ 49 ≤ c := by
  intro n
  induction n using Nat.strongRecOn with
  | _ n ih =>
    intro h0
    by_cases h : n < 10
    · exact ⟨48 + n, [], numL_lt h, by omega⟩
    · obtain ⟨c, r, e, hc⟩ := ih (n / 10) (by omega) (by omega)
      exact ⟨c, r ++ [48 + n % 10], by rw [numL_step (by omega), e]; rfl, hc⟩
def numV (x : V) (lo hi : Int) : Option Int := match intV x with
  | some i => if lo ≤ i ∧ i ≤ hi then some i else none
  | none => none
theorem join_any {t : TS} {D : Ends} {σ : L2.St} {H : Hp} (Pj : L2.St → Hp → Prop) (hr : ∀ σ' H', Pj σ' H' → D.nx σ' H') (h : (∀ σ' H', Pj σ' H' → D.nx σ' H') → t D σ H) : t D σ H := h hr
def spNumOf (K : PySem.W.Frag) : Sp := fun vs H Q _ => ∃ x lo hi, vs = [x, .int lo, .int hi] ∧ Anyv K H x ∧ TextOk x ∧ Q (optV (numV x lo hi)) H
section
variable {P : Program} {w : World} {K : PySem.W.Frag} {mg : Str → Option Value} {base : Heap}
theorem scNumOf : FnScope ["word", "least", "most", "value"] ["word", "least", "most"] (C8.fnScope sNumOf) := C8.fnScope_by (by decide +kernel)
theorem fn_numof {f : Addr} {fd : FuncData} (F : C8.Def K mg "number_of" sNumOf f fd) (DI : C8.Cal P w K mg base 1 "integer_of" (spIntOf K) []) (DW : C8.Cal P w K mg base 2 "is_within" (spWithin K) []) :
    FnOk P w K mg base C8.CX0 3 f fd ["word", "least", "most"] (spNumOf K) := by
  refine C8.fn0 F.fn scNumOf (fun vs H Q E h => ?_) (fun cdv A outer st H vs Q E hr h => ?_)
  · obtain ⟨x, lo, hi, rfl, _⟩ := h
    rfl
  · obtain ⟨x, lo, hi, rfl, a, ok, k⟩ := h
    refine ⟨_, (pss_cons (ps_set (i := 3) scNumOf.nd rfl (Or.inl rfl) (C8.pe_c DI hr (by decide) (by rfl) (pa_cons (pv 0) pa_nil)))
  (pss_one (ps_ret (pe_ifExp (pt_val (C8.pe_c DW hr (by decide) (by rfl) (pa_cons (pv 3) (pa_cons (pv 1) (pa_cons (pv 2) pa_nil))))) (pv 3) pe_non)))), ?_⟩
    refine ⟨_, rfl, x, rfl, a, ok, ?_⟩
    have av : Anyv K H (optV (intV x)) := by cases intV x with | none => exact .non | some i => exact .int i
    refine ⟨_, rfl, _, rfl, _, rfl, _, _, _, rfl, av, _, rfl, ?_⟩
    unfold numV at k
    cases e : intV x with
    | none =>
      rw [e] at k
      exact iteF k
    | some i =>
      rw [e] at k
      refine ite2 (fun c => ?_) (fun c => ?_)
      · have h2 : lo ≤ i ∧ i ≤ hi := by
          have c' : (decide (lo ≤ i) && decide (i ≤ hi)) = true := c
          rw [Bool.and_eq_true, decide_eq_true_eq, decide_eq_true_eq] at c'
          exact c'
        refine ⟨_, rfl, ?_⟩
        simp only [h2, and_self, if_true] at k
        exact k
      · have h2 : ¬ (lo ≤ i ∧ i ≤ hi) := fun z => c (by
          show (decide (lo ≤ i) && decide (i ≤ hi)) = true
          rw [decide_eq_true z.1, decide_eq_true z.2]; rfl)
        simp only [h2, if_false] at k
        exact k
theorem cal_numof {f : Addr} {fd : FuncData} (F : C8.Def K mg "number_of" sNumOf f fd) (b : Binds K fd ["word", "least", "most"] []) (DI : C8.Cal P w K mg base 1 "integer_of" (spIntOf K) []) (DW : C8.Cal P w K mg base 2 "is_within" (spWithin K) []) :
    C8.Cal P w K mg base 3 "number_of" (spNumOf K) [] :=
  ⟨f, fd, _, [], fn_numof F DI DW, F.mgf, F.kp, b, .nil⟩
end
end Lw
namespace Lw
open PySem PySem.Spec PyProof.Rows L2
open LamX ClX
/-! ### errors of two fields, raised -/
abbrev sTxE : Stmt := inClass (top 11) 0
abbrev sMnE : Stmt := inClass (top 13) 0
/-- what an __init__ that keeps its two arguments promises -/
def spE2 (C : Addr) (f1 f2 : Str) : Sp := fun vs H Q _ => ∃ (a : Addr) (v1 v2 : V), vs = [.ref a, v1, v2] ∧ H a = some (exo a C none) ∧ ∀ dx, H dx = none → dx ≠ a → ∀ fs, fs.lookup f1 = some v1 → fs.lookup f2 = some v2 → Q .non (upd (upd H dx (exd dx fs)) a (exo a C (some dx)))
theorem two_fields {H : Hp} {a C dx : Addr} {f1 f2 : Str} {v1 v2 : V} (ne : dx ≠ a) : upd (upd (upd H dx (exd dx [(f1, v1)])) a (exo a C (some dx))) dx (exd dx [(f2, v2), (f1, v1)]) = upd (upd H dx (exd dx [(f2, v2), (f1, v1)])) a (exo a C (some dx)) := by
  funext b
  by_cases h1 : b = a
  · rw [h1, upd_ne ne.symm, upd_same, upd_same]
  · by_cases h2 : b = dx
    · rw [h2, upd_same, upd_ne ne, upd_same]
    · rw [upd_ne h2, upd_ne h1, upd_ne h2, upd_ne h1, upd_ne h2]
section
variable {P : Program} {w : World} {K : PySem.W.Frag} {mg : Str → Option Value} {base : Heap}
theorem sctxE : FnScope ["self", "line", "word"] ["self", "line", "word"] (C8.fnScope sTxE) := C8.fnScope_by (by decide +kernel)
theorem fn_txE {C f : Addr} {fd : FuncData} (F : C8.Fun K "__init__" "BadText.__init__" sTxE f fd) (T : OexC K C) (no1 : PySem.W.findIn K (.ref C) "line" = some none) (no2 : PySem.W.findIn K (.ref C) "word" = some none) : FnOk P w K mg base C8.CX0 1 f fd ["self", "line", "word"] (spE2 C "line" "word") := by
  refine C8.fn0 F sctxE (fun vs H Q E h => ?_) (fun cdv A outer st H vs Q E hr h => ?_)
  · obtain ⟨a, v1, v2, rfl, _⟩ := h
    rfl
  · obtain ⟨a, v1, v2, rfl, ha, k⟩ := h
    refine ⟨_, pss_cons (ps_ost (pv 0) (pv 1)) (pss_one (ps_ost (pv 0) (pv 2))), ?_⟩
    refine ⟨_, rfl, _, rfl, a, C, rfl, T, no1, .inl ⟨ha, fun dx h1 h2 => ?_⟩⟩
    refine ⟨_, rfl, _, rfl, a, C, rfl, T, no2, .inr ⟨dx, [("line", v1)], upd_same, (by rw [upd_ne h2]; exact upd_same), (by show 1 ≤ 900; decide), ?_⟩⟩
    rw [two_fields h2]
    exact k dx h1 h2 _ (by rw [lookup_put, if_neg (by decide +kernel), lookup_put, if_pos rfl]) (by rw [lookup_put, if_pos rfl])
theorem scmnE : FnScope ["self", "what", "most"] ["self", "what", "most"] (C8.fnScope sMnE) := C8.fnScope_by (by decide +kernel)
theorem fn_mnE {C f : Addr} {fd : FuncData} (F : C8.Fun K "__init__" "TooMany.__init__" sMnE f fd) (T : OexC K C) (no1 : PySem.W.findIn K (.ref C) "what" = some none) (no2 : PySem.W.findIn K (.ref C) "most" = some none) : FnOk P w K mg base C8.CX0 1 f fd ["self", "what", "most"] (spE2 C "what" "most") := by
  refine C8.fn0 F scmnE (fun vs H Q E h => ?_) (fun cdv A outer st H vs Q E hr h => ?_)
  · obtain ⟨a, v1, v2, rfl, _⟩ := h
    rfl
  · obtain ⟨a, v1, v2, rfl, ha, k⟩ := h
    refine ⟨_, pss_cons (ps_ost (pv 0) (pv 1)) (pss_one (ps_ost (pv 0) (pv 2))), ?_⟩
    refine ⟨_, rfl, _, rfl, a, C, rfl, T, no1, .inl ⟨ha, fun dx h1 h2 => ?_⟩⟩
    refine ⟨_, rfl, _, rfl, a, C, rfl, T, no2, .inr ⟨dx, [("what", v1)], upd_same, (by rw [upd_ne h2]; exact upd_same), (by show 1 ≤ 900; decide), ?_⟩⟩
    rw [two_fields h2]
    exact k dx h1 h2 _ (by rw [lookup_put, if_neg (by decide +kernel), lookup_put, if_pos rfl]) (by rw [lookup_put, if_pos rfl])
end
/-- the error's class, ready to be raised -/
structure Err2 (nm f1 f2 : Str) (P : Program) (w : World) (K : PySem.W.Frag) (mg : Str → Option Value) (base : Heap) (D fE : Addr) (fdE : FuncData) : Prop where
  T : OexC K D
  iC : PySem.W.findIn K (.ref D) "__init__" = some (some (.ref fE))
  tI : PySem.W.typeIn K (.ref fE) = some (.type "function")
  F : FnOk P w K mg base C8.CX0 1 fE fdE ["self", f1, f2] (spE2 D f1 f2)
  b : Binds K fdE ["self", f1, f2] []
  hm : mg nm = some (.ref D)
section
variable {X : Cx} {f1 f2 : Str} {C fI : Addr} {fd : FuncData} {W : WX} {j : Nat} {e1 e2 : Expr} {te1 te2 : TE} {p pos pos2 : Pos}
/-- raise X(e1, e2), X such a class -/
def tBad2 (f1 f2 : Str) (C : Addr) (W : WX) (te1 te2 : TE) : TS := fun _ σ H => tMkO C (spE2 C f1 f2) [] (tCons te1 (tCons te2 tNil)) σ H fun cls d H' => W cls d σ H'
theorem ps_bad2 {x : Str} (hc : X.calm = true) (tk : Takes X W) (T : OexC X.K C) (iC : PySem.W.findIn X.K (.ref C) "__init__" = some (some (.ref fI))) (tI : PySem.W.typeIn X.K (.ref fI) = some (.type "function")) (F : FnOk X.prog X.w X.K X.mg X.base C8.CX0 1 fI fd ["self", f1, f2] (spE2 C f1 f2)) (hr : Room (j + 2) X.A) (hb : Binds X.K fd ["self", f1, f2] [])
    (hg : Gl X x) (hm : X.mg x = some (.ref C)) (he1 : PE X e1 te1) (he2 : PE X e2 te2) (hst2 : starEach [e2] X.env = [(false, eval e2 X.env)] := by rfl) (hst : starEach [e1, e2] X.env = (false, eval e1 X.env) :: starEach [e2] X.env := by rfl) (hdb : (x == ("__debug__" : Str)) = false := by decide) (hpl : (backTo pos (starEach [e2] X.env)).any (·.1) = false := by rfl) :
    PS X (.Raise (some (.Call (.Name x p) [e1, e2] [] pos)) none pos2) (tBad2 f1 f2 C W te1 te2) :=
  ps_raise hc tk (pmk_oex T iC tI F (hr.mono (by omega)) hb .nil C8.pass0 hg hm (pa_cons he1 (pa_cons he2 pa_nil hst2) hst) hdb hst hpl)
theorem bad_leaf2 {H1 : Hp} {v1 v2 : V} {Q : XK} (k : ∀ d fs, H1 d = none → fs.lookup f1 = some v1 → fs.lookup f2 = some v2 → Q (.ref C) (some d) (upd H1 d (.xd fs))) :
    ([v1, v2] : List V).length ≤ 1000 ∧ ∀ a, H1 a = none → spE2 C f1 f2 (.ref a :: ([v1, v2] ++ [])) (upd H1 a (exo a C none)) (fun z H2 => z = .non ∧ ∃ (d : Addr) (fs : List (Str × V)), H2 a = some (exo a C (some d)) ∧ H2 d = some (exd d fs) ∧ H1 d = none ∧ Q (.ref C) (some d) (upd (del H2 a) d (.xd fs))) (fun _ _ _ => False) := by
  refine ⟨(by show 2 ≤ 1000; decide), fun a ha => ⟨a, v1, v2, rfl, upd_same, fun dx h1 h2 fs e1 e2 => ?_⟩⟩
  rw [upd_ne h2] at h1
  refine ⟨rfl, dx, fs, upd_same, by rw [upd_ne h2]; exact upd_same, h1, ?_⟩
  have e : upd (del (upd (upd (upd H1 a (exo a C none)) dx (exd dx fs)) a (exo a C (some dx))) a) dx (.xd fs) = upd H1 dx (.xd fs) := by
    funext b
    by_cases q : b = dx
    · rw [q, upd_same, upd_same]
    · rw [upd_ne q, upd_ne q]
      by_cases q2 : b = a
      · rw [q2, del_same, ha]
      · rw [del_ne q2, upd_ne q2, upd_ne q, upd_ne q2]
  rw [e]
  exact k dx fs h1 e1 e2
end
/-! ### a classmethod by keywords -/
section
variable {X : Cx} {CX : CXT} {C p g : Addr} {mc : Value} {k : Nat} {fd : FuncData} {ps ks : List Str} {sp : Sp} {E : XK} {o : Expr} {kws : List Keyword} {m : Str} {pos apos : Pos} {ta : TE} {tkw : TA} {gU : List Value → List Value → List Value} {gV : List V → List V → List V} {pl : Sem Bool}
theorem pe_cmethK (he : PE X o ta) (r : CRead X.K C mc) (c : CMet X.K C mc m p g) (F : FnOk X.prog X.w X.K X.mg X.base CX k g fd ps sp) (hr : Room k X.A) (hb : KBn X.K fd ps 1 ks gU gV) (hx : Passes CX X E) (hkw : PK X kws tkw)
    (hall : (backToKw pos (keywordEach kws X.env)).all (·.1.isSome) = true := by rfl) (hks : (backToKw pos (keywordEach kws X.env)).filterMap (·.1) = ks := by rfl)
    (hpl : ((backTo pos (starEach [] X.env)).any (·.1) || (backToKw pos (keywordEach kws X.env)).any (·.1.isNone)) = false := by rfl)
    (ht : eval (.Call (.Attribute o m apos) [] kws pos) X.env = (do
      let ov ← eval o X.env
      standAt apos.atName
      let (f, first) ← holding [ov] (getMethod ov m pl)
      callWith pos f first (backTo pos (starEach [] X.env)) (backToKw pos (keywordEach kws X.env))) := by rfl) :
    PE X (.Call (.Attribute o m apos) [] kws pos) (fun σ H Q => ta σ H fun x H1 => x = .ref C ∧ tkw σ H1 fun zs H2 => zs.length = ks.length ∧ sp (gV [.ref C] zs) H2 Q E) := by
  refine ⟨fun pins s σ H Q I h => ?_⟩
  refine PySem.W.methodCall_KW (pl := pl) (thn (he.run pins s σ H _ I h) fun u s1 ⟨x, H1, I1, rx, ex, q⟩ => ?_) ht
  subst ex
  obtain rfl : u = Value.ref C := rx
  refine getmethcm_ok I1 r c fun s2 I2 => ?_
  refine PySem.W.callWith_of (P := PySem.W.MethP X.K s1.heap.objs.size g (.ref C)) hpl (PySem.W.keeps_M c.fi) (evalArgs_kw2_nil hall ?_)
  refine thn (hkw.run pos _ s2 σ H1 _ I2 q) fun ws s3 ⟨zs, H2, I3, rz, l2, q2⟩ => ⟨⟨pin_at I3, I3.kIn⟩, ?_⟩
  rw [hks]
  have hl : ws.length = ks.length := rz.length.symm.trans l2
  have z : wpAny (model X.prog X.w) X.A (call (.ref s1.heap.objs.size) [] (ks.zip ws)) (EP X ((s1.heap.objs.size, PySem.W.methodObj (.ref g) (.ref C)) :: pins) σ Q) X.xe s3 := by
    refine wpAny_call (PySem.W.method_call (pin_at I3) ?_)
    have r2 : Vals (gV [.ref C] zs) (gU [.ref C] ws) := hb.rel (.cons rfl .nil) rz
    refine codeAny_mono (F.run X.A X.stack s3 H2 ⟨[.ref C], ks.zip ws⟩ (gU [.ref C] ws) (gV [.ref C] zs) Q E hr I3.env0 (hb.to s3 [.ref C] ws I3.kIn rfl hl) r2 q2) fun r s' hq => ?_
    cases r with
    | error e => exact hx _ σ H2 s3 e s' I3 hq
    | ok fl =>
      cases fl with
      | ret u => exact I3.after hq
      | next => exact False.elim hq
      | brk => exact False.elim hq
      | cont => exact False.elim hq
  exact thn z fun _ _ y => unpinE y
end
end Lw
namespace Lw
open PySem PySem.Spec PyProof.Rows L2

/-! ### the same operators, their methods may raise -/
/-- a method of the class that may raise what E tells -/
structure MetX (P : Program) (w : World) (K : PySem.W.Frag) (mg : Str → Option Value) (base : Heap) (k : Nat) (C : Addr) (m : Str) (sp : Sp) : Prop where
  ex : ∃ (g : Addr) (fd : FuncData) (ps : List Str), Meth K C m g ∧ FnOk P w K mg base (L2.CX P w) k g fd ps sp ∧ Binds K fd ps []
section
variable {X : Cx} {C f : Addr} {k j : Nat} {sp : Sp} {E : XK} {pins : List (Addr × Obj)} {σ : L2.St} {H : Hp} {s : Shared}
theorem run_met {m : Str} {us : List Value} {vs : List V} {Q : VK} (M : MetX X.prog X.w X.K X.mg X.base k C m sp) (hx : Passes (L2.CX X.prog X.w) X E) (hr : Room j X.A) (hk : k ≤ j) (I : Inv X pins σ H s) (r : Vals vs us) (q : sp vs H Q E) :
    ∃ g : Addr, Meth X.K C m g ∧ wpAny (model X.prog X.w) X.A (call (.ref g) us) (PySem.W.CmpBack (EP X pins σ Q)) X.xe s ∧ wpAny (model X.prog X.w) X.A (call (.ref g) us) (EP X pins σ Q) X.xe s := by
  obtain ⟨g, fd, ps, hm, F, b⟩ := M.ex
  have q' : sp (vs ++ []) H Q E := by rw [List.append_nil]; exact q
  have ran := run_fn F (hr.mono hk) b .nil hx I r q'
  refine ⟨g, hm, wpAny_mono ran (fun w s' z => ?_) (fun _ _ x => x), ran⟩
  obtain ⟨z', H', I', rz, qz⟩ := z
  exact SlX.cmpback rz ⟨z', H', I', rz, qz⟩
def rSameX (C : Addr) (sp : Sp) (E : XK) : R2 := fun x y H Q => ∃ a dx fs b dy gs, x = .ref a ∧ y = .ref b ∧ H a = some (.ins C dx fs) ∧ H b = some (.ins C dy gs) ∧ sp [x, y] H Q E
theorem op_sameX {op : Operator} (M : MetX X.prog X.w X.K X.mg X.base k C (PySem.dunder op.info.2) sp) (hx : Passes (L2.CX X.prog X.w) X E) (hc : PySem.W.selfFirst X.K C = true) (hr : Room j X.A) (hk : k ≤ j) : OpR X (binaryOp op) (rSameX C sp E) := by
  intro pins s σ H x y v u Q I rx ry h
  obtain ⟨a, dx, fs, b, dy, gs, rfl, rfl, ha, hb, q⟩ := h
  cases (show v = Value.ref a from rx)
  cases (show u = Value.ref b from ry)
  obtain ⟨_, _, J⟩ := ins_at I ha
  obtain ⟨_, _, J'⟩ := ins_at I hb
  obtain ⟨g, hm, w, _⟩ := run_met (us := [.ref a, .ref b]) (vs := [.ref a, .ref b]) M hx hr hk I (.cons rfl (.cons rfl .nil)) q
  obtain ⟨m, hF⟩ := I.fr
  exact PySem.W.binop_K hF I.ok.mod.kin J J'.type hc hm.at_ hm.fn w
def rBesideX (K : PySem.W.Frag) (C : Addr) (op : Operator) (sp : Sp) (E : XK) : R2 := fun x y H Q => ∃ a dx fs T, x = .ref a ∧ H a = some (.ins C dx fs) ∧ Kind y T ∧ Beside K C op T ∧ sp [x, y] H Q E
theorem op_besideX {op : Operator} (M : MetX X.prog X.w X.K X.mg X.base k C (PySem.dunder op.info.2) sp) (hx : Passes (L2.CX X.prog X.w) X E) (hr : Room j X.A) (hk : k ≤ j) : OpR X (binaryOp op) (rBesideX X.K C op sp E) := by
  intro pins s σ H x y v u Q I rx ry h
  obtain ⟨a, dx, fs, T, rfl, ha, hT, hB, q⟩ := h
  cases (show v = Value.ref a from rx)
  obtain ⟨_, _, J⟩ := ins_at I ha
  obtain ⟨g, hm, w, _⟩ := run_met (us := [.ref a, u]) (vs := [.ref a, y]) M hx hr hk I (.cons rfl (.cons ry .nil)) q
  obtain ⟨m, hF⟩ := I.fr
  obtain ⟨rc, r1, r2⟩ := hB.back
  obtain ⟨fo, f1⟩ := hB.ahead
  obtain ⟨ro, o1⟩ := hB.behind
  exact PySem.W.ksp_binT hF I.ok.mod.kin J (hT.type ry) hB.first hm.at_ hm.fn r1 r2 f1 o1 hB.sub w
def rSignX (C : Addr) (sp : Sp) (E : XK) : V → Hp → VK → Prop := fun x H Q => ∃ a dx fs, x = .ref a ∧ H a = some (.ins C dx fs) ∧ sp [x] H Q E
theorem un_signX (M : MetX X.prog X.w X.K X.mg X.base k C "__neg__" sp) (hx : Passes (L2.CX X.prog X.w) X E) (hr : Room j X.A) (hk : k ≤ j) : UnR X (unaryOp .USub) (rSignX C sp E) := by
  intro pins s σ H x v Q I rx h
  obtain ⟨a, dx, fs, rfl, ha, q⟩ := h
  cases (show v = Value.ref a from rx)
  obtain ⟨_, _, J⟩ := ins_at I ha
  obtain ⟨g, hm, _, w⟩ := run_met (us := [.ref a]) (vs := [.ref a]) M hx hr hk I (.cons rfl .nil) q
  obtain ⟨m, hF⟩ := I.fr
  exact PySem.W.ksp_neg hF I.ok.mod.kin J hm.at_ hm.fn w
end
end Lw
namespace Lw
open PySem PySem.Spec PyProof.Rows L2
open SX PySem.NumText TL LamX
/-! ### the Reader -/
abbrev sRI : Stmt := inClass (top 19) 0
abbrev sRah : Stmt := inClass (top 19) 1
abbrev sRrf : Stmt := inClass (top 19) 2
abbrev sRtk : Stmt := inClass (top 19) 3
abbrev sRex : Stmt := inClass (top 19) 5
abbrev sRmo : Stmt := inClass (top 19) 6
abbrev sRfi : Stmt := inClass (top 19) 7
section
variable {X : Cx} {k j : Nat} {C : Addr} {m : Str} {sp : Sp} {E : XK} {o e : Expr} {es : List Expr} {ta : TE} {t : TA} {pos apos : Pos} {pl : Sem Bool}
/-- a method of an own class, called -/
theorem pe_mx0 (he : PE X o ta) (c : Cls X.K C) (M : MetX X.prog X.w X.K X.mg X.base k C m sp) (hr : Room j X.A) (hk : k ≤ j) (hx : Passes (L2.CX X.prog X.w) X E)
    (ht : eval (.Call (.Attribute o m apos) [] [] pos) X.env = (do
      let ov ← eval o X.env
      standAt apos.atName
      let (f, first) ← holding [ov] (getMethod ov m pl)
      callWith pos f first (backTo pos (starEach [] X.env)) (backToKw pos (keywordEach [] X.env))) := by rfl) :
    PE X (.Call (.Attribute o m apos) [] [] pos) (tMeth C m sp [] E ta tNil) := by
  obtain ⟨g, fd, ps, hm, F, b⟩ := M.ex
  exact pe_meth0 he c hm F (hr.mono hk) b .nil hx ht
theorem pe_mx (he : PE X o ta) (c : Cls X.K C) (M : MetX X.prog X.w X.K X.mg X.base k C m sp) (hr : Room j X.A) (hk : k ≤ j) (hx : Passes (L2.CX X.prog X.w) X E) (ha : PA X (e :: es) t)
    (hst : starEach (e :: es) X.env = (false, eval e X.env) :: starEach es X.env := by rfl) (hpl : (backTo pos (starEach es X.env)).any (·.1) = false := by rfl)
    (ht : eval (.Call (.Attribute o m apos) (e :: es) [] pos) X.env = (do
      let ov ← eval o X.env
      standAt apos.atName
      let (f, first) ← holding [ov] (getMethod ov m pl)
      callWith pos f first (backTo pos (starEach (e :: es) X.env)) (backToKw pos (keywordEach [] X.env))) := by rfl) :
    PE X (.Call (.Attribute o m apos) (e :: es) [] pos) (tMeth C m sp [] E ta t) := by
  obtain ⟨g, fd, ps, hm, F, b⟩ := M.ex
  exact pe_meth he c hm F (hr.mono hk) b .nil hx ha hst hpl ht
end
theorem putF_len (f : Str) (v : V) : ∀ fs : List (Str × V), (putF f v fs).length ≤ fs.length + 1
  | [] => Nat.le_refl _
  | (g, x) :: r => by
    unfold putF
    split
    · simp
    · have := putF_len f v r
      rw [List.length_cons, List.length_cons]
      omega
/-- its attributes -/
def rdF (l : Addr) (n : Int) : List (Str × V) := [("_words", .ref l), ("_row", .int 0), ("_at", .int n)]
theorem rdF_words (l : Addr) (n : Int) : (rdF l n).lookup ("_words" : Str) = some (.ref l) := by unfold rdF; rw [lookup_put, if_pos rfl]
theorem rdF_row (l : Addr) (n : Int) : (rdF l n).lookup ("_row" : Str) = some (.int 0) := by unfold rdF; rw [lookup_put, if_neg (by decide +kernel), lookup_put, if_pos rfl]
theorem rdF_at (l : Addr) (n : Int) : (rdF l n).lookup ("_at" : Str) = some (.int n) := by unfold rdF; rw [lookup_put, if_neg (by decide +kernel), lookup_put, if_neg (by decide +kernel), lookup_put, if_pos rfl]
theorem rdF_no {m : Str} (l : Addr) (n : Int) (h1 : m ≠ "_words") (h2 : m ≠ "_row") (h3 : m ≠ "_at") : (rdF l n).lookup m = none := by unfold rdF; rw [lookup_put, if_neg h1, lookup_put, if_neg h2, lookup_put, if_neg h3]; rfl
theorem rdF_put (l : Addr) (n i : Int) : putF "_at" (.int i) (rdF l n) = rdF l i := by
  unfold rdF putF
  rw [if_neg (by decide +kernel)]
  unfold putF
  rw [if_neg (by decide +kernel)]
  unfold putF
  rw [if_pos rfl]
theorem rdF_new (l : Addr) (n : Int) : putF "_at" (.int n) (putF "_row" (.int 0) (putF "_words" (.ref l) [])) = rdF l n := by
  have e1 : putF "_words" (.ref l) [] = [(("_words" : Str), V.ref l)] := rfl
  have e2 : putF "_row" (.int 0) [(("_words" : Str), V.ref l)] = [(("_words" : Str), V.ref l), (("_row" : Str), V.int 0)] := by
    unfold putF
    rw [if_neg (by decide +kernel)]
    rfl
  rw [e1, e2]
  unfold putF
  rw [if_neg (by decide +kernel)]
  unfold putF
  rw [if_neg (by decide +kernel)]
  rfl
/-- the words of a text -/
def wds (cs : List Nat) : List (List Nat) := TL.spl [32] 0 [] cs
theorem split_wds (cs : List Nat) : Txt.split (S cs) (Str.ofString " ") = (wds cs).map S := split_S (b := [32]) (List.cons_ne_nil _ _) rfl
def wV (ws : List (List Nat)) : List V := (ws.map S).map V.str
def RdAt (R : Addr) (H : Hp) (r l : Addr) (ws : List (List Nat)) (n : Nat) : Prop := (∃ dx, H r = some (.ins R dx (rdF l n))) ∧ H l = some (.lst (wV ws))
theorem RdAt.same {R : Addr} {H H' : Hp} {r l : Addr} {ws : List (List Nat)} {n : Nat} (h : RdAt R H r l ws n) (s : Same H H') : RdAt R H' r l ws n := by
  obtain ⟨⟨dx, h1⟩, h2⟩ := h
  exact ⟨⟨dx, s _ _ h1⟩, s _ _ h2⟩
/-- the word at hand -/
def handV (ws : List (List Nat)) (n : Nat) : V := match ws[n]? with
  | some w => .str (S w)
  | none => .non
/-- all but what stands at r is as it was: Kp. A refusal at word n -/
def Rf (D : Addr) (H : Hp) (E : XK) (n : Nat) : Prop := ∀ d fs H', Same H H' → H' d = none → fs.lookup ("line" : Str) = some (.int 0) → fs.lookup ("word" : Str) = some (.int n) → E (.ref D) (some d) (upd H' d (.xd fs))
def spRI (K : PySem.W.Frag) (R D : Addr) : Sp := fun vs H Q E => ∃ (r dx : Addr) (x : V), vs = [.ref r, x, .int 0] ∧ Anyv K H x ∧ H r = some (.ins R dx []) ∧ (isS x = false → Rf D H E 0) ∧
  ∀ z, x = .str z → ∃ cs, z = S cs ∧ cs.length ≤ 100000 ∧ ∀ l, H l = none → Q .non (upd (upd H l (.lst (wV (wds cs)))) r (.ins R dx (rdF l 0)))
def spRah (R : Addr) : Sp := fun vs H Q _ => ∃ r l ws n, vs = [.ref r] ∧ RdAt R H r l ws n ∧ Q (handV ws n) H
def spRrf (R D : Addr) : Sp := fun vs H _ E => ∃ r l ws n, vs = [.ref r] ∧ RdAt R H r l ws n ∧ Rf D H E n
def spRtk (R D : Addr) : Sp := fun vs H Q E => ∃ r l ws n x, vs = [.ref r, x] ∧ RdAt R H r l ws n ∧ (x = .non → Rf D H E n) ∧ (x ≠ .non → ∀ H', Kp r H H' → RdAt R H' r l ws (n + 1) → Q x H')
def spRex (R : Addr) : Sp := fun vs H Q _ => ∃ r l ws n z, vs = [.ref r, .str z] ∧ RdAt R H r l ws n ∧ handV ws n = .str z ∧ ∀ H', Kp r H H' → RdAt R H' r l ws (n + 1) → Q .non H'
def moreB (ws : List (List Nat)) (n : Nat) : Bool := match ws[n]? with
  | some w => !(decide (w = [47]) || decide (w = [59]))
  | none => false
def spRmo (R : Addr) : Sp := fun vs H Q _ => ∃ r l ws n, vs = [.ref r] ∧ RdAt R H r l ws n ∧ ∀ H', Same H H' → Q (.bl (moreB ws n)) H'
def spRfi (R D : Addr) : Sp := fun vs H Q E => ∃ r l ws n, vs = [.ref r] ∧ RdAt R H r l ws n ∧ (n < ws.length → Rf D H E n) ∧ (ws.length ≤ n → Q .non H)
/-- the Reader's class -/
structure RdC (K : PySem.W.Frag) (R : Addr) : Prop where
  cl : Cls K R
  n1 : NoAttr K R "_words"
  n2 : NoAttr K R "_row"
  n3 : NoAttr K R "_at"
theorem eqV_S (a b : List Nat) : eqV (.str (S a)) (.str (S b)) = decide (b = a) := by
  show (S a == S b) = _
  by_cases h : b = a
  · subst h; simp
  · rw [decide_eq_false h]
    exact beq_eq_false_iff_ne.mpr fun e => h (S_inj e).symm
theorem iteT' {A B : Prop} {c : Bool} (hc : c = true) (h : A) : if c = true then A else B := by rw [if_pos hc]; exact h
theorem iteF' {A B : Prop} {c : Bool} (hc : c = false) (h : B) : if c = true then A else B := by rw [if_neg (by rw [hc]; exact Bool.false_ne_true)]; exact h
section
variable {P : Program} {w : World} {K : PySem.W.Frag} {mg : Str → Option Value} {base : Heap}
theorem scRI : FnScope ["self", "text", "row"] ["self", "text", "row"] (C8.fnScope sRI) := C8.fnScope_by (by decide +kernel)
theorem fn_ri {R D f fE : Addr} {fd fdE : FuncData} (F : C8.Fun K "__init__" "Reader.__init__" sRI f fd) (T : Txt mg) (rc : RdC K R) (ER : Err2 "BadText" "line" "word" P w K mg base D fE fdE) : FnOk P w K mg base (L2.CX P w) 3 f fd ["self", "text", "row"] (spRI K R D) := by
  obtain ⟨oc, od, dV, kV, doc, pm, an, cdv, ct, osl, rfl, lk, hcd⟩ := F.ex
  refine fn_of lk hcd scRI (fun vs H Q E h => ?_) fun A outer s H vs Q E hr h => ?_
  · obtain ⟨r, dx, x, rfl, _⟩ := h
    rfl
  · obtain ⟨r, dx, x, rfl, av, hx, k1, k2⟩ := h
    have tk : Takes (cxOf (L2.CX P w) P w K mg base ["self", "text", "row"] "Reader.__init__" (C8.fnScope sRI) f cdv A outer s H E) (fun cls d _ H' => E cls d H') := takes_of rfl rfl rfl rfl
    refine ⟨_, (pss_cons (ps_if (pt_not (pt_val (pe_callB call_isz (by rfl) T.n_isinstance (by decide +kernel) (pa_cons (pv 1) (pa_cons (pe_bltn (v := .ty "str") (by rfl) T.n_str (by decide +kernel) rfl) pa_nil))))) (pss_one (ps_bad2 (x := "BadText") rfl tk ER.T ER.iC ER.tI ER.F hr ER.b (by rfl) ER.hm pe_int pe_int)) pss_nil)
      (pss_cons (ps_fld (pv 0) (pe_split (pv 1) pe_str) rfl)
      (pss_cons (ps_fld (pv 0) (pv 2) rfl)
      (pss_one (ps_fld (pv 0) pe_int rfl))))), ?_⟩
    refine ⟨_, rfl, ?_⟩
    dsimp only [tCons, tC, tNil]
    refine isz_str av ⟨_, rfl, ?_⟩
    have no : isS x = false → tBad2 "line" "word" D (fun cls d _ H' => E cls d H') (tC (.int 0)) (tC (.int 0)) { nx := fun _ H' => Q .non H', rt := Q } [] H := fun e => by
      exact bad_leaf2 fun d fs hd e1 e2 => k1 e d fs H (Same.refl _) hd e1 e2
    cases av with
    | str z =>
      obtain ⟨cs, rfl, hl, go⟩ := k2 z rfl
      have hs : (S cs).length + 2 ≤ sizeLine := by rw [S_len]; exact Nat.le_trans (Nat.add_le_add_right hl 2) (by decide)
      refine iteF ?_
      refine ⟨_, rfl, ⟨_, rfl⟩, _, _, rfl, rfl, by rfl, hs, fun l fl => ?_⟩
      rw [split_wds]
      have ne : l ≠ r := fun e => by rw [e, hx] at fl; cases fl
      refine ⟨_, rfl, r, R, dx, [], rfl, by rw [upd_ne ne.symm]; exact hx, rc.cl, rc.n1, (by show 0 < 1000; decide), ?_⟩
      refine ⟨_, rfl, _, rfl, r, R, dx, _, rfl, upd_same, rc.cl, rc.n2, (by show 1 < 1000; decide), ?_⟩
      refine ⟨_, rfl, r, R, dx, _, rfl, upd_same, rc.cl, rc.n3, ?_, ?_⟩
      · exact Nat.lt_of_le_of_lt (Nat.le_trans (putF_len _ _ _) (Nat.add_le_add_right (putF_len _ _ _) 1)) (by decide)
      rw [upd_upd, upd_upd, rdF_new]
      exact go l fl
    | int i => exact iteT (no rfl)
    | bl b => exact iteT (no rfl)
    | non => exact iteT (no rfl)
    | obj h h1 h2 h3 => exact iteT (no rfl)
theorem hand_any (K : PySem.W.Frag) (H : Hp) (ws : List (List Nat)) (n : Nat) : Anyv K H (handV ws n) := by
  unfold handV
  cases ws[n]? with
  | none => exact .non
  | some w => exact .str _
theorem scRah : FnScope ["self"] ["self"] (C8.fnScope sRah) := C8.fnScope_by (by decide +kernel)
theorem fn_rah {R f : Addr} {fd : FuncData} (F : C8.Fun K "at_hand" "Reader.at_hand" sRah f fd) (T : Txt mg) (rc : RdC K R) : FnOk P w K mg base (L2.CX P w) 1 f fd ["self"] (spRah R) := by
  obtain ⟨oc, od, dV, kV, doc, pm, an, cdv, ct, osl, rfl, lk, hcd⟩ := F.ex
  refine fn_of lk hcd scRah (fun vs H Q E h => ?_) fun A outer s H vs Q E hr h => ?_
  · obtain ⟨r, l, ws, n, rfl, _⟩ := h
    rfl
  · obtain ⟨r, l, ws, n, rfl, ⟨⟨dx, hr1⟩, hl⟩, k⟩ := h
    refine ⟨_, (pss_one (ps_ret (pe_ifExp (pt_cmpR op_lt (pe_fld (pv 0) rfl) (pe_callB call_len_seq (by rfl) T.n_len (by decide +kernel) (pa_cons (pe_fld (pv 0) rfl) pa_nil)) (nomark _)) (pe_ix ix_list (pe_fld (pv 0) rfl) (pe_fld (pv 0) rfl) (fun _ _ => rfl)) pe_non))), ?_⟩
    refine ⟨_, rfl, r, R, dx, _, _, rfl, hr1, rc.cl, rc.n3, rdF_at l n, _, rfl, r, R, dx, _, _, rfl, hr1, rc.cl, rc.n1, rdF_words l n, l, _, rfl, .inl (SqL.of hl), _, _, rfl, rfl, _, rfl, ite2 (fun c => ?_) (fun c => ?_)⟩
    · have c' := of_decide_eq_true c
      have hlen : (wV ws).length = ws.length := by unfold wV; rw [List.length_map, List.length_map]
      rw [hlen] at c'
      have hn : n < ws.length := by omega
      refine ⟨_, rfl, r, R, dx, _, _, rfl, hr1, rc.cl, rc.n1, rdF_words l n, _, rfl, r, R, dx, _, _, rfl, hr1, rc.cl, rc.n3, rdF_at l n, l, _, _, .str (S ws[n]), rfl, rfl, SqL.of hl, atI_nat (by unfold wV; simp [hn]), ?_⟩
      unfold handV at k
      rw [List.getElem?_eq_getElem hn] at k
      exact k
    · have c' := of_decide_eq_false (Bool.eq_false_iff.mpr c)
      have hlen : (wV ws).length = ws.length := by unfold wV; rw [List.length_map, List.length_map]
      rw [hlen] at c'
      unfold handV at k
      rw [List.getElem?_eq_none (by omega)] at k
      exact k
theorem scRrf : FnScope ["self"] ["self"] (C8.fnScope sRrf) := C8.fnScope_by (by decide +kernel)
theorem fn_rrf {R D f fE : Addr} {fd fdE : FuncData} (F : C8.Fun K "refuse" "Reader.refuse" sRrf f fd) (rc : RdC K R) (ER : Err2 "BadText" "line" "word" P w K mg base D fE fdE) : FnOk P w K mg base (L2.CX P w) 3 f fd ["self"] (spRrf R D) := by
  obtain ⟨oc, od, dV, kV, doc, pm, an, cdv, ct, osl, rfl, lk, hcd⟩ := F.ex
  refine fn_of lk hcd scRrf (fun vs H Q E h => ?_) fun A outer s H vs Q E hr h => ?_
  · obtain ⟨r, l, ws, n, rfl, _⟩ := h
    rfl
  · obtain ⟨r, l, ws, n, rfl, ⟨⟨dx, hr1⟩, hl⟩, k⟩ := h
    have tk : Takes (cxOf (L2.CX P w) P w K mg base ["self"] "Reader.refuse" (C8.fnScope sRrf) f cdv A outer s H E) (fun cls d _ H' => E cls d H') := takes_of rfl rfl rfl rfl
    refine ⟨_, (pss_one (ps_bad2 (x := "BadText") rfl tk ER.T ER.iC ER.tI ER.F hr ER.b (by rfl) ER.hm (pe_fld (pv 0) rfl) (pe_fld (pv 0) rfl))), ?_⟩
    refine ⟨_, rfl, r, R, dx, _, _, rfl, hr1, rc.cl, rc.n2, rdF_row l n, _, rfl, r, R, dx, _, _, rfl, hr1, rc.cl, rc.n3, rdF_at l n, ?_⟩
    exact bad_leaf2 fun d fs hd e1 e2 => k d fs H (Same.refl _) hd e1 e2
theorem scRtk : FnScope ["self", "worth"] ["self", "worth"] (C8.fnScope sRtk) := C8.fnScope_by (by decide +kernel)
theorem fn_rtk {R D f : Addr} {fd : FuncData} (F : C8.Fun K "take" "Reader.take" sRtk f fd) (rc : RdC K R) (MR : MetX P w K mg base 3 R "refuse" (spRrf R D)) : FnOk P w K mg base (L2.CX P w) 5 f fd ["self", "worth"] (spRtk R D) := by
  obtain ⟨oc, od, dV, kV, doc, pm, an, cdv, ct, osl, rfl, lk, hcd⟩ := F.ex
  refine fn_of lk hcd scRtk (fun vs H Q E h => ?_) fun A outer s H vs Q E hr h => ?_
  · obtain ⟨r, l, ws, n, x, rfl, _⟩ := h
    rfl
  · obtain ⟨r, l, ws, n, x, rfl, at_, k1, k2⟩ := h
    obtain ⟨⟨dx, hr1⟩, hl⟩ := id at_
    refine ⟨_, (pss_cons (ps_if (pt_cmpR op_isN (pv 1) pe_non (nomark _)) (pss_one (ps_expr (pe_mx0 (pv 0) rc.cl MR hr (by decide) (passes_call (takes_of rfl rfl rfl rfl) (fun _ _ _ _ z => z))))) pss_nil)
      (pss_cons (ps_fldaug (pv 0) pe_int in_add)
      (pss_one (ps_ret (pv 1))))), ?_⟩
    refine ⟨_, rfl, rfl, _, rfl, ite2 (fun c => ?_) (fun c => ?_)⟩
    · exact ⟨_, rfl, r, dx, _, rfl, hr1, rdF_no l n (by decide +kernel) (by decide +kernel) (by decide +kernel), r, l, ws, n, rfl, at_, k1 (of_decide_eq_true c)⟩
    · have nx : x ≠ .non := of_decide_eq_false (Bool.eq_false_iff.mpr c)
      refine ⟨_, rfl, r, R, dx, _, _, rfl, hr1, rc.cl, rc.n3, rdF_at l n, ?_⟩
      refine ⟨_, _, rfl, rfl, dx, _, hr1, (by show 3 < 1000; decide), ?_⟩
      rw [rdF_put]
      have nl : l ≠ r := fun e => by rw [e, hr1] at hl; cases hl
      refine ⟨_, rfl, k2 nx _ (fun b o hb e => by rw [upd_ne hb]; exact e) ⟨⟨dx, ?_⟩, by rw [upd_ne nl]; exact hl⟩⟩
      rw [upd_same]
      rfl
theorem scRex : FnScope ["self", "sign"] ["self", "sign"] (C8.fnScope sRex) := C8.fnScope_by (by decide +kernel)
theorem fn_rex {R D f : Addr} {fd : FuncData} (F : C8.Fun K "expect" "Reader.expect" sRex f fd) (rc : RdC K R) (MA : MetX P w K mg base 1 R "at_hand" (spRah R)) (MT : MetX P w K mg base 5 R "take" (spRtk R D)) : FnOk P w K mg base (L2.CX P w) 7 f fd ["self", "sign"] (spRex R) := by
  obtain ⟨oc, od, dV, kV, doc, pm, an, cdv, ct, osl, rfl, lk, hcd⟩ := F.ex
  refine fn_of lk hcd scRex (fun vs H Q E h => ?_) fun A outer s H vs Q E hr h => ?_
  · obtain ⟨r, l, ws, n, z, rfl, _⟩ := h
    rfl
  · obtain ⟨r, l, ws, n, z, rfl, at_, hz, k⟩ := h
    obtain ⟨⟨dx, hr1⟩, hl⟩ := id at_
    refine ⟨_, (pss_one (ps_expr (pe_mx (E := C8.E0) (pv 0) rc.cl MT hr (by decide) (passes_call takes0 (fun _ _ _ _ z => z)) (pa_cons (pe_ifExp (pt_cmpR op_eq (pe_mx0 (E := C8.E0) (pv 0) rc.cl MA hr (by decide) (passes_call takes0 (fun _ _ _ _ z => z))) (pv 1) (nomark _)) (pv 1) pe_non) pa_nil)))), ?_⟩
    refine ⟨_, rfl, r, dx, _, rfl, hr1, rdF_no l n (by decide +kernel) (by decide +kernel) (by decide +kernel), ?_⟩
    refine ⟨_, rfl, r, dx, _, rfl, hr1, rdF_no l n (by decide +kernel) (by decide +kernel) (by decide +kernel), r, l, ws, n, rfl, at_, ?_⟩
    rw [hz]
    refine ⟨_, rfl, rfl, _, rfl, iteT' (by simp) ?_⟩
    exact ⟨_, rfl, r, l, ws, n, _, rfl, at_, (fun e => by cases e), fun _ H' k1 a1 => k H' k1 a1⟩
theorem scRmo : FnScope ["self"] ["self"] (C8.fnScope sRmo) := C8.fnScope_by (by decide +kernel)
theorem fn_rmo {R f : Addr} {fd : FuncData} (F : C8.Fun K "more" "Reader.more" sRmo f fd) (rc : RdC K R) (MA : MetX P w K mg base 1 R "at_hand" (spRah R)) : FnOk P w K mg base (L2.CX P w) 3 f fd ["self"] (spRmo R) := by
  obtain ⟨oc, od, dV, kV, doc, pm, an, cdv, ct, osl, rfl, lk, hcd⟩ := F.ex
  refine fn_of lk hcd scRmo (fun vs H Q E h => ?_) fun A outer s H vs Q E hr h => ?_
  · obtain ⟨r, l, ws, n, rfl, _⟩ := h
    rfl
  · obtain ⟨r, l, ws, n, rfl, at_, k⟩ := h
    obtain ⟨⟨dx, hr1⟩, hl⟩ := id at_
    refine ⟨_, (pss_one (ps_ret (pe_cmpR op_notIn_seq (pe_mx0 (E := C8.E0) (pv 0) rc.cl MA hr (by decide) (passes_call takes0 (fun _ _ _ _ z => z))) (pe_tup (pa_cons pe_non (pa_cons pe_str (pa_cons pe_str pa_nil)))) (by rfl)))), ?_⟩
    refine ⟨_, rfl, r, dx, _, rfl, hr1, rdF_no l n (by decide +kernel) (by decide +kernel) (by decide +kernel), r, l, ws, n, rfl, at_, ?_⟩
    refine ⟨(by show 3 ≤ sizeLine; decide), fun q hq => ?_⟩
    refine ⟨q, _, rfl, .inr (SqT.of upd_same), by unfold handV; cases ws[n]? <;> rfl, rfl, ?_⟩
    have e : (!inV (handV ws n) [V.non, .str (Str.ofString "/"), .str (Str.ofString ";")]) = moreB ws n := by
      unfold handV moreB
      cases ws[n]? with
      | none => rfl
      | some w =>
        show (!(eqV .non (.str (S w)) || (eqV (.str (Str.ofString "/")) (.str (S w)) || (eqV (.str (Str.ofString ";")) (.str (S w)) || false)))) = _
        have e1 : eqV (.str (Str.ofString "/")) (.str (S w)) = decide (w = [47]) := eqV_S [47] w
        have e2 : eqV (.str (Str.ofString ";")) (.str (S w)) = decide (w = [59]) := eqV_S [59] w
        rw [e1, e2, Bool.or_false]
        rfl
    have := k _ (same_new (o := HO.tup [V.non, .str (Str.ofString "/"), .str (Str.ofString ";")]) hq)
    rw [← e] at this
    exact this
theorem scRfi : FnScope ["self"] ["self"] (C8.fnScope sRfi) := C8.fnScope_by (by decide +kernel)
theorem fn_rfi {R D f : Addr} {fd : FuncData} (F : C8.Fun K "finish" "Reader.finish" sRfi f fd) (T : Txt mg) (rc : RdC K R) (MR : MetX P w K mg base 3 R "refuse" (spRrf R D)) : FnOk P w K mg base (L2.CX P w) 5 f fd ["self"] (spRfi R D) := by
  obtain ⟨oc, od, dV, kV, doc, pm, an, cdv, ct, osl, rfl, lk, hcd⟩ := F.ex
  refine fn_of lk hcd scRfi (fun vs H Q E h => ?_) fun A outer s H vs Q E hr h => ?_
  · obtain ⟨r, l, ws, n, rfl, _⟩ := h
    rfl
  · obtain ⟨r, l, ws, n, rfl, at_, k1, k2⟩ := h
    obtain ⟨⟨dx, hr1⟩, hl⟩ := id at_
    refine ⟨_, (pss_one (ps_if (pt_cmpR op_lt (pe_fld (pv 0) rfl) (pe_callB call_len_seq (by rfl) T.n_len (by decide +kernel) (pa_cons (pe_fld (pv 0) rfl) pa_nil)) (nomark _)) (pss_one (ps_expr (pe_mx0 (pv 0) rc.cl MR hr (by decide) (passes_call (takes_of rfl rfl rfl rfl) (fun _ _ _ _ z => z))))) pss_nil)), ?_⟩
    have hlen : (wV ws).length = ws.length := by unfold wV; rw [List.length_map, List.length_map]
    refine ⟨_, rfl, r, R, dx, _, _, rfl, hr1, rc.cl, rc.n3, rdF_at l n, _, rfl, r, R, dx, _, _, rfl, hr1, rc.cl, rc.n1, rdF_words l n, l, _, rfl, .inl (SqL.of hl), _, _, rfl, rfl, _, rfl, ite2 (fun c => ?_) (fun c => ?_)⟩
    · have c' := of_decide_eq_true c
      rw [hlen] at c'
      exact ⟨_, rfl, r, dx, _, rfl, hr1, rdF_no l n (by decide +kernel) (by decide +kernel) (by decide +kernel), r, l, ws, n, rfl, at_, k1 (by omega)⟩
    · have c' := of_decide_eq_false (Bool.eq_false_iff.mpr c)
      rw [hlen] at c'
      exact k2 (by omega)
end
end Lw
namespace Lw
open PySem PySem.Spec PyProof.Rows L2
open SX PySem.NumText TL LamX
abbrev sRW : Stmt := top 20
abbrev sRS : Stmt := top 25
/-! ### the sizes ahead of the first word that is none -/
def szO (w : List Nat) : Option Int := numV (.str (S w)) 1 (10 ^ 30)
def szI (w : List Nat) : Int := (szO w).getD 0
def lead (ws : List (List Nat)) : Nat := (ws.takeWhile fun w => (szO w).isSome).length
theorem lead_le (ws : List (List Nat)) : lead ws ≤ ws.length := (List.takeWhile_sublist _).length_le
theorem lead_lt : ∀ {ws : List (List Nat)} {i : Nat}, i < lead ws → ∃ w v, ws[i]? = some w ∧ szO w = some v
  | [], i, h => by unfold lead at h; simp at h
  | w :: r, i, h => by
    unfold lead at h
    rw [List.takeWhile_cons] at h
    split at h
    · rename_i hw
      cases i with
      | zero =>
        obtain ⟨v, hv⟩ := Option.isSome_iff_exists.mp hw
        exact ⟨w, v, rfl, hv⟩
      | succ i =>
        rw [List.length_cons] at h
        obtain ⟨w', v, h1, h2⟩ := lead_lt (ws := r) (i := i) (by unfold lead; omega)
        exact ⟨w', v, by simpa using h1, h2⟩
    · simp at h
theorem lead_at : ∀ {ws : List (List Nat)} {w : List Nat}, ws[lead ws]? = some w → szO w = none
  | [], w, h => by simp at h
  | x :: r, w, h => by
    unfold lead at h
    rw [List.takeWhile_cons] at h
    split at h
    · rename_i hx
      rw [List.length_cons, List.getElem?_cons_succ] at h
      exact lead_at (ws := r) h
    · rename_i hx
      simp at h
      subst h
      simpa using hx
def szV (ws : List (List Nat)) (i : Nat) : List V := (ws.take i).map fun w => V.int (szI w)
theorem szV_succ {ws : List (List Nat)} {i : Nat} {w : List Nat} {v : Int} (h : ws[i]? = some w) (e : szO w = some v) : szV ws (i + 1) = szV ws i ++ [.int v] := by
  unfold szV
  rw [List.take_add_one, h, List.map_append]
  show _ ++ [V.int (szI w)] = _
  unfold szI
  rw [e]; rfl
theorem sz47 : szO [47] = none := by decide +kernel
theorem sz59 : szO [59] = none := by decide +kernel
theorem via {tt : TT} {σ : L2.St} {H : Hp} {QQ : Bool → Hp → Prop} (Pj : Bool → Hp → Prop) (h1 : ∀ b H1, Pj b H1 → QQ b H1) (h2 : (∀ b H1, Pj b H1 → QQ b H1) → tt σ H QQ) : tt σ H QQ := h2 h1
/-- a refusal, the reader's record moved -/
def RfK (r : Addr) (D : Addr) (H : Hp) (E : XK) (n : Nat) : Prop := ∀ d fs H', Kp r H H' → H' d = none → fs.lookup ("line" : Str) = some (.int 0) → fs.lookup ("word" : Str) = some (.int n) → E (.ref D) (some d) (upd H' d (.xd fs))
def spL (K : PySem.W.Frag) : Sp := fun vs H Q _ => ∃ x, vs = [x] ∧ Anyv K H x ∧ TextOk x ∧ Q (optV (numV x 1 (10 ^ 30))) H
def WsOk (ws : List (List Nat)) : Prop := ws ≠ [] ∧ ws.length ≤ 20000 ∧ ∀ w ∈ ws, (∀ c ∈ w, c < 128) ∧ w.length ≤ 5000
def RwR (R D r l : Addr) (ws : List (List Nat)) (H : Hp) (Q : VK) (E : XK) : Prop :=
  (ws[0]? = some [45] → ∀ q H', Kp r H H' → H q = none → H' q = some (.lst []) → RdAt R H' r l ws 1 → Q (.ref q) H') ∧
  (ws[0]? ≠ some [45] → (∀ q H', Kp r H H' → H q = none → H' q = some (.lst (szV ws (lead ws))) → RdAt R H' r l ws (lead ws) → Q (.ref q) H') ∧ (lead ws < ws.length → RfK r D H E (lead ws)))
def spRW (P : Program) (w : World) (K : PySem.W.Frag) (mg : Str → Option Value) (base : Heap) (R D : Addr) : Sp := fun vs H Q E => ∃ r l ws f, vs = [.ref r, .ref f] ∧ RdAt R H r l ws 0 ∧ WsOk ws ∧ LamAt P w K mg base 4 ["word"] (spL K) H f ∧ RwR R D r l ws H Q E
theorem _root_.Lw.LamAt.butI {P : Program} {w : World} {K : PySem.W.Frag} {mg : Str → Option Value} {base : Heap} {k : Nat} {ps : List Str} {sp : Sp} {H H' : Hp} {f p C dx : Addr} {fs : List (Str × V)} (h : LamAt P w K mg base k ps sp H f) (hp : H p = some (.ins C dx fs)) (kp : Kp p H H') : LamAt P w K mg base k ps sp H' f := by
  obtain ⟨q, params, body, scope, c', h1, h2, a⟩ := h
  refine ⟨q, params, body, scope, c', kp _ _ (fun e => ?_) h1, kp _ _ (fun e => ?_) h2, a⟩
  · rw [e, hp] at h1
    unfold LamN at h1
    cases h1
  · rw [e, hp] at h2
    unfold CodeO at h2
    cases h2
theorem _root_.Lw.LamAt.butL {P : Program} {w : World} {K : PySem.W.Frag} {mg : Str → Option Value} {base : Heap} {k : Nat} {ps : List Str} {sp : Sp} {H H' : Hp} {f p : Addr} {xs : List V} (h : LamAt P w K mg base k ps sp H f) (hp : H p = some (.lst xs)) (kp : Kp p H H') : LamAt P w K mg base k ps sp H' f := by
  obtain ⟨q, params, body, scope, c', h1, h2, a⟩ := h
  refine ⟨q, params, body, scope, c', kp _ _ (fun e => ?_) h1, kp _ _ (fun e => ?_) h2, a⟩
  · rw [e, hp] at h1
    unfold LamN at h1
    cases h1
  · rw [e, hp] at h2
    unfold CodeO at h2
    cases h2
/-- the methods of the Reader, ready to be called -/
structure RdMs (P : Program) (w : World) (K : PySem.W.Frag) (mg : Str → Option Value) (base : Heap) (R D : Addr) : Prop where
  rc : RdC K R
  A : MetX P w K mg base 1 R "at_hand" (spRah R)
  T : MetX P w K mg base 5 R "take" (spRtk R D)
  X : MetX P w K mg base 7 R "expect" (spRex R)
  M : MetX P w K mg base 3 R "more" (spRmo R)
  F : MetX P w K mg base 5 R "finish" (spRfi R D)
section
variable {P : Program} {w : World} {K : PySem.W.Frag} {mg : Str → Option Value} {base : Heap}
theorem text_hand (ws : List (List Nat)) (n : Nat) (h : ∀ w ∈ ws, (∀ c ∈ w, c < 128) ∧ w.length ≤ 5000) : TextOk (handV ws n) := fun z e => by
  unfold handV at e
  cases hw : ws[n]? with
  | none => rw [hw] at e; cases e
  | some w =>
    rw [hw] at e
    cases e
    obtain ⟨h1, h2⟩ := h w (List.mem_of_getElem? hw)
    exact ⟨w, rfl, h1, h2⟩
theorem scRW : FnScope ["reader", "worth_of", "worths"] ["reader", "worth_of"] (C8.fnScope sRW) := C8.fnScope_by (by decide +kernel)
theorem fn_rw {R D f : Addr} {fd : FuncData} (F : C8.Def K mg "read_worths" sRW f fd) (T : Txt mg) (RM : RdMs P w K mg base R D) : FnOk P w K mg base (L2.CX P w) 9 f fd ["reader", "worth_of"] (spRW P w K mg base R D) := by
  obtain ⟨oc, od, dV, kV, doc, pm, an, cdv, ct, osl, rfl, lk, hcd⟩ := F.fn.ex
  refine fn_of lk hcd scRW (fun vs H Q E h => ?_) fun A outer s H vs Q E hr h => ?_
  · obtain ⟨r, l, ws, g, rfl, _⟩ := h
    rfl
  · obtain ⟨r, l, ws, g, rfl, at_, ⟨ne, hlen, wok⟩, lam, k1, k2⟩ := h
    refine ⟨_, (pss_cons (ps_set (i := 2) scRW.nd rfl (Or.inl rfl) (pe_lst pa_nil))
      (pss_cons (ps_if (pt_cmpR op_eq (pe_mx0 (E := C8.E0) (pv 0) RM.rc.cl RM.A hr (by decide) (passes_call takes0 (fun _ _ _ _ z => z))) pe_str (nomark _)) (pss_cons (ps_expr (pe_mx (E := C8.E0) (pv 0) RM.rc.cl RM.X hr (by decide) (passes_call takes0 (fun _ _ _ _ z => z)) (pa_cons pe_str pa_nil))) (pss_one (ps_ret (pv 2)))) pss_nil)
      (pss_cons (ps_while (passes_of rfl) (PW.pt (pw_or (pt_not (pt_truth (pv 2) (by intro _; rfl))) (pw_or1 (pt_val (pe_mx0 (E := C8.E0) (pv 0) RM.rc.cl RM.M hr (by decide) (passes_call takes0 (fun _ _ _ _ z => z))))))) 
        (pss_one (ps_expr (pe_bm PySem.F.plainAttrs_list PySem.F.slot_list_append PySem.F.type_list_append mt_append (pv 2) (pa_cons (pe_mx (pv 0) RM.rc.cl RM.T hr (by decide) (passes_call (takes_of rfl rfl rfl rfl) (fun _ _ _ _ z => z)) (pa_cons (pe_lamcallN (k := 4) (hr.mono (by decide)) (pv 1) (pa_cons (pe_mx0 (E := C8.E0) (pv 0) RM.rc.cl RM.A hr (by decide) (passes_call takes0 (fun _ _ _ _ z => z))) pa_nil)) pa_nil)) pa_nil)))))
      (pss_one (ps_ret (pv 2)))))), ?_⟩
    obtain ⟨w0, hw0⟩ : ∃ w0, ws[0]? = some w0 := by
      cases ws with
      | nil => exact absurd rfl ne
      | cons a b => exact ⟨a, rfl⟩
    refine ⟨(by show 0 ≤ sizeLine; decide), fun q fq => ?_⟩
    have s1 := same_new (o := HO.lst []) fq
    have at1 := at_.same s1
    have lam1 := lam.extn (ExtN.of s1)
    have hq1 : upd H q (.lst []) q = some (.lst []) := upd_same
    generalize upd H q (.lst []) = H1 at s1 at1 lam1 hq1 ⊢
    have kp1 : Kp r H H1 := Kp.of s1
    obtain ⟨⟨dx, hr1⟩, hl⟩ := id at1
    have e0 : handV ws 0 = .str (S w0) := by unfold handV; rw [hw0]
    have no : ∀ {n : Nat} {m : Str}, m ≠ "_words" → m ≠ "_row" → m ≠ "_at" → (rdF l n).lookup m = none := fun h1 h2 h3 => rdF_no l _ h1 h2 h3
    refine ⟨_, rfl, r, dx, _, rfl, hr1, no (by decide +kernel) (by decide +kernel) (by decide +kernel), r, l, ws, 0, rfl, at1, ?_⟩
    rw [e0]
    refine ⟨rfl, _, rfl, ite2 (fun c => ?_) (fun c => ?_)⟩
    · have e1 : w0 = [45] := S_inj (V.str.inj (of_decide_eq_true c))
      refine ⟨_, rfl, r, dx, _, rfl, hr1, no (by decide +kernel) (by decide +kernel) (by decide +kernel), r, l, ws, 0, _, rfl, at1, (by rw [e0, e1]; rfl), fun H2 k' a2 => ?_⟩
      have nq : q ≠ r := fun e => by rw [e, hr1] at hq1; cases hq1
      exact ⟨_, rfl, k1 (by rw [hw0, e1]) q H2 (kp1.trans k') fq (k' _ _ nq hq1) a2⟩
    · have n45 : ws[0]? ≠ some [45] := fun e => by
        rw [hw0] at e
        exact c (decide_eq_true (by rw [Option.some.inj e]; rfl))
      obtain ⟨kA, kB⟩ := k2 n45
      refine ⟨fun m σ' H' => ∃ i, m = lead ws + 1 - i ∧ i ≤ lead ws ∧ σ' = [some (.ref r), some (.ref g), some (.ref q)] ∧ Kp r H H' ∧ H' q = some (.lst (szV ws i)) ∧ RdAt R H' r l ws i ∧ LamAt P w K mg base 4 ["word"] (spL K) H' g, ⟨_, 0, rfl, Nat.zero_le _, rfl, kp1, hq1, at1, lam1⟩, ?_⟩
      rintro m σ' H' ⟨i, rfl, hi, rfl, kp', hq', at', lam'⟩
      obtain ⟨⟨dx', hr'⟩, hl'⟩ := id at'
      have lw := lead_le ws
      refine via (fun b H2 => Same H' H2 ∧ (b = true → i < ws.length) ∧ (b = false → i = lead ws)) ?_ (fun go => ?_)
      · rintro b H2 ⟨s2, h1, h2⟩
        have hq2 := s2 _ _ hq'
        have at2 := at'.same s2
        have kp2 := kp'.trans (Kp.of s2)
        have lam2 := lam'.extn (ExtN.of s2)
        have hr2 := s2 _ _ hr'
        cases b with
        | false =>
          refine iteF ?_
          have ei := h2 rfl
          subst ei
          exact ⟨_, rfl, kA q H2 kp2 fq hq2 at2⟩
        | true =>
          refine iteT ?_
          have il := h1 rfl
          refine ⟨fun σ' H3 => i < lead ws ∧ σ' = [some (.ref r), some (.ref g), some (.ref q)] ∧ Kp r H H3 ∧ H3 q = some (.lst (szV ws (i + 1))) ∧ RdAt R H3 r l ws (i + 1) ∧ LamAt P w K mg base 4 ["word"] (spL K) H3 g, ?_, ?_⟩
          · rintro σ' H3 ⟨z1, z2⟩
            exact ⟨_, by omega, i + 1, rfl, z1, z2⟩
          refine ⟨_, rfl, .inl ⟨rfl, _, SqL.of hq2⟩, _, rfl, r, dx', _, rfl, hr2, no (by decide +kernel) (by decide +kernel) (by decide +kernel), ?_⟩
          refine ⟨_, rfl, g, ["word"], spL K, rfl, lam2, ?_⟩
          refine ⟨_, rfl, r, dx', _, rfl, hr2, no (by decide +kernel) (by decide +kernel) (by decide +kernel), r, l, ws, i, rfl, at2, lam2, handV ws i, rfl, hand_any _ _ _ _, text_hand ws i wok, ?_⟩
          refine ⟨r, l, ws, i, _, rfl, at2, ?_⟩
          by_cases hlt : i < lead ws
          · obtain ⟨w', v, hw', hv⟩ := lead_lt hlt
            have eh : handV ws i = .str (S w') := by unfold handV; rw [hw']
            have ex : optV (numV (handV ws i) 1 (10 ^ 30)) = .int v := by
              rw [eh]
              show optV (szO w') = _
              rw [hv]; rfl
            rw [ex]
            refine ⟨fun e => (by cases e), fun _ H3 k3 a3 => ?_⟩
            have nq : q ≠ r := fun e => by rw [e, hr2] at hq2; cases hq2
            refine ⟨q, _, _, rfl, rfl, k3 _ _ nq hq2, ?_, ?_⟩
            · unfold szV
              rw [List.length_map]
              exact Nat.lt_of_le_of_lt (Nat.le_trans (List.length_take_le _ _) (show i ≤ 20000 by omega)) (by decide)
            · have nl : l ≠ q := ne_of_none at_.2 fq
              have hq3 := k3 _ _ nq hq2
              refine ⟨hlt, rfl, fun b o hb e => ?_, ?_, ⟨?_, ?_⟩, ?_⟩
              · rw [upd_ne (ne_of_none e fq)]
                exact k3 _ _ hb (kp2 _ _ hb e)
              · rw [upd_same, szV_succ hw' hv]
              · obtain ⟨⟨dy, y1⟩, _⟩ := a3
                exact ⟨dy, by rw [upd_ne nq.symm]; exact y1⟩
              · rw [upd_ne nl]
                exact a3.2
              · exact (lam2.butI hr2 k3).butL hq3 fun b o hb e => by rw [upd_ne hb]; exact e
          · have ei : i = lead ws := by omega
            have ex : optV (numV (handV ws i) 1 (10 ^ 30)) = .non := by
              have eh : handV ws i = .str (S ws[i]) := by unfold handV; rw [List.getElem?_eq_getElem il]
              rw [eh]
              have : szO ws[i] = none := lead_at (ws := ws) (by rw [← ei]; exact List.getElem?_eq_getElem il)
              show optV (szO ws[i]) = _
              rw [this]; rfl
            rw [ex]
            refine ⟨fun _ d fs H3 s3 hd f1 f2 => ?_, fun h => absurd rfl h⟩
            rw [ei] at f2
            exact kB (by omega) d fs H3 (kp2.trans (Kp.of s3)) hd f1 f2
      · refine ⟨_, rfl, _, .inl ⟨_, SqL.of hq', rfl⟩, ?_⟩
        by_cases i0 : i = 0
        · subst i0
          refine iteT (go _ _ ⟨Same.refl _, fun _ => ?_, fun e => (by cases e)⟩)
          cases ws with
          | nil => exact absurd rfl ne
          | cons a b => simp
        · have nz : (szV ws i).isEmpty = false := by
            have hlen : (szV ws i).length = i := by
              unfold szV
              rw [List.length_map, List.length_take]
              omega
            cases hz : szV ws i with
            | nil => rw [hz] at hlen; exact absurd hlen.symm i0
            | cons a b => rfl
          rw [nz]
          refine iteF ⟨_, rfl, r, dx', _, rfl, hr', no (by decide +kernel) (by decide +kernel) (by decide +kernel), r, l, ws, i, rfl, at', fun H2 s2 => ⟨_, rfl, go _ _ ⟨s2, fun e => ?_, fun e => ?_⟩⟩⟩
          · unfold moreB at e
            cases hw : ws[i]? with
            | none => rw [hw] at e; cases e
            | some w' => exact (List.getElem?_eq_some_iff.mp hw).1
          · refine Classical.byContradiction fun z => ?_
            obtain ⟨w', v, hw', hv⟩ := lead_lt (ws := ws) (i := i) (by omega)
            unfold moreB at e
            rw [hw'] at e
            dsimp only at e
            have n1 : w' ≠ [47] := fun z => by rw [z] at hv; exact absurd hv (by rw [sz47]; exact fun y => by cases y)
            have n2 : w' ≠ [59] := fun z => by rw [z] at hv; exact absurd hv (by rw [sz59]; exact fun y => by cases y)
            rw [decide_eq_false n1, decide_eq_false n2] at e
            cases e
end
end Lw
namespace Lw
open PySem PySem.Spec PyProof.Rows L2
open SX PySem.NumText TL LamX
structure DefC (K : PySem.W.Frag) (mg : Str → Option Value) (x : Str) (st : Stmt) (f : Addr) (fd : FuncData) (c : Addr) : Prop where
  ex : ∃ (oc : Value) (od : Option Addr) (dV kV doc pm : Value) (an : Option Addr) (ct : Value) (osl : Array (Option Value)),
    fd = PySem.W.fnOf x x (C8.fnArgs st) (C8.fnBody st) (C8.fnScope st) dV kV doc pm an (.ref c) ct ∧ K.lookup f = some ⟨oc, od, .func fd, osl⟩ ∧ PySem.W.codeIn K (.ref c) x = true
  mgf : mg x = some (.ref f)
  kp : PySem.W.keepIn K (.ref f) = true
theorem calGC {P : Program} {w : World} {K : PySem.W.Frag} {mg : Str → Option Value} {base : Heap} {x : Str} {st : Stmt} {f c : Addr} {fd : FuncData} {N ps : List Str} {ds : List Value} {dvs : List V} {k : Nat} {sp : Sp} (F : DefC K mg x st f fd c) (b : Binds K fd ps ds) (d : Vals dvs ds) (S : FnScope N ps (C8.fnScope st)) (len : ∀ vs H Q E, sp vs H Q E → vs.length = ps.length)
    (body : ∀ (A : Around) (outer : List Env) (s : Shared) (H : Hp) (vs : List V) (Q : VK) (E : XK), (A.deeper (envOfC x (C8.fnScope st) s.heap.objs.size f (.ref c))).guards = some [] → Room k (A.deeper (envOfC x (C8.fnScope st) s.heap.objs.size f (.ref c))) → sp vs H Q E →
      ∃ t, PSs (cxOf C8.CX0 P w K mg base N x (C8.fnScope st) f (.ref c) A outer s H E).nox (C8.fnBody st) t ∧ t { nx := fun _ H' => Q .non H', rt := Q } (start N vs) H) : CalG P w K mg base (k + 1) x sp dvs := by
  refine ⟨f, fd, ps, ds, ⟨len, ?_⟩, F.mgf, F.kp, b, d⟩
  intro A outer s H args us vs Q E hg hr e0 hb r hs
  obtain ⟨oc, od, dV, kV, doc, pm, an, ct, osl, rfl, lk, hcd⟩ := F.ex
  refine LamX.run_ofS lk hcd S hr e0 hb r (len _ _ _ _ hs) fun hr' => ?_
  obtain ⟨t, h1, h2⟩ := body A outer s H vs Q E hg hr' hs
  exact ⟨t, h1.nox, h2⟩
theorem Tabs.put {T : List (Addr × Str)} {H : Hp} {l : Addr} {o : HO} {xs : List V} (t : Tabs T H) (hl : H l = some (.lst xs)) : Tabs T (upd H l o) := by
  intro q hq
  obtain ⟨ps, h1, h2, h3⟩ := t q hq
  refine ⟨ps, ?_, h2, fun pos cv hc => ?_⟩
  · rw [upd_ne (fun e => by rw [e, hl] at h1; cases h1)]; exact h1
  · obtain ⟨c, e1, e2⟩ := h3 pos cv hc
    refine ⟨c, e1, ?_⟩
    rw [upd_ne (fun e => by rw [e, hl] at e2; unfold CodeO at e2; cases e2)]; exact e2
theorem Tabs.kp {T : List (Addr × Str)} {p pl : Addr} {n : Nat} {H H' : Hp} (t : Tabs T H) (hp : Pen H p pl n) (k : Kp p H H') : Tabs T H' := by
  intro q hq
  obtain ⟨ps, h1, h2, h3⟩ := t q hq
  obtain ⟨xs, a, g, hh, _⟩ := hp
  refine ⟨ps, k _ _ (fun e => ?_) h1, h2, fun pos cv hc => ?_⟩
  · rw [e, hh.at_] at h1; cases h1
  · obtain ⟨c, e1, e2⟩ := h3 pos cv hc
    refine ⟨c, e1, k _ _ (fun e => ?_) e2⟩
    rw [e, hh.at_] at e2
    unfold CodeO at e2
    cases e2
theorem Pen.extn {H H' : Hp} {p l : Addr} {n : Nat} (h : Pen H p l n) (e : ExtN H H') : Pen H' p l n := by
  obtain ⟨xs, a, g, ⟨h1, h2, h3, h4, h5⟩, h6⟩ := h
  have nl : ∀ (ys : List V) ps, HO.lst ys ≠ .tbl ps := fun ys ps z => by cases z
  exact ⟨xs, a, g, ⟨e _ _ h1 (nl _), e _ _ h2 (nl _), h3, h4, h5⟩, h6⟩
/-- the tables of lambdas: of read_sizes, of _law_right, of law -/
abbrev tabT (B0 B1 B2 : Addr) : List (Addr × Str) := [(B0, (("read_sizes" : Str) ++ (".<locals>." : Str)) ++ ("<lambda>" : Str)), (B1, (("_law_right" : Str) ++ (".<locals>." : Str)) ++ ("<lambda>" : Str)), (B2, (("law" : Str) ++ (".<locals>." : Str)) ++ ("<lambda>" : Str))]
structure Apart3 (B0 B1 B2 : Addr) : Prop where
  n01 : B1 ≠ B0
  n02 : B2 ≠ B0
  n12 : B2 ≠ B1
theorem tabT_0 {B0 B1 B2 : Addr} (n : Apart3 B0 B1 B2) (p : Addr × Str) (hp : p ∈ tabT B0 B1 B2) (e : p.1 = B0) : p.2 = (("read_sizes" : Str) ++ (".<locals>." : Str)) ++ ("<lambda>" : Str) := by
  simp only [List.mem_cons, List.not_mem_nil, or_false] at hp
  rcases hp with rfl | rfl | rfl
  · rfl
  · exact absurd e n.n01
  · exact absurd e n.n02
theorem tabT_1 {B0 B1 B2 : Addr} (n : Apart3 B0 B1 B2) (p : Addr × Str) (hp : p ∈ tabT B0 B1 B2) (e : p.1 = B1) : p.2 = (("_law_right" : Str) ++ (".<locals>." : Str)) ++ ("<lambda>" : Str) := by
  simp only [List.mem_cons, List.not_mem_nil, or_false] at hp
  rcases hp with rfl | rfl | rfl
  · exact absurd e.symm n.n01
  · rfl
  · exact absurd e n.n12
theorem tabT_2 {B0 B1 B2 : Addr} (n : Apart3 B0 B1 B2) (p : Addr × Str) (hp : p ∈ tabT B0 B1 B2) (e : p.1 = B2) : p.2 = (("law" : Str) ++ (".<locals>." : Str)) ++ ("<lambda>" : Str) := by
  simp only [List.mem_cons, List.not_mem_nil, or_false] at hp
  rcases hp with rfl | rfl | rfl
  · exact absurd e.symm n.n02
  · exact absurd e.symm n.n12
  · rfl
/-- all but what stands at r, and the tables, is as it was -/
def KpN (r : Addr) (H H' : Hp) : Prop := ∀ b o, b ≠ r → H b = some o → (∀ ps, o ≠ .tbl ps) → H' b = some o
def RsR (R D r l : Addr) (T : List (Addr × Str)) (ws : List (List Nat)) (H : Hp) (Q : VK) (E : XK) : Prop :=
  (ws[0]? = some [45] → ∀ q H', KpN r H H' → Tabs T H' → H' q = some (.lst []) → RdAt R H' r l ws 1 → Q (.ref q) H') ∧
  (ws[0]? ≠ some [45] → (∀ q H', KpN r H H' → Tabs T H' → H' q = some (.lst (szV ws (lead ws))) → RdAt R H' r l ws (lead ws) → Q (.ref q) H') ∧
    (lead ws < ws.length → ∀ d fs H', KpN r H H' → Tabs T H' → H' d = none → fs.lookup ("line" : Str) = some (.int 0) → fs.lookup ("word" : Str) = some (.int (lead ws)) → E (.ref D) (some d) (upd H' d (.xd fs))))
def spRS (R D : Addr) (T : List (Addr × Str)) : Sp := fun vs H Q E => ∃ r l ws, vs = [.ref r] ∧ RdAt R H r l ws 0 ∧ WsOk ws ∧ Tabs T H ∧ RsR R D r l T ws H Q E
theorem Tabs.kpI {T : List (Addr × Str)} {H H' : Hp} {r C dx : Addr} {fs : List (Str × V)} (t : Tabs T H) (hr : H r = some (.ins C dx fs)) (k : Kp r H H') : Tabs T H' := by
  intro q hq
  obtain ⟨ps, h1, h2, h3⟩ := t q hq
  refine ⟨ps, k _ _ (fun e => ?_) h1, h2, fun pos cv hc => ?_⟩
  · rw [e, hr] at h1; cases h1
  · obtain ⟨c, e1, e2⟩ := h3 pos cv hc
    refine ⟨c, e1, k _ _ (fun e => ?_) e2⟩
    rw [e, hr] at e2
    unfold CodeO at e2
    cases e2
theorem KpN.of {r : Addr} {H H1 H2 : Hp} (x : ExtN H H1) (k : Kp r H1 H2) : KpN r H H2 := fun b o hb e n => k b o hb (x b o e n)
section
variable {P : Program} {w : World} {K : PySem.W.Frag} {mg : Str → Option Value} {base : Heap}
theorem scRS : FnScope ["reader"] ["reader"] (C8.fnScope sRS) := C8.fnScope_by (by decide +kernel)
theorem fn_rs {R D f fW c B0 B1 B2 : Addr} {fd fdW : FuncData} (F : DefC K mg "read_sizes" sRS f fd c) (T : Txt mg) (TB : TabB base mg c B0) (n : Apart3 B0 B1 B2) (DN : C8.Cal P w K mg base 3 "number_of" (spNumOf K) []) (DW : C8.Def K mg "read_worths" sRW fW fdW) (bW : Binds K fdW ["reader", "worth_of"] []) (FW : FnOk P w K mg base (L2.CX P w) 9 fW fdW ["reader", "worth_of"] (spRW P w K mg base R D)) :
    FnOk P w K mg base (L2.CX P w) 11 f fd ["reader"] (spRS R D (tabT B0 B1 B2)) := by
  obtain ⟨oc, od, dV, kV, doc, pm, an, ct, osl, rfl, lk, hcd⟩ := F.ex
  obtain ⟨tg, hGS⟩ := T.c_GS
  refine fn_of lk hcd scRS (fun vs H Q E h => ?_) fun A outer s H vs Q E hr h => ?_
  · obtain ⟨r, l, ws, rfl, _⟩ := h
    rfl
  · obtain ⟨r, l, ws, rfl, at_, wo, ht, k1, k2⟩ := h
    refine ⟨_, (pss_one (ps_ret (pe_call FW (hr.mono (by decide)) (by rfl) DW.mgf DW.kp bW .nil (passes_call (takes_of rfl rfl rfl rfl) (fun _ _ _ _ z => z)) (pa_cons (pv 0) (pa_cons (pe_lamN (k := 4) (ps := ["word"]) (sp := spL K) (T := tabT B0 B1 B2) TB rfl (List.Mem.head _) (tabT_0 n) rfl (by decide) rfl
      (fun fl cl => ⟨C8.fnScope_by (by decide +kernel), fun pm cv ctv us hl => (match us, hl with | [_], _ => rfl), fun vs H Q E h => (by obtain ⟨x, rfl, _⟩ := h; rfl), fun A out s H vs Q hr2 h => ⟨_, C8.pe_c DN hr2 (by decide) (by rfl) (pa_cons (pv 0) (pa_cons pe_int (pa_cons (pe_glob (v := .int (10 ^ 30)) rfl hGS ⟨_, rfl⟩) pa_nil))), (by
        obtain ⟨x, rfl, av, tx, q⟩ := h
        exact ⟨_, rfl, x, 1, 10 ^ 30, rfl, av, tx, q⟩)⟩⟩)) pa_nil))))), ?_⟩
    obtain ⟨⟨dx, hr1⟩, hl⟩ := id at_
    refine ⟨_, rfl, ht, fun g H1 x1 t1 ng lam => ?_⟩
    have hrT : H1 r = some (.ins R dx (rdF l 0)) := x1 _ _ hr1 fun ps z => by cases z
    have at1 : RdAt R H1 r l ws 0 := ⟨⟨dx, hrT⟩, x1 _ _ hl fun ps z => by cases z⟩
    refine ⟨r, l, ws, g, rfl, at1, wo, lam, fun h q H2 kp fq hq a2 => ?_, fun h => ⟨fun q H2 kp fq hq a2 => ?_, fun hlt d fs H2 kp hd f1 f2 => ?_⟩⟩
    · exact k1 h q H2 (KpN.of x1 kp) (Lw.Tabs.kpI t1 hrT kp) hq a2
    · exact (k2 h).1 q H2 (KpN.of x1 kp) (Lw.Tabs.kpI t1 hrT kp) hq a2
    · exact (k2 h).2 hlt d fs H2 (KpN.of x1 kp) (Lw.Tabs.kpI t1 hrT kp) hd f1 f2
end
end Lw
namespace Lw
open PySem PySem.Spec PyProof.Rows L2
open SX PySem.NumText TL LamX ClX StX
abbrev sCI : Stmt := inClass (top 22) 1
abbrev sCM : Stmt := top 23
/-! ### Chunks, made -/
/-- its attributes -/
def chF (p : Addr) (t : Int) (e r : Addr) : List (Str × V) := putF "rests" (.ref r) (putF "ends" (.ref e) (putF "total" (.int t) (putF "sizes" (.ref p) [])))
theorem chF_sizes (p : Addr) (t : Int) (e r : Addr) : (chF p t e r).lookup ("sizes" : Str) = some (.ref p) := by
  unfold chF
  rw [lookup_putF, if_neg (by decide +kernel), lookup_putF, if_neg (by decide +kernel), lookup_putF, if_neg (by decide +kernel), lookup_putF, if_pos rfl]
/-- the class's constant, the error's class -/
structure ChC (P : Program) (w : World) (K : PySem.W.Frag) (mg : Str → Option Value) (base : Heap) (CC DM : Addr) (mc : Value) : Prop where
  r : CRead K CC mc
  m : ∃ u, CVal K CC mc "MOST" (.int 5000) u
  hm : mg "Chunks" = some (.ref CC)
  cl : Cls K CC
  n1 : NoAttr K CC "sizes"
  n2 : NoAttr K CC "total"
  n3 : NoAttr K CC "ends"
  n4 : NoAttr K CC "rests"
/-- too many chunks -/
def Mf (DM : Addr) (H : Hp) (E : XK) : Prop := ∀ d fs H', Same H H' → H' d = none → fs.lookup ("what" : Str) = some (.str (Str.ofString "chunks")) → fs.lookup ("most" : Str) = some (.int 5000) → E (.ref DM) (some d) (upd H' d (.xd fs))
def spCM (DM : Addr) : Sp := fun vs H Q E => ∃ m : Int, vs = [.int m] ∧ (m ≤ 5000 → Q .non H) ∧ (5000 < m → Mf DM H E)
def SzOk (ns : List Int) : Prop := (∀ v ∈ ns, 1 ≤ v ∧ v ≤ 10 ^ 30) ∧ ns.length ≤ 20000
def spCI (CC DM : Addr) : Sp := fun vs H Q E => ∃ (x dx p : Addr) (ns : List Int), vs = [.ref x, .ref p] ∧ H x = some (.ins CC dx []) ∧ H p = some (.tup (ns.map V.int)) ∧ SzOk ns ∧
  (ns.length ≤ 5000 → ∀ t e r H', Kp x H H' → H' x = some (.ins CC dx (chF p t e r)) → Q .non H') ∧ (5000 < ns.length → Mf DM H E)
section
variable {P : Program} {w : World} {K : PySem.W.Frag} {mg : Str → Option Value} {base : Heap}
theorem scCM : FnScope ["many"] ["many"] (C8.fnScope sCM) := C8.fnScope_by (by decide +kernel)
theorem fn_cm {CC DM fE f : Addr} {mc : Value} {fd fdE : FuncData} (F : C8.Def K mg "check_many" sCM f fd) (Z : ChC P w K mg base CC DM mc) (ER : Err2 "TooMany" "what" "most" P w K mg base DM fE fdE) : FnOk P w K mg base (L2.CX P w) 3 f fd ["many"] (spCM DM) := by
  obtain ⟨oc, od, dV, kV, doc, pm, an, cdv, ct, osl, rfl, lk, hcd⟩ := F.fn.ex
  obtain ⟨u, hu⟩ := Z.m
  refine fn_of lk hcd scCM (fun vs H Q E h => ?_) fun A outer s H vs Q E hr h => ?_
  · obtain ⟨m, rfl, _⟩ := h
    rfl
  · obtain ⟨m, rfl, k1, k2⟩ := h
    have tk : Takes (cxOf (L2.CX P w) P w K mg base ["many"] "check_many" (C8.fnScope sCM) f cdv A outer s H E) (fun cls d _ H' => E cls d H') := takes_of rfl rfl rfl rfl
    refine ⟨_, (pss_one (ps_if (pt_cmpR op_gt (pv 0) (pe_cval (pe_glob (v := .ref CC) (by rfl) Z.hm rfl)) (nomark _)) (pss_one (ps_bad2 (x := "TooMany") rfl tk ER.T ER.iC ER.tI ER.F hr ER.b (by rfl) ER.hm pe_str (pe_cval (pe_glob (v := .ref CC) (by rfl) Z.hm rfl)))) pss_nil)), ?_⟩
    refine ⟨_, rfl, CC, mc, _, u, rfl, Z.r, hu, _, _, rfl, rfl, _, rfl, ite2 (fun c => ?_) (fun c => ?_)⟩
    · refine ⟨CC, mc, _, u, rfl, Z.r, hu, ?_⟩
      exact bad_leaf2 fun d fs hd e1 e2 => k2 (of_decide_eq_true c) d fs H (Same.refl _) hd e1 e2
    · exact k1 (by have := of_decide_eq_false (Bool.eq_false_iff.mpr c); omega)
theorem scCI : FnScope ["self", "sizes", "size", "ends", "done", "end"] (([("self" : Str)] : List Str) ++ [("sizes" : Str)]) (C8.fnScope sCI) := C8.fnScope_by (by decide +kernel)
theorem fn_ci {CC DM fM f : Addr} {mc : Value} {fd fdM : FuncData} (F : C8.Fun K "__init__" "Chunks.__init__" sCI f fd) (df : fd.defaults = .none) (T : Txt mg) (hz : mg "zip" = none) (htu : mg "tuple" = none) (Z : ChC P w K mg base CC DM mc) (DS : C8.Cal P w K mg base 3 "is_size" (spSize K) []) (DM' : C8.Def K mg "check_many" sCM fM fdM) (bM : Binds K fdM ["many"] []) (FM : FnOk P w K mg base (L2.CX P w) 3 fM fdM ["many"] (spCM DM)) :
    FnR P w K mg base (L2.CX P w) 5 f (fun vs H Q E => ∃ ws rest, vs = ws ++ rest ∧ ws.length = ["self"].length ∧ rest.length ≤ sizeLine ∧ ∀ p, H p = none → spCI CC DM (ws ++ [V.ref p]) (upd H p (.tup rest)) Q E) := by
  obtain ⟨oc, od, dV, kV, doc, pm, an, cdv, ct, osl, rfl, lk, hcd⟩ := F.ex
  have e0 : dV = .none := df
  subst e0
  refine fn_star (ps := ["self"]) (pv := "sizes") lk hcd scCI cxUp (fun us rest hl => bind_star1 (p1 := "self") (pv := "sizes") (B := fun zs => bindArgs _ ⟨zs, []⟩) (fun a => rfl) (fun a r rs => rfl) us rest hl) fun A outer s H vs Q E hr h => ?_
  obtain ⟨x, dx, p, ns, rfl, hx, hp, ⟨so, sl⟩, k1, k2⟩ := h
  refine ⟨_, (pss_cons (ps_for (passes_of rfl) rfl (pi_tup (pv 1)) (pg_name (i := 2) scCI.nd rfl (Or.inl rfl)) (pss_one (ps_if (pt_not (pt_val (C8.pe_c DS hr (by decide) (by rfl) (pa_cons (pv 2) pa_nil)))) (pss_one ps_never) pss_nil)))
    (pss_cons (ps_expr (pe_call FM (hr.mono (by decide)) (by rfl) DM'.mgf DM'.kp bM .nil (passes_call (takes_of rfl rfl rfl rfl) (fun _ _ _ _ z => z)) (pa_cons (pe_callB call_len_seq (by rfl) T.n_len (by decide +kernel) (pa_cons (pv 1) pa_nil)) pa_nil)))
    (pss_cons (ps_set (i := 3) scCI.nd rfl (Or.inl rfl) (pe_lst pa_nil))
    (pss_cons (ps_set (i := 4) scCI.nd rfl (Or.inr rfl) pe_int)
    (pss_cons (ps_for (passes_of rfl) rfl (pi_tup (pv 1)) (pg_name (i := 2) scCI.nd rfl (Or.inl rfl)) (pss_cons (ps_set (i := 4) scCI.nd rfl (Or.inr rfl) (pe_op op_add (pv 4) (pv 2))) (pss_one (ps_expr (pe_bm PySem.F.plainAttrs_list PySem.F.slot_list_append PySem.F.type_list_append mt_append (pv 3) (pa_cons (pv 4) pa_nil))))))
    (pss_cons (ps_fld (pv 0) (pv 1) rfl)
    (pss_cons (ps_fld (pv 0) (pv 4) rfl)
    (pss_cons (ps_fld (pv 0) (pe_callTy call_tuple_of (by rfl) htu (by decide +kernel) (pa_cons (pv 3) pa_nil)) rfl)
    (pss_one (ps_fld (pv 0) (pe_callTy call_tuple_of (by rfl) htu (by decide +kernel) (pa_cons (pe_lc (own := [("end", 5), ("size", 2)]) (g := gTup K 2 (gCons (gName 5) (gCons (gName 2) (gNil)))) (tt := tYes) rfl scCI.nd (Zm.pi_zipM (by rfl) hz (pa_cons (pv 3) (pa_cons (pv 1) pa_nil))) (blkOk_by (own := [("end", 5), ("size", 2)]) (N := ["self", "sizes", "size", "ends", "done", "end"]) (sc := (C8.fnScope sCI)) (by decide +kernel)) (fun _ _ _ _ _ => pg_tup rfl (pgs_cons (pg_name (i := 5) scCI.nd rfl (Or.inl rfl)) (pgs_cons (pg_name (i := 2) scCI.nd rfl (Or.inl rfl)) pgs_nil))) (fun _ _ _ _ _ => pts_nil) (fun _ _ _ _ _ => (pe_op op_add (pe_op op_sub (pv 4) (pv 5)) (pv 2)))) pa_nil)) rfl)))))))))), ?_⟩
  have hlen : (ns.map V.int).length = ns.length := List.length_map _
  have xp : x ≠ p := fun e => by rw [e, hp] at hx; cases hx
  have gets : ∀ {i : Nat} {y : V}, (ns.map V.int)[i]? = some y → ∃ v, y = .int v ∧ 1 ≤ v ∧ v ≤ 10 ^ 30 := fun {i y} e => by
    obtain ⟨v, hv, rfl⟩ := List.mem_map.mp (List.mem_of_getElem? e)
    exact ⟨v, rfl, so v hv⟩
  refine ⟨_, rfl, p, rfl, ⟨_, SqT.of hp⟩, for_tup (xs := ns.map V.int) (fun i σ' H' => ∃ v, σ' = [some (.ref x), some (.ref p), v, none, none, none] ∧ H' = H) ⟨_, rfl, rfl⟩ (fun i σ' H' _ h => by obtain ⟨v, _, rfl⟩ := h; exact SqT.of hp) ?_ ?_⟩
  · rintro i y σ' H' hy ⟨v, rfl, rfl⟩
    obtain ⟨v0, rfl, b1, b2⟩ := gets hy
    exact ⟨_, rfl, .int v0, rfl, .int v0, _, rfl, iteF' (by show (!(decide (1 ≤ v0) && decide (v0 ≤ 10 ^ 30))) = false; rw [decide_eq_true b1, decide_eq_true b2]; rfl) ⟨_, rfl, rfl⟩⟩
  · rintro σ1 H1 ⟨v1, rfl, rfl⟩
    refine ⟨_, rfl, p, _, rfl, .inr (SqT.of hp), _, rfl, fun hm => ?_, fun hm => k2 (by rw [hlen] at hm; omega)⟩
    have lm : ns.length ≤ 5000 := by rw [hlen] at hm; omega
    refine ⟨(by show 0 ≤ sizeLine; decide), fun q fq => ?_⟩
    have s1 := same_new (o := HO.lst []) fq
    have hq1 : upd H1 q (.lst []) q = some (.lst []) := upd_same
    generalize upd H1 q (.lst []) = H2 at s1 hq1 ⊢
    dsimp only [gName, tSeq]
    refine ⟨_, rfl, p, rfl, ⟨_, SqT.of (s1 _ _ hp)⟩, for_tup (xs := ns.map V.int) (fun i σ' H' => ∃ (v : Option V) (t : Int) (es : List Int), σ' = [some (.ref x), some (.ref p), v, some (.ref q), some (.int t), none] ∧ Same H1 H' ∧ H' q = some (.lst (es.map V.int)) ∧ es.length = i) ⟨_, _, [], rfl, s1, hq1, rfl⟩ (fun i σ' H' _ h => by obtain ⟨v, t, es, _, s', _⟩ := h; exact SqT.of (s' _ _ hp)) ?_ ?_⟩
    · rintro i y σ' H' hy ⟨v, t, es, rfl, s', hq', el⟩
      obtain ⟨v0, rfl, _, _⟩ := gets hy
      have hi : i < 20000 := by
        have := (List.getElem?_eq_some_iff.mp hy).1
        rw [hlen] at this
        omega
      refine ⟨_, rfl, _, rfl, _, _, rfl, rfl, ?_⟩
      refine ⟨_, rfl, .inl ⟨rfl, _, SqL.of hq'⟩, _, rfl, q, _, _, rfl, rfl, hq', ?_, ?_⟩
      · rw [List.length_map, el]
        exact Nat.lt_of_lt_of_le hi (by decide)
      · refine ⟨_, _, es ++ [t + v0], rfl, fun b o e => ?_, ?_, ?_⟩
        · rw [upd_ne (ne_of_none e fq)]
          exact s' _ _ e
        · rw [upd_same, List.map_append]; rfl
        · rw [List.length_append, el]; rfl
    · rintro σ2 H3 ⟨v, t, es, rfl, s3, hq3, el⟩
      rw [hlen] at el
      have xq : x ≠ q := fun e => by rw [e, fq] at hx; cases hx
      have hx3 := s3 _ _ hx
      have hp3 := s3 _ _ hp
      refine ⟨_, rfl, _, rfl, x, CC, dx, [], rfl, hx3, Z.cl, Z.n1, (by show 0 < 1000; decide), ?_⟩
      refine ⟨_, rfl, _, rfl, x, CC, dx, _, rfl, upd_same, Z.cl, Z.n2, (by show 1 < 1000; decide), ?_⟩
      rw [upd_upd]
      have f2 : (putF "total" (.int t) (putF "sizes" (.ref p) [])).length < 900 := Nat.lt_of_le_of_lt (Nat.le_trans (putF_len _ _ _) (Nat.add_le_add_right (putF_len _ _ _) 1)) (by decide)
      have kp4 : Kp x H1 (upd H3 x (.ins CC dx (putF "total" (.int t) (putF "sizes" (.ref p) [])))) := fun b o hb e => by rw [upd_ne hb]; exact s3 _ _ e
      have hx4 : upd H3 x (.ins CC dx (putF "total" (.int t) (putF "sizes" (.ref p) []))) x = some (.ins CC dx (putF "total" (.int t) (putF "sizes" (.ref p) []))) := upd_same
      have hq4 : upd H3 x (.ins CC dx (putF "total" (.int t) (putF "sizes" (.ref p) []))) q = some (.lst (es.map V.int)) := by rw [upd_ne xq.symm]; exact hq3
      have hp4 : upd H3 x (.ins CC dx (putF "total" (.int t) (putF "sizes" (.ref p) []))) p = some (.tup (ns.map V.int)) := by rw [upd_ne xp.symm]; exact hp3
      generalize hg : putF "total" (.int t) (putF "sizes" (.ref p) []) = fs at *
      generalize upd H3 x (.ins CC dx fs) = H4 at *
      refine ⟨_, rfl, q, _, rfl, .inl ⟨SqL.of hq4, fun e1 fe => ?_⟩⟩
      have s5 := same_new (o := HO.tup (es.map V.int)) fe
      refine ⟨_, rfl, x, CC, dx, fs, rfl, s5 _ _ hx4, Z.cl, Z.n3, by omega, ?_⟩
      have hx6 : upd (upd H4 e1 (.tup (es.map V.int))) x (.ins CC dx (putF "ends" (.ref e1) fs)) x = some (.ins CC dx (putF "ends" (.ref e1) fs)) := upd_same
      have hq6 : upd (upd H4 e1 (.tup (es.map V.int))) x (.ins CC dx (putF "ends" (.ref e1) fs)) q = some (.lst (es.map V.int)) := by rw [upd_ne xq.symm]; exact s5 _ _ hq4
      have hp6 : upd (upd H4 e1 (.tup (es.map V.int))) x (.ins CC dx (putF "ends" (.ref e1) fs)) p = some (.tup (ns.map V.int)) := by rw [upd_ne xp.symm]; exact s5 _ _ hp4
      have kp6 : Kp x H1 (upd (upd H4 e1 (.tup (es.map V.int))) x (.ins CC dx (putF "ends" (.ref e1) fs))) := fun b o hb e => by rw [upd_ne hb]; exact s5 _ _ (kp4 _ _ hb e)
      generalize upd (upd H4 e1 (.tup (es.map V.int))) x (.ins CC dx (putF "ends" (.ref e1) fs)) = H6 at hx6 hq6 hp6 kp6 ⊢
      have ll : (es.map V.int).length = (ns.map V.int).length := by rw [List.length_map, List.length_map, el]
      refine ⟨_, rfl, _, rfl, q, p, _, _, rfl, ⟨SqL.of hq6, SqT.of hp6⟩, fun D hD => lc_it (Zm.walk (xs := es.map V.int) (ys := ns.map V.int) ll) (fun i H' => Same H6 H' ∧ ∃ rs : List Int, H' D = some (.lst (rs.map V.int)) ∧ rs.length = i) ⟨same_new hD, [], upd_same, rfl⟩ (fun i H' _ h => ⟨SqL.of (h.1 _ _ hq6), SqT.of (h.1 _ _ hp6)⟩) ?_ ?_⟩
      · rintro i y H' H'' hi ⟨s', rs, hd, rl⟩ ⟨T', y1, y2, ⟨rfl, fT, rfl⟩, g1, g2⟩
        obtain ⟨a1, _, rfl⟩ := List.mem_map.mp (List.mem_of_getElem? g1)
        obtain ⟨a2, _, rfl⟩ := List.mem_map.mp (List.mem_of_getElem? g2)
        have sT := same_new (o := HO.tup [V.int a1, V.int a2]) fT
        refine ⟨T', _, rfl, SqT.of upd_same, rfl, _, _, rfl, _, _, rfl, rfl, rfl, ?_⟩
        dsimp only [tYes]
        rw [if_pos rfl]
        refine ⟨_, rfl, _, rfl, _, _, rfl, rfl, _, rfl, _, _, rfl, rfl, _, sT _ _ hd, ?_, fun b o e => ?_, rs ++ [t - a1 + a2], ?_, ?_⟩
        · rw [List.length_map, rl]
          rw [ll, hlen] at hi
          exact Nat.lt_of_lt_of_le hi (Nat.le_trans lm (by decide))
        · rw [upd_ne (ne_of_none e hD)]
          exact sT _ _ (s' _ _ e)
        · rw [upd_same, List.map_append]; rfl
        · rw [List.length_append, rl]; rfl
      · rintro H7 ⟨s7, rs, hd, rl⟩
        refine ⟨D, _, rfl, .inl ⟨SqL.of hd, fun r1 fr => ?_⟩⟩
        have s8 := same_new (o := HO.tup (rs.map V.int)) fr
        refine ⟨_, rfl, x, CC, dx, _, rfl, s8 _ _ (s7 _ _ hx6), Z.cl, Z.n4, Nat.lt_of_le_of_lt (putF_len _ _ _) (by omega), ?_⟩
        refine k1 lm t e1 r1 _ (fun b o hb e => ?_) ?_
        · rw [upd_ne hb]
          exact s8 _ _ (s7 _ _ (kp6 _ _ hb e))
        · rw [upd_same, ← hg]
          rfl
end
end Lw
namespace Lw
open PySem PySem.Spec PyProof.Rows L2
/-! ### str(x) of an own class -/
section
variable {X : Cx} {C f : Addr} {k j : Nat} {sp : Sp} {E : XK} {pins : List (Addr × Obj)} {σ : L2.St} {H : Hp} {s : Shared}
/-- a method that runs one or two levels further in -/
theorem run_metA {A : Around} {m : Str} {us : List Value} {vs : List V} {Q : VK} (M : MetX X.prog X.w X.K X.mg X.base k C m sp) (hx : Passes (L2.CX X.prog X.w) X E) (hr : Room k A) (e0 : Env0 X.prog X.w X.K X.mg X.base A X.stack s H) (I : Inv X pins σ H s) (r : Vals vs us) (q : sp vs H Q E) :
    ∃ g : Addr, Meth X.K C m g ∧ wpAny (model X.prog X.w) A (call (.ref g) us) (EP X pins σ Q) X.xe s := by
  obtain ⟨g, fd, ps, hm, F, b⟩ := M.ex
  have l : us.length = ps.length := r.length.symm.trans (F.len _ _ _ _ q)
  have b' := b s us I.kIn (by rw [List.append_nil]; exact l)
  rw [List.append_nil] at b'
  refine ⟨g, hm, wpAny_call (codeAny_mono (F.run A X.stack s H ⟨us, []⟩ us vs Q E hr e0 b' r q) fun r s' hq => ?_)⟩
  cases r with
  | error e => exact hx pins σ H s e s' I hq
  | ok fl =>
    cases fl with
    | ret u => exact I.after hq
    | next => exact False.elim hq
    | brk => exact False.elim hq
    | cont => exact False.elim hq
/-- str(x) of an instance -/
def rStrOwn (C : Addr) (sp : Sp) (E : XK) : List V → Hp → VK → Prop := fun xs H Q => ∃ a dx fs, xs = [V.ref a] ∧ H a = some (.ins C dx fs) ∧ sp [.ref a] H (fun z H' => ∃ y, z = .str y ∧ Q z H') E
theorem call_strOwn (M : MetX X.prog X.w X.K X.mg X.base k C "__str__" sp) (hx : Passes (L2.CX X.prog X.w) X E) (hr : Room j X.A) (hk : k + 2 ≤ j) : CallR X (.type "str") (rStrOwn C sp E) := by
  intro pins s σ H xs us Q I r h
  obtain ⟨a, dx, fs, rfl, ha, q⟩ := h
  obtain ⟨u, rfl, ru⟩ := r.one
  cases (show u = Value.ref a from ru)
  obtain ⟨_, _, J⟩ := ins_at I ha
  have hr2 : Room k X.A.in1.in1 := (show Room (k + 1) X.A.in1 from Room.in1 (hr.mono hk)).in1
  obtain ⟨g, hm, w⟩ := run_metA (us := [.ref a]) (vs := [.ref a]) M hx hr2 I.env0.in1.in1 I (.cons rfl .nil) q
  refine PySem.W.kso_call hr2.units0 I.kIn J hm.at_ hm.fn (wpAny_mono w (fun v s' z => ?_) fun _ _ x => x)
  obtain ⟨z', H', I', rz, y, rfl, qz⟩ := z
  obtain ⟨t, rfl⟩ := rz
  exact ⟨.str y, H', I', ⟨t, rfl⟩, qz⟩
end
end Lw
namespace Lw.Ow
open PySem PySem.Spec PyProof.Rows PySem.W PySem.Calls
/-! ### != by the own == -/
theorem sl_obj_ne : Slot "object" "__ne__" "object.__ne__" :=
  .of (owner := "object") (n := "__ne__") (by rw [typeLookup_type, builtinLookup_eq_fast]; kernel_rfl) (by decide +kernel) (by decide +kernel) (by decide +kernel)
    (by first | exact .inl (by decide +kernel) | exact .inr (by decide +kernel)) (by rw [isSubtype_type]; kernel_rfl)
section
variable {prog : Program} {w : World} {A : Around} {E : Value → Shared → Prop} {s : Shared} {K : Frag} {x C f : Addr} {ox : Obj} {od : Option Obj}
theorem ifBound_S {M : Model} {name : Str} {id : String} {args : List Value} {Q : Option Value → Shared → Prop} (X : K.In s.heap) (I : InstAt s.heap x ox C od) (hs : findIn K (.ref C) name = some (some (.builtin id))) (hb : ∀ self, bindSpecial (.builtin id) self = pure (.builtin id, [self]))
    (h : wpAny M A (call (.builtin id) (.ref x :: args)) (fun v => Q (some v)) E s) : wpAny M A (callSpecialIfBound? (.ref x) name args) Q E s := by
  simp only [callSpecialIfBound?, bindSpecialIfBound?]
  refine wpAny_holding (wpAny_bind (wpAny_bind (wpAny_bind (I.type.here ((looks_findIn X hs).here ?_)))))
  refine wpAny_bind (wpAny_askSetting (wpAny_ite ?_))
  have fin : wpAny M A (call (.builtin id) ([.ref x] ++ args) >>= fun v => pure (some v)) Q E s := wpAny_bind (wpAny_mono h (fun v s' h' => wpAny_pure h') fun _ _ h' => h')
  split
  · exact wpAny_bind ((Looks.of_pure (hb _)).here (wpAny_pure (by exact fin)))
  · exact wpAny_tryCatch (wpAny_bind ((Looks.of_pure (hb _)).here (wpAny_pure (by exact fin))))
theorem try_ne {b : Value} {Q : Value → Shared → Prop} (hu : A.in1.units < cLine) (X : K.In s.heap) (I : InstAt s.heap x ox C od) (hm : mroIn K C (.type "object") = some true) (hn : findIn K (.ref C) "__ne__" = some (some (.builtin "object.__ne__"))) (he : findIn K (.ref C) "__eq__" = some (some (.ref f))) (hf : isFn K (.ref f) = true)
    (h : wpAny (model prog w) A.in1 (call (.ref f) [.ref x, b]) (fun v s' => ∃ c, v = .bool c ∧ Q (.bool (!c)) s') E s) : wpAny (model prog w) A (tryCompare (.ref x) "__ne__" b) (fun r s' => ∃ v, r = some v ∧ Q v s') E s := by
  unfold tryCompare
  refine wpAny_bind (ifBound_S X I hn sl_obj_ne.bind (wpAny_call (codeAny_call_builtin sl_obj_ne.plain F.cmpEntry_ne (check_slot (i := "object.__ne__") (owner := "object") (n := "__ne__") F.cmpKind_ne F.cmpSplit_ne (I.type.andThen (looks_mroIn X hm)) (F.cmpArgs_ne _ _) ?_))))
  unfold Builtin.«object.__ne__»
  refine wpAny_bind (wpAny_of_eq (a := (Value.ref x, [b])) rfl ?_)
  refine wpAny_bind (m := cRoomFor _ _) (wpAny_cRoomFor hu ?_)
  refine wpAny_bind (m := callSpecialIfBound? (.ref x) (Str.ofString "__eq__") _) (ifBound_K X I he hf (wpAny_mono h (fun r s' hq => ?_) fun _ _ y => y))
  obtain ⟨c, rfl, q⟩ := hq
  refine wpAny_bind (m := truthy (.bool c)) (wpAny_truthy_bool ?_)
  first | exact wpAny_pure (wpAny_pure ⟨_, rfl, q⟩) | exact wpAny_pure ⟨_, rfl, q⟩ | exact ⟨_, rfl, wpAny_pure ⟨_, rfl, q⟩⟩
theorem cmp_ne {b tb : Value} {Q : Value → Shared → Prop} (hu : A.units < cLine) (X : K.In s.heap) (I : InstAt s.heap x ox C od) (hb : Looks (model prog w) s.heap (typeOf b) tb) (hn : notFirst K C tb = true)
    (one : wpAny (model prog w) A (tryCompare (.ref x) "__ne__" b) (fun r s' => ∃ v, r = some v ∧ Q v s') E s) : wpAny (model prog w) A (richCompare .NotEq (.ref x) b) Q E s := by
  unfold richCompare
  simp only [oneThing_ref]
  refine wpAny_holding (wpAny_bind (wpAny_cRoomFor hu ?_))
  refine wpAny_bind (I.type.here (wpAny_bind (hb.here ?_)))
  split
  · rename_i q
    have e : subIn K tb (.ref C) = some false := by
      rcases Bool.or_eq_true_iff.mp hn with e | e
      · rw [beq_iff_eq.mp e] at q; simp at q
      · exact beq_iff_eq.mp e
    refine wpAny_bind ((looks_subIn X e).here ?_)
    simp only [Bool.false_eq_true, if_false]
    refine wpAny_bind (wpAny_mono one (fun r s' z => ?_) fun _ _ e => e)
    obtain ⟨v, rfl, hq⟩ := z
    exact wpAny_pure hq
  · refine wpAny_bind (wpAny_pure ?_)
    simp only [Bool.false_eq_true, if_false]
    refine wpAny_bind (wpAny_mono one (fun r s' z => ?_) fun _ _ e => e)
    obtain ⟨v, rfl, hq⟩ := z
    exact wpAny_pure hq
end
end Lw.Ow
namespace Lw
open PySem PySem.Spec PyProof.Rows L2 LamX
section
variable {X : Cx} {C f : Addr} {k j : Nat} {sp : Sp} {E : XK} {pins : List (Addr × Obj)} {σ : L2.St} {H : Hp} {s : Shared}
structure NeC (K : PySem.W.Frag) (C : Addr) : Prop where
  m : PySem.W.mroIn K C (.type "object") = some true
  n : PySem.W.findIn K (.ref C) "__ne__" = some (some (.builtin "object.__ne__"))
def Nb (Q : VK) : VK := fun v H => ∃ c, v = .bl c ∧ Q (.bl (!c)) H
def rNR (C : Addr) (sp : Sp) (E : XK) : R2 := fun x y H Q => ∃ a dx fs b dy gs, x = .ref a ∧ H a = some (.ins C dx fs) ∧ y = .ref b ∧ H b = some (.ins C dy gs) ∧ sp [x, y] H (Nb Q) E
theorem op_neR (nc : NeC X.K C) (M : MetX X.prog X.w X.K X.mg X.base k C "__eq__" sp) (hx : Passes (L2.CX X.prog X.w) X E) (hr : Room j X.A) (hk : k + 1 ≤ j) : OpR X (compareOp .NotEq) (rNR C sp E) := by
  intro pins s σ H x y v u Q I rx ry h
  obtain ⟨a, dx, fs, b, dy, gs, rfl, ha, rfl, hb, q⟩ := h
  cases (show v = Value.ref a from rx)
  cases (show u = Value.ref b from ry)
  obtain ⟨_, _, J⟩ := ins_at I ha
  obtain ⟨_, _, J'⟩ := ins_at I hb
  have hr1 : Room k X.A.in1 := Room.in1 (hr.mono hk)
  obtain ⟨g, hm, w⟩ := run_metA (us := [.ref a, .ref b]) (vs := [.ref a, .ref b]) M hx hr1 I.env0.in1 I (.cons rfl (.cons rfl .nil)) q
  refine Ow.cmp_ne hr.units0 I.kIn J J'.type (by simp [PySem.W.notFirst]) (Ow.try_ne hr1.units0 I.kIn J nc.m nc.n hm.at_ hm.fn (wpAny_mono w (fun v s' z => ?_) fun _ _ x => x))
  obtain ⟨z', H', I', rz, c, rfl, qz⟩ := z
  cases (show v = Value.bool c from rz)
  exact ⟨c, rfl, .bl (!c), H', I', rfl, qz⟩
end
theorem TyX.same {K : PySem.W.Frag} {H H' : Hp} {v : V} {t : Value} (s : Same H H') (h : TyX K H v t) : TyX K H' v t := by
  cases h with
  | base h =>
    refine .base ?_
    cases h with
    | non => exact .non
    | bl x => exact .bl x
    | int i => exact .int i
    | str x => exact .str x
    | flt x => exact .flt x
    | lst e => exact .lst (s _ _ e)
    | frz e => exact .frz (s _ _ e)
    | tup e => exact .tup (s _ _ e)
    | dK e => exact .dK (s _ _ e)
    | dT e => exact .dT (s _ _ e)
    | ins e cl ha hn htk hm => exact .ins (s _ _ e) cl ha hn htk hm
  | byt b => exact .byt b
  | set e => exact .set (s _ _ e)
  | kList e c => exact .kList e c
  | kTuple e c => exact .kTuple e c
  | kDict e c => exact .kDict e c
  | fTuple e => exact .fTuple (s _ _ e)
  | fDict e => exact .fDict (s _ _ e)
theorem TyZ.same {K : PySem.W.Frag} {H H' : Hp} {v : V} {t : Value} (s : Same H H') (h : TyZ K H v t) : TyZ K H' v t := by
  cases h with
  | x h => exact .x (Lw.TyX.same s h)
  | fn e => exact .fn (s _ _ e)
theorem Anyv.same {K : PySem.W.Frag} {H H' : Hp} {v : V} (s : Same H H') (h : Anyv K H v) : Anyv K H' v := by
  cases h with
  | int i => exact .int i
  | non => exact .non
  | bl b => exact .bl b
  | str z => exact .str z
  | obj h h1 h2 h3 => exact .obj (Lw.TyZ.same s h) h1 h2 h3
open SX PySem.NumText TL
theorem tl_neg {n : Nat} (h : 0 < n) : (Str.ofString (toString (-((n : Nat) : Int)))).cps.toList = 45 :: numL n := by
  obtain ⟨m, rfl⟩ : ∃ m, n = m + 1 := ⟨n - 1, by omega⟩
  rw [PyProof.Rows.signs_ofString]
  have e : toString (-(((m + 1 : Nat) : Int))) = "-" ++ Nat.repr (m + 1) := rfl
  rw [e, String.toList_append, List.map_append, Nat.toList_repr]
  rfl
theorem str_neg {n : Nat} (h : 0 < n) : Str.ofString (toString (-((n : Nat) : Int))) = S (45 :: numL n) := TL.ext_tl (tl_neg h)
/-- the figures of an integer, its sign ahead -/
def intL (i : Int) : List Nat := if i < 0 then 45 :: numL i.natAbs else numL i.natAbs
theorem str_int (i : Int) : Str.ofString (toString i) = S (intL i) := by
  unfold intL
  by_cases h : i < 0
  · rw [if_pos h]
    obtain ⟨n, rfl⟩ : ∃ n : Nat, i = -((n : Nat) : Int) := ⟨i.natAbs, by omega⟩
    rw [show (-((n : Nat) : Int)).natAbs = n by omega]
    exact str_neg (by omega)
  · rw [if_neg h]
    obtain ⟨n, rfl⟩ : ∃ n : Nat, i = ((n : Nat) : Int) := ⟨i.natAbs, by omega⟩
    rw [Int.natAbs_natCast]
    exact num_S n
open SX PySem.NumText TL LamX ClX StX
abbrev sCof : Stmt := inClass (top 22) 2
abbrev sCst : Stmt := inClass (top 22) 20
abbrev sCeq : Stmt := inClass (top 22) 19
/-! ### C(*xs) -/
section
variable {X : Cx} {CX : CXT} {k : Nat} {f C : Addr} {sp : Sp} {E : XK} {x : Str} {e : Expr} {te : TE} {p sp_ pos : Pos}
def tMakeS (K : PySem.W.Frag) (C : Addr) (sp : Sp) (E : XK) (te : TE) : TE := fun σ H Q => te σ H fun y H1 => ∃ a xs, y = V.ref a ∧ (SqT K H1 a xs ∨ SqL K H1 a xs) ∧ ∀ x dx, H1 x = Option.none → H1 dx = Option.none → dx ≠ x →
  sp (V.ref x :: xs) (upd (upd H1 dx (.own x)) x (.ins C dx [])) (fun v H2 => v = .non ∧ Q (.ref x) H2) E
theorem pe_makeS1 (M : Mk X.K C f) (F : FnR X.prog X.w X.K X.mg X.base CX k f sp) (hr : Room (k + 1) X.A) (hg : Gl X x) (hm : X.mg x = some (.ref C)) (hx : Passes CX X E) (he : PE X e te) (hd : (x == ("__debug__" : Str)) = false := by decide)
    (hst : starEach [.Starred e sp_] X.env = [(true, eval e X.env)] := by rfl) :
    PE X (.Call (.Name x p) [.Starred e sp_] [] pos) (tMakeS X.K C sp E te) := by
  refine ⟨fun pins s σ H Q I h => ?_⟩
  refine wpAny_Call_Name_kw (ld_glob I hg hm ?_ hd)
  refine PySem.W.callWith_S (h₀ := X.base) I.ok.mod.kin M.kp (thn (he.run pins s σ H _ I h) fun v s1 ⟨y, H1, I1, ry, a, xs, ey, hxs, q⟩ => ?_) hst
  subst ey
  obtain rfl : v = Value.ref a := ry
  exact star_any I1 hxs fun us s2 I2 rv => ⟨I2.kIn, run_makeR M F hr hx I2 rv q⟩
end
theorem seq_cls {K : PySem.W.Frag} {H : Hp} {a : Addr} {xs : List V} (h : H a = some (.lst xs) ∨ H a = some (.tup xs)) : ∃ t, TyX K H (.ref a) t ∧ PySem.W.kitAny K t [.type "list", .type "tuple"] = some true := by
  rcases h with h | h
  · exact ⟨.type "list", .base (.lst h), kitAny_cons (kit_ty (r := true) (by decide +kernel)) (fun z => by cases z) (fun _ => rfl)⟩
  · exact ⟨.type "tuple", .base (.tup h), kitAny_cons (kit_ty (r := false) (by decide +kernel)) (fun _ => kitAny_cons (kit_ty (r := true) (by decide +kernel)) (fun z => by cases z) (fun _ => rfl)) (fun z => by cases z)⟩
/-! ### Chunks -/
/-- Chunks of these sizes -/
def ChAt (CC : Addr) (H : Hp) (c : Addr) (ns : List Int) : Prop := ∃ dx p t e r, H c = some (.ins CC dx (chF p t e r)) ∧ H p = some (.tup (ns.map V.int))
theorem ChAt.same {CC : Addr} {H H' : Hp} {c : Addr} {ns : List Int} (h : ChAt CC H c ns) (s : Same H H') : ChAt CC H' c ns := by
  obtain ⟨dx, p, t, e, r, h1, h2⟩ := h
  exact ⟨dx, p, t, e, r, s _ _ h1, s _ _ h2⟩
theorem ChAt.extn {CC : Addr} {H H' : Hp} {c : Addr} {ns : List Int} (h : ChAt CC H c ns) (s : ExtN H H') : ChAt CC H' c ns := by
  obtain ⟨dx, p, t, e, r, h1, h2⟩ := h
  exact ⟨dx, p, t, e, r, s _ _ h1 (fun ps z => by cases z), s _ _ h2 (fun ps z => by cases z)⟩
theorem Mf.of {DM : Addr} {H H' : Hp} {E : XK} (h : Mf DM H E) (s : Same H H') : Mf DM H' E := fun d fs H2 s2 hd f1 f2 => h d fs H2 (s.trans s2) hd f1 f2
def spCof (CC DM : Addr) : Sp := fun vs H Q E => ∃ (l : Addr) (ns : List Int), vs = [.ref l] ∧ (H l = some (.lst (ns.map V.int)) ∨ H l = some (.tup (ns.map V.int))) ∧ SzOk ns ∧
  (ns.length ≤ 5000 → ∀ c H', Same H H' → H c = none → ChAt CC H' c ns → Q (.ref c) H') ∧ (5000 < ns.length → Mf DM H E)
/-- Chunks.__init__, ready to be called with a star -/
structure ChM (P : Program) (w : World) (K : PySem.W.Frag) (mg : Str → Option Value) (base : Heap) (CC DM fI : Addr) (mc : Value) : Prop where
  Z : ChC P w K mg base CC DM mc
  M : Mk K CC fI
  F : FnR P w K mg base (L2.CX P w) 5 fI (fun vs H Q E => ∃ ws rest, vs = ws ++ rest ∧ ws.length = ["self"].length ∧ rest.length ≤ sizeLine ∧ ∀ p, H p = none → spCI CC DM (ws ++ [V.ref p]) (upd H p (.tup rest)) Q E)
/-- the text of these sizes -/
def chTx : List Int → List Nat
  | [] => [45]
  | n :: r => joinL [32] ((n :: r).map intL)
def spCst (CC : Addr) : Sp := fun vs H Q _ => ∃ c ns, vs = [.ref c] ∧ ChAt CC H c ns ∧ SzOk ns ∧ ns.length ≤ 5000 ∧ ∀ H', Same H H' → Q (.str (S (chTx ns))) H'
def spCeq (CC : Addr) : Sp := fun vs H Q _ => ∃ (a b : Addr) (ns ms : List Int), vs = [.ref a, .ref b] ∧ ChAt CC H a ns ∧ ChAt CC H b ms ∧ Q (.bl (decide (ns = ms))) H
theorem eqvs_ints : ∀ ns ms : List Int, PyData.eqvAll (ns.map PyData.int) (ms.map PyData.int) = decide (ns = ms)
  | [], [] => rfl
  | [], _ :: _ => rfl
  | _ :: _, [] => rfl
  | n :: r, m :: q => by
    show ((n == m) && PyData.eqvAll (r.map PyData.int) (q.map PyData.int)) = _
    rw [eqvs_ints r q]
    by_cases h : n = m
    · subst h; simp
    · simp [h]
theorem lays_ints : ∀ ns : List Int, PyData.canLayAll0 (ns.map PyData.int) = true
  | [] => rfl
  | n :: r => by show (true && PyData.canLayAll0 (r.map PyData.int)) = true; rw [lays_ints r]; rfl
theorem depths_ints : ∀ ns : List Int, PyData.depthAll (ns.map PyData.int) = 0
  | [] => rfl
  | n :: r => by show max 0 (PyData.depthAll (r.map PyData.int)) = 0; rw [depths_ints r]; rfl
theorem shaped_tints (ns : List Int) : SeqAt.shaped (.tuple (ns.map PyData.int)) = true := by
  unfold SeqAt.shaped
  have h1 : PyData.canLay0 (.tuple (ns.map PyData.int)) = true := lays_ints ns
  have h2 : PyData.depth (.tuple (ns.map PyData.int)) = 1 := by
    show PyData.depthAll (ns.map PyData.int) + 1 = 1
    rw [depths_ints]
  rw [h1, h2]; rfl
theorem intL_len2 {i : Int} (h : i.natAbs ≤ 10 ^ 30) : (intL i).length ≤ 32 := by
  have l : (numL i.natAbs).length ≤ 31 := numL_len (k := 31) (by decide) (Nat.lt_of_le_of_lt h (by decide +kernel))
  unfold intL
  split
  · rw [List.length_cons]; omega
  · omega
theorem sum_le {xs : List (List Nat)} {m : Nat} (h : ∀ x ∈ xs, x.length ≤ m) : ((xs.map S).map (·.length)).sum ≤ xs.length * m := by
  induction xs with
  | nil => simp
  | cons x r ih =>
    rw [List.map_cons, List.map_cons, List.sum_cons, List.length_cons, S_len]
    have h1 := h x List.mem_cons_self
    have h2 := ih fun y hy => h y (List.mem_cons_of_mem _ hy)
    rw [Nat.add_mul]
    omega
section
variable {P : Program} {w : World} {K : PySem.W.Frag} {mg : Str → Option Value} {base : Heap}
theorem scCof : FnScope ["sizes"] ["sizes"] (C8.fnScope sCof) := C8.fnScope_by (by decide +kernel)
theorem fn_cof {CC DM fI f : Addr} {mc : Value} {fd : FuncData} (F : C8.Fun K "of" "Chunks.of" sCof f fd) (T : Txt mg) (htu : mg "tuple" = none) (CM : ChM P w K mg base CC DM fI mc) : FnOk P w K mg base (L2.CX P w) 7 f fd ["sizes"] (spCof CC DM) := by
  obtain ⟨oc, od, dV, kV, doc, pm, an, cdv, ct, osl, rfl, lk, hcd⟩ := F.ex
  refine fn_of lk hcd scCof (fun vs H Q E h => ?_) fun A outer s H vs Q E hr h => ?_
  · obtain ⟨l, ns, rfl, _⟩ := h
    rfl
  · obtain ⟨l, ns, rfl, hl, ok, k1, k2⟩ := h
    refine ⟨_, (pss_cons (ps_if (pt_not (pt_val (pe_callB call_isiT (by rfl) T.n_isinstance (by decide +kernel) (pa_cons (pv 0) (pa_cons (pe_tup (pa_cons (pe_bltn (v := .ty "list") (by rfl) T.n_list (by decide +kernel) rfl) (pa_cons (pe_bltn (v := .ty "tuple") (by rfl) htu (by decide +kernel) rfl) pa_nil))) pa_nil))))) (pss_one ps_never) pss_nil)
      (pss_one (ps_ret (pe_makeS1 CM.M CM.F (hr.mono (by decide)) (by rfl) CM.Z.hm (passes_call (takes_of rfl rfl rfl rfl) (fun _ _ _ _ z => z)) (pv 0))))), ?_⟩
    refine ⟨_, rfl, (by show 2 ≤ sizeLine; decide), fun t ft => ?_⟩
    have s1 := same_new (o := HO.tup [V.ty "list", V.ty "tuple"]) ft
    have et : upd H t (HO.tup [V.ty "list", V.ty "tuple"]) t = some (.tup [V.ty "list", V.ty "tuple"]) := upd_same
    generalize upd H t _ = H1 at s1 et ⊢
    obtain ⟨ty, hty, hk⟩ := seq_cls (K := K) hl
    refine ⟨_, t, _, ty, _, true, rfl, et, .cons (.ty _) (.cons (.ty _) .nil), Lw.TyX.same s1 hty, hk, ?_⟩
    refine ⟨_, rfl, iteF ?_⟩
    have hl1 : SqT K H1 l (ns.map V.int) ∨ SqL K H1 l (ns.map V.int) := hl.elim (fun z => .inr (SqL.of (s1 _ _ z))) (fun z => .inl (SqT.of (s1 _ _ z)))
    refine ⟨_, rfl, l, _, rfl, hl1, fun x dx hx hdx ne => ?_⟩
    have hlen : (ns.map V.int).length = ns.length := List.length_map _
    refine ⟨[V.ref x], ns.map V.int, rfl, rfl, (by rw [hlen]; exact Nat.le_trans ok.2 (by decide)), fun p hp => ?_⟩
    have s2 : Same H1 (upd (upd H1 dx (.own x)) x (.ins CC dx [])) := (same_new hdx).trans (same_new (by rw [upd_ne ne.symm]; exact hx))
    have s3 := s2.trans (same_new (o := HO.tup (ns.map V.int)) hp)
    have xp : x ≠ p := fun e => by rw [← e, upd_same] at hp; cases hp
    refine ⟨x, dx, p, ns, rfl, (by rw [upd_ne xp]; exact upd_same), upd_same, ok, fun h5 t e r H' kp hx' => ⟨rfl, ?_⟩, fun h5 => (k2 h5).of (s1.trans s3)⟩
    refine k1 h5 x H' (fun b o e' => kp b o (fun q => ?_) (s3 _ _ (s1 _ _ e'))) (s1.free hx) ⟨dx, p, t, e, r, hx', kp p _ xp.symm upd_same⟩
    rw [q] at e'
    rw [s1 _ _ e'] at hx
    cases hx
theorem scCst : FnScope ["self", "size"] ["self"] (C8.fnScope sCst) := C8.fnScope_by (by decide +kernel)
theorem fn_cst {CC DM f : Addr} {mc : Value} {fd : FuncData} (F : C8.Fun K "__str__" "Chunks.__str__" sCst f fd) (T : Txt mg) (Z : ChC P w K mg base CC DM mc) : FnOk P w K mg base (L2.CX P w) 2 f fd ["self"] (spCst CC) := by
  obtain ⟨oc, od, dV, kV, doc, pm, an, cdv, ct, osl, rfl, lk, hcd⟩ := F.ex
  refine fn_of lk hcd scCst (fun vs H Q E h => ?_) fun A outer s H vs Q E hr h => ?_
  · obtain ⟨c, ns, rfl, _⟩ := h
    rfl
  · obtain ⟨c, ns, rfl, ⟨dx, p, t, e, r, hc, hp⟩, ⟨so, _⟩, lm, k⟩ := h
    refine ⟨_, (pss_cons (ps_if (pt_not (pt_truth (pe_fld (pv 0) rfl) (by intro _; rfl))) (pss_one (ps_ret pe_str)) pss_nil)
      (pss_one (ps_ret (pe_join pe_str (pe_lc (own := [("size", 1)]) (g := gName 1) (tt := tYes) rfl scCst.nd (pi_tup (pe_fld (pv 0) rfl)) (blkOk_by (own := [("size", 1)]) (N := ["self", "size"]) (sc := (C8.fnScope sCst)) (by decide +kernel)) (fun _ _ _ _ _ => pg_name (i := 1) scCst.nd rfl (Or.inl rfl)) (fun _ _ _ _ _ => pts_nil) (fun _ _ _ _ _ => (pe_callTy call_str_int (by rfl) T.n_str (by decide +kernel) (pa_cons (pv 1) pa_nil)))))))), ?_⟩
    have lmem : ∀ v ∈ ns, v.natAbs ≤ 10 ^ 30 := fun v hv => by
      obtain ⟨h1, h2⟩ := so v hv
      have e : ((10 : Int) ^ 30) = ((10 ^ 30 : Nat) : Int) := by decide +kernel
      rw [e] at h2
      omega
    refine ⟨_, rfl, c, CC, dx, _, _, rfl, hc, Z.cl, Z.n1, chF_sizes p t e r, _, .inr (.inl ⟨_, SqT.of hp, rfl⟩), ?_⟩
    cases ns with
    | nil => exact iteT (k H (Same.refl _))
    | cons n0 r0 =>
      refine iteF ?_
      generalize hns : n0 :: r0 = ns at *
      have hlen : (ns.map V.int).length = ns.length := List.length_map _
      refine ⟨⟨_, rfl⟩, _, rfl, c, CC, dx, _, _, rfl, hc, Z.cl, Z.n1, chF_sizes p t e r, p, rfl, ⟨_, SqT.of hp⟩, fun D hD => ?_⟩
      refine lc_tup (xs := ns.map V.int) (fun i H' => Same H H' ∧ H' D = some (.lst ((((ns.take i).map intL).map S).map V.str))) ⟨same_new hD, upd_same⟩ (fun i H' _ h => SqT.of (h.1 _ _ hp)) ?_ ?_
      · rintro i y H' hy ⟨s', hd⟩
        obtain ⟨v, hv, rfl⟩ : ∃ v, ns[i]? = some v ∧ y = .int v := by
          rw [List.getElem?_map] at hy
          cases hq : ns[i]? with
          | none => rw [hq] at hy; cases hy
          | some v => rw [hq] at hy; cases hy; exact ⟨v, rfl, rfl⟩
        have hi : i < ns.length := (List.getElem?_eq_some_iff.mp hv).1
        refine ⟨rfl, ?_⟩
        dsimp only [tYes]
        rw [if_pos rfl]
        refine ⟨_, rfl, v, rfl, ?_, _, hd, ?_, fun b o e => ?_, ?_⟩
        · have := lmem v (List.mem_of_getElem? hv)
          by_cases z : v.natAbs = 0
          · rw [z]; decide
          · exact (Nat.log2_lt z).mpr (Nat.lt_of_le_of_lt this (by decide +kernel))
        · rw [List.length_map, List.length_map, List.length_map]
          exact Nat.lt_of_le_of_lt (Nat.le_trans (List.length_take_le _ _) (Nat.le_trans (Nat.le_of_lt hi) lm)) (by decide)
        · rw [upd_ne (ne_of_none e hD)]
          exact s' _ _ e
        · rw [upd_same, List.take_add_one, hv, str_int]
          simp
      · rintro H2 ⟨s2, hd⟩
        rw [List.take_of_length_le (by rw [hlen]; exact Nat.le_refl _)] at hd
        refine ⟨_, D, (ns.map intL).map S, rfl, rfl, .inl (SqL.of hd), ?_, ?_⟩
        · have h1 := sum_le (xs := ns.map intL) (m := 32) fun x hx => by
            obtain ⟨v, hv, rfl⟩ := List.mem_map.mp hx
            exact intL_len2 (lmem v hv)
          rw [List.length_map] at h1
          rw [List.length_map, List.length_map, show (Str.ofString " ").length = 1 from rfl]
          omega
        · have e1 : chTx ns = joinL [32] (ns.map intL) := by rw [← hns]; rfl
          rw [show (Str.ofString " ") = S [32] from rfl, join_S, ← e1]
          exact k H2 s2
theorem scCeq : FnScope ["self", "other"] ["self", "other"] (C8.fnScope sCeq) := C8.fnScope_by (by decide +kernel)
theorem fn_ceq {CC DM f : Addr} {mc : Value} {fd : FuncData} (F : C8.Fun K "__eq__" "Chunks.__eq__" sCeq f fd) (T : Txt mg) (Z : ChC P w K mg base CC DM mc) (I : C8.InsC K CC) : FnOk P w K mg base (L2.CX P w) 2 f fd ["self", "other"] (spCeq CC) := by
  obtain ⟨oc, od, dV, kV, doc, pm, an, cdv, ct, osl, rfl, lk, hcd⟩ := F.ex
  refine fn_of lk hcd scCeq (fun vs H Q E h => ?_) fun A outer s H vs Q E hr h => ?_
  · obtain ⟨a, b, ns, ms, rfl, _⟩ := h
    rfl
  · obtain ⟨a, b, ns, ms, rfl, ⟨dxa, pa, ta, ea, ra, ha, hpa⟩, ⟨dxb, pb, tb, eb, rb, hb, hpb⟩, go⟩ := h
    refine ⟨_, (pss_one (ps_ret (pe_and (pe_callB call_isz (by rfl) T.n_isinstance (by decide +kernel) (pa_cons (pv 1) (pa_cons (pe_glob (v := .ref CC) (by rfl) Z.hm rfl) pa_nil))) (pe_one (pe_cmpR (op_eqD hr.units) (pe_fld (pv 0) rfl) (pe_fld (pv 1) rfl) (nomark _)))))), ?_⟩
    have ty : TyZ K H (.ref b) (.ref CC) := .x (.base (.ins hb I.cl I.ha I.hn I.htk I.hm))
    refine ⟨_, rfl, _, .ref CC, .ref CC, .ref CC, true, rfl, .own CC, ty, I.me, _, rfl, iteT ?_⟩
    refine ⟨_, rfl, a, CC, dxa, _, _, rfl, ha, Z.cl, Z.n1, chF_sizes _ _ _ _, _, rfl, b, CC, dxb, _, _, rfl, hb, Z.cl, Z.n1, chF_sizes _ _ _ _, .tuple (ns.map PyData.int), .tuple (ms.map PyData.int), .tup (SqT.of hpa) (dp_ints ns), .tup (SqT.of hpb) (dp_ints ms), shaped_tints ns, shaped_tints ms, ?_⟩
    rw [show PyData.eqv (.tuple (ns.map PyData.int)) (.tuple (ms.map PyData.int)) = decide (ns = ms) from eqvs_ints ns ms]
    exact go
end
end Lw
namespace Lw
open PySem PySem.Spec PyProof.Rows L2
open SX PySem.NumText TL LamX ClX
abbrev sHea : Stmt := top 31
/-- a caught error's class -/
structure HrdC (K : PySem.W.Frag) (D L : Addr) : Prop where
  xf : XfC K D
  xc : Hx.XCls K D
  me : PySem.W.kitOne K (.ref D) (.ref D) = some true
  va : PySem.W.kitOne K (.ref D) (.type "ValueError") = some true
  ex : PySem.W.exmOne K (.ref D) (.ref L) = some true
structure Hrd (K : PySem.W.Frag) (mg : Str → Option Value) (DC DS DT DN DM L : Addr) : Prop where
  ml : mg "LateError" = some (.ref L)
  mv : mg "ValueError" = none
  cDC : HrdC K DC L
  mDC : mg "BadChunks" = some (.ref DC)
  nDC_part : PySem.W.findIn K (.ref DC) "part" = some none
  kDC_DS : PySem.W.kitOne K (.ref DC) (.ref DS) = some false
  kDC_DT : PySem.W.kitOne K (.ref DC) (.ref DT) = some false
  kDC_DN : PySem.W.kitOne K (.ref DC) (.ref DN) = some false
  kDC_DM : PySem.W.kitOne K (.ref DC) (.ref DM) = some false
  cDS : HrdC K DS L
  mDS : mg "BadSize" = some (.ref DS)
  nDS_value : PySem.W.findIn K (.ref DS) "value" = some none
  kDS_DC : PySem.W.kitOne K (.ref DS) (.ref DC) = some false
  kDS_DT : PySem.W.kitOne K (.ref DS) (.ref DT) = some false
  kDS_DN : PySem.W.kitOne K (.ref DS) (.ref DN) = some false
  kDS_DM : PySem.W.kitOne K (.ref DS) (.ref DM) = some false
  cDT : HrdC K DT L
  mDT : mg "BadTotal" = some (.ref DT)
  nDT_value : PySem.W.findIn K (.ref DT) "value" = some none
  kDT_DC : PySem.W.kitOne K (.ref DT) (.ref DC) = some false
  kDT_DS : PySem.W.kitOne K (.ref DT) (.ref DS) = some false
  kDT_DN : PySem.W.kitOne K (.ref DT) (.ref DN) = some false
  kDT_DM : PySem.W.kitOne K (.ref DT) (.ref DM) = some false
  cDN : HrdC K DN L
  mDN : mg "NoChunk" = some (.ref DN)
  nDN_at : PySem.W.findIn K (.ref DN) "at" = some none
  kDN_DC : PySem.W.kitOne K (.ref DN) (.ref DC) = some false
  kDN_DS : PySem.W.kitOne K (.ref DN) (.ref DS) = some false
  kDN_DT : PySem.W.kitOne K (.ref DN) (.ref DT) = some false
  kDN_DM : PySem.W.kitOne K (.ref DN) (.ref DM) = some false
  cDM : HrdC K DM L
  mDM : mg "TooMany" = some (.ref DM)
  nDM_what : PySem.W.findIn K (.ref DM) "what" = some none
  nDM_most : PySem.W.findIn K (.ref DM) "most" = some none
  kDM_DC : PySem.W.kitOne K (.ref DM) (.ref DC) = some false
  kDM_DS : PySem.W.kitOne K (.ref DM) (.ref DS) = some false
  kDM_DT : PySem.W.kitOne K (.ref DM) (.ref DT) = some false
  kDM_DN : PySem.W.kitOne K (.ref DM) (.ref DN) = some false
/-- what is heard of an exception -/
def HeardX (K : PySem.W.Frag) (DC DS DT DN DM : Addr) (Q : VK) (cls : Value) (d : Option Addr) (H1 : Hp) : Prop :=
  (cls = .ref DC ∧ ∃ (dd : Addr) (fs : List (Str × V)) (v0 : V) , d = some dd ∧ H1 dd = some (.xd fs) ∧ fs.lookup ("part" : Str) = some v0 ∧ ∀ t H3, Same H1 H3 → H1 t = none → H3 t = some (.tup [.str (Str.ofString "chunks"), v0]) → Q (.ref t) H3) ∨
  (cls = .ref DS ∧ ∃ (dd : Addr) (fs : List (Str × V)) (v0 : V) (z0 : Str), d = some dd ∧ H1 dd = some (.xd fs) ∧ fs.lookup ("value" : Str) = some v0 ∧ Rp K H1 v0 z0 ∧ ∀ t H3, Same H1 H3 → H1 t = none → H3 t = some (.tup [.str (Str.ofString "size"), .str z0]) → Q (.ref t) H3) ∨
  (cls = .ref DT ∧ ∃ (dd : Addr) (fs : List (Str × V)) (v0 : V) (z0 : Str), d = some dd ∧ H1 dd = some (.xd fs) ∧ fs.lookup ("value" : Str) = some v0 ∧ Rp K H1 v0 z0 ∧ ∀ t H3, Same H1 H3 → H1 t = none → H3 t = some (.tup [.str (Str.ofString "total"), .str z0]) → Q (.ref t) H3) ∨
  (cls = .ref DN ∧ ∃ (dd : Addr) (fs : List (Str × V)) (v0 : V) (z0 : Str), d = some dd ∧ H1 dd = some (.xd fs) ∧ fs.lookup ("at" : Str) = some v0 ∧ Rp K H1 v0 z0 ∧ ∀ t H3, Same H1 H3 → H1 t = none → H3 t = some (.tup [.str (Str.ofString "chunk"), .str z0]) → Q (.ref t) H3) ∨
  (cls = .ref DM ∧ ∃ (dd : Addr) (fs : List (Str × V)) (v0 : V) (v1 : V) , d = some dd ∧ H1 dd = some (.xd fs) ∧ fs.lookup ("what" : Str) = some v0 ∧ fs.lookup ("most" : Str) = some v1 ∧ ∀ t H3, Same H1 H3 → H1 t = none → H3 t = some (.tup [.str (Str.ofString "many"), v0, v1]) → Q (.ref t) H3)
def HeardV (Q : VK) (x : V) (H1 : Hp) : Prop := ∀ t H3, Same H1 H3 → H1 t = none → H3 t = some (.lst [x]) → Q (.ref t) H3
def TTheard (K : PySem.W.Frag) (DC DS DT DN DM : Addr) : (XK → Hp → VK → Prop) → Hp → VK → Prop := fun tl H Q => ∀ H2, Same H H2 → tl (HeardX K DC DS DT DN DM Q) H2 (HeardV Q)
abbrev NHea : List Str := ["_law_ask", "_law_some", "_law_caught", "_law_found", "error"]
theorem scHea : FnScope NHea ["_law_ask"] (C8.fnScope sHea) := C8.fnScope_by (by decide +kernel)
theorem pe_weak {X : Cx} {e : Expr} {te : TE} (he : PE X e te) : PE X e (fun σ H Q => ∃ Qx : VK, te σ H Qx ∧ ∀ x H1, Qx x H1 → Q x H1) :=
  ⟨fun pins s σ H Q I ⟨Qx, h, m⟩ => wpAny_mono (he.run pins s σ H Qx I h) (fun v s' ⟨x, H', I', r, q⟩ => ⟨x, H', I', r, m _ _ q⟩) (fun _ _ e => e)⟩
theorem heard_gives {X : Cx} {q : Str} {g DC DS DT DN DM L : Addr} {cdg : Value} (R : Hrd X.K X.mg DC DS DT DN DM L) (T : Txt X.mg) (hG : X.A.guards = some []) (hr0 : Room 1 X.A) :
    GivesTo X NHea "_law_heard" (C8.fnScope sHea) g cdg (C8.fnBody sHea) "_law_ask" q (TTheard X.K DC DS DT DN DM) := by
  intro f c' s H Q tl act hc h
  have hr : Room 0 (cxOf C8.CX0 X.prog X.w X.K X.mg X.base NHea "_law_heard" (C8.fnScope sHea) g cdg X.A X.stack s H C8.E0).nox.A := hr0.deeper _
  have hG' : (cxOf C8.CX0 X.prog X.w X.K X.mg X.base NHea "_law_heard" (C8.fnScope sHea) g cdg X.A X.stack s H C8.E0).nox.A.guards = some [] := hG
  refine ⟨_, pss_cons (ps_asg (pe_tup (pa_cons pe_non (pa_cons pe_non pa_nil))) (pg_tup rfl (pgs_cons (pg_name (i := 2) scHea.nd rfl (Or.inl rfl)) (pgs_cons (pg_name (i := 3) scHea.nd rfl (Or.inl rfl)) pgs_nil))))
    (pss_cons (ps_try_held (X := (cxOf C8.CX0 X.prog X.w X.K X.mg X.base NHea "_law_heard" (C8.fnScope sHea) g cdg X.A X.stack s H C8.E0).nox) (c := .ref L) (i := 4)
      (tb := fun W Dn σ H => ∃ Ech : XK, (∀ cls d σ' H', Ech cls d H' → W cls d σ' H') ∧ σ[0]? = some (some (.ref f)) ∧ H c' = some (CodeO c' q) ∧ ∃ Qx : VK, tl Ech H Qx ∧ ∀ x H1, Qx x H1 → Dn.nx (σ.set 3 (some x)) H1)
      rfl rfl scHea.nd rfl (by rfl) ⟨by rfl, by decide, .inl R.ml⟩ rfl (fun W pn xe tk _ => ?_) (fun a oe cls d pn _ _ => pss_one (ps_set (i := 2) scHea.nd rfl (Or.inl rfl) (pv 4))))
    (pss_cons (ps_if (pt_cmpR op_isN (pv 2) pe_non (nomark _)) (pss_one (ps_ret (pe_lst (pa_cons (pv 3) pa_nil)))) pss_nil)
    (pss_cons (ps_set (i := 1) scHea.nd rfl (Or.inl rfl) (pe_lst pa_nil))
    (pss_cons (ps_if (pt_val (pe_callB call_isw (by rfl) T.n_isinstance (by decide +kernel) (pa_cons (pv 2) (pa_cons (pe_glob (v := .ref DC) (by rfl) R.mDC rfl) pa_nil)))) (pss_one (ps_expr (pe_bm PySem.F.plainAttrs_list PySem.F.slot_list_append PySem.F.type_list_append mt_append (pv 1) (pa_cons (pe_tup (pa_cons pe_str (pa_cons (pe_held R.cDC.xf R.nDC_part (pv 2)) pa_nil))) pa_nil)))) pss_nil)
    (pss_cons (ps_if (pt_val (pe_callB call_isw (by rfl) T.n_isinstance (by decide +kernel) (pa_cons (pv 2) (pa_cons (pe_glob (v := .ref DS) (by rfl) R.mDS rfl) pa_nil)))) (pss_one (ps_expr (pe_bm PySem.F.plainAttrs_list PySem.F.slot_list_append PySem.F.type_list_append mt_append (pv 1) (pa_cons (pe_tup (pa_cons pe_str (pa_cons (pe_callB (call_reprX hG' hr) (by rfl) T.n_repr (by decide +kernel) (pa_cons (pe_held R.cDS.xf R.nDS_value (pv 2)) pa_nil)) pa_nil))) pa_nil)))) pss_nil)
    (pss_cons (ps_if (pt_val (pe_callB call_isw (by rfl) T.n_isinstance (by decide +kernel) (pa_cons (pv 2) (pa_cons (pe_glob (v := .ref DT) (by rfl) R.mDT rfl) pa_nil)))) (pss_one (ps_expr (pe_bm PySem.F.plainAttrs_list PySem.F.slot_list_append PySem.F.type_list_append mt_append (pv 1) (pa_cons (pe_tup (pa_cons pe_str (pa_cons (pe_callB (call_reprX hG' hr) (by rfl) T.n_repr (by decide +kernel) (pa_cons (pe_held R.cDT.xf R.nDT_value (pv 2)) pa_nil)) pa_nil))) pa_nil)))) pss_nil)
    (pss_cons (ps_if (pt_val (pe_callB call_isw (by rfl) T.n_isinstance (by decide +kernel) (pa_cons (pv 2) (pa_cons (pe_glob (v := .ref DN) (by rfl) R.mDN rfl) pa_nil)))) (pss_one (ps_expr (pe_bm PySem.F.plainAttrs_list PySem.F.slot_list_append PySem.F.type_list_append mt_append (pv 1) (pa_cons (pe_tup (pa_cons pe_str (pa_cons (pe_callB (call_reprX hG' hr) (by rfl) T.n_repr (by decide +kernel) (pa_cons (pe_held R.cDN.xf R.nDN_at (pv 2)) pa_nil)) pa_nil))) pa_nil)))) pss_nil)
    (pss_cons (ps_if (pt_val (pe_callB call_isw (by rfl) T.n_isinstance (by decide +kernel) (pa_cons (pv 2) (pa_cons (pe_glob (v := .ref DM) (by rfl) R.mDM rfl) pa_nil)))) (pss_one (ps_expr (pe_bm PySem.F.plainAttrs_list PySem.F.slot_list_append PySem.F.type_list_append mt_append (pv 1) (pa_cons (pe_tup (pa_cons pe_str (pa_cons (pe_held R.cDM.xf R.nDM_what (pv 2)) (pa_cons (pe_held R.cDM.xf R.nDM_most (pv 2)) pa_nil)))) pa_nil)))) pss_nil)
    (pss_one (ps_ret (pe_ifExp (PW.pt (pw_and (pt_cmpR op_eq (pe_callB call_len_seq (by rfl) T.n_len (by decide +kernel) (pa_cons (pv 1) pa_nil)) pe_int (nomark _)) (pw_and1 (pt_val (pe_callB call_isw (by rfl) T.n_isinstance (by decide +kernel) (pa_cons (pv 2) (pa_cons (pe_bltn (v := .ty "ValueError") (by rfl) R.mv (by decide +kernel) rfl) pa_nil))))))) (pe_ix ix_list (pv 1) pe_int (fun _ _ => rfl)) (pe_tup (pa_cons pe_str pa_nil))))))))))))), ?_⟩
  · refine ⟨fun pins s' σ H' Dn I h' => ?_⟩
    obtain ⟨Ech, hW, h1, h2, h3⟩ := h'
    obtain ⟨Qx, h3, h4⟩ := h3
    refine PSs.run (t := tAsg (fun σ H Q => ∃ Qx : VK, (fun σZ HZ Q => σZ[0]? = some (some (V.ref f)) ∧ HZ c' = some (CodeO c' q) ∧ tl Ech HZ Q) σ H Qx ∧ ∀ x H1, Qx x H1 → Q x H1) (gName 3)) ?hp pins s' σ H' Dn I ⟨Qx, ⟨h1, h2, h3⟩, h4⟩
    case hp => exact pss_one (ps_set (i := 3) scHea.nd rfl (Or.inl rfl) (pe_weak (act W pn xe Ech _ _ tk hW)))
  · refine ⟨(by show 2 ≤ sizeLine; decide), fun tt ft0 => ⟨tt, _, rfl, SqT.of upd_same, rfl, _, _, rfl, _, _, rfl, rfl, ?_⟩⟩
    have s0 := same_new (o := HO.tup [V.non, V.non]) ft0
    have hc0 := s0 _ _ hc
    have h0 := h _ s0
    refine ⟨HeardX X.K DC DS DT DN DM Q, fun cls d σ' H' z => ?_, rfl, hc0, ?_⟩
    · intro hl
      obtain ⟨x0, x1, x2, x3, x4, rfl⟩ : ∃ x0 x1 x2 x3 x4, σ' = [x0, x1, x2, x3, x4] := by
        match σ', hl with
        | [x0, x1, x2, x3, x4], _ => exact ⟨x0, x1, x2, x3, x4, rfl⟩
      rcases z with ⟨rfl, dd, fs, v0, rfl, e1, f0, go⟩ | ⟨rfl, dd, fs, v0, z0, rfl, e1, f0, p0, go⟩ | ⟨rfl, dd, fs, v0, z0, rfl, e1, f0, p0, go⟩ | ⟨rfl, dd, fs, v0, z0, rfl, e1, f0, p0, go⟩ | ⟨rfl, dd, fs, v0, v1, rfl, e1, f0, f1, go⟩
      · refine ⟨R.cDC.ex, fun a na => ⟨_, rfl, fun na' => ?_⟩⟩
        have s1 : Same H' (upd H' a (ExO a (.ref DC) (some dd))) := same_new na
        have ea : upd H' a (ExO a (.ref DC) (some dd)) a = some (ExO a (.ref DC) (some dd)) := upd_same
        have ed := s1 _ _ e1
        generalize upd H' a (ExO a (.ref DC) (some dd)) = H1 at s1 ea ed ⊢
        refine ⟨_, rfl, rfl, _, rfl, iteF ⟨(by show 0 ≤ sizeLine; decide), fun p np => ?_⟩⟩
        have s2 := same_new (o := HO.lst []) np
        have ep : upd H1 p (.lst []) p = some (.lst []) := upd_same
        have ea2 := s2 _ _ ea
        have ed2 := s2 _ _ ed
        have np' : H' p = none := s1.free np
        generalize upd H1 p (.lst []) = H2 at s2 ep ea2 ed2 ⊢
        refine ⟨_, rfl, _, .ref DC, .ref DC, .ref DC, true, rfl, .own DC, .held ea2 ed2 R.cDC.xc, R.cDC.me, _, rfl, iteT ⟨_, rfl, .inl ⟨rfl, _, SqL.of ep⟩, _, rfl, a, dd, _, _, rfl, ea2, ed2, f0, (by show 2 ≤ sizeLine; decide), fun t ft => ?_⟩⟩
        have s3 := same_new (o := HO.tup [V.str (Str.ofString "chunks"), v0]) ft
        refine ⟨p, _, _, rfl, rfl, s3 _ _ ep, (by show 0 < sizeLine; decide), ?_⟩
        have tp : t ≠ p := fun e => by rw [e, ep] at ft; cases ft
        have ap : a ≠ p := fun e => by rw [e, ep] at ea2; cases ea2
        have dp : dd ≠ p := fun e => by rw [e, ep] at ed2; cases ed2
        have s4 : Same H' (upd (upd H2 t (.tup [V.str (Str.ofString "chunks"), v0])) p (.lst ([] ++ [V.ref t]))) := fun b o e => by
          rw [upd_ne (ne_of_none e np')]
          exact s3 _ _ (s2 _ _ (s1 _ _ e))
        have ft' : H' t = none := (s1.trans s2).free ft
        have et : upd (upd H2 t (.tup [V.str (Str.ofString "chunks"), v0])) p (.lst ([] ++ [V.ref t])) t = some (.tup [V.str (Str.ofString "chunks"), v0]) := by rw [upd_ne tp]; exact upd_same
        have ea3 : upd (upd H2 t (.tup [V.str (Str.ofString "chunks"), v0])) p (.lst ([] ++ [V.ref t])) a = some (ExO a (.ref DC) (some dd)) := by rw [upd_ne ap]; exact s3 _ _ ea2
        have ed3 : upd (upd H2 t (.tup [V.str (Str.ofString "chunks"), v0])) p (.lst ([] ++ [V.ref t])) dd = some (.xd fs) := by rw [upd_ne dp]; exact s3 _ _ ed2
        have ep3 : upd (upd H2 t (.tup [V.str (Str.ofString "chunks"), v0])) p (.lst ([] ++ [V.ref t])) p = some (.lst [V.ref t]) := upd_same
        generalize upd (upd H2 t (.tup [V.str (Str.ofString "chunks"), v0])) p (.lst ([] ++ [V.ref t])) = H3 at s4 et ea3 ed3 ep3 ⊢
        refine ⟨_, rfl, _, .ref DS, .ref DC, .ref DS, false, rfl, .own DS, .held ea3 ed3 R.cDC.xc, R.kDC_DS, _, rfl, iteF ?_⟩
        refine ⟨_, rfl, _, .ref DT, .ref DC, .ref DT, false, rfl, .own DT, .held ea3 ed3 R.cDC.xc, R.kDC_DT, _, rfl, iteF ?_⟩
        refine ⟨_, rfl, _, .ref DN, .ref DC, .ref DN, false, rfl, .own DN, .held ea3 ed3 R.cDC.xc, R.kDC_DN, _, rfl, iteF ?_⟩
        refine ⟨_, rfl, _, .ref DM, .ref DC, .ref DM, false, rfl, .own DM, .held ea3 ed3 R.cDC.xc, R.kDC_DM, _, rfl, iteF ?_⟩
        refine ⟨_, rfl, p, _, rfl, .inl (SqL.of ep3), rfl, _, rfl, iteT ⟨_, rfl, _, .ty "ValueError", .ref DC, .type "ValueError", true, rfl, .ty _, .held ea3 ed3 R.cDC.xc, R.cDC.va, _, rfl, iteT ⟨_, rfl, p, _, 0, _, rfl, rfl, SqL.of ep3, atI_nat (j := 0) rfl, ?_⟩⟩⟩
        exact go t H3 s4 ft' et
      · refine ⟨R.cDS.ex, fun a na => ⟨_, rfl, fun na' => ?_⟩⟩
        have s1 : Same H' (upd H' a (ExO a (.ref DS) (some dd))) := same_new na
        have ea : upd H' a (ExO a (.ref DS) (some dd)) a = some (ExO a (.ref DS) (some dd)) := upd_same
        have ed := s1 _ _ e1
        generalize upd H' a (ExO a (.ref DS) (some dd)) = H1 at s1 ea ed ⊢
        refine ⟨_, rfl, rfl, _, rfl, iteF ⟨(by show 0 ≤ sizeLine; decide), fun p np => ?_⟩⟩
        have s2 := same_new (o := HO.lst []) np
        have ep : upd H1 p (.lst []) p = some (.lst []) := upd_same
        have ea2 := s2 _ _ ea
        have ed2 := s2 _ _ ed
        have np' : H' p = none := s1.free np
        generalize upd H1 p (.lst []) = H2 at s2 ep ea2 ed2 ⊢
        refine ⟨_, rfl, _, .ref DC, .ref DS, .ref DC, false, rfl, .own DC, .held ea2 ed2 R.cDS.xc, R.kDS_DC, _, rfl, iteF ?_⟩
        refine ⟨_, rfl, _, .ref DS, .ref DS, .ref DS, true, rfl, .own DS, .held ea2 ed2 R.cDS.xc, R.cDS.me, _, rfl, iteT ⟨_, rfl, .inl ⟨rfl, _, SqL.of ep⟩, _, rfl, a, dd, _, _, rfl, ea2, ed2, f0, v0, z0, rfl, Rp.same (s1.trans s2) p0, (by show 2 ≤ sizeLine; decide), fun t ft => ?_⟩⟩
        have s3 := same_new (o := HO.tup [V.str (Str.ofString "size"), V.str z0]) ft
        refine ⟨p, _, _, rfl, rfl, s3 _ _ ep, (by show 0 < sizeLine; decide), ?_⟩
        have tp : t ≠ p := fun e => by rw [e, ep] at ft; cases ft
        have ap : a ≠ p := fun e => by rw [e, ep] at ea2; cases ea2
        have dp : dd ≠ p := fun e => by rw [e, ep] at ed2; cases ed2
        have s4 : Same H' (upd (upd H2 t (.tup [V.str (Str.ofString "size"), V.str z0])) p (.lst ([] ++ [V.ref t]))) := fun b o e => by
          rw [upd_ne (ne_of_none e np')]
          exact s3 _ _ (s2 _ _ (s1 _ _ e))
        have ft' : H' t = none := (s1.trans s2).free ft
        have et : upd (upd H2 t (.tup [V.str (Str.ofString "size"), V.str z0])) p (.lst ([] ++ [V.ref t])) t = some (.tup [V.str (Str.ofString "size"), V.str z0]) := by rw [upd_ne tp]; exact upd_same
        have ea3 : upd (upd H2 t (.tup [V.str (Str.ofString "size"), V.str z0])) p (.lst ([] ++ [V.ref t])) a = some (ExO a (.ref DS) (some dd)) := by rw [upd_ne ap]; exact s3 _ _ ea2
        have ed3 : upd (upd H2 t (.tup [V.str (Str.ofString "size"), V.str z0])) p (.lst ([] ++ [V.ref t])) dd = some (.xd fs) := by rw [upd_ne dp]; exact s3 _ _ ed2
        have ep3 : upd (upd H2 t (.tup [V.str (Str.ofString "size"), V.str z0])) p (.lst ([] ++ [V.ref t])) p = some (.lst [V.ref t]) := upd_same
        generalize upd (upd H2 t (.tup [V.str (Str.ofString "size"), V.str z0])) p (.lst ([] ++ [V.ref t])) = H3 at s4 et ea3 ed3 ep3 ⊢
        refine ⟨_, rfl, _, .ref DT, .ref DS, .ref DT, false, rfl, .own DT, .held ea3 ed3 R.cDS.xc, R.kDS_DT, _, rfl, iteF ?_⟩
        refine ⟨_, rfl, _, .ref DN, .ref DS, .ref DN, false, rfl, .own DN, .held ea3 ed3 R.cDS.xc, R.kDS_DN, _, rfl, iteF ?_⟩
        refine ⟨_, rfl, _, .ref DM, .ref DS, .ref DM, false, rfl, .own DM, .held ea3 ed3 R.cDS.xc, R.kDS_DM, _, rfl, iteF ?_⟩
        refine ⟨_, rfl, p, _, rfl, .inl (SqL.of ep3), rfl, _, rfl, iteT ⟨_, rfl, _, .ty "ValueError", .ref DS, .type "ValueError", true, rfl, .ty _, .held ea3 ed3 R.cDS.xc, R.cDS.va, _, rfl, iteT ⟨_, rfl, p, _, 0, _, rfl, rfl, SqL.of ep3, atI_nat (j := 0) rfl, ?_⟩⟩⟩
        exact go t H3 s4 ft' et
      · refine ⟨R.cDT.ex, fun a na => ⟨_, rfl, fun na' => ?_⟩⟩
        have s1 : Same H' (upd H' a (ExO a (.ref DT) (some dd))) := same_new na
        have ea : upd H' a (ExO a (.ref DT) (some dd)) a = some (ExO a (.ref DT) (some dd)) := upd_same
        have ed := s1 _ _ e1
        generalize upd H' a (ExO a (.ref DT) (some dd)) = H1 at s1 ea ed ⊢
        refine ⟨_, rfl, rfl, _, rfl, iteF ⟨(by show 0 ≤ sizeLine; decide), fun p np => ?_⟩⟩
        have s2 := same_new (o := HO.lst []) np
        have ep : upd H1 p (.lst []) p = some (.lst []) := upd_same
        have ea2 := s2 _ _ ea
        have ed2 := s2 _ _ ed
        have np' : H' p = none := s1.free np
        generalize upd H1 p (.lst []) = H2 at s2 ep ea2 ed2 ⊢
        refine ⟨_, rfl, _, .ref DC, .ref DT, .ref DC, false, rfl, .own DC, .held ea2 ed2 R.cDT.xc, R.kDT_DC, _, rfl, iteF ?_⟩
        refine ⟨_, rfl, _, .ref DS, .ref DT, .ref DS, false, rfl, .own DS, .held ea2 ed2 R.cDT.xc, R.kDT_DS, _, rfl, iteF ?_⟩
        refine ⟨_, rfl, _, .ref DT, .ref DT, .ref DT, true, rfl, .own DT, .held ea2 ed2 R.cDT.xc, R.cDT.me, _, rfl, iteT ⟨_, rfl, .inl ⟨rfl, _, SqL.of ep⟩, _, rfl, a, dd, _, _, rfl, ea2, ed2, f0, v0, z0, rfl, Rp.same (s1.trans s2) p0, (by show 2 ≤ sizeLine; decide), fun t ft => ?_⟩⟩
        have s3 := same_new (o := HO.tup [V.str (Str.ofString "total"), V.str z0]) ft
        refine ⟨p, _, _, rfl, rfl, s3 _ _ ep, (by show 0 < sizeLine; decide), ?_⟩
        have tp : t ≠ p := fun e => by rw [e, ep] at ft; cases ft
        have ap : a ≠ p := fun e => by rw [e, ep] at ea2; cases ea2
        have dp : dd ≠ p := fun e => by rw [e, ep] at ed2; cases ed2
        have s4 : Same H' (upd (upd H2 t (.tup [V.str (Str.ofString "total"), V.str z0])) p (.lst ([] ++ [V.ref t]))) := fun b o e => by
          rw [upd_ne (ne_of_none e np')]
          exact s3 _ _ (s2 _ _ (s1 _ _ e))
        have ft' : H' t = none := (s1.trans s2).free ft
        have et : upd (upd H2 t (.tup [V.str (Str.ofString "total"), V.str z0])) p (.lst ([] ++ [V.ref t])) t = some (.tup [V.str (Str.ofString "total"), V.str z0]) := by rw [upd_ne tp]; exact upd_same
        have ea3 : upd (upd H2 t (.tup [V.str (Str.ofString "total"), V.str z0])) p (.lst ([] ++ [V.ref t])) a = some (ExO a (.ref DT) (some dd)) := by rw [upd_ne ap]; exact s3 _ _ ea2
        have ed3 : upd (upd H2 t (.tup [V.str (Str.ofString "total"), V.str z0])) p (.lst ([] ++ [V.ref t])) dd = some (.xd fs) := by rw [upd_ne dp]; exact s3 _ _ ed2
        have ep3 : upd (upd H2 t (.tup [V.str (Str.ofString "total"), V.str z0])) p (.lst ([] ++ [V.ref t])) p = some (.lst [V.ref t]) := upd_same
        generalize upd (upd H2 t (.tup [V.str (Str.ofString "total"), V.str z0])) p (.lst ([] ++ [V.ref t])) = H3 at s4 et ea3 ed3 ep3 ⊢
        refine ⟨_, rfl, _, .ref DN, .ref DT, .ref DN, false, rfl, .own DN, .held ea3 ed3 R.cDT.xc, R.kDT_DN, _, rfl, iteF ?_⟩
        refine ⟨_, rfl, _, .ref DM, .ref DT, .ref DM, false, rfl, .own DM, .held ea3 ed3 R.cDT.xc, R.kDT_DM, _, rfl, iteF ?_⟩
        refine ⟨_, rfl, p, _, rfl, .inl (SqL.of ep3), rfl, _, rfl, iteT ⟨_, rfl, _, .ty "ValueError", .ref DT, .type "ValueError", true, rfl, .ty _, .held ea3 ed3 R.cDT.xc, R.cDT.va, _, rfl, iteT ⟨_, rfl, p, _, 0, _, rfl, rfl, SqL.of ep3, atI_nat (j := 0) rfl, ?_⟩⟩⟩
        exact go t H3 s4 ft' et
      · refine ⟨R.cDN.ex, fun a na => ⟨_, rfl, fun na' => ?_⟩⟩
        have s1 : Same H' (upd H' a (ExO a (.ref DN) (some dd))) := same_new na
        have ea : upd H' a (ExO a (.ref DN) (some dd)) a = some (ExO a (.ref DN) (some dd)) := upd_same
        have ed := s1 _ _ e1
        generalize upd H' a (ExO a (.ref DN) (some dd)) = H1 at s1 ea ed ⊢
        refine ⟨_, rfl, rfl, _, rfl, iteF ⟨(by show 0 ≤ sizeLine; decide), fun p np => ?_⟩⟩
        have s2 := same_new (o := HO.lst []) np
        have ep : upd H1 p (.lst []) p = some (.lst []) := upd_same
        have ea2 := s2 _ _ ea
        have ed2 := s2 _ _ ed
        have np' : H' p = none := s1.free np
        generalize upd H1 p (.lst []) = H2 at s2 ep ea2 ed2 ⊢
        refine ⟨_, rfl, _, .ref DC, .ref DN, .ref DC, false, rfl, .own DC, .held ea2 ed2 R.cDN.xc, R.kDN_DC, _, rfl, iteF ?_⟩
        refine ⟨_, rfl, _, .ref DS, .ref DN, .ref DS, false, rfl, .own DS, .held ea2 ed2 R.cDN.xc, R.kDN_DS, _, rfl, iteF ?_⟩
        refine ⟨_, rfl, _, .ref DT, .ref DN, .ref DT, false, rfl, .own DT, .held ea2 ed2 R.cDN.xc, R.kDN_DT, _, rfl, iteF ?_⟩
        refine ⟨_, rfl, _, .ref DN, .ref DN, .ref DN, true, rfl, .own DN, .held ea2 ed2 R.cDN.xc, R.cDN.me, _, rfl, iteT ⟨_, rfl, .inl ⟨rfl, _, SqL.of ep⟩, _, rfl, a, dd, _, _, rfl, ea2, ed2, f0, v0, z0, rfl, Rp.same (s1.trans s2) p0, (by show 2 ≤ sizeLine; decide), fun t ft => ?_⟩⟩
        have s3 := same_new (o := HO.tup [V.str (Str.ofString "chunk"), V.str z0]) ft
        refine ⟨p, _, _, rfl, rfl, s3 _ _ ep, (by show 0 < sizeLine; decide), ?_⟩
        have tp : t ≠ p := fun e => by rw [e, ep] at ft; cases ft
        have ap : a ≠ p := fun e => by rw [e, ep] at ea2; cases ea2
        have dp : dd ≠ p := fun e => by rw [e, ep] at ed2; cases ed2
        have s4 : Same H' (upd (upd H2 t (.tup [V.str (Str.ofString "chunk"), V.str z0])) p (.lst ([] ++ [V.ref t]))) := fun b o e => by
          rw [upd_ne (ne_of_none e np')]
          exact s3 _ _ (s2 _ _ (s1 _ _ e))
        have ft' : H' t = none := (s1.trans s2).free ft
        have et : upd (upd H2 t (.tup [V.str (Str.ofString "chunk"), V.str z0])) p (.lst ([] ++ [V.ref t])) t = some (.tup [V.str (Str.ofString "chunk"), V.str z0]) := by rw [upd_ne tp]; exact upd_same
        have ea3 : upd (upd H2 t (.tup [V.str (Str.ofString "chunk"), V.str z0])) p (.lst ([] ++ [V.ref t])) a = some (ExO a (.ref DN) (some dd)) := by rw [upd_ne ap]; exact s3 _ _ ea2
        have ed3 : upd (upd H2 t (.tup [V.str (Str.ofString "chunk"), V.str z0])) p (.lst ([] ++ [V.ref t])) dd = some (.xd fs) := by rw [upd_ne dp]; exact s3 _ _ ed2
        have ep3 : upd (upd H2 t (.tup [V.str (Str.ofString "chunk"), V.str z0])) p (.lst ([] ++ [V.ref t])) p = some (.lst [V.ref t]) := upd_same
        generalize upd (upd H2 t (.tup [V.str (Str.ofString "chunk"), V.str z0])) p (.lst ([] ++ [V.ref t])) = H3 at s4 et ea3 ed3 ep3 ⊢
        refine ⟨_, rfl, _, .ref DM, .ref DN, .ref DM, false, rfl, .own DM, .held ea3 ed3 R.cDN.xc, R.kDN_DM, _, rfl, iteF ?_⟩
        refine ⟨_, rfl, p, _, rfl, .inl (SqL.of ep3), rfl, _, rfl, iteT ⟨_, rfl, _, .ty "ValueError", .ref DN, .type "ValueError", true, rfl, .ty _, .held ea3 ed3 R.cDN.xc, R.cDN.va, _, rfl, iteT ⟨_, rfl, p, _, 0, _, rfl, rfl, SqL.of ep3, atI_nat (j := 0) rfl, ?_⟩⟩⟩
        exact go t H3 s4 ft' et
      · refine ⟨R.cDM.ex, fun a na => ⟨_, rfl, fun na' => ?_⟩⟩
        have s1 : Same H' (upd H' a (ExO a (.ref DM) (some dd))) := same_new na
        have ea : upd H' a (ExO a (.ref DM) (some dd)) a = some (ExO a (.ref DM) (some dd)) := upd_same
        have ed := s1 _ _ e1
        generalize upd H' a (ExO a (.ref DM) (some dd)) = H1 at s1 ea ed ⊢
        refine ⟨_, rfl, rfl, _, rfl, iteF ⟨(by show 0 ≤ sizeLine; decide), fun p np => ?_⟩⟩
        have s2 := same_new (o := HO.lst []) np
        have ep : upd H1 p (.lst []) p = some (.lst []) := upd_same
        have ea2 := s2 _ _ ea
        have ed2 := s2 _ _ ed
        have np' : H' p = none := s1.free np
        generalize upd H1 p (.lst []) = H2 at s2 ep ea2 ed2 ⊢
        refine ⟨_, rfl, _, .ref DC, .ref DM, .ref DC, false, rfl, .own DC, .held ea2 ed2 R.cDM.xc, R.kDM_DC, _, rfl, iteF ?_⟩
        refine ⟨_, rfl, _, .ref DS, .ref DM, .ref DS, false, rfl, .own DS, .held ea2 ed2 R.cDM.xc, R.kDM_DS, _, rfl, iteF ?_⟩
        refine ⟨_, rfl, _, .ref DT, .ref DM, .ref DT, false, rfl, .own DT, .held ea2 ed2 R.cDM.xc, R.kDM_DT, _, rfl, iteF ?_⟩
        refine ⟨_, rfl, _, .ref DN, .ref DM, .ref DN, false, rfl, .own DN, .held ea2 ed2 R.cDM.xc, R.kDM_DN, _, rfl, iteF ?_⟩
        refine ⟨_, rfl, _, .ref DM, .ref DM, .ref DM, true, rfl, .own DM, .held ea2 ed2 R.cDM.xc, R.cDM.me, _, rfl, iteT ⟨_, rfl, .inl ⟨rfl, _, SqL.of ep⟩, _, rfl, a, dd, _, _, rfl, ea2, ed2, f0, _, rfl, a, dd, _, _, rfl, ea2, ed2, f1, (by show 3 ≤ sizeLine; decide), fun t ft => ?_⟩⟩
        have s3 := same_new (o := HO.tup [V.str (Str.ofString "many"), v0, v1]) ft
        refine ⟨p, _, _, rfl, rfl, s3 _ _ ep, (by show 0 < sizeLine; decide), ?_⟩
        have tp : t ≠ p := fun e => by rw [e, ep] at ft; cases ft
        have ap : a ≠ p := fun e => by rw [e, ep] at ea2; cases ea2
        have dp : dd ≠ p := fun e => by rw [e, ep] at ed2; cases ed2
        have s4 : Same H' (upd (upd H2 t (.tup [V.str (Str.ofString "many"), v0, v1])) p (.lst ([] ++ [V.ref t]))) := fun b o e => by
          rw [upd_ne (ne_of_none e np')]
          exact s3 _ _ (s2 _ _ (s1 _ _ e))
        have ft' : H' t = none := (s1.trans s2).free ft
        have et : upd (upd H2 t (.tup [V.str (Str.ofString "many"), v0, v1])) p (.lst ([] ++ [V.ref t])) t = some (.tup [V.str (Str.ofString "many"), v0, v1]) := by rw [upd_ne tp]; exact upd_same
        have ea3 : upd (upd H2 t (.tup [V.str (Str.ofString "many"), v0, v1])) p (.lst ([] ++ [V.ref t])) a = some (ExO a (.ref DM) (some dd)) := by rw [upd_ne ap]; exact s3 _ _ ea2
        have ed3 : upd (upd H2 t (.tup [V.str (Str.ofString "many"), v0, v1])) p (.lst ([] ++ [V.ref t])) dd = some (.xd fs) := by rw [upd_ne dp]; exact s3 _ _ ed2
        have ep3 : upd (upd H2 t (.tup [V.str (Str.ofString "many"), v0, v1])) p (.lst ([] ++ [V.ref t])) p = some (.lst [V.ref t]) := upd_same
        generalize upd (upd H2 t (.tup [V.str (Str.ofString "many"), v0, v1])) p (.lst ([] ++ [V.ref t])) = H3 at s4 et ea3 ed3 ep3 ⊢
        refine ⟨_, rfl, p, _, rfl, .inl (SqL.of ep3), rfl, _, rfl, iteT ⟨_, rfl, _, .ty "ValueError", .ref DM, .type "ValueError", true, rfl, .ty _, .held ea3 ed3 R.cDM.xc, R.cDM.va, _, rfl, iteT ⟨_, rfl, p, _, 0, _, rfl, rfl, SqL.of ep3, atI_nat (j := 0) rfl, ?_⟩⟩⟩
        exact go t H3 s4 ft' et
    · refine ⟨_, h0, ?_⟩
      rintro x H1 go
      refine ⟨_, rfl, rfl, _, rfl, iteT ?_⟩
      refine ⟨_, rfl, (by show 1 ≤ sizeLine; decide), fun t ft => ?_⟩
      exact go t _ (same_new ft) ft upd_same
end Lw
namespace Lw
open PySem PySem.Spec PyProof.Rows L2

/-! ### C.m(e, ..), m a static method -/
structure SMet (K : PySem.W.Frag) (C : Addr) (m : Str) (p g : Addr) : Prop where
  mc : ∃ mc, PySem.W.typeIn K (.ref C) = some mc ∧ PySem.W.readsIn K C mc = true ∧ PySem.W.findCls K (.ref C) mc m = some (.get (.builtin "staticmethod.__get__") (.ref p) .none (.ref C))
  ga : PySem.W.specialIn K (.ref C) "__getattribute__" = some (some (.builtin "type.__getattribute__"))
  rc : ∃ rest, PySem.W.recIn K p "staticmethod" = some (.ref g :: rest)
  kp : PySem.W.keepIn K (.ref g) = true
def tStatic (C : Addr) (sp : Sp) (dvs : List V) (E : XK) (ta : TE) (t : TA) : TE := fun σ H Q => ta σ H fun x H1 => x = .ref C ∧ t σ H1 fun vs H2 => sp (vs ++ dvs) H2 Q E
section
variable {X : Cx} {CX : CXT} {C p g : Addr} {k : Nat} {fd : FuncData} {ps : List Str} {sp : Sp} {E : XK} {ds : List Value} {dvs : List V} {o e : Expr} {es : List Expr} {m : Str} {pos apos : Pos} {ta : TE} {t : TA} {pl : Sem Bool}
theorem pe_static (he : PE X o ta) (c : SMet X.K C m p g) (F : FnOk X.prog X.w X.K X.mg X.base CX k g fd ps sp) (hr : Room k X.A) (b : Binds X.K fd ps ds) (d : Vals dvs ds) (hx : Passes CX X E) (ha : PA X (e :: es) t)
    (hst : starEach (e :: es) X.env = (false, eval e X.env) :: starEach es X.env := by rfl) (hpl : (backTo pos (starEach es X.env)).any (·.1) = false := by rfl)
    (ht : eval (.Call (.Attribute o m apos) (e :: es) [] pos) X.env = (do
      let ov ← eval o X.env
      standAt apos.atName
      let (f, first) ← holding [ov] (getMethod ov m pl)
      callWith pos f first (backTo pos (starEach (e :: es) X.env)) (backToKw pos (keywordEach [] X.env))) := by rfl) :
    PE X (.Call (.Attribute o m apos) (e :: es) [] pos) (tStatic C sp dvs E ta t) := by
  refine ⟨fun pins s σ H Q I h => ?_⟩
  refine PySem.W.methodCall_KW (pl := pl) (thn (he.run pins s σ H _ I h) fun u s1 ⟨x, H1, I1, rx, ex, q⟩ => ?_) ht
  subst ex
  obtain rfl : u = Value.ref C := rx
  obtain ⟨mc, h1, h2, h3⟩ := c.mc
  obtain ⟨rest, h4⟩ := c.rc
  obtain ⟨fm, hF⟩ := I1.fr
  refine PySem.W.method_cls I1.kIn c.ga (PySem.W.cls_sm hF I1.ok.mod.kin h1 h2 h3 h4 rfl ?_)
  have I2 : Inv X pins σ H1 { s1 with toks := s1.toks + 1 } := I1.tok _
  refine PySem.W.callWith_K (h₀ := X.base) I2.ok.mod.kin c.kp (thn (ha.run pos pins _ σ H1 _ I2 q) fun us s3 ⟨vs, H2, I3, rv, q2⟩ => ⟨I3.kIn, ?_⟩) hst hpl
  exact run_fn F hr b d hx I3 rv q2
end
end Lw
namespace Lw
open PySem PySem.Spec PyProof.Rows L2
open SX PySem.NumText TL LamX ClX StX
/-! ### errors of one field, raised -/
def spE1 (C : Addr) (f1 : Str) : Sp := fun vs H Q _ => ∃ (a : Addr) (v1 : V), vs = [.ref a, v1] ∧ H a = some (exo a C none) ∧ ∀ dx, H dx = none → dx ≠ a → ∀ fs, fs.lookup f1 = some v1 → Q .non (upd (upd H dx (exd dx fs)) a (exo a C (some dx)))
/-- the error's class, ready to be raised -/
structure Err1 (nm f1 : Str) (P : Program) (w : World) (K : PySem.W.Frag) (mg : Str → Option Value) (base : Heap) (D fE : Addr) (fdE : FuncData) : Prop where
  T : OexC K D
  iC : PySem.W.findIn K (.ref D) "__init__" = some (some (.ref fE))
  tI : PySem.W.typeIn K (.ref fE) = some (.type "function")
  F : FnOk P w K mg base C8.CX0 1 fE fdE ["self", f1] (spE1 D f1)
  b : Binds K fdE ["self", f1] []
  hm : mg nm = some (.ref D)
section
variable {X : Cx} {f1 : Str} {C fI : Addr} {fd : FuncData} {W : WX} {j : Nat} {e1 : Expr} {te1 : TE} {p pos pos2 : Pos}
/-- raise X(e1), X such a class -/
def tBad1 (f1 : Str) (C : Addr) (W : WX) (te1 : TE) : TS := fun _ σ H => tMkO C (spE1 C f1) [] (tCons te1 tNil) σ H fun cls d H' => W cls d σ H'
theorem ps_bad1 {x : Str} (hc : X.calm = true) (tk : Takes X W) (T : OexC X.K C) (iC : PySem.W.findIn X.K (.ref C) "__init__" = some (some (.ref fI))) (tI : PySem.W.typeIn X.K (.ref fI) = some (.type "function")) (F : FnOk X.prog X.w X.K X.mg X.base C8.CX0 1 fI fd ["self", f1] (spE1 C f1)) (hr : Room (j + 2) X.A) (hb : Binds X.K fd ["self", f1] [])
    (hg : Gl X x) (hm : X.mg x = some (.ref C)) (he1 : PE X e1 te1) (hst : starEach [e1] X.env = (false, eval e1 X.env) :: starEach [] X.env := by rfl) (hdb : (x == ("__debug__" : Str)) = false := by decide) (hpl : (backTo pos (starEach [] X.env)).any (·.1) = false := by rfl) :
    PS X (.Raise (some (.Call (.Name x p) [e1] [] pos)) none pos2) (tBad1 f1 C W te1) :=
  ps_raise hc tk (pmk_oex T iC tI F (hr.mono (by omega)) hb .nil C8.pass0 hg hm (pa_cons he1 pa_nil hst) hdb hst hpl)
theorem bad_leaf1 {H1 : Hp} {v1 : V} {Q : XK} (k : ∀ d fs, H1 d = none → fs.lookup f1 = some v1 → Q (.ref C) (some d) (upd H1 d (.xd fs))) :
    ([v1] : List V).length ≤ 1000 ∧ ∀ a, H1 a = none → spE1 C f1 (.ref a :: ([v1] ++ [])) (upd H1 a (exo a C none)) (fun z H2 => z = .non ∧ ∃ (d : Addr) (fs : List (Str × V)), H2 a = some (exo a C (some d)) ∧ H2 d = some (exd d fs) ∧ H1 d = none ∧ Q (.ref C) (some d) (upd (del H2 a) d (.xd fs))) (fun _ _ _ => False) := by
  refine ⟨(by show 1 ≤ 1000; decide), fun a ha => ⟨a, v1, rfl, upd_same, fun dx h1 h2 fs e1 => ?_⟩⟩
  rw [upd_ne h2] at h1
  refine ⟨rfl, dx, fs, upd_same, by rw [upd_ne h2]; exact upd_same, h1, ?_⟩
  have e : upd (del (upd (upd (upd H1 a (exo a C none)) dx (exd dx fs)) a (exo a C (some dx))) a) dx (.xd fs) = upd H1 dx (.xd fs) := by
    funext b
    by_cases q : b = dx
    · rw [q, upd_same, upd_same]
    · rw [upd_ne q, upd_ne q]
      by_cases q2 : b = a
      · rw [q2, del_same, ha]
      · rw [del_ne q2, upd_ne q2, upd_ne q, upd_ne q2]
  rw [e]
  exact k dx fs h1 e1
end
/-- refused: the error keeps the value -/
def Bf (D : Addr) (f : Str) (x : V) (H : Hp) (E : XK) : Prop := ∀ d fs H', Same H H' → H' d = none → fs.lookup f = some x → E (.ref D) (some d) (upd H' d (.xd fs))
theorem Bf.of {D : Addr} {f : Str} {x : V} {H H' : Hp} {E : XK} (h : Bf D f x H E) (s : Same H H') : Bf D f x H' E := fun d fs H2 s2 hd f1 => h d fs H2 (s.trans s2) hd f1
abbrev sBszE : Stmt := inClass (top 8) 0
theorem scBszE : FnScope ["self", "value"] ["self", "value"] (C8.fnScope sBszE) := C8.fnScope_by (by decide +kernel)
theorem fn_BszE {P : Program} {w : World} {K : PySem.W.Frag} {mg : Str → Option Value} {base : Heap} {C f : Addr} {fd : FuncData} (F : C8.Fun K "__init__" "BadSize.__init__" sBszE f fd) (T : OexC K C) (no1 : PySem.W.findIn K (.ref C) "value" = some none) : FnOk P w K mg base C8.CX0 1 f fd ["self", "value"] (spE1 C "value") := by
  refine C8.fn0 F scBszE (fun vs H Q E h => ?_) (fun cdv A outer st H vs Q E hr h => ?_)
  · obtain ⟨a, v1, rfl, _⟩ := h
    rfl
  · obtain ⟨a, v1, rfl, ha, k⟩ := h
    refine ⟨_, (pss_one (ps_ost (pv 0) (pv 1))), ?_⟩
    exact ⟨_, rfl, _, rfl, a, C, rfl, T, no1, .inl ⟨ha, fun dx h1 h2 => k dx h1 h2 _ (by rw [lookup_put, if_pos rfl])⟩⟩
abbrev sBchE : Stmt := inClass (top 10) 0
theorem scBchE : FnScope ["self", "part"] ["self", "part"] (C8.fnScope sBchE) := C8.fnScope_by (by decide +kernel)
theorem fn_BchE {P : Program} {w : World} {K : PySem.W.Frag} {mg : Str → Option Value} {base : Heap} {C f : Addr} {fd : FuncData} (F : C8.Fun K "__init__" "BadChunks.__init__" sBchE f fd) (T : OexC K C) (no1 : PySem.W.findIn K (.ref C) "part" = some none) : FnOk P w K mg base C8.CX0 1 f fd ["self", "part"] (spE1 C "part") := by
  refine C8.fn0 F scBchE (fun vs H Q E h => ?_) (fun cdv A outer st H vs Q E hr h => ?_)
  · obtain ⟨a, v1, rfl, _⟩ := h
    rfl
  · obtain ⟨a, v1, rfl, ha, k⟩ := h
    refine ⟨_, (pss_one (ps_ost (pv 0) (pv 1))), ?_⟩
    exact ⟨_, rfl, _, rfl, a, C, rfl, T, no1, .inl ⟨ha, fun dx h1 h2 => k dx h1 h2 _ (by rw [lookup_put, if_pos rfl])⟩⟩
abbrev sBtoE : Stmt := inClass (top 9) 0
theorem scBtoE : FnScope ["self", "value"] ["self", "value"] (C8.fnScope sBtoE) := C8.fnScope_by (by decide +kernel)
theorem fn_BtoE {P : Program} {w : World} {K : PySem.W.Frag} {mg : Str → Option Value} {base : Heap} {C f : Addr} {fd : FuncData} (F : C8.Fun K "__init__" "BadTotal.__init__" sBtoE f fd) (T : OexC K C) (no1 : PySem.W.findIn K (.ref C) "value" = some none) : FnOk P w K mg base C8.CX0 1 f fd ["self", "value"] (spE1 C "value") := by
  refine C8.fn0 F scBtoE (fun vs H Q E h => ?_) (fun cdv A outer st H vs Q E hr h => ?_)
  · obtain ⟨a, v1, rfl, _⟩ := h
    rfl
  · obtain ⟨a, v1, rfl, ha, k⟩ := h
    refine ⟨_, (pss_one (ps_ost (pv 0) (pv 1))), ?_⟩
    exact ⟨_, rfl, _, rfl, a, C, rfl, T, no1, .inl ⟨ha, fun dx h1 h2 => k dx h1 h2 _ (by rw [lookup_put, if_pos rfl])⟩⟩
abbrev sNchE : Stmt := inClass (top 12) 0
theorem scNchE : FnScope ["self", "at"] ["self", "at"] (C8.fnScope sNchE) := C8.fnScope_by (by decide +kernel)
theorem fn_NchE {P : Program} {w : World} {K : PySem.W.Frag} {mg : Str → Option Value} {base : Heap} {C f : Addr} {fd : FuncData} (F : C8.Fun K "__init__" "NoChunk.__init__" sNchE f fd) (T : OexC K C) (no1 : PySem.W.findIn K (.ref C) "at" = some none) : FnOk P w K mg base C8.CX0 1 f fd ["self", "at"] (spE1 C "at") := by
  refine C8.fn0 F scNchE (fun vs H Q E h => ?_) (fun cdv A outer st H vs Q E hr h => ?_)
  · obtain ⟨a, v1, rfl, _⟩ := h
    rfl
  · obtain ⟨a, v1, rfl, ha, k⟩ := h
    refine ⟨_, (pss_one (ps_ost (pv 0) (pv 1))), ?_⟩
    exact ⟨_, rfl, _, rfl, a, C, rfl, T, no1, .inl ⟨ha, fun dx h1 h2 => k dx h1 h2 _ (by rw [lookup_put, if_pos rfl])⟩⟩

/-! ### Chunks, made of any values -/
def isZ (y : V) : Bool := inB y 1 (10 ^ 30)
theorem isZ_int {y : V} (h : isZ y = true) : ∃ v, y = .int v ∧ 1 ≤ v ∧ v ≤ 10 ^ 30 := by
  unfold isZ inB at h
  split at h
  · rename_i v
    rw [Bool.and_eq_true, decide_eq_true_eq, decide_eq_true_eq] at h
    exact ⟨v, rfl, h.1, h.2⟩
  · cases h
theorem isZ_of {v : Int} (h1 : 1 ≤ v) (h2 : v ≤ 10 ^ 30) : isZ (.int v) = true := by
  show (decide (1 ≤ v) && decide (v ≤ 10 ^ 30)) = true
  rw [decide_eq_true h1, decide_eq_true h2]; rfl
def SzB (ns : List Int) : Prop := ∀ v ∈ ns, 1 ≤ v ∧ v ≤ 10 ^ 30
theorem all_int {xs : List V} (h : ∀ y ∈ xs, isZ y = true) : ∃ ns, xs = ns.map V.int ∧ SzB ns := by
  induction xs with
  | nil => exact ⟨[], rfl, fun v hv => by cases hv⟩
  | cons y r ih =>
    obtain ⟨ns, e, sb⟩ := ih fun z hz => h z (List.mem_cons_of_mem _ hz)
    obtain ⟨v, rfl, h1, h2⟩ := isZ_int (h y List.mem_cons_self)
    exact ⟨v :: ns, by rw [List.map_cons, e], fun u hu => by
      rcases List.mem_cons.mp hu with rfl | hu
      · exact ⟨h1, h2⟩
      · exact sb u hu⟩
/-- the ends, from a on -/
def endsL : Int → List Int → List Int
  | _, [] => []
  | a, n :: r => (a + n) :: endsL (a + n) r
theorem endsL_len : ∀ (a : Int) (ns : List Int), (endsL a ns).length = ns.length
  | _, [] => rfl
  | a, n :: r => by show (endsL (a + n) r).length + 1 = r.length + 1; rw [endsL_len]
theorem endsL_snoc : ∀ (a n : Int) (ns : List Int), endsL a (ns ++ [n]) = endsL a ns ++ [a + ns.sum + n]
  | a, n, [] => by show [a + n] = [a + 0 + n]; rw [Int.add_zero]
  | a, n, m :: r => by
    show (a + m) :: endsL (a + m) (r ++ [n]) = (a + m) :: (endsL (a + m) r ++ [a + (m :: r).sum + n])
    rw [endsL_snoc (a + m) n r, List.sum_cons, Int.add_assoc a m r.sum]
def restsL (ns : List Int) : List Int := List.zipWith (fun e s => ns.sum - e + s) (endsL 0 ns) ns
def MkR (CC DM DS x dx p : Addr) (xs : List V) (H : Hp) (Q : VK) (E : XK) : Prop :=
  (∀ (i : Nat) y, xs[i]? = some y → (∀ (j : Nat) z, j < i → xs[j]? = some z → isZ z = true) → isZ y = false → Bf DS "value" y H E) ∧
  (∀ ns, xs = ns.map V.int → SzB ns → (ns.length ≤ 5000 → ∀ e r H', Kp x H H' → H' x = some (.ins CC dx (chF p ns.sum e r)) → H' e = some (.tup ((endsL 0 ns).map V.int)) → H' r = some (.tup ((restsL ns).map V.int)) → Q .non H') ∧ (5000 < ns.length → Mf DM H E))
def spCI2 (K : PySem.W.Frag) (CC DM DS : Addr) : Sp := fun vs H Q E => ∃ (x dx p : Addr) (xs : List V), vs = [.ref x, .ref p] ∧ H x = some (.ins CC dx []) ∧ H p = some (.tup xs) ∧ xs.length ≤ 20000 ∧ (∀ y ∈ xs, Anyv K H y) ∧ MkR CC DM DS x dx p xs H Q E
theorem chF_total (p : Addr) (t : Int) (e r : Addr) : (chF p t e r).lookup ("total" : Str) = some (.int t) := by
  unfold chF
  rw [lookup_putF, if_neg (by decide +kernel), lookup_putF, if_neg (by decide +kernel), lookup_putF, if_pos rfl]
theorem chF_ends (p : Addr) (t : Int) (e r : Addr) : (chF p t e r).lookup ("ends" : Str) = some (.ref e) := by
  unfold chF
  rw [lookup_putF, if_neg (by decide +kernel), lookup_putF, if_pos rfl]
theorem chF_rests (p : Addr) (t : Int) (e r : Addr) : (chF p t e r).lookup ("rests" : Str) = some (.ref r) := by
  unfold chF
  rw [lookup_putF, if_pos rfl]
section
variable {P : Program} {w : World} {K : PySem.W.Frag} {mg : Str → Option Value} {base : Heap}
theorem fn_ci2 {CC DM DS fM fE f : Addr} {mc : Value} {fd fdM fdE : FuncData} (F : C8.Fun K "__init__" "Chunks.__init__" sCI f fd) (df : fd.defaults = .none) (T : Txt mg) (hz : mg "zip" = none) (htu : mg "tuple" = none) (Z : ChC P w K mg base CC DM mc) (ES : Err1 "BadSize" "value" P w K mg base DS fE fdE) (DSz : C8.Cal P w K mg base 3 "is_size" (spSize K) []) (DM' : C8.Def K mg "check_many" sCM fM fdM) (bM : Binds K fdM ["many"] []) (FM : FnOk P w K mg base (L2.CX P w) 3 fM fdM ["many"] (spCM DM)) :
    FnR P w K mg base (L2.CX P w) 5 f (fun vs H Q E => ∃ ws rest, vs = ws ++ rest ∧ ws.length = ["self"].length ∧ rest.length ≤ sizeLine ∧ ∀ p, H p = none → spCI2 K CC DM DS (ws ++ [V.ref p]) (upd H p (.tup rest)) Q E) := by
  obtain ⟨oc, od, dV, kV, doc, pm, an, cdv, ct, osl, rfl, lk, hcd⟩ := F.ex
  have e0 : dV = .none := df
  subst e0
  refine fn_star (ps := ["self"]) (pv := "sizes") lk hcd scCI cxUp (fun us rest hl => bind_star1 (p1 := "self") (pv := "sizes") (B := fun zs => bindArgs _ ⟨zs, []⟩) (fun a => rfl) (fun a r rs => rfl) us rest hl) fun A outer s H vs Q E hr h => ?_
  obtain ⟨x, dx, p, xs, rfl, hx, hp, sl, av, k0, k1⟩ := h
  have tk : Takes (cxOf (L2.CX P w) P w K mg base ["self", "sizes", "size", "ends", "done", "end"] "Chunks.__init__" (C8.fnScope sCI) f cdv A outer s H E) (fun cls d _ H' => E cls d H') := takes_of rfl rfl rfl rfl
  refine ⟨_, (pss_cons (ps_for (passes_of rfl) rfl (pi_tup (pv 1)) (pg_name (i := 2) scCI.nd rfl (Or.inl rfl)) (pss_one (ps_if (pt_not (pt_val (C8.pe_c DSz hr (by decide) (by rfl) (pa_cons (pv 2) pa_nil)))) (pss_one (ps_bad1 (x := "BadSize") rfl tk ES.T ES.iC ES.tI ES.F hr ES.b (by rfl) ES.hm (pv 2))) pss_nil)))
    (pss_cons (ps_expr (pe_call FM (hr.mono (by decide)) (by rfl) DM'.mgf DM'.kp bM .nil (passes_call (takes_of rfl rfl rfl rfl) (fun _ _ _ _ z => z)) (pa_cons (pe_callB call_len_seq (by rfl) T.n_len (by decide +kernel) (pa_cons (pv 1) pa_nil)) pa_nil)))
    (pss_cons (ps_set (i := 3) scCI.nd rfl (Or.inl rfl) (pe_lst pa_nil))
    (pss_cons (ps_set (i := 4) scCI.nd rfl (Or.inr rfl) pe_int)
    (pss_cons (ps_for (passes_of rfl) rfl (pi_tup (pv 1)) (pg_name (i := 2) scCI.nd rfl (Or.inl rfl)) (pss_cons (ps_set (i := 4) scCI.nd rfl (Or.inr rfl) (pe_op op_add (pv 4) (pv 2))) (pss_one (ps_expr (pe_bm PySem.F.plainAttrs_list PySem.F.slot_list_append PySem.F.type_list_append mt_append (pv 3) (pa_cons (pv 4) pa_nil))))))
    (pss_cons (ps_fld (pv 0) (pv 1) rfl)
    (pss_cons (ps_fld (pv 0) (pv 4) rfl)
    (pss_cons (ps_fld (pv 0) (pe_callTy call_tuple_of (by rfl) htu (by decide +kernel) (pa_cons (pv 3) pa_nil)) rfl)
    (pss_one (ps_fld (pv 0) (pe_callTy call_tuple_of (by rfl) htu (by decide +kernel) (pa_cons (pe_lc (own := [("end", 5), ("size", 2)]) (g := gTup K 2 (gCons (gName 5) (gCons (gName 2) (gNil)))) (tt := tYes) rfl scCI.nd (Zm.pi_zipM (by rfl) hz (pa_cons (pv 3) (pa_cons (pv 1) pa_nil))) (blkOk_by (own := [("end", 5), ("size", 2)]) (N := ["self", "sizes", "size", "ends", "done", "end"]) (sc := (C8.fnScope sCI)) (by decide +kernel)) (fun _ _ _ _ _ => pg_tup rfl (pgs_cons (pg_name (i := 5) scCI.nd rfl (Or.inl rfl)) (pgs_cons (pg_name (i := 2) scCI.nd rfl (Or.inl rfl)) pgs_nil))) (fun _ _ _ _ _ => pts_nil) (fun _ _ _ _ _ => (pe_op op_add (pe_op op_sub (pv 4) (pv 5)) (pv 2)))) pa_nil)) rfl)))))))))), ?_⟩
  have xp : x ≠ p := fun e => by rw [e, hp] at hx; cases hx
  refine ⟨_, rfl, p, rfl, ⟨_, SqT.of hp⟩, for_tup (xs := xs) (fun i σ' H' => ∃ v, σ' = [some (.ref x), some (.ref p), v, none, none, none] ∧ H' = H ∧ ∀ j z, j < i → xs[j]? = some z → isZ z = true) ⟨_, rfl, rfl, fun j z h => absurd h (Nat.not_lt_zero _)⟩ (fun i σ' H' _ h => by obtain ⟨v, _, rfl, _⟩ := h; exact SqT.of hp) ?_ ?_⟩
  · rintro i y σ' H' hy ⟨v, rfl, rfl, good⟩
    refine ⟨_, rfl, y, rfl, av y (List.mem_of_getElem? hy), _, rfl, ?_⟩
    show if (!isZ y) = true then _ else _
    cases hzy : isZ y with
    | false => exact iteT ⟨_, rfl, bad_leaf1 fun d fs hd e1 => k0 i y hy good hzy d fs H' (Same.refl _) hd e1⟩
    | true =>
      refine iteF ⟨_, rfl, rfl, fun j z hj hz' => ?_⟩
      by_cases e : j = i
      · subst e
        rw [hy] at hz'
        cases hz'
        exact hzy
      · exact good j z (by omega) hz'
  · rintro σ1 H1 ⟨v1, rfl, rfl, good⟩
    obtain ⟨ns, rfl, sb⟩ := all_int (xs := xs) fun y hy => by
      obtain ⟨i, hi, e⟩ := List.mem_iff_getElem.mp hy
      exact good i y hi (by rw [← e]; exact List.getElem?_eq_getElem hi)
    obtain ⟨k1, k2⟩ := k1 ns rfl sb
    clear good k0 av tk
    have hlen : (ns.map V.int).length = ns.length := List.length_map _
    have gets : ∀ {i : Nat} {y : V}, (ns.map V.int)[i]? = some y → ∃ v, y = .int v ∧ ns[i]? = some v := fun {i y} e => by
      rw [List.getElem?_map] at e
      cases hq : ns[i]? with
      | none => rw [hq] at e; cases e
      | some v => rw [hq] at e; cases e; exact ⟨v, rfl, rfl⟩
    refine ⟨_, rfl, p, _, rfl, .inr (SqT.of hp), _, rfl, fun hm => ?_, fun hm => k2 (by rw [hlen] at hm; omega)⟩
    have lm : ns.length ≤ 5000 := by rw [hlen] at hm; omega
    have k1 := k1 lm
    refine ⟨(by show 0 ≤ sizeLine; decide), fun q fq => ?_⟩
    have s1 := same_new (o := HO.lst []) fq
    have hq1 : upd H1 q (.lst []) q = some (.lst []) := upd_same
    generalize upd H1 q (.lst []) = H2 at s1 hq1 ⊢
    dsimp only [gName, tSeq]
    refine ⟨_, rfl, p, rfl, ⟨_, SqT.of (s1 _ _ hp)⟩, for_tup (xs := ns.map V.int) (fun i σ' H' => ∃ (v : Option V), σ' = [some (.ref x), some (.ref p), v, some (.ref q), some (.int (ns.take i).sum), none] ∧ Same H1 H' ∧ H' q = some (.lst ((endsL 0 (ns.take i)).map V.int))) ⟨_, rfl, s1, hq1⟩ (fun i σ' H' _ h => by obtain ⟨v, _, s', _⟩ := h; exact SqT.of (s' _ _ hp)) ?_ ?_⟩
    · rintro i y σ' H' hy ⟨v, rfl, s', hq'⟩
      obtain ⟨v0, rfl, hv0⟩ := gets hy
      have hi : i < ns.length := (List.getElem?_eq_some_iff.mp hv0).1
      have et : ns.take (i + 1) = ns.take i ++ [v0] := by rw [List.take_add_one, hv0]; rfl
      refine ⟨_, rfl, _, rfl, _, _, rfl, rfl, ?_⟩
      refine ⟨_, rfl, .inl ⟨rfl, _, SqL.of hq'⟩, _, rfl, q, _, _, rfl, rfl, hq', ?_, ?_⟩
      · rw [List.length_map, endsL_len]
        exact Nat.lt_of_le_of_lt (Nat.le_trans (List.length_take_le _ _) (show i ≤ 5000 by omega)) (by decide)
      · refine ⟨some (.int v0), ?_, fun b o e => ?_, ?_⟩
        · rw [et, List.sum_append, List.sum_singleton]; rfl
        · rw [upd_ne (ne_of_none e fq)]
          exact s' _ _ e
        · rw [upd_same, et, endsL_snoc, List.map_append, Int.zero_add]; rfl
    · rintro σ2 H3 ⟨v, rfl, s3, hq3⟩
      rw [hlen, List.take_of_length_le (Nat.le_refl _)] at hq3
      have xq : x ≠ q := fun e => by rw [e, fq] at hx; cases hx
      have hx3 := s3 _ _ hx
      have hp3 := s3 _ _ hp
      rw [hlen, List.take_of_length_le (Nat.le_refl _)]
      refine ⟨_, rfl, _, rfl, x, CC, dx, [], rfl, hx3, Z.cl, Z.n1, (by show 0 < 1000; decide), ?_⟩
      refine ⟨_, rfl, _, rfl, x, CC, dx, _, rfl, upd_same, Z.cl, Z.n2, (by show 1 < 1000; decide), ?_⟩
      rw [upd_upd]
      have f2 : (putF "total" (.int ns.sum) (putF "sizes" (.ref p) [])).length < 900 := Nat.lt_of_le_of_lt (Nat.le_trans (putF_len _ _ _) (Nat.add_le_add_right (putF_len _ _ _) 1)) (by decide)
      have kp4 : Kp x H1 (upd H3 x (.ins CC dx (putF "total" (.int ns.sum) (putF "sizes" (.ref p) [])))) := fun b o hb e => by rw [upd_ne hb]; exact s3 _ _ e
      have hx4 : upd H3 x (.ins CC dx (putF "total" (.int ns.sum) (putF "sizes" (.ref p) []))) x = some (.ins CC dx (putF "total" (.int ns.sum) (putF "sizes" (.ref p) []))) := upd_same
      have hq4 : upd H3 x (.ins CC dx (putF "total" (.int ns.sum) (putF "sizes" (.ref p) []))) q = some (.lst ((endsL 0 ns).map V.int)) := by rw [upd_ne xq.symm]; exact hq3
      have hp4 : upd H3 x (.ins CC dx (putF "total" (.int ns.sum) (putF "sizes" (.ref p) []))) p = some (.tup (ns.map V.int)) := by rw [upd_ne xp.symm]; exact hp3
      generalize hg : putF "total" (.int ns.sum) (putF "sizes" (.ref p) []) = fs at *
      generalize upd H3 x (.ins CC dx fs) = H4 at *
      refine ⟨_, rfl, q, _, rfl, .inl ⟨SqL.of hq4, fun e1 fe => ?_⟩⟩
      have s5 := same_new (o := HO.tup ((endsL 0 ns).map V.int)) fe
      refine ⟨_, rfl, x, CC, dx, fs, rfl, s5 _ _ hx4, Z.cl, Z.n3, by omega, ?_⟩
      have xe : x ≠ e1 := fun e => by rw [e, fe] at hx4; cases hx4
      have hx6 : upd (upd H4 e1 (.tup ((endsL 0 ns).map V.int))) x (.ins CC dx (putF "ends" (.ref e1) fs)) x = some (.ins CC dx (putF "ends" (.ref e1) fs)) := upd_same
      have hq6 : upd (upd H4 e1 (.tup ((endsL 0 ns).map V.int))) x (.ins CC dx (putF "ends" (.ref e1) fs)) q = some (.lst ((endsL 0 ns).map V.int)) := by rw [upd_ne xq.symm]; exact s5 _ _ hq4
      have hp6 : upd (upd H4 e1 (.tup ((endsL 0 ns).map V.int))) x (.ins CC dx (putF "ends" (.ref e1) fs)) p = some (.tup (ns.map V.int)) := by rw [upd_ne xp.symm]; exact s5 _ _ hp4
      have he6 : upd (upd H4 e1 (.tup ((endsL 0 ns).map V.int))) x (.ins CC dx (putF "ends" (.ref e1) fs)) e1 = some (.tup ((endsL 0 ns).map V.int)) := by rw [upd_ne xe.symm]; exact upd_same
      have kp6 : Kp x H1 (upd (upd H4 e1 (.tup ((endsL 0 ns).map V.int))) x (.ins CC dx (putF "ends" (.ref e1) fs))) := fun b o hb e => by rw [upd_ne hb]; exact s5 _ _ (kp4 _ _ hb e)
      generalize upd (upd H4 e1 (.tup ((endsL 0 ns).map V.int))) x (.ins CC dx (putF "ends" (.ref e1) fs)) = H6 at hx6 hq6 hp6 kp6 he6 ⊢
      have ll : ((endsL 0 ns).map V.int).length = (ns.map V.int).length := by rw [List.length_map, List.length_map, endsL_len]
      have rl0 : (restsL ns).length = ns.length := by unfold restsL; rw [List.length_zipWith, endsL_len, Nat.min_self]
      refine ⟨_, rfl, _, rfl, q, p, _, _, rfl, ⟨SqL.of hq6, SqT.of hp6⟩, fun D hD => lc_it (Zm.walk (xs := (endsL 0 ns).map V.int) (ys := ns.map V.int) ll) (fun i H' => Same H6 H' ∧ H' D = some (.lst (((restsL ns).take i).map V.int))) ⟨same_new hD, upd_same⟩ (fun i H' _ h => ⟨SqL.of (h.1 _ _ hq6), SqT.of (h.1 _ _ hp6)⟩) ?_ ?_⟩
      · rintro i y H' H'' hi ⟨s', hd⟩ ⟨T', y1, y2, ⟨rfl, fT, rfl⟩, g1, g2⟩
        obtain ⟨a1, rfl, ga1⟩ : ∃ a1, y1 = .int a1 ∧ (endsL 0 ns)[i]? = some a1 := by
          rw [List.getElem?_map] at g1
          cases hq : (endsL 0 ns)[i]? with
          | none => rw [hq] at g1; cases g1
          | some v => rw [hq] at g1; cases g1; exact ⟨v, rfl, rfl⟩
        obtain ⟨a2, rfl, ga2⟩ := gets g2
        have sT := same_new (o := HO.tup [V.int a1, V.int a2]) fT
        refine ⟨T', _, rfl, SqT.of upd_same, rfl, _, _, rfl, _, _, rfl, rfl, rfl, ?_⟩
        dsimp only [tYes]
        rw [if_pos rfl]
        have hin : i < ns.length := (List.getElem?_eq_some_iff.mp ga2).1
        have gr : (restsL ns)[i]? = some (ns.sum - a1 + a2) := by unfold restsL; rw [List.getElem?_zipWith, ga1, ga2]
        refine ⟨_, rfl, _, rfl, _, _, rfl, rfl, _, rfl, _, _, rfl, rfl, _, sT _ _ hd, ?_, fun b o e => ?_, ?_⟩
        · rw [List.length_map]
          exact Nat.lt_of_le_of_lt (Nat.le_trans (List.length_take_le _ _) (show i ≤ 5000 by omega)) (by decide)
        · rw [upd_ne (ne_of_none e hD)]
          exact sT _ _ (s' _ _ e)
        · rw [upd_same, List.take_add_one, gr, List.map_append]; rfl
      · rintro H7 ⟨s7, hd⟩
        rw [List.take_of_length_le (by rw [rl0, ll, hlen]; exact Nat.le_refl _)] at hd
        refine ⟨D, _, rfl, .inl ⟨SqL.of hd, fun r1 fr => ?_⟩⟩
        have s8 := same_new (o := HO.tup ((restsL ns).map V.int)) fr
        have hx7 := s7 _ _ hx6
        have xr : x ≠ r1 := fun e => by rw [e, fr] at hx7; cases hx7
        have er : e1 ≠ r1 := fun e => by rw [← e, s7 _ _ he6] at fr; cases fr
        refine ⟨_, rfl, x, CC, dx, _, rfl, s8 _ _ (s7 _ _ hx6), Z.cl, Z.n4, Nat.lt_of_le_of_lt (putF_len _ _ _) (by omega), ?_⟩
        refine k1 e1 r1 _ (fun b o hb e => ?_) ?_ ?_ ?_
        · rw [upd_ne hb]
          exact s8 _ _ (s7 _ _ (kp6 _ _ hb e))
        · rw [upd_same, ← hg]
          rfl
        · rw [upd_ne xe.symm, upd_ne er]
          exact s7 _ _ he6
        · rw [upd_ne xr.symm, upd_same]
end
end Lw
namespace Lw
open PySem PySem.Spec PyProof.Rows L2
open SX PySem.NumText TL LamX ClX StX
abbrev sCln : Stmt := inClass (top 22) 7
section
variable {X : Cx} {CX : CXT} {k : Nat} {f C : Addr} {sp : Sp} {E : XK} {x : Str} {p pos : Pos}
theorem pe_makeR0 (M : Mk X.K C f) (F : FnR X.prog X.w X.K X.mg X.base CX k f sp) (hr : Room (k + 1) X.A) (hg : Gl X x) (hm : X.mg x = some (.ref C)) (hx : Passes CX X E) (hdb : (x == ("__debug__" : Str)) = false := by decide) : PE X (.Call (.Name x p) [] [] pos) (tMakeR C sp E tNil) := by
  refine ⟨fun pins s σ H Q I h => ?_⟩
  refine wpAny_Call_Name_kw (ld_glob I hg hm ?_ hdb)
  exact PySem.W.callWith_K0 I.kIn M.kp (run_makeR M F hr hx I .nil h)
end
/-- Chunks of these sizes, with all that it keeps -/
def ChA (CC : Addr) (H : Hp) (c : Addr) (ns : List Int) : Prop := ∃ dx p e r, H c = some (.ins CC dx (chF p ns.sum e r)) ∧ H p = some (.tup (ns.map V.int)) ∧ H e = some (.tup ((endsL 0 ns).map V.int)) ∧ H r = some (.tup ((restsL ns).map V.int))
theorem ChA.weak {CC : Addr} {H : Hp} {c : Addr} {ns : List Int} (h : ChA CC H c ns) : ChAt CC H c ns := by
  obtain ⟨dx, p, e, r, h1, h2, _⟩ := h
  exact ⟨dx, p, _, e, r, h1, h2⟩
theorem ChA.move {CC : Addr} {H H' : Hp} {c : Addr} {ns : List Int} (h : ChA CC H c ns) (k : ∀ b o, H b = some o → (∀ xs, o ≠ .lst xs) → (∀ ps, o ≠ .tbl ps) → H' b = some o) : ChA CC H' c ns := by
  obtain ⟨dx, p, e, r, h1, h2, h3, h4⟩ := h
  exact ⟨dx, p, e, r, k _ _ h1 (fun ps z => by cases z) (fun ps z => by cases z), k _ _ h2 (fun ps z => by cases z) (fun ps z => by cases z), k _ _ h3 (fun ps z => by cases z) (fun ps z => by cases z), k _ _ h4 (fun ps z => by cases z) (fun ps z => by cases z)⟩
theorem ChA.same {CC : Addr} {H H' : Hp} {c : Addr} {ns : List Int} (h : ChA CC H c ns) (s : Same H H') : ChA CC H' c ns := h.move fun b o e _ _ => s b o e
theorem ChA.extn {CC : Addr} {H H' : Hp} {c : Addr} {ns : List Int} (h : ChA CC H c ns) (s : ExtN H H') : ChA CC H' c ns := h.move fun b o e _ n => s b o e n
theorem ChA.kp {CC : Addr} {H H' : Hp} {c p pl : Addr} {n : Nat} {ns : List Int} (h : ChA CC H c ns) (hp : Pen H p pl n) (k : Kp p H H') : ChA CC H' c ns := by
  obtain ⟨xs, a, g, hh, _⟩ := hp
  exact h.move fun b o e nl _ => k b o (fun z => by rw [z, hh.at_] at e; exact nl _ (Option.some.inj e).symm) e
/-- what making Chunks of these values comes to -/
def MkO (CC DM DS : Addr) (xs : List V) (H : Hp) (Q : VK) (E : XK) : Prop :=
  (∀ (i : Nat) y, xs[i]? = some y → (∀ (j : Nat) z, j < i → xs[j]? = some z → isZ z = true) → isZ y = false → Bf DS "value" y H E) ∧
  (∀ ns, xs = ns.map V.int → SzB ns → (ns.length ≤ 5000 → ∀ c H', Same H H' → H c = none → ChA CC H' c ns → Q (.ref c) H') ∧ (5000 < ns.length → Mf DM H E))
theorem MkO.of {CC DM DS : Addr} {xs : List V} {H H' : Hp} {Q : VK} {E : XK} (h : MkO CC DM DS xs H Q E) (s : Same H H') : MkO CC DM DS xs H' Q E :=
  ⟨fun i y e g z => (h.1 i y e g z).of s, fun ns e sb => ⟨fun l c H2 s2 fc hc => (h.2 ns e sb).1 l c H2 (s.trans s2) (s.free fc) hc, fun l => ((h.2 ns e sb).2 l).of s⟩⟩
theorem map_int_inj : ∀ {ns ms : List Int}, ns.map V.int = ms.map V.int → ns = ms
  | [], [], _ => rfl
  | [], _ :: _, h => by cases h
  | _ :: _, [], h => by cases h
  | n :: r, m :: q, h => by
    rw [List.map_cons, List.map_cons] at h
    obtain ⟨h1, h2⟩ := List.cons.inj h
    rw [V.int.inj h1, map_int_inj h2]
/-- good sizes alone -/
theorem MkO.good {CC DM DS : Addr} {ns : List Int} {H : Hp} {Q : VK} {E : XK} (sb : SzB ns) (h1 : ns.length ≤ 5000 → ∀ c H', Same H H' → H c = none → ChA CC H' c ns → Q (.ref c) H') (h2 : 5000 < ns.length → Mf DM H E) : MkO CC DM DS (ns.map V.int) H Q E := by
  refine ⟨fun i y e _ z => ?_, fun ms e _ => ?_⟩
  · obtain ⟨v, hv, rfl⟩ := List.mem_map.mp (List.mem_of_getElem? e)
    obtain ⟨b1, b2⟩ := sb v hv
    rw [isZ_of b1 b2] at z
    cases z
  · have := map_int_inj e
    subst this
    exact ⟨h1, h2⟩
theorem any_ints (K : PySem.W.Frag) (H : Hp) (ns : List Int) : ∀ y ∈ ns.map V.int, Anyv K H y := fun y hy => by
  obtain ⟨v, _, rfl⟩ := List.mem_map.mp hy
  exact .int v
abbrev spSt (K : PySem.W.Frag) (CC DM DS : Addr) : Sp := fun vs H Q E => ∃ ws rest, vs = ws ++ rest ∧ ws.length = ["self"].length ∧ rest.length ≤ sizeLine ∧ ∀ p, H p = none → spCI2 K CC DM DS (ws ++ [V.ref p]) (upd H p (.tup rest)) Q E
theorem ci_made {K : PySem.W.Frag} {CC DM DS : Addr} {xs : List V} {H : Hp} {Q : VK} {E : XK} (h : MkO CC DM DS xs H Q E) (av : ∀ y ∈ xs, Anyv K H y) (l : xs.length ≤ 20000) (x dx : Addr) (hx : H x = none) (hdx : H dx = none) (ne : dx ≠ x) :
    spSt K CC DM DS (V.ref x :: xs) (upd (upd H dx (.own x)) x (.ins CC dx [])) (fun v H2 => v = .non ∧ Q (.ref x) H2) E := by
  refine ⟨[V.ref x], xs, rfl, rfl, Nat.le_trans l (by decide), fun p hp => ?_⟩
  have s2 : Same H (upd (upd H dx (.own x)) x (.ins CC dx [])) := (same_new hdx).trans (same_new (by rw [upd_ne ne.symm]; exact hx))
  have s3 := s2.trans (same_new (o := HO.tup xs) hp)
  have xp : x ≠ p := fun e => by rw [← e, upd_same] at hp; cases hp
  refine ⟨x, dx, p, xs, rfl, (by rw [upd_ne xp]; exact upd_same), upd_same, l, fun y hy => Lw.Anyv.same s3 (av y hy), fun i y e g z => (h.1 i y e g z).of s3, fun ns e sb => ⟨fun h5 e1 r1 H' kp hx' he hr => ⟨rfl, ?_⟩, fun h5 => ((h.2 ns e sb).2 h5).of s3⟩⟩
  subst e
  refine (h.2 ns rfl sb).1 h5 x H' (fun b o e' => kp b o (fun q => ?_) (s3 _ _ e')) hx ⟨dx, p, e1, r1, hx', kp p _ xp.symm upd_same, he, hr⟩
  rw [q, hx] at e'
  cases e'
/-- Chunks.__init__, ready to be called with a star -/
structure ChM2 (P : Program) (w : World) (K : PySem.W.Frag) (mg : Str → Option Value) (base : Heap) (CC DM DS fI : Addr) (mc : Value) : Prop where
  Z : ChC P w K mg base CC DM mc
  M : Mk K CC fI
  F : FnR P w K mg base (L2.CX P w) 5 fI (spSt K CC DM DS)
/-- neither a list nor a tuple -/
def NoSeq (K : PySem.W.Frag) (H : Hp) (v : V) : Prop := ∃ t, TyX K H v t ∧ PySem.W.kitAny K t [.type "list", .type "tuple"] = some false
theorem NoSeq.same {K : PySem.W.Frag} {H H' : Hp} {v : V} (h : NoSeq K H v) (s : Same H H') : NoSeq K H' v := by
  obtain ⟨t, h1, h2⟩ := h
  exact ⟨t, Lw.TyX.same s h1, h2⟩
def spCof2 (K : PySem.W.Frag) (CC DM DS DC : Addr) : Sp := fun vs H Q E => ∃ v : V, vs = [v] ∧
  ((NoSeq K H v ∧ Bf DC "part" (.str (Str.ofString "sizes")) H E) ∨
   ∃ (l : Addr) (xs : List V), v = .ref l ∧ (H l = some (.lst xs) ∨ H l = some (.tup xs)) ∧ (∀ y ∈ xs, Anyv K H y) ∧ xs.length ≤ 20000 ∧ MkO CC DM DS xs H Q E)
def spCln (CC : Addr) : Sp := fun vs H Q _ => ∃ c ns, vs = [.ref c] ∧ ChA CC H c ns ∧ Q (.int (ns.length : Int)) H
section
variable {P : Program} {w : World} {K : PySem.W.Frag} {mg : Str → Option Value} {base : Heap}
theorem fn_cof2 {CC DM DS DC fI fE f : Addr} {mc : Value} {fd fdE : FuncData} (F : C8.Fun K "of" "Chunks.of" sCof f fd) (T : Txt mg) (htu : mg "tuple" = none) (EC : Err1 "BadChunks" "part" P w K mg base DC fE fdE) (CM : ChM2 P w K mg base CC DM DS fI mc) : FnOk P w K mg base (L2.CX P w) 7 f fd ["sizes"] (spCof2 K CC DM DS DC) := by
  obtain ⟨oc, od, dV, kV, doc, pm, an, cdv, ct, osl, rfl, lk, hcd⟩ := F.ex
  refine fn_of lk hcd scCof (fun vs H Q E h => ?_) fun A outer s H vs Q E hr h => ?_
  · obtain ⟨v, rfl, _⟩ := h
    rfl
  · obtain ⟨v, rfl, h⟩ := h
    have tk : Takes (cxOf (L2.CX P w) P w K mg base ["sizes"] "Chunks.of" (C8.fnScope sCof) f cdv A outer s H E) (fun cls d _ H' => E cls d H') := takes_of rfl rfl rfl rfl
    refine ⟨_, (pss_cons (ps_if (pt_not (pt_val (pe_callB call_isiT (by rfl) T.n_isinstance (by decide +kernel) (pa_cons (pv 0) (pa_cons (pe_tup (pa_cons (pe_bltn (v := .ty "list") (by rfl) T.n_list (by decide +kernel) rfl) (pa_cons (pe_bltn (v := .ty "tuple") (by rfl) htu (by decide +kernel) rfl) pa_nil))) pa_nil))))) (pss_one (ps_bad1 (x := "BadChunks") rfl tk EC.T EC.iC EC.tI EC.F hr EC.b (by rfl) EC.hm pe_str)) pss_nil)
      (pss_one (ps_ret (pe_makeS1 CM.M CM.F (hr.mono (by decide)) (by rfl) CM.Z.hm (passes_call (takes_of rfl rfl rfl rfl) (fun _ _ _ _ z => z)) (pv 0))))), ?_⟩
    refine ⟨_, rfl, (by show 2 ≤ sizeLine; decide), fun t ft => ?_⟩
    have s1 := same_new (o := HO.tup [V.ty "list", V.ty "tuple"]) ft
    have et : upd H t (HO.tup [V.ty "list", V.ty "tuple"]) t = some (.tup [V.ty "list", V.ty "tuple"]) := upd_same
    generalize upd H t _ = H1 at s1 et ⊢
    rcases h with ⟨nos, k⟩ | ⟨l, xs, rfl, hl, av, len, k⟩
    · obtain ⟨ty, hty, hk⟩ := nos.same s1
      refine ⟨_, t, _, ty, _, false, rfl, et, .cons (.ty _) (.cons (.ty _) .nil), hty, hk, ?_⟩
      exact ⟨_, rfl, iteT (bad_leaf1 fun d fs hd e1 => k d fs H1 s1 hd e1)⟩
    · obtain ⟨ty, hty, hk⟩ := seq_cls (K := K) hl
      refine ⟨_, t, _, ty, _, true, rfl, et, .cons (.ty _) (.cons (.ty _) .nil), Lw.TyX.same s1 hty, hk, ?_⟩
      refine ⟨_, rfl, iteF ?_⟩
      exact ⟨_, rfl, l, _, rfl, hl.elim (fun z => .inr (SqL.of (s1 _ _ z))) (fun z => .inl (SqT.of (s1 _ _ z))), fun x dx hx hdx ne => ci_made (k.of s1) (fun y hy => Lw.Anyv.same s1 (av y hy)) len x dx hx hdx ne⟩
theorem scCln : FnScope ["self"] ["self"] (C8.fnScope sCln) := C8.fnScope_by (by decide +kernel)
theorem fn_cln {CC DM f : Addr} {mc : Value} {fd : FuncData} (F : C8.Fun K "__len__" "Chunks.__len__" sCln f fd) (T : Txt mg) (Z : ChC P w K mg base CC DM mc) : FnOk P w K mg base (L2.CX P w) 1 f fd ["self"] (spCln CC) := by
  obtain ⟨oc, od, dV, kV, doc, pm, an, cdv, ct, osl, rfl, lk, hcd⟩ := F.ex
  refine fn_of lk hcd scCln (fun vs H Q E h => ?_) fun A outer s H vs Q E hr h => ?_
  · obtain ⟨c, ns, rfl, _⟩ := h
    rfl
  · obtain ⟨c, ns, rfl, ⟨dx, p, e, r, hc, hp, _⟩, k⟩ := h
    refine ⟨_, (pss_one (ps_ret (pe_callB call_len_seq (by rfl) T.n_len (by decide +kernel) (pa_cons (pe_fld (pv 0) rfl) pa_nil)))), ?_⟩
    refine ⟨_, rfl, c, CC, dx, _, _, rfl, hc, Z.cl, Z.n1, chF_sizes _ _ _ _, p, _, rfl, .inr (SqT.of hp), ?_⟩
    rw [List.length_map]
    exact k
end
end Lw
namespace Lw
open PySem PySem.Spec PyProof.Rows L2
end Lw
namespace Lw.Ow
open PySem PySem.Spec PyProof.Rows PySem.W PySem.Calls
section
variable {prog : Program} {w : World} {A : Around} {E : Value → Shared → Prop} {s : Shared} {K : Frag} {x C f : Addr} {ox : Obj} {od : Option Obj}
theorem len_own {Q : Value → Shared → Prop} (X : K.In s.heap) (I : InstAt s.heap x ox C od) (hs : findIn K (.ref C) "__len__" = some (some (.ref f))) (hf : isFn K (.ref f) = true)
    (h : wpAny (model prog w) A.in1 (call (.ref f) [.ref x]) (fun v s' => ∃ (n : Int) (t : Tok), v = .int n t ∧ 0 ≤ n ∧ n < 2 ^ 63 ∧ ∀ t' tk, Q (.int n t') { s' with toks := tk }) E s) : wpAny (model prog w) A (call (.builtin "len") [.ref x]) Q E s := by
  refine call_function_entry kind_len plain_len entry_len (args_len1 _) ?_
  unfold Builtin.«len»
  refine wpAny_bind (m := oneArg "len" _) (wpAny_pure ?_)
  refine wpAny_bind (m := callSpecial? (.ref x) (Str.ofString "__len__")) (special_fn X I hs (beq_iff_eq.mp hf) (wpAny_mono h (fun r s' hr => ?_) fun _ _ y => y))
  obtain ⟨n, t, rfl, h0, h1, q⟩ := hr
  refine wpAny_bind (wpAny_holding (wpAny_pure ?_))
  refine wpAny_bind (wpAny_letGo ?_)
  show wpAny _ _ (if n < 0 then _ else _) _ _ _
  rw [if_neg (by omega)]
  show wpAny _ _ (if n ≥ 2 ^ 63 then _ else _) _ _ _
  rw [if_neg (by omega)]
  exact wpAny_bind (wpAny_mkInt (wpAny_pure ⟨_, rfl, q _ _⟩))
theorem cmp_eq {b tb : Value} {Q : Value → Shared → Prop} (hu : A.units < cLine) (X : K.In s.heap) (I : InstAt s.heap x ox C od) (hb : Looks (model prog w) s.heap (typeOf b) tb) (hn : notFirst K C tb = true)
    (one : wpAny (model prog w) A (tryCompare (.ref x) "__eq__" b) (fun r s' => ∃ v, r = some v ∧ Q v s') E s) : wpAny (model prog w) A (richCompare .Eq (.ref x) b) Q E s := by
  unfold richCompare
  simp only [oneThing_ref]
  refine wpAny_holding (wpAny_bind (wpAny_cRoomFor hu ?_))
  refine wpAny_bind (I.type.here (wpAny_bind (hb.here ?_)))
  split
  · rename_i q
    have e : subIn K tb (.ref C) = some false := by
      rcases Bool.or_eq_true_iff.mp hn with e | e
      · rw [beq_iff_eq.mp e] at q; simp at q
      · exact beq_iff_eq.mp e
    refine wpAny_bind ((looks_subIn X e).here ?_)
    simp only [Bool.false_eq_true, if_false]
    refine wpAny_bind (wpAny_mono one (fun r s' z => ?_) fun _ _ e => e)
    obtain ⟨v, rfl, hq⟩ := z
    exact wpAny_pure hq
  · refine wpAny_bind (wpAny_pure ?_)
    simp only [Bool.false_eq_true, if_false]
    refine wpAny_bind (wpAny_mono one (fun r s' z => ?_) fun _ _ e => e)
    obtain ⟨v, rfl, hq⟩ := z
    exact wpAny_pure hq
theorem try_ownE {nm : Str} {b : Value} {Q : Value → Shared → Prop} (X : K.In s.heap) (I : InstAt s.heap x ox C od) (hs : findIn K (.ref C) nm = some (some (.ref f))) (hf : isFn K (.ref f) = true) (h : wpAny (model prog w) A (call (.ref f) [.ref x, b]) (PySem.W.CmpBack Q) E s) :
    wpAny (model prog w) A (tryCompare (.ref x) nm b) (fun r s' => ∃ v, r = some v ∧ Q v s') E s := by
  unfold tryCompare
  refine wpAny_bind (ifBound_K X I hs hf (wpAny_mono h (fun v s' hv => ?_) fun _ _ e => e))
  cases v <;> first | exact hv.elim | exact wpAny_pure ⟨_, rfl, hv⟩
end
end Lw.Ow
namespace Lw
open PySem PySem.Spec PyProof.Rows L2 LamX
section
variable {X : Cx} {C f : Addr} {k j : Nat} {sp : Sp} {E : XK} {pins : List (Addr × Obj)} {σ : L2.St} {H : Hp} {s : Shared}
/-- x == y by the own == of both -/
def rER (C : Addr) (sp : Sp) (E : XK) : R2 := fun x y H Q => ∃ a dx fs b dy gs, x = .ref a ∧ H a = some (.ins C dx fs) ∧ y = .ref b ∧ H b = some (.ins C dy gs) ∧ sp [x, y] H Q E
theorem op_eqR (M : MetX X.prog X.w X.K X.mg X.base k C "__eq__" sp) (hx : Passes (L2.CX X.prog X.w) X E) (hr : Room j X.A) (hk : k ≤ j) : OpR X (compareOp .Eq) (rER C sp E) := by
  intro pins s σ H x y v u Q I rx ry h
  obtain ⟨a, dx, fs, b, dy, gs, rfl, ha, rfl, hb, q⟩ := h
  cases (show v = Value.ref a from rx)
  cases (show u = Value.ref b from ry)
  obtain ⟨_, _, J⟩ := ins_at I ha
  obtain ⟨_, _, J'⟩ := ins_at I hb
  obtain ⟨g, hm, w, _⟩ := run_met (us := [.ref a, .ref b]) (vs := [.ref a, .ref b]) M hx hr hk I (.cons rfl (.cons rfl .nil)) q
  exact Ow.cmp_eq hr.units0 I.kIn J J'.type (by simp [PySem.W.notFirst]) (Ow.try_ownE I.kIn J hm.at_ hm.fn w)
/-- len(x) by the own __len__ -/
def rLenOwn (C : Addr) (sp : Sp) (E : XK) : List V → Hp → VK → Prop := fun xs H Q => ∃ a dx fs, xs = [V.ref a] ∧ H a = some (.ins C dx fs) ∧ sp [.ref a] H (fun z H' => ∃ n : Int, z = .int n ∧ 0 ≤ n ∧ n < 2 ^ 63 ∧ Q z H') E
theorem call_lenOwn (M : MetX X.prog X.w X.K X.mg X.base k C "__len__" sp) (hx : Passes (L2.CX X.prog X.w) X E) (hr : Room j X.A) (hk : k + 1 ≤ j) : CallR X (.builtin "len") (rLenOwn C sp E) := by
  intro pins s σ H xs us Q I r h
  obtain ⟨a, dx, fs, rfl, ha, q⟩ := h
  obtain ⟨u, rfl, ru⟩ := r.one
  cases (show u = Value.ref a from ru)
  obtain ⟨_, _, J⟩ := ins_at I ha
  have hr1 : Room k X.A.in1 := Room.in1 (hr.mono hk)
  obtain ⟨g, hm, w⟩ := run_metA (us := [.ref a]) (vs := [.ref a]) M hx hr1 I.env0.in1 I (.cons rfl .nil) q
  refine Ow.len_own I.kIn J hm.at_ hm.fn (wpAny_mono w (fun v s' z => ?_) fun _ _ x => x)
  obtain ⟨z', H', I', rz, n, rfl, h0, h1, qz⟩ := z
  obtain ⟨t, rfl⟩ := rz
  exact ⟨n, t, rfl, h0, h1, fun t' tk => ⟨.int n, H', I'.tok tk, ⟨t', rfl⟩, qz⟩⟩
end
/-! ### a static method by keywords -/
section
variable {X : Cx} {CX : CXT} {C p g : Addr} {k : Nat} {fd : FuncData} {ps ks : List Str} {sp : Sp} {E : XK} {o : Expr} {kws : List Keyword} {m : Str} {pos apos : Pos} {ta : TE} {tkw : TA} {gU : List Value → List Value → List Value} {gV : List V → List V → List V} {pl : Sem Bool}
theorem pe_staticK (he : PE X o ta) (c : SMet X.K C m p g) (F : FnOk X.prog X.w X.K X.mg X.base CX k g fd ps sp) (hr : Room k X.A) (hb : KBn X.K fd ps 0 ks gU gV) (hx : Passes CX X E) (hkw : PK X kws tkw)
    (hall : (backToKw pos (keywordEach kws X.env)).all (·.1.isSome) = true := by rfl) (hks : (backToKw pos (keywordEach kws X.env)).filterMap (·.1) = ks := by rfl)
    (hpl : ((backTo pos (starEach [] X.env)).any (·.1) || (backToKw pos (keywordEach kws X.env)).any (·.1.isNone)) = false := by rfl)
    (ht : eval (.Call (.Attribute o m apos) [] kws pos) X.env = (do
      let ov ← eval o X.env
      standAt apos.atName
      let (f, first) ← holding [ov] (getMethod ov m pl)
      callWith pos f first (backTo pos (starEach [] X.env)) (backToKw pos (keywordEach kws X.env))) := by rfl) :
    PE X (.Call (.Attribute o m apos) [] kws pos) (fun σ H Q => ta σ H fun x H1 => x = .ref C ∧ tkw σ H1 fun zs H2 => zs.length = ks.length ∧ sp (gV [] zs) H2 Q E) := by
  refine ⟨fun pins s σ H Q I h => ?_⟩
  refine PySem.W.methodCall_KW (pl := pl) (thn (he.run pins s σ H _ I h) fun u s1 ⟨x, H1, I1, rx, ex, q⟩ => ?_) ht
  subst ex
  obtain rfl : u = Value.ref C := rx
  obtain ⟨mc, h1, h2, h3⟩ := c.mc
  obtain ⟨rest, h4⟩ := c.rc
  obtain ⟨fm, hF⟩ := I1.fr
  refine PySem.W.method_cls I1.kIn c.ga (PySem.W.cls_sm hF I1.ok.mod.kin h1 h2 h3 h4 rfl ?_)
  have I2 : Inv X pins σ H1 { s1 with toks := s1.toks + 1 } := I1.tok _
  refine PySem.W.callWith_KW0 (h₀ := X.base) I2.ok.mod.kin c.kp hall ?_ hpl
  refine thn (hkw.run pos pins _ σ H1 _ I2 q) fun ws s2 ⟨zs, H2, I3, rz, l2, q2⟩ => ⟨I3.kIn, ?_⟩
  rw [hks]
  exact run_fnN (us := []) (vs := []) F hr hb hx I3 .nil rz rfl l2 q2
end

end Lw
namespace Lw.Ow
open PySem PySem.Spec PyProof.Rows PySem.W PySem.Calls
section
variable {prog : Program} {w : World} {A : Around} {E : Value → Shared → Prop} {s : Shared}
theorem call_iterTup {t : Addr} {items : Array Value} {Q : Value → Shared → Prop} (ht : s.heap.IsTuple t items) (h : Q (.ref s.heap.objs.size) { s with heap := s.heap.push { cls := .type "tuple_iterator", data := .fields #[.ref t, .int 0 0] } }) : wpAny (model prog w) A (call (.builtin "iter") [.ref t]) Q E s := by
  refine Calls.call_function_entry (by decide +kernel) (by decide +kernel) PySem.W.kdk_entry_iter (PySem.W.kdk_args_iter _) ?_
  unfold Builtin.«iter»
  refine wpAny_bind (m := someArgs "iter" 1 2 _) (wpAny_of_eq (a := [Value.ref t]) (by first | rfl | kernel_rfl!) ?_)
  show wpAny _ _ (pyIter (.ref t) >>= _) _ _ _
  exact wpAny_bind (wpAny_pyIter_tuple ht (wpAny_pure ⟨_, rfl, h⟩))
end
end Lw.Ow
namespace Lw
open PySem PySem.Spec PyProof.Rows L2 LamX
/-- a tuple's iterator, at its begin -/
def ItT0 (p it : Addr) : HO := .ext fun h => h.get? it = some { cls := .type "tuple_iterator", data := .fields #[.ref p, .int 0 0] }
theorem itT0_ok {P : Program} {w : World} {H : Hp} {h : Heap} {p it : Addr} (e : h.get? it = some { cls := .type "tuple_iterator", data := .fields #[.ref p, .int 0 0] }) : ObjOk P w H h it (ItT0 p it) := ⟨e, ⟨_, e⟩, fun h1 h2 q k => k _ q⟩
section
variable {X : Cx} {pins : List (Addr × Obj)} {σ : L2.St} {H : Hp} {s : Shared}
theorem hp_lt (I : Inv X pins σ H s) {a : Addr} {o : HO} (e : H a = some o) : a < s.heap.objs.size := by
  apply Nat.lt_of_not_le
  intro z
  rw [I.hok.fresh z] at e
  cases e
/-- iter(t), t a tuple: the iterator stands above all that is tracked -/
def rIterT (K : PySem.W.Frag) : List V → Hp → VK → Prop := fun xs H Q => ∃ (p : Addr) (zs : List V), xs = [.ref p] ∧ SqT K H p zs ∧ ∀ it, H it = none → (∀ a o, H a = some o → a < it) → Q (.ref it) (upd H it (ItT0 p it))
theorem call_iterT : CallR X (.builtin "iter") (rIterT X.K) := by
  intro pins s σ H xs us Q I r h
  obtain ⟨p, zs, rfl, hq, q⟩ := h
  obtain rfl := Vals.ref1 r
  obtain ⟨its, rv, pl, hz⟩ := I.tuple hq
  refine Ow.call_iterTup (show s.heap.IsTuple p its.toArray from pl) ?_
  exact ⟨.ref s.heap.objs.size, _, I.laid (t' := s.toks) (fun b u e => Heap.get?_push_of_some _ e) (Nat.le_refl _) (itT0_ok (Heap.get?_push_size _ rfl)), rfl, q _ (I.hok.fresh (Nat.le_refl _)) fun a o e => hp_lt I e⟩
variable {tg e : Expr} {te : TE} {k j : Nat} {E : XK}
/-- a walk over an instance by its own __iter__; y: a tracked thing of this frame -/
def iOwnT (P : Program) (w : World) (K : PySem.W.Frag) (mg : Str → Option Value) (base : Heap) (k n : Nat) (E : XK) (te : TE) : TI := fun σ H R => te σ H fun x H1 => ∃ (C a dx : Addr) (fs : List (Str × V)) (sp : Sp) (y : Addr) (o : HO), x = .ref a ∧ H1 a = some (.ins C dx fs) ∧ MetX P w K mg base k C "__iter__" sp ∧ H1 y = some o ∧ n ≤ y ∧
  sp [.ref a] H1 (fun v H2 => ∃ it p, v = .ref it ∧ H2 it = some (ItT0 p it) ∧ y < it ∧ R (Itt K p) (ItX.dropH H2 it)) E
theorem pi_ownT (he : PE X e te) (hx : Passes (L2.CX X.prog X.w) X E) (hr : Room j X.A) (hk : k ≤ j) : PI X tg e (iOwnT X.prog X.w X.K X.mg X.base k X.s_0.heap.objs.size E te) := by
  refine ⟨fun pins s σ H R I h => ?_⟩
  refine thn (he.run pins s σ H _ I h) fun u s1 ⟨x, H1, I1, rx, C, a, dx, fs, sp, y, o, ex, ha, M, hy, ny, q⟩ => ?_
  subst ex
  cases (show u = Value.ref a from rx)
  obtain ⟨_, _, J⟩ := ins_at I1 ha
  obtain ⟨g, hm, _, w2⟩ := run_met (us := [.ref a]) (vs := [.ref a]) M hx hr hk I1 (.cons rfl .nil) q
  obtain ⟨m, F⟩ := I1.fr
  refine PySem.W.owit_iter F I1.ok.mod.kin J hm.at_ hm.fn (wpAny_mono w2 (fun v s2 z => ?_) fun _ _ e => e)
  obtain ⟨v', H2, I2, rv, it, p, rfl, hit, yt, hR⟩ := z
  cases (show v = Value.ref it from rv)
  have eo : s2.heap.get? it = some { cls := .type "tuple_iterator", data := .fields #[.ref p, .int 0 0] } := (I2.hok it _ hit).1
  have hit' := hit
  unfold ItT0 at hit'
  unfold PySem.W.OwitIt
  refine wpAny_specialOf (name := "__next__") (⟨_, eo, rfl⟩ : s2.TypeIs (.ref it) "tuple_iterator") PySem.F.slot_tuple_iterator_next.lookup ?_
  refine ⟨it, [it], _, _, ItX.dropH H2 it, rfl, ItX.inv_drop I2 hit', turn_tuple p it, ⟨_, eo, rfl, rfl⟩, fun b hb => ?_, hR⟩
  have e : b = it := by simpa using hb
  rw [e]
  exact ItX.inv_fp I2 hit' (Nat.le_trans ny (Nat.le_of_lt yt))
end
end Lw
namespace Lw
open PySem PySem.Spec PyProof.Rows L2
open LamX
/-! ### x in y, x not in y, y[x]: y an instance with its own defs -/
section
variable {X : Cx} {pins : List (Addr × Obj)} {σ : L2.St} {H : Hp} {s : Shared} {e a b : Expr} {te ta tb : TE} {k j : Nat} {E : XK} {pos : Pos}
/-- x in y (neg: x not in y) -/
def rInOwn (P : Program) (w : World) (K : PySem.W.Frag) (mg : Str → Option Value) (base : Heap) (k : Nat) (neg : Bool) (E : XK) : R2 := fun x y H Q => ∃ (C a dx : Addr) (fs : List (Str × V)) (sp : Sp), y = .ref a ∧ H a = some (.ins C dx fs) ∧ MetX P w K mg base k C "__contains__" sp ∧ sp [.ref a, x] H (fun v H' => ∃ c, v = .bl c ∧ Q (.bl (if neg then !c else c)) H') E
theorem op_inOwn (hx : Passes (L2.CX X.prog X.w) X E) (hr : Room j X.A) (hk : k ≤ j) : OpR X (compareOp .In) (rInOwn X.prog X.w X.K X.mg X.base k false E) := by
  intro pins s σ H x y v u Q I rx ry h
  obtain ⟨C, a, dx, fs, sp, rfl, ha, M, q⟩ := h
  cases (show u = Value.ref a from ry)
  obtain ⟨_, _, J⟩ := ins_at I ha
  obtain ⟨g, hm, _, w2⟩ := run_met (us := [.ref a, v]) (vs := [.ref a, x]) M hx hr hk I (.cons rfl (.cons rx .nil)) q
  obtain ⟨m, F⟩ := I.fr
  refine PySem.W.in_K F I.ok.mod.kin J hm.at_ hm.fn (wpAny_mono w2 (fun r s' z => ?_) fun _ _ e => e)
  obtain ⟨v', H', I', rv, c, rfl, qz⟩ := z
  cases (show r = Value.bool c from rv)
  unfold truthy
  exact wpAny_pure ⟨.bl c, H', I', rfl, qz⟩
theorem op_notInOwn (hx : Passes (L2.CX X.prog X.w) X E) (hr : Room j X.A) (hk : k ≤ j) : OpR X (compareOp .NotIn) (rInOwn X.prog X.w X.K X.mg X.base k true E) := by
  intro pins s σ H x y v u Q I rx ry h
  obtain ⟨C, a, dx, fs, sp, rfl, ha, M, q⟩ := h
  cases (show u = Value.ref a from ry)
  obtain ⟨_, _, J⟩ := ins_at I ha
  obtain ⟨g, hm, _, w2⟩ := run_met (us := [.ref a, v]) (vs := [.ref a, x]) M hx hr hk I (.cons rfl (.cons rx .nil)) q
  obtain ⟨m, F⟩ := I.fr
  refine PySem.W.notIn_K F I.ok.mod.kin J hm.at_ hm.fn (wpAny_mono w2 (fun r s' z => ?_) fun _ _ e => e)
  obtain ⟨v', H', I', rv, c, rfl, qz⟩ := z
  cases (show r = Value.bool c from rv)
  unfold truthy
  exact wpAny_pure ⟨.bl (!c), H', I', rfl, qz⟩
/-- a class's own __getitem__ -/
structure MetG (P : Program) (w : World) (K : PySem.W.Frag) (mg : Str → Option Value) (base : Heap) (k : Nat) (C : Addr) (sp : Sp) : Prop where
  ex : ∃ (g : Addr) (fd : FuncData) (ps : List Str), Meth K C "__getitem__" g ∧ PySem.W.fnIn K g = true ∧ FnOk P w K mg base (L2.CX P w) k g fd ps sp ∧ Binds K fd ps []
  seq : PySem.W.noSeq K C = true
theorem run_getA {A : Around} {C : Addr} {sp : Sp} {us : List Value} {vs : List V} {Q : VK} (M : MetG X.prog X.w X.K X.mg X.base k C sp) (hx : Passes (L2.CX X.prog X.w) X E) (hr : Room k A) (e0 : Env0 X.prog X.w X.K X.mg X.base A X.stack s H) (I : Inv X pins σ H s) (r : Vals vs us) (q : sp vs H Q E) :
    ∃ g : Addr, Meth X.K C "__getitem__" g ∧ PySem.W.fnIn X.K g = true ∧ wpAny (model X.prog X.w) A (call (.ref g) us) (EP X pins σ Q) X.xe s := by
  obtain ⟨g, fd, ps, hm, hf, F, b⟩ := M.ex
  have l : us.length = ps.length := r.length.symm.trans (F.len _ _ _ _ q)
  have b' := b s us I.kIn (by rw [List.append_nil]; exact l)
  rw [List.append_nil] at b'
  refine ⟨g, hm, hf, wpAny_call (codeAny_mono (F.run A X.stack s H ⟨us, []⟩ us vs Q E hr e0 b' r q) fun r s' hq => ?_)⟩
  cases r with
  | error e => exact hx pins σ H s e s' I hq
  | ok fl =>
    cases fl with
    | ret u => exact I.after hq
    | next => exact False.elim hq
    | brk => exact False.elim hq
    | cont => exact False.elim hq
/-- y[x] by the own __getitem__, x no slice -/
def rSubOwn (P : Program) (w : World) (K : PySem.W.Frag) (mg : Str → Option Value) (base : Heap) (k : Nat) (E : XK) : R2 := fun x y H Q => ∃ (C a dx : Addr) (fs : List (Str × V)) (sp : Sp), x = .ref a ∧ H a = some (.ins C dx fs) ∧ MetG P w K mg base k C sp ∧ sp [.ref a, y] H Q E
theorem pe_subOwn (ha : PE X a ta) (hb : PE X b tb) (hx : Passes (L2.CX X.prog X.w) X E) (hr : Room j X.A) (hk : k + 1 ≤ j) (hs : ∀ (o : Addr) (i : Value), subscripted b true (.ref o) i = runValue (.builtin "lifetime.subscript" ⟨[.ref o, i], []⟩) := by intros; with_unfolding_all rfl) :
    PE X (.Subscript a b pos) (tOp (rSubOwn X.prog X.w X.K X.mg X.base k E) ta tb) := by
  refine ⟨fun pins s σ H Q I h => Subscript_ (binT ha hb I h fun v u s2 x y H2 I2 rx ry q => ?_)⟩
  obtain ⟨C, o, dx, fs, sp, rfl, ho, M, q⟩ := q
  cases (show v = Value.ref o from rx)
  obtain ⟨_, _, J⟩ := ins_at I2 ho
  have hr1 : Room k X.A.in1 := Room.in1 (hr.mono hk)
  obtain ⟨g, hm, hf, w2⟩ := run_getA (us := [.ref o, u]) (vs := [.ref o, y]) M hx hr1 I2.env0.in1 I2 (.cons rfl (.cons ry .nil)) q
  obtain ⟨m, F⟩ := I2.fr
  exact PySem.W.sub_K F I2.ok.mod.kin J hm.at_ hf hm.fn w2 (hs o u)
end
end Lw
namespace Ls
open PySem
open Sem (wp)

theorem ga : Slot "slice" "__getattribute__" "slice.__getattribute__" := by
  refine .of (owner := "slice") (n := "__getattribute__") ?_ (by decide +kernel) (by decide +kernel) (by decide +kernel) ?_ ?_
  · rw [typeLookup_type, builtinLookup_eq_fast]
    kernel_rfl
  · first
      | exact .inl (by decide +kernel)
      | exact .inr (by decide +kernel)
  · rw [isSubtype_type]
    kernel_rfl
theorem entry_ga : entryFor table "slice.__getattribute__" = some Builtin.«object.__getattribute__» :=
  entryFor_alias (id' := "object.__getattribute__") (by kernel_rfl) (by first | rfl | decide +kernel) (by decide +kernel) (by kernel_rfl)
theorem owner_slice : Manifest.owners.lookup (String.ofList ['e', 'c', 'i', 'l', 's'].reverse) = some Manifest.sig_slice := by kernel_rfl
theorem args2 (a b : Value) : argsOk "slice.__getattribute__" ⟨[a, b], []⟩ := by
  unfold argsOk; rw [signature?_of (id := "slice.__getattribute__") (n := ['_', '_', 'e', 't', 'u', 'b', 'i', 'r', 't', 't', 'a', 't', 'e', 'g', '_', '_']) (o := ['e', 'c', 'i', 'l', 's']) (by kernel_rfl) owner_slice]; kernel_rfl
theorem lkc : typeLookup (.type "slice") "__class__" = pure (some (.builtin "object.__class__")) := by
  rw [typeLookup_type, builtinLookup_eq_fast]
  kernel_rfl
theorem sub_own : isSubtype (.type "slice") (.type (".".intercalate ("object.__class__".cutAt '.').dropLast)) = pure true := by
  rw [F.owner_object_class]
  rw [isSubtype_type]
  kernel_rfl
section
variable {prog : Program} {w : World} {A : Around} {E : Value → Shared → Prop} {h : Heap} {g : Array GenState} {d : Drawn} {t : Nat} {os : OsState} {a : Addr} {o : Obj}
theorem sl_get {R : Result → Shared → Prop} (hx : h.get? a = some o) (hc : o.cls = .type "slice")
    (hq : R (.ok (.ret (.type "slice"))) ⟨h, g, d, t, os⟩) :
    codeAny (model prog w) A (.call (.builtin "getset_descriptor.__get__") ⟨[.builtin "object.__class__", .ref a, .type "slice"], []⟩) R ⟨h, g, d, t, os⟩ := by
  have i1 : (⟨h, g, d, t, os⟩ : Shared).TypeIs (.ref a) "slice" := ⟨o, hx, hc⟩
  have i2 : (⟨h, g, d, t, os⟩ : Shared).TypeIs (.builtin "object.__class__") "getset_descriptor" := F.typeOf_object_class
  have i3 := sub_own
  refine codeAny_call_builtin F.slot_gs_get.plain F.entry_gs_get ?_
  refine F.slot_gs_get.check _ _ _ _ _ _ _ _ i2 (F.args_gs_get _ _ _) ?_
  repeat (any_goals (first | assumption | wp_step))
  refine ⟨Code.quiet_builtin _ (by decide +kernel), ?_⟩
  refine codeAny_builtin F.entry_object_class ?_
  repeat (any_goals (first | assumption | wp_step))
theorem sl_ga {tk : Tok} {Q : Fin → Shared → Prop} (hx : h.get? a = some o) (hc : o.cls = .type "slice")
    (hq : Q (.done (.ret (.type "slice"))) ⟨h, g, d, t, os⟩) :
    wpAny (model prog w) A (Builtin.«object.__getattribute__» ⟨[.ref a, .str "__class__" tk], []⟩) Q E ⟨h, g, d, t, os⟩ := by
  have i1 : (⟨h, g, d, t, os⟩ : Shared).TypeIs (.ref a) "slice" := ⟨o, hx, hc⟩
  have i2 : (⟨h, g, d, t, os⟩ : Shared).TypeIs (.builtin "object.__class__") "getset_descriptor" := F.typeOf_object_class
  have i3 := lkc
  have i4 := F.typeOf_object_class
  have i5 := F.slot_gs_get.lookup
  have i6 := F.slot_gs_set.lookup
  repeat (any_goals (first | assumption | wp_step))
  refine sl_get hx hc ?_
  repeat (any_goals (first | assumption | wp_step))
theorem sl_call {tk : Tok} {R : Result → Shared → Prop} (hx : h.get? a = some o) (hc : o.cls = .type "slice")
    (hq : R (.ok (.ret (.type "slice"))) ⟨h, g, d, t, os⟩) :
    codeAny (model prog w) A (.call (.builtin "slice.__getattribute__") ⟨[.ref a, .str "__class__" tk], []⟩) R ⟨h, g, d, t, os⟩ := by
  refine codeAny_call_builtin ga.plain entry_ga ?_
  exact ga.check _ _ _ _ _ _ _ _ (show (⟨h, g, d, t, os⟩ : Shared).TypeIs (.ref a) "slice" from ⟨o, hx, hc⟩) (args2 _ _) (sl_ga hx hc hq)
theorem sl_by {tk : Tok} {Q : Value → Shared → Prop} (hx : h.get? a = some o) (hc : o.cls = .type "slice") (hq : Q (.type "slice") ⟨h, g, d, t, os⟩) :
    wpAny (model prog w) A (getAttrBy (.ref a) (.str "__class__" tk) false) Q E ⟨h, g, d, t, os⟩ := by
  have i1 : (⟨h, g, d, t, os⟩ : Shared).TypeIs (.ref a) "slice" := ⟨o, hx, hc⟩
  have i2 := ga.lookup
  have i3 := ga.bind (.ref a)
  repeat (any_goals (first | assumption | wp_step))
  refine sl_call hx hc ?_
  repeat (any_goals (first | assumption | wp_step))
theorem sl_attr {Q : Option Value → Shared → Prop} (hx : h.get? a = some o) (hc : o.cls = .type "slice") (hq : Q (some (.type "slice")) ⟨h, g, d, t + 1, os⟩) :
    wpAny (model prog w) A (getAttr? (.ref a) "__class__") Q E ⟨h, g, d, t, os⟩ := by
  unfold getAttr? getAttrBy?
  repeat (any_goals (first | assumption | with_reducible apply sl_by hx hc | wp_step))
end
end Ls
namespace HT
open PySem PyProof.Rows PySem.SeqAt
/-- where a slice begins, its step, how many places it has -/
def slA (lo hi st : Option Int) (n : Int) : Int × Int × Nat := ((Builtin.Slice.sliceAdjust lo hi (st.getD 1) n).1, st.getD 1, Builtin.Slice.slicePlaces (Builtin.Slice.sliceAdjust lo hi (st.getD 1) n).1 (Builtin.Slice.sliceAdjust lo hi (st.getD 1) n).2 (st.getD 1))
section
variable {prog : Program} {w : World} {A : Around} {E : Value → Shared → Prop} {s : Shared}
theorem sliceApplied_any {sl : Addr} {vl vu vs : Value} {lo hi st : Option Int} {n : Int} {Q : Int × Int × Nat → Shared → Prop} (hs : s.heap.IsSliceOf sl vl vu vs) (pl : IsPart vl lo) (pu : IsPart vu hi) (ps : IsPart vs st) (h0 : st ≠ some 0)
    (h : Q (slA lo hi st n) s) : wpAny (model prog w) A (Builtin.Slice.sliceApplied (.ref sl) (pure n)) Q E s := by
  obtain ⟨os, hos, hcs, hds⟩ := id hs
  unfold Builtin.Slice.sliceApplied Builtin.Slice.sliceFields
  refine wpAny_bind (wpAny_bind (wpAny_field hos hds (x := vl) rfl (wpAny_bind (wpAny_field hos hds (x := vu) rfl (wpAny_bind (wpAny_field hos hds (x := vs) rfl (wpAny_pure ?_)))))))
  refine wpAny_bind (slicePart_ ps ?_)
  have hst : ¬ ((st.getD 1 == 0) = true) := by
    cases st with
    | none => decide
    | some c => exact fun q => h0 (congrArg some (eq_of_beq q))
  show wpAny _ _ (if (st.getD 1 == 0) = true then _ else _) _ _ s
  rw [if_neg hst]
  exact wpAny_bind (slicePart_ pl (wpAny_bind (slicePart_ pu (wpAny_bind (wpAny_pure (wpAny_pure h))))))
/-- the places of a slice -/
def slP (x : Int × Int × Nat) : List Nat := (List.range x.2.2).map fun (m : Nat) => (x.1 + (m : Int) * x.2.1).toNat
/-- whether a slice is the whole -/
def slW (x : Int × Int × Nat) (n : Nat) : Bool := x.1 == 0 && x.2.1 == 1 && x.2.2 == n
theorem getItem_tuple_any {t sl : Addr} {items : Array Value} {vl vu vs : Value} {lo hi st : Option Int} {Q : Value → Shared → Prop} (ht : IsTup s.heap t items) (hs : s.heap.IsSliceOf sl vl vu vs) (pl : IsPart vl lo) (pu : IsPart vu hi) (ps : IsPart vs st) (h0 : st ≠ some 0)
    (hsz : (slP (slA lo hi st items.size)).length ≤ sizeLine)
    (h1 : slW (slA lo hi st items.size) items.size = true → Q (.ref t) s)
    (h2 : slW (slA lo hi st items.size) items.size = false → Q (.ref s.heap.objs.size) { s with heap := s.heap.push { cls := .type "tuple", data := .seq ((slP (slA lo hi st items.size)).filterMap fun i => items[i]?).toArray } }) :
    wpAny (model prog w) A (getItem (.ref t) (.ref sl)) Q E s := by
  have htake : sizeOk (.seq ((slP (slA lo hi st items.size)).filterMap fun i => items[i]?).toArray) := by
    show ((slP (slA lo hi st items.size)).filterMap fun i => items[i]?).toArray.size ≤ sizeLine
    rw [List.size_toArray]
    exact Nat.le_trans (List.length_filterMap_le _ _) hsz
  obtain ⟨os, hos, hcs, hds⟩ := id hs
  have hTs : s.TypeIs (.ref sl) "slice" := ⟨os, hos, hcs⟩
  unfold getItem
  try with_reducible refine wpAny_holding ?_
  first | refine wpAny_bind (wpAny_pure ?_) | skip
  refine wpAny_bind (wpAny_sequenceKey ht.typeIs (by decide) ?_)
  refine wpAny_bind (wpAny_callSpecial?_slot (name := Str.ofString "__getitem__") ht.typeIs PyProof.Rows.slot_tuple_getitem
    (wpAny_call_entry PyProof.Rows.slot_tuple_getitem ht.typeIs entry_tuple_getitem ?_ (args_tuple_getitem _ _)))
  show wpAny _ _ (Builtin.Tuple.tupleItemsOf (.ref t) >>= _) _ _ s
  refine wpAny_bind (tupleItemsOf_ ht ?_)
  refine wpAny_bind (wpAny_typeOf hTs ?_)
  rw [if_pos (by decide)]
  refine wpAny_bind (sliceApplied_any hs pl pu ps h0 ?_)
  show wpAny _ _ (if slW (slA lo hi st items.size) items.size = true then _ else _) _ _ s
  have hm : (List.filterMap (fun (m : Nat) => items[((slA lo hi st items.size).1 + (m : Int) * (slA lo hi st items.size).2.1).toNat]?) (List.range (slA lo hi st items.size).2.2)).toArray = ((slP (slA lo hi st items.size)).filterMap fun i => items[i]?).toArray := by
    unfold slP
    rw [List.filterMap_map]
    rfl
  cases hw : slW (slA lo hi st items.size) items.size with
  | true =>
    rw [if_pos rfl]
    refine wpAny_bind ?_
    show wpAny _ _ (typeOf (.ref t) >>= fun T => pure (T == .type "tuple")) _ _ s
    refine wpAny_bind (wpAny_typeOf ht.typeIs (wpAny_pure ?_))
    first
      | rw [if_pos (by decide)]
      | simp only [beq_self_eq_true, if_true]
    first
      | exact wpAny_bind (wpAny_rule (wpAny_pure ⟨_, rfl, wpAny_pure (h1 hw)⟩))
      | exact wpAny_bind (wpAny_rule (wpAny_bind (wpAny_pure (wpAny_pure ⟨_, rfl, wpAny_pure (h1 hw)⟩))))
  | false =>
    rw [if_neg Bool.false_ne_true]
    have h := h2 hw
    rw [← hm] at h htake
    first
      | exact wpAny_bind (m := Builtin.Tuple.tupleExact _) (wpAny_newObj_type (wpAny_pure ⟨_, rfl, wpAny_pure h⟩) htake)
      | exact wpAny_bind (m := Builtin.Tuple.tupleExact _) (wpAny_newObj_type (wpAny_bind (wpAny_pure (wpAny_pure ⟨_, rfl, wpAny_pure h⟩))) htake)
      | exact wpAny_bind (wpAny_bind (m := Builtin.Tuple.tupleExact _) (wpAny_newObj_type (wpAny_pure (wpAny_pure ⟨_, rfl, wpAny_pure h⟩)) htake))
      | exact wpAny_bind (wpAny_bind (m := Builtin.Tuple.tupleExact _) (wpAny_newObj_type (wpAny_pure ⟨_, rfl, wpAny_pure h⟩) htake))
end
end HT
namespace Lw
open PySem PySem.Spec PyProof.Rows L2 LamX
/-! ### slice objects -/
/-- the slice object at a -/
def SlO (a : Addr) (lo hi st : Option Int) : HO := .ext fun h => ∃ vl vu vs, h.get? a = some { cls := .type "slice", data := .fields #[vl, vu, vs] } ∧ IsPart vl lo ∧ IsPart vu hi ∧ IsPart vs st
theorem slO_ok {P : Program} {w : World} {H : Hp} {h : Heap} {a : Addr} {lo hi st : Option Int} {vl vu vs : Value} (e : h.get? a = some { cls := .type "slice", data := .fields #[vl, vu, vs] }) (pl : IsPart vl lo) (pu : IsPart vu hi) (ps : IsPart vs st) : ObjOk P w H h a (SlO a lo hi st) :=
  ⟨⟨vl, vu, vs, e, pl, pu, ps⟩, ⟨_, e⟩, fun _ _ ⟨vl, vu, vs, e, r⟩ k => ⟨vl, vu, vs, k _ e, r⟩⟩
theorem kitx_sl {K : PySem.W.Frag} {a : Addr} : PySem.W.KitX K (.ref a) (.type "slice") (PySem.W.KitAt a "slice") := PySem.W.kitx_of PySem.W.kitAt_ty (fun {_ _ _ _ _ s} p k => by
  obtain ⟨h, g, d, t, os⟩ := s
  obtain ⟨o, h1, h2⟩ := p
  exact Ls.sl_attr h1 h2 k)
/-- isinstance of any value, a slice object, too -/
def rIszl (K : PySem.W.Frag) : List V → Hp → VK → Prop := fun xs H Q => rIsz K xs H Q ∨ ∃ (a : Addr) (c : V) (u : Value) (b : Bool) (lo hi st : Option Int), xs = [.ref a, c] ∧ ClsV c u ∧ H a = some (SlO a lo hi st) ∧ PySem.W.kitOne K (.type "slice") u = some b ∧ Q (.bl b) H
theorem call_iszl {X : Cx} : CallR X (.builtin "isinstance") (rIszl X.K) := by
  intro pins s σ H xs us Q I r h
  rcases h with h | ⟨a, c, u, b, lo, hi, st, rfl, k, ea, e, q⟩
  · exact call_isz pins s σ H xs us Q I r h
  obtain ⟨u1, u2, rfl, r1, r2⟩ := vals2 r
  have e2 := k.eq r2
  subst e2
  have e3 : u1 = Value.ref a := r1
  subst e3
  obtain ⟨⟨vl, vu, vs, h1, _⟩, _⟩ := I.hok a _ ea
  exact PySem.W.kia_one kitx_sl I.kIn ⟨_, h1, rfl⟩ e (fun z => by cases z) fun tk => ⟨.bl b, H, I.tok tk, rfl, q⟩
theorem vals_pick {xs : List V} {us : List Value} (r : Vals xs us) : ∀ l : List Nat, Vals (l.filterMap fun i => xs[i]?) (l.filterMap fun i => us[i]?)
  | [] => .nil
  | i :: l => by
    cases e : xs[i]? with
    | none => rw [List.filterMap_cons_none e, List.filterMap_cons_none (Vals.none_of r e)]; exact vals_pick r l
    | some x =>
      obtain ⟨u, eu, ru⟩ := r.get e
      rw [List.filterMap_cons_some e, List.filterMap_cons_some eu]
      exact .cons ru (vals_pick r l)
theorem vals_pickA {xs : List V} {us : List Value} (r : Vals xs us) (l : List Nat) : Vals (l.filterMap fun i => xs[i]?) (l.filterMap fun i => us.toArray[i]?) := by
  have e : (fun i : Nat => us.toArray[i]?) = fun i => us[i]? := by
    funext i
    simp
  rw [e]
  exact vals_pick r l
/-- the places that a slice of n things takes, by a tuple's rule and by a list's -/
def plT (lo hi st : Option Int) (n : Nat) : List Nat := HT.slP (HT.slA lo hi st n)
def plL (lo hi st : Option Int) (n : Nat) : List Nat := sliceRange (sliceBounds lo hi st n).1 (sliceBounds lo hi st n).2.1 (sliceBounds lo hi st n).2.2
def pkV (l : List Nat) (xs : List V) : List V := l.filterMap fun i => xs[i]?
/-- t[at], at a slice object -/
def rIxSl (K : PySem.W.Frag) : R2 := fun x y H Q => ∃ p a xs lo hi st, x = .ref p ∧ y = .ref a ∧ SqT K H p xs ∧ H a = some (SlO a lo hi st) ∧ st ≠ some 0 ∧ (plT lo hi st xs.length).length ≤ sizeLine ∧
  (HT.slW (HT.slA lo hi st xs.length) xs.length = true → Q (.ref p) H) ∧ (HT.slW (HT.slA lo hi st xs.length) xs.length = false → ∀ b, H b = none → Q (.ref b) (upd H b (.tup (pkV (plT lo hi st xs.length) xs))))
theorem ix_tupSl {X : Cx} : IxR X (rIxSl X.K) := by
  intro value slice pins s σ H x y v u Q I rx ry h hs
  obtain ⟨p, a, xs, lo, hi, st, rfl, rfl, hq, ha, h0, hl, q1, q2⟩ := h
  cases rx
  cases (show u = Value.ref a from ry)
  obtain ⟨its, r, pl, hz⟩ := I.tuple hq
  obtain ⟨⟨vl, vu, vs, h1, p1, p2, p3⟩, _⟩ := I.hok a _ ha
  have hn : its.toArray.size = xs.length := by rw [List.size_toArray]; exact r.length.symm
  refine tail_any pl.typeIs slot_tuple_getitem.lookup (HT.getItem_tuple_any pl ⟨_, h1, rfl, rfl⟩ p1 p2 p3 h0 (by rw [hn]; exact hl) (fun e => ?_) fun e => ?_) hs
  · rw [hn] at e
    exact ⟨.ref p, H, I, rfl, q1 e⟩
  · rw [hn] at e ⊢
    refine ⟨.ref _, _, I.laid (t' := s.toks) (o := .tup (pkV (plT lo hi st xs.length) xs)) (fun b ob q => Heap.get?_push_of_some _ q) (Nat.le_refl _) ?_, rfl, q2 e _ (I.hok.fresh (Nat.le_refl _))⟩
    exact ⟨Nat.le_trans (List.length_filterMap_le _ _) hl, _, vals_pickA r _, IsTup.new _ _⟩
section
variable {X : Cx} {a : Expr} {lo hi st : Option Expr} {ta : TE} {tl th ts : TO} {k j : Nat} {E : XK} {pos p2 : Pos}
/-- y[lo:hi:st] by the own __getitem__ -/
def tSlOwn (P : Program) (w : World) (K : PySem.W.Frag) (mg : Str → Option Value) (base : Heap) (k : Nat) (E : XK) (ta : TE) (tl th ts : TO) : TE := fun σ H Q => ta σ H fun x H1 => tl σ H1 fun l H2 => th σ H2 fun u H3 => ts σ H3 fun t H4 =>
  ∃ (C o dx : Addr) (fs : List (Str × V)) (sp : Sp), x = .ref o ∧ H4 o = some (.ins C dx fs) ∧ MetG P w K mg base k C sp ∧ ∀ p, H4 p = none → sp [.ref o, .ref p] (upd H4 p (SlO p l u t)) Q E
theorem pe_slOwn (ha : PE X a ta) (hl : PO X lo tl) (hh : PO X hi th) (hs : PO X st ts) (hx : Passes (L2.CX X.prog X.w) X E) (hr : Room j X.A) (hk : k + 1 ≤ j) :
    PE X (.Subscript a (.Slice lo hi st p2) pos) (tSlOwn X.prog X.w X.K X.mg X.base k E ta tl th ts) := by
  refine ⟨fun pins s σ H Q I h => ?_⟩
  refine Subscript_ (thn (ha.run pins s σ H _ I h) fun v s1 ⟨x, H1, I1, r1, q1⟩ => ?_)
  refine wpAny_Slice (thn (hl.run pins s1 σ H1 _ I1 q1) fun vl s2 ⟨l, H2, I2, pl, q2⟩ => thn (hh.run pins s2 σ H2 _ I2 q2) fun vu s3 ⟨u, H3, I3, pu, q3⟩ => thn (hs.run pins s3 σ H3 _ I3 q3) fun vs s4 ⟨t, H4, I4, ps, q4⟩ => ?_)
  obtain ⟨C, o, dx, fs, sp, rfl, ho, M, q⟩ := q4
  cases (show v = Value.ref o from r1)
  have I5 : Inv X pins σ (upd H4 s4.heap.objs.size (SlO s4.heap.objs.size l u t)) { s4 with heap := s4.heap.push { cls := .type "slice", data := .fields #[vl, vu, vs] }, toks := s4.toks } := I4.laid (t' := s4.toks) (o := SlO s4.heap.objs.size l u t) (fun b ob q => Heap.get?_push_of_some _ q) (Nat.le_refl _) (slO_ok (Heap.get?_push_size _ rfl) pl pu ps)
  have q5 := q _ (I4.hok.fresh (Nat.le_refl _))
  have ho5 : upd H4 s4.heap.objs.size (SlO s4.heap.objs.size l u t) o = some (.ins C dx fs) := by
    rw [upd_ne (ne_of_none ho (I4.hok.fresh (Nat.le_refl _)))]
    exact ho
  obtain ⟨_, _, J⟩ := ins_at I5 ho5
  obtain ⟨m, F⟩ := I5.fr
  cases st with
  | none =>
    have hr1 : Room k X.A := hr.mono (by omega)
    obtain ⟨g, hm, hf, w2⟩ := run_getA (us := [.ref o, .ref s4.heap.objs.size]) (vs := [.ref o, .ref s4.heap.objs.size]) M hx hr1 I5.env0 I5 (.cons rfl (.cons rfl .nil)) q5
    have X5 := I5.ok.mod.kin.keeps F.keep
    unfold PySem.W.fnIn at hf
    split at hf
    · rename_i e
      unfold subscriptTail getitemInPython
      refine wpAny_bind (wpAny_bind (wpAny_bind (J.type.here ((PySem.W.looks_findIn X5 hm.at_).here ?_))))
      dsimp only
      refine wpAny_bind (wpAny_load (X5 _ _ e) (wpAny_pure ?_))
      dsimp only
      rw [show subscripted (.Slice lo hi none p2) true (.ref o) (.ref s4.heap.objs.size) = operate [.ref s4.heap.objs.size, .ref o] (getItem (.ref o) (.ref s4.heap.objs.size)) by with_unfolding_all rfl]
      refine wpAny_bind (wpAny_operating (PySem.W.getItem_K F I5.ok.mod.kin J M.seq hm.at_ hm.fn (wpAny_mono w2 (fun r s' z => ?_) fun _ _ z => z)))
      exact wpAny_bind (wpAny_letTemporaryGo (wpAny_pure z))
    · cases hf
  | some st =>
    have hr1 : Room k X.A.in1 := Room.in1 (hr.mono hk)
    obtain ⟨g, hm, hf, w2⟩ := run_getA (us := [.ref o, .ref s4.heap.objs.size]) (vs := [.ref o, .ref s4.heap.objs.size]) M hx hr1 I5.env0.in1 I5 (.cons rfl (.cons rfl .nil)) q5
    exact PySem.W.sub_K F I5.ok.mod.kin J hm.at_ hf hm.fn w2 (by with_unfolding_all rfl)
/-- l[lo:hi:st] of a list -/
def tSlL (K : PySem.W.Frag) (ta : TE) (tl th ts : TO) : TE := fun σ H Q => ta σ H fun x H1 => tl σ H1 fun l H2 => th σ H2 fun u H3 => ts σ H3 fun t H4 => ∃ a xs, x = .ref a ∧ SqL K H4 a xs ∧ t ≠ some 0 ∧ ∀ p, H4 p = none → Q (.ref p) (upd H4 p (.lst (pkV (plL l u t xs.length) xs)))
theorem pe_slL (ha : PE X a ta) (hl : PO X lo tl) (hh : PO X hi th) (hs : PO X st ts) : PE X (.Subscript a (.Slice lo hi st p2) pos) (tSlL X.K ta tl th ts) := by
  refine ⟨fun pins s σ H Q I h => ?_⟩
  refine Subscript_ (thn (ha.run pins s σ H _ I h) fun v s1 ⟨x, H1, I1, r1, q1⟩ => ?_)
  refine wpAny_Slice (thn (hl.run pins s1 σ H1 _ I1 q1) fun vl s2 ⟨l, H2, I2, pl, q2⟩ => thn (hh.run pins s2 σ H2 _ I2 q2) fun vu s3 ⟨u, H3, I3, pu, q3⟩ => thn (hs.run pins s3 σ H3 _ I3 q3) fun vs s4 ⟨t, H4, I4, ps, q4⟩ => ?_)
  obtain ⟨b, xs, rfl, hq, h0, q⟩ := q4
  cases (show v = Value.ref b from r1)
  have I5 : Inv X pins σ H4 { s4 with heap := s4.heap.push { cls := .type "slice", data := .fields #[vl, vu, vs] } } := I4.kept (t' := s4.toks) fun b ob q => Heap.get?_push_of_some _ q
  obtain ⟨its, r, ht, hz⟩ := I5.list hq
  have hlen := r.length
  have hn : its.toArray.size = xs.length := by rw [List.size_toArray]; exact r.length.symm
  have fin : wpAny (model X.prog X.w) X.A (getItem (.ref b) (.ref s4.heap.objs.size)) (EP X pins σ Q) X.xe { s4 with heap := s4.heap.push { cls := .type "slice", data := .fields #[vl, vu, vs] } } := by
    refine wpAny_getItem_list_slice ht.isList (Heap.IsSliceOf.new _ vl vu vs) pl pu ps h0 ?_ (by rw [List.size_toArray]; omega)
    have hle := slicePick_size_le its.toArray l u t
    unfold slicePick at hle ⊢
    rw [List.size_toArray] at hle
    rw [hn] at hle ⊢
    refine ⟨.ref _, _, I5.laid (t' := s4.toks) (o := .lst (pkV (plL l u t xs.length) xs)) (fun b ob q => Heap.get?_push_of_some _ q) (Nat.le_refl _) ?_, rfl, q _ (I5.hok.fresh (Nat.le_refl _))⟩
    have rr := vals_pickA r (plL l u t xs.length)
    exact ⟨by show (pkV _ _).length ≤ _; rw [show (pkV (plL l u t xs.length) xs).length = _ from rr.length]; exact Nat.le_trans hle hz, _, 0, rr, Heap.get?_push_size _ rfl⟩
  cases st with
  | none => exact tail_any (ops := [.ref s4.heap.objs.size, .ref b]) ht.isList.typeIs PySem.slot_list_getitem.lookup fin (by with_unfolding_all rfl)
  | some st => exact tail_any (ops := [.ref b, .ref s4.heap.objs.size]) ht.isList.typeIs PySem.slot_list_getitem.lookup fin (by with_unfolding_all rfl)
end
end Lw
namespace Lw
open PySem PySem.Spec PyProof.Rows L2
open SX PySem.NumText TL LamX ClX StX
abbrev sCit : Stmt := inClass (top 22) 8
abbrev sCco : Stmt := inClass (top 22) 9
abbrev sCgi : Stmt := inClass (top 22) 10
/-! ### a slice's places: a tuple's and a list's are the same -/
def slBs : List (Option Int) := [none, some (-3), some (-2), some (-1), some 0, some 1, some 2, some 3, some 4, some 5, some 6, some 7, some 8]
def slTs : List (Option Int) := [none, some 1, some 2, some 3, some (-1), some (-2)]
theorem sl_all : (List.range 9).all (fun n => slBs.all fun l => slBs.all fun u => slTs.all fun t => plT l u t n == plL l u t n && (!(HT.slW (HT.slA l u t n) n) || plL l u t n == List.range n) && decide ((plL l u t n).length ≤ 8)) = true := by decide +kernel
theorem sl_one {n : Nat} (hn : n ≤ 8) {l u t : Option Int} (hl : l ∈ slBs) (hu : u ∈ slBs) (ht : t ∈ slTs) : plT l u t n = plL l u t n ∧ (HT.slW (HT.slA l u t n) n = true → plL l u t n = List.range n) ∧ (plL l u t n).length ≤ 8 := by
  have h := List.all_eq_true.mp (List.all_eq_true.mp (List.all_eq_true.mp (List.all_eq_true.mp sl_all n (List.mem_range.mpr (by omega))) l hl) u hu) t ht
  rw [Bool.and_eq_true, Bool.and_eq_true, decide_eq_true_eq, Bool.or_eq_true, Bool.not_eq_true'] at h
  refine ⟨eq_of_beq h.1.1, fun w => ?_, h.2⟩
  rcases h.1.2 with e | e
  · rw [w] at e; cases e
  · exact eq_of_beq e
theorem slT_ne {t : Option Int} (ht : t ∈ slTs) : t ≠ some 0 := by
  intro e
  subst e
  revert ht
  decide
def pkI (l : List Nat) (ns : List Int) : List Int := l.filterMap fun i => ns[i]?
theorem pk_ints (ns : List Int) : ∀ l : List Nat, pkV l (ns.map V.int) = (pkI l ns).map V.int
  | [] => rfl
  | i :: l => by
    have ih := pk_ints ns l
    unfold pkV pkI at ih ⊢
    cases e : ns[i]? with
    | none => rw [List.filterMap_cons_none (by rw [List.getElem?_map, e]; rfl), List.filterMap_cons_none e, ih]
    | some x => rw [List.filterMap_cons_some (b := V.int x) (by rw [List.getElem?_map, e]; rfl), List.filterMap_cons_some e, ih]; rfl
theorem pk_range (ns : List Int) : pkI (List.range ns.length) ns = ns := by
  unfold pkI
  apply List.ext_getElem?
  intro i
  have h : ∀ k, k ≤ ns.length → (List.range k).filterMap (fun i => ns[i]?) = ns.take k := by
    intro k
    induction k with
    | zero => intro _; rfl
    | succ k ih =>
      intro hk
      have e : ns[k]? = some ns[k] := List.getElem?_eq_getElem (by omega)
      rw [List.range_succ, List.filterMap_append, ih (by omega), List.take_add_one, e]
      rw [List.filterMap_cons_some e]
      rfl
  rw [h _ (Nat.le_refl _), List.take_length]
theorem pk_mem {l : List Nat} {ns : List Int} {v : Int} (h : v ∈ pkI l ns) : v ∈ ns := by
  obtain ⟨i, _, e⟩ := List.mem_filterMap.mp h
  exact List.mem_of_getElem? e
/-- whether a value is one of these sizes -/
def conB (v : V) (ns : List Int) : Bool := match v with
  | .int i => ns.contains i
  | _ => false
theorem inV_ints (i : Int) : ∀ ns : List Int, inV (.int i) (ns.map V.int) = ns.contains i
  | [] => rfl
  | n :: r => by
    have ih := inV_ints i r
    unfold inV at ih ⊢
    rw [List.map_cons, List.any_cons, ih, List.contains_cons]
    show ((n == i) || _) = _
    rw [Bool.beq_comm]
theorem flat_ints : ∀ ns : List Int, (ns.map V.int).all flatV = true
  | [] => rfl
  | n :: r => by rw [List.map_cons, List.all_cons, flat_ints r]; rfl
/-- Chunks.of, ready to be called in the module -/
structure OfK (P : Program) (w : World) (K : PySem.W.Frag) (mg : Str → Option Value) (base : Heap) (CC DM DS DC p g : Addr) (fd : FuncData) : Prop where
  hm : mg "Chunks" = some (.ref CC)
  S : SMet K CC "of" p g
  F : FnOk P w K mg base (L2.CX P w) 7 g fd ["sizes"] (spCof2 K CC DM DS DC)
  b : Binds K fd ["sizes"] []
theorem ci_none {K : PySem.W.Frag} {CC DM DS : Addr} {E : XK} {σ : L2.St} {H : Hp} {Q : VK} (h : ∀ c H', Same H H' → H c = none → ChA CC H' c [] → Q (.ref c) H') : tMakeR CC (spSt K CC DM DS) E tNil σ H Q := fun x dx hx hdx ne =>
  ci_made (xs := ([] : List Int).map V.int) (Q := Q) (MkO.good (fun v hv => by cases hv) (fun _ => h) (fun l => absurd l (by decide))) (any_ints K H []) (by decide) x dx hx hdx ne
theorem of_tup {K : PySem.W.Frag} {CC DM DS DC : Addr} {ns : List Int} {H H' : Hp} {Q : VK} {E : XK} (sb : SzB ns) (l : ns.length ≤ 5000) (k : ∀ c H', Same H H' → H c = none → ChA CC H' c ns → Q (.ref c) H') (s : Same H H') {q : Addr} (hq : H' q = some (.tup (ns.map V.int))) : spCof2 K CC DM DS DC [.ref q] H' Q E :=
  ⟨_, rfl, .inr ⟨q, _, rfl, .inr hq, any_ints K H' _, by rw [List.length_map]; omega, MkO.good sb (fun _ c H2 s2 fc hc => k c H2 (s.trans s2) (s.free fc) hc) (fun l' => absurd l' (by omega))⟩⟩
def spCit (CC : Addr) : Sp := fun vs H Q _ => ∃ c ns, vs = [.ref c] ∧ ChA CC H c ns ∧ ∀ p it, H p = some (.tup (ns.map V.int)) → H it = none → (∀ a o, H a = some o → a < it) → Q (.ref it) (upd H it (ItT0 p it))
def spCco (K : PySem.W.Frag) (CC : Addr) : Sp := fun vs H Q _ => ∃ c ns v, vs = [.ref c, v] ∧ ChA CC H c ns ∧ Anyv K H v ∧ Q (.bl (conB v ns)) H
/-- what y[at] comes to -/
def GiO (CC DN : Addr) (ns : List Int) (v : V) (H : Hp) (Q : VK) (E : XK) : Prop :=
  (∃ i : Int, v = .int i ∧ (¬ (0 ≤ i ∧ i < ns.length) → Bf DN "at" v H E) ∧ ∀ n, 0 ≤ i → i < ns.length → ns[i.toNat]? = some n → Q (.int n) H) ∨
  (∃ (a : Addr) (l u t : Option Int), v = .ref a ∧ H a = some (SlO a l u t) ∧ l ∈ slBs ∧ u ∈ slBs ∧ t ∈ slTs ∧ ns.length ≤ 8 ∧ SzB ns ∧ ∀ c H', Same H H' → H c = none → ChA CC H' c (pkI (plL l u t ns.length) ns) → Q (.ref c) H')
def spCgi (CC DN : Addr) : Sp := fun vs H Q E => ∃ c ns v, vs = [.ref c, v] ∧ ChA CC H c ns ∧ ns.length ≤ 5000 ∧ GiO CC DN ns v H Q E
section
variable {P : Program} {w : World} {K : PySem.W.Frag} {mg : Str → Option Value} {base : Heap}
theorem scCit : FnScope ["self"] ["self"] (C8.fnScope sCit) := C8.fnScope_by (by decide +kernel)
theorem fn_cit {CC DM f : Addr} {mc : Value} {fd : FuncData} (F : C8.Fun K "__iter__" "Chunks.__iter__" sCit f fd) (hit : mg "iter" = none) (Z : ChC P w K mg base CC DM mc) : FnOk P w K mg base (L2.CX P w) 1 f fd ["self"] (spCit CC) := by
  obtain ⟨oc, od, dV, kV, doc, pm, an, cdv, ct, osl, rfl, lk, hcd⟩ := F.ex
  refine fn_of lk hcd scCit (fun vs H Q E h => ?_) fun A outer s H vs Q E hr h => ?_
  · obtain ⟨c, ns, rfl, _⟩ := h
    rfl
  · obtain ⟨c, ns, rfl, ⟨dx, p, e, r, hc, hp, _⟩, k⟩ := h
    refine ⟨_, (pss_one (ps_ret (pe_callB call_iterT (by rfl) hit (by decide +kernel) (pa_cons (pe_fld (pv 0) rfl) pa_nil)))), ?_⟩
    exact ⟨_, rfl, c, CC, dx, _, _, rfl, hc, Z.cl, Z.n1, chF_sizes _ _ _ _, p, _, rfl, SqT.of hp, fun it h1 h2 => k p it hp h1 h2⟩
theorem scCco : FnScope ["self", "x"] ["self", "x"] (C8.fnScope sCco) := C8.fnScope_by (by decide +kernel)
theorem fn_cco {CC DM f : Addr} {mc : Value} {fd : FuncData} (F : C8.Fun K "__contains__" "Chunks.__contains__" sCco f fd) (T : Txt mg) (Z : ChC P w K mg base CC DM mc) (DI : C8.Cal P w K mg base 1 "is_integer" (spIsInt K) []) : FnOk P w K mg base (L2.CX P w) 2 f fd ["self", "x"] (spCco K CC) := by
  obtain ⟨oc, od, dV, kV, doc, pm, an, cdv, ct, osl, rfl, lk, hcd⟩ := F.ex
  refine fn_of lk hcd scCco (fun vs H Q E h => ?_) fun A outer s H vs Q E hr h => ?_
  · obtain ⟨c, ns, v, rfl, _⟩ := h
    rfl
  · obtain ⟨c, ns, v, rfl, ⟨dx, p, e, r, hc, hp, _⟩, av, k⟩ := h
    refine ⟨_, (pss_one (ps_ret (pe_and (C8.pe_c DI hr (by decide) (by rfl) (pa_cons (pv 1) pa_nil)) (pe_one (pe_cmpR op_in_seq (pv 1) (pe_fld (pv 0) rfl) (by rfl)))))), ?_⟩
    refine ⟨_, rfl, v, rfl, av, ?_⟩
    by_cases hv : ∃ i, v = .int i
    · obtain ⟨i, rfl⟩ := hv
      refine ⟨_, rfl, iteT ?_⟩
      refine ⟨_, rfl, _, rfl, c, CC, dx, _, _, rfl, hc, Z.cl, Z.n1, chF_sizes _ _ _ _, p, _, rfl, .inr (SqT.of hp), rfl, flat_ints ns, ?_⟩
      rw [inV_ints i ns]
      exact k
    · have e1 : isI v = false := by cases v <;> first | rfl | exact absurd ⟨_, rfl⟩ hv
      have e2 : conB v ns = false := by cases v <;> first | rfl | exact absurd ⟨_, rfl⟩ hv
      rw [e1]
      rw [e2] at k
      exact ⟨_, rfl, iteF k⟩
theorem scCgi : FnScope ["self", "at"] ["self", "at"] (C8.fnScope sCgi) := C8.fnScope_by (by decide +kernel)
theorem fn_cgi {CC DC DS DM DN fI fE pO gO f : Addr} {mc : Value} {fd fdE fdG : FuncData} (F : C8.Fun K "__getitem__" "Chunks.__getitem__" sCgi f fd) (T : Txt mg) (CM : ChM2 P w K mg base CC DM DS fI mc) (OF : OfK P w K mg base CC DM DS DC pO gO fdG) (EN : Err1 "NoChunk" "at" P w K mg base DN fE fdE) (DW : C8.Cal P w K mg base 2 "is_within" (spWithin K) []) : FnOk P w K mg base (L2.CX P w) 8 f fd ["self", "at"] (spCgi CC DN) := by
  obtain ⟨oc, od, dV, kV, doc, pm, an, cdv, ct, osl, rfl, lk, hcd⟩ := F.ex
  have Z := CM.Z
  refine fn_of lk hcd scCgi (fun vs H Q E h => ?_) fun A outer s H vs Q E hr h => ?_
  · obtain ⟨c, ns, v, rfl, _⟩ := h
    rfl
  · obtain ⟨c, ns, v, rfl, ⟨dx, p, e, r, hc, hp, _⟩, l5, k⟩ := h
    have tk : Takes (cxOf (L2.CX P w) P w K mg base ["self", "at"] "Chunks.__getitem__" (C8.fnScope sCgi) f cdv A outer s H E) (fun cls d _ H' => E cls d H') := takes_of rfl rfl rfl rfl
    refine ⟨_, (pss_cons (ps_if (pt_not (pt_val (pe_callB call_iszl (by rfl) T.n_isinstance (by decide +kernel) (pa_cons (pv 1) (pa_cons (pe_bltn (v := .ty "int") (by rfl) T.n_int (by decide +kernel) rfl) pa_nil))))) (pss_one (ps_ret (pe_static (pe_glob (v := .ref CC) (by rfl) OF.hm rfl) OF.S OF.F (hr.mono (by decide)) OF.b .nil (passes_call (takes_of rfl rfl rfl rfl) (fun _ _ _ _ z => z)) (pa_cons (pe_ix (IxR.or ix_tup ix_tupSl) (pe_fld (pv 0) rfl) (pv 1) (fun _ _ => rfl)) pa_nil)))) pss_nil)
  (pss_cons (ps_if (pt_not (pt_val (C8.pe_c DW hr (by decide) (by rfl) (pa_cons (pv 1) (pa_cons pe_int (pa_cons (pe_op op_sub (pe_callB call_len_seq (by rfl) T.n_len (by decide +kernel) (pa_cons (pe_fld (pv 0) rfl) pa_nil)) pe_int) pa_nil)))))) (pss_one (ps_bad1 (x := "NoChunk") rfl tk EN.T EN.iC EN.tI EN.F hr EN.b (by rfl) EN.hm (pv 1))) pss_nil)
  (pss_one (ps_ret (pe_ix (IxR.or ix_tup ix_tupSl) (pe_fld (pv 0) rfl) (pv 1) (fun _ _ => rfl)))))), ?_⟩
    rcases k with ⟨i, rfl, k1, k2⟩ | ⟨a, l, u, t, rfl, ha, hl, hu, ht, l8, sb, k⟩
    · refine ⟨_, rfl, .inl ⟨_, _, .type "int", .type "int", true, rfl, .ty _, .x (.base (.int i)), kit_ty (by decide +kernel), ?_⟩⟩
      refine ⟨_, rfl, iteF ?_⟩
      have lm : (ns.map V.int).length = ns.length := List.length_map _
      refine ⟨_, rfl, _, rfl, c, CC, dx, _, _, rfl, hc, Z.cl, Z.n1, chF_sizes _ _ _ _, p, _, rfl, .inr (SqT.of hp), _, _, rfl, rfl, _, _, _, rfl, .int i, _, rfl, ?_⟩
      rw [lm]
      by_cases hi : 0 ≤ i ∧ i < ns.length
      · have e1 : inB (.int i) 0 ((ns.length : Int) - 1) = true := by
          show (decide (0 ≤ i) && decide (i ≤ (ns.length : Int) - 1)) = true
          rw [decide_eq_true hi.1, decide_eq_true (by omega)]; rfl
        rw [e1]
        have hj : i.toNat < ns.length := by omega
        have e2 : ns[i.toNat]? = some ns[i.toNat] := List.getElem?_eq_getElem hj
        refine iteF ?_
        refine ⟨_, rfl, c, CC, dx, _, _, rfl, hc, Z.cl, Z.n1, chF_sizes _ _ _ _, _, rfl, .inl ⟨p, _, i, .int ns[i.toNat], rfl, rfl, SqT.of hp, ?_, k2 _ hi.1 hi.2 e2⟩⟩
        have e3 : atI (ns.map V.int) ((i.toNat : Nat) : Int) = some (V.int ns[i.toNat]) := atI_nat (by rw [List.getElem?_map, e2]; rfl)
        rwa [show ((i.toNat : Nat) : Int) = i by omega] at e3
      · have e1 : inB (.int i) 0 ((ns.length : Int) - 1) = false := by
          show (decide (0 ≤ i) && decide (i ≤ (ns.length : Int) - 1)) = false
          by_cases h0 : 0 ≤ i
          · rw [decide_eq_false (show ¬ i ≤ (ns.length : Int) - 1 by omega), Bool.and_false]
          · rw [decide_eq_false h0]; rfl
        rw [e1]
        exact iteT ⟨_, rfl, bad_leaf1 fun d fs hd e1 => k1 hi d fs H (Same.refl _) hd e1⟩
    · refine ⟨_, rfl, .inr ⟨a, _, .type "int", false, l, u, t, rfl, .ty _, ha, kit_ty (by decide +kernel), ?_⟩⟩
      refine ⟨_, rfl, iteT ?_⟩
      have lm : (ns.map V.int).length = ns.length := List.length_map _
      obtain ⟨s1, s2, s3⟩ := sl_one l8 hl hu ht
      have s0 := slT_ne ht
      refine ⟨rfl, _, rfl, c, CC, dx, _, _, rfl, hc, Z.cl, Z.n1, chF_sizes _ _ _ _, _, rfl, .inr ⟨p, a, _, l, u, t, rfl, rfl, SqT.of hp, ha, s0, ?_, ?_, ?_⟩⟩
      · rw [lm, s1]
        exact Nat.le_trans s3 (by decide)
      all_goals rw [lm]
      all_goals intro hw
      · have hr := pk_range ns
        rw [← s2 hw] at hr
        exact of_tup sb l5 (fun c' H' s' f' hc' => k c' H' s' f' (by rw [hr]; exact hc')) (Same.refl _) hp
      · intro b fb
        rw [s1, pk_ints]
        exact of_tup (fun v hv => sb v (pk_mem hv)) (Nat.le_trans (Nat.le_trans (List.length_filterMap_le _ _) s3) (by decide)) k (same_new fb) upd_same
end
end Lw
namespace Lw
open PySem PySem.Spec PyProof.Rows L2
end Lw
namespace Lw.Ow
open PySem PySem.Spec PyProof.Rows PySem.W PySem.Calls
section
variable {prog : Program} {w : World} {A : Around} {E : Value → Shared → Prop} {s : Shared} {K : Frag} {x C f : Addr} {ox : Obj} {od : Option Obj}
theorem bool_any {Q : Value → Shared → Prop} (ht : ∀ Q' : Bool → Shared → Prop, (∀ b s', Q (.bool b) s' → Q' b s') → wpAny (model prog w) A.in1.in1 (truthy (.ref x)) Q' E s) : wpAny (model prog w) A (call (.type "bool") [.ref x]) Q E s := by
  refine callType_codes (T := "bool") (Bi := Builtin.«object.__init__») (Q₁ := fun r s₁ => ∃ c, r = Value.bool c ∧ Q r s₁) PySem.F.called_bool (PySem.F.typeCall_bool_1 _) PySem.F.entry_object_init ?_ ?_
  · refine codeAny_of_tree ?_
    show wpAny _ A.in1.in1 (do checkBuiltinCall "bool.__new__" ⟨[.type "bool", .ref x], []⟩; again (.builtin "bool.__new__" ⟨[.type "bool", .ref x], []⟩)) _ _ s
    refine wpAny_bind (wpAny_of_eq (PySem.F.newCall_bool_1 _) (wpAny_pure ⟨plainId_quiet (by decide +kernel) _, codeAny_builtin PySem.F.entry_bool_new ?_⟩))
    rw [Around.under_plainId (by decide +kernel) _]
    unfold Builtin.«bool.__new__»
    refine wpAny_bind (wpAny_of_eq (a := true) rfl ?_)
    refine PySem.W.KFB.if_not rfl ?_
    refine wpAny_bind (wpAny_of_eq (a := true) PySem.F.conv_sub_bool ?_)
    refine PySem.W.KFB.if_not rfl ?_
    refine wpAny_bind (wpAny_of_eq (a := [Value.ref x]) rfl ?_)
    exact wpAny_bind (ht _ fun b s' hb => wpAny_pure ⟨b, rfl, hb⟩)
  · rintro obj s₁ ⟨c, rfl, hq⟩
    exact ⟨rfl, PySem.F.args_object_init_2 _ _, object_init_meets PySem.F.called_bool.init.lookup PySem.F.called_bool.made (by decide) prog w A.in1 _ s₁ ⟨rfl, rfl, hq⟩⟩
end
end Lw.Ow
namespace Lw.Ow
open PySem PySem.Spec PyProof.Rows PySem.W PySem.Calls
section
variable {prog : Program} {w : World} {A : Around} {E : Value → Shared → Prop} {s : Shared} {K : Frag} {x C f : Addr} {ox : Obj} {od : Option Obj}
theorem truthy_len {Q : Bool → Shared → Prop} (X : K.In s.heap) (I : InstAt s.heap x ox C od) (hb : findIn K (.ref C) "__bool__" = some none) (hs : findIn K (.ref C) "__len__" = some (some (.ref f))) (hf : isFn K (.ref f) = true)
    (h : wpAny (model prog w) A.in1 (call (.ref f) [.ref x]) (fun v s' => ∃ (n : Int) (t : Tok), v = .int n t ∧ 0 ≤ n ∧ n < 2 ^ 63 ∧ ∀ tk, Q (n != 0) { s' with toks := tk }) E s) : wpAny (model prog w) A (truthy (.ref x)) Q E s := by
  have key : wpAny (model prog w) A (runValue (.builtin "len" ⟨[.ref x], []⟩)) (fun r s' => ∃ (n : Int) (t : Tok), r = .int n t ∧ Q (n != 0) s') E s := by
    refine wpAny_runValue (codeAny_builtin entry_len ?_)
    rw [Around.under_plainId plain_len _]
    unfold Builtin.«len»
    refine wpAny_bind (m := oneArg "len" _) (wpAny_pure ?_)
    refine wpAny_bind (m := callSpecial? (.ref x) (Str.ofString "__len__")) (special_fn X I hs (beq_iff_eq.mp hf) (wpAny_mono h (fun r s' hr => ?_) fun _ _ y => y))
    obtain ⟨n, t, rfl, h0, h1, q⟩ := hr
    refine wpAny_bind (wpAny_holding (wpAny_pure ?_))
    refine wpAny_bind (wpAny_letGo ?_)
    show wpAny _ _ (if n < 0 then _ else _) _ _ _
    rw [if_neg (by omega)]
    show wpAny _ _ (if n ≥ 2 ^ 63 then _ else _) _ _ _
    rw [if_neg (by omega)]
    exact wpAny_bind (wpAny_mkInt (wpAny_pure ⟨n, _, rfl, q _⟩))
  unfold truthy
  refine wpAny_bind (m := callSpecial? (.ref x) (Str.ofString "__bool__")) (wpAny_bind (wpAny_bind (I.type.here ((looks_findIn X hb).here (wpAny_pure ?_)))))
  refine wpAny_bind (wpAny_bind (I.type.here ((looks_findIn X hs).here ?_)))
  refine wpAny_bind (wpAny_mono key (fun r s' z => ?_) fun _ _ e => e)
  obtain ⟨n, t, rfl, q⟩ := z
  exact wpAny_pure q
end
end Lw.Ow
namespace Lw
open PySem PySem.Spec PyProof.Rows L2 LamX SX PySem.NumText TL ClX StX
section
variable {X : Cx} {C f : Addr} {k j : Nat} {sp : Sp} {E : XK} {pins : List (Addr × Obj)} {σ : L2.St} {H : Hp} {s : Shared}
/-- x == y by the left one's own ==, y any value whose class is not below -/
def rEqG (K : PySem.W.Frag) (C : Addr) (sp : Sp) (E : XK) : R2 := fun x y H Q => ∃ a dx fs t, x = .ref a ∧ H a = some (.ins C dx fs) ∧ TyX K H y t ∧ PySem.W.notFirst K C t = true ∧ sp [x, y] H Q E
theorem op_eqG (M : MetX X.prog X.w X.K X.mg X.base k C "__eq__" sp) (hx : Passes (L2.CX X.prog X.w) X E) (hr : Room j X.A) (hk : k ≤ j) : OpR X (compareOp .Eq) (rEqG X.K C sp E) := by
  intro pins s σ H x y v u Q I rx ry h
  obtain ⟨a, dx, fs, t, rfl, ha, hy, hn, q⟩ := h
  cases (show v = Value.ref a from rx)
  obtain ⟨_, _, J⟩ := ins_at I ha
  obtain ⟨g, hm, w, _⟩ := run_met (us := [.ref a, u]) (vs := [.ref a, y]) M hx hr hk I (.cons rfl (.cons ry .nil)) q
  obtain ⟨W, Z, p, _⟩ := kit_of I ry hy
  exact Ow.cmp_eq hr.units0 I.kIn J (Z.ty _ _ I.kIn p) hn (Ow.try_ownE I.kIn J hm.at_ hm.fn w)
/-- bool(x) by the own __len__ -/
def rBoolLen (C : Addr) (sp : Sp) (E : XK) : List V → Hp → VK → Prop := fun xs H Q => ∃ a dx fs, xs = [V.ref a] ∧ H a = some (.ins C dx fs) ∧ sp [.ref a] H (fun z H' => ∃ n : Int, z = .int n ∧ 0 ≤ n ∧ n < 2 ^ 63 ∧ Q (.bl (n != 0)) H') E
theorem call_boolLen (M : MetX X.prog X.w X.K X.mg X.base k C "__len__" sp) (nb : PySem.W.findIn X.K (.ref C) "__bool__" = some none) (hx : Passes (L2.CX X.prog X.w) X E) (hr : Room j X.A) (hk : k + 3 ≤ j) : CallR X (.type "bool") (rBoolLen C sp E) := by
  intro pins s σ H xs us Q I r h
  obtain ⟨a, dx, fs, rfl, ha, q⟩ := h
  obtain ⟨u, rfl, ru⟩ := r.one
  cases (show u = Value.ref a from ru)
  obtain ⟨_, _, J⟩ := ins_at I ha
  have hr1 : Room k X.A.in1.in1.in1 := Room.in1 (Room.in1 (Room.in1 (hr.mono hk)))
  obtain ⟨g, hm, w⟩ := run_metA (us := [.ref a]) (vs := [.ref a]) M hx hr1 I.env0.in1.in1.in1 I (.cons rfl .nil) q
  refine Ow.bool_any fun Q' hq => Ow.truthy_len I.kIn J nb hm.at_ hm.fn (wpAny_mono w (fun v s' z => ?_) fun _ _ x => x)
  obtain ⟨z', H', I', rz, n, rfl, h0, h1, qz⟩ := z
  obtain ⟨t, rfl⟩ := rz
  exact ⟨n, t, rfl, h0, h1, fun tk => hq _ _ ⟨.bl (n != 0), H', I'.tok tk, rfl, qz⟩⟩
end
/-! ### == of Chunks and any value -/
def spCeqA (K : PySem.W.Frag) (CC : Addr) : Sp := fun vs H Q _ => ∃ (a : Addr) (ns : List Int) (y : V), vs = [.ref a, y] ∧ ChA CC H a ns ∧
  ((∃ t, TyZ K H y t ∧ PySem.W.kitOne K t (.ref CC) = some false ∧ Q (.bl false) H) ∨ ∃ (b : Addr) (ms : List Int), y = .ref b ∧ ChA CC H b ms ∧ Q (.bl (decide (ns = ms))) H)
section
variable {P : Program} {w : World} {K : PySem.W.Frag} {mg : Str → Option Value} {base : Heap}
theorem fn_ceqA {CC DM f : Addr} {mc : Value} {fd : FuncData} (F : C8.Fun K "__eq__" "Chunks.__eq__" sCeq f fd) (T : Txt mg) (Z : ChC P w K mg base CC DM mc) (I : C8.InsC K CC) : FnOk P w K mg base (L2.CX P w) 2 f fd ["self", "other"] (spCeqA K CC) := by
  obtain ⟨oc, od, dV, kV, doc, pm, an, cdv, ct, osl, rfl, lk, hcd⟩ := F.ex
  refine fn_of lk hcd scCeq (fun vs H Q E h => ?_) fun A outer s H vs Q E hr h => ?_
  · obtain ⟨a, ns, y, rfl, _⟩ := h
    rfl
  · obtain ⟨a, ns, y, rfl, ⟨dxa, pa, ea, ra, ha, hpa, _⟩, h⟩ := h
    refine ⟨_, (pss_one (ps_ret (pe_and (pe_callB call_isz (by rfl) T.n_isinstance (by decide +kernel) (pa_cons (pv 1) (pa_cons (pe_glob (v := .ref CC) (by rfl) Z.hm rfl) pa_nil))) (pe_one (pe_cmpR (op_eqD hr.units) (pe_fld (pv 0) rfl) (pe_fld (pv 1) rfl) (nomark _)))))), ?_⟩
    rcases h with ⟨t, ty, kt, go⟩ | ⟨b, ms, rfl, ⟨dxb, pb, eb, rb, hb, hpb, _⟩, go⟩
    · exact ⟨_, rfl, _, .ref CC, t, .ref CC, false, rfl, .own CC, ty, kt, _, rfl, iteF go⟩
    have ty : TyZ K H (.ref b) (.ref CC) := .x (.base (.ins hb I.cl I.ha I.hn I.htk I.hm))
    refine ⟨_, rfl, _, .ref CC, .ref CC, .ref CC, true, rfl, .own CC, ty, I.me, _, rfl, iteT ?_⟩
    refine ⟨_, rfl, a, CC, dxa, _, _, rfl, ha, Z.cl, Z.n1, chF_sizes _ _ _ _, _, rfl, b, CC, dxb, _, _, rfl, hb, Z.cl, Z.n1, chF_sizes _ _ _ _, .tuple (ns.map PyData.int), .tuple (ms.map PyData.int), .tup (SqT.of hpa) (dp_ints ns), .tup (SqT.of hpb) (dp_ints ms), shaped_tints ns, shaped_tints ms, ?_⟩
    rw [show PyData.eqv (.tuple (ns.map PyData.int)) (.tuple (ms.map PyData.int)) = decide (ns = ms) from eqvs_ints ns ms]
    exact go
end
end Lw
namespace Lw
open PySem PySem.Spec PyProof.Rows L2
open SX PySem.NumText TL LamX
abbrev sLsz : Stmt := top 32
def some8 : List V := [V.int 1, V.int 1, V.int 2, V.int 3, V.int 5, V.int 8, V.int ((10 : Int) ^ (30 : Int).toNat), V.int ((10 : Int) ^ (30 : Int).toNat - 7)]
theorem some9 {r : Int} (h0 : 0 ≤ r) (h1 : r < 1000) {v : V} (h : v ∈ some8 ++ [V.int (1 + r)]) : ∃ x, v = V.int x ∧ 1 ≤ x ∧ x ≤ 10 ^ 30 := by
  have e : ((10 : Int) ^ 30) = 1000000000000000000000000000000 := by decide +kernel
  rcases List.mem_append.mp h with h | h
  · unfold some8 at h
    simp only [List.mem_cons, List.not_mem_nil, or_false] at h
    rcases h with rfl | rfl | rfl | rfl | rfl | rfl | rfl | rfl
    · exact ⟨_, rfl, by decide, by rw [e]; decide⟩
    · exact ⟨_, rfl, by decide, by rw [e]; decide⟩
    · exact ⟨_, rfl, by decide, by rw [e]; decide⟩
    · exact ⟨_, rfl, by decide, by rw [e]; decide⟩
    · exact ⟨_, rfl, by decide, by rw [e]; decide⟩
    · exact ⟨_, rfl, by decide, by rw [e]; decide⟩
    · exact ⟨_, rfl, by decide +kernel, by decide +kernel⟩
    · exact ⟨_, rfl, by decide +kernel, by decide +kernel⟩
  · rw [List.mem_singleton] at h
    exact ⟨_, h, by omega, by rw [e]; omega⟩
def spLsz : Sp := fun vs H Q _ => ∃ (p pl : Addr) (n : Nat) (m : Int), vs = [.ref p, .int m] ∧ 0 ≤ m ∧ m ≤ 100 ∧ Pen H p pl n ∧ n ≤ 900000 ∧
  ∀ l ns H', SzB ns → (ns.length : Int) ≤ m → H' l = some (.lst (ns.map V.int)) → H l = none → Pen H' p pl (n + 301) → Kp p H H' → Q (.ref l) H'
structure TxtM (mg : Str → Option Value) : Prop extends Txt mg where
  n_min : mg "min" = none
  n_max : mg "max" = none
  n_tuple : mg "tuple" = none
  n_iter : mg "iter" = none
section
variable {P : Program} {w : World} {K : PySem.W.Frag} {mg : Str → Option Value} {base : Heap}
theorem scLsz : FnScope ["_law_pen_here", "_law_most", "_law_some", "_law_spot"] ["_law_pen_here", "_law_most"] (C8.fnScope sLsz) := C8.fnScope_by (by decide +kernel)
theorem cal_lsz {f : Addr} {fd : FuncData} (F : C8.Def K mg "_law_sizes" sLsz f fd) (b : Binds K fd ["_law_pen_here", "_law_most"] []) (T : Txt mg) (DD : C8.Cal P w K mg base 1 "_law_draw" spDraw []) (DP : C8.Cal P w K mg base 2 "_law_pick" (spPick K) []) : C8.Cal P w K mg base 3 "_law_sizes" spLsz [] := by
  refine C8.cal0 F b .nil scLsz (fun vs H Q E h => ?_) (fun cdv A outer st H vs Q E hr h => ?_)
  · obtain ⟨p, pl, n, m, rfl, _⟩ := h
    rfl
  · obtain ⟨p, pl, n, m, rfl, m0, m1, hp, hn, k⟩ := h
    refine ⟨_, (pss_cons (ps_set (i := 2) scLsz.nd rfl (Or.inr rfl) (pe_lst (pa_cons pe_int (pa_cons pe_int (pa_cons pe_int (pa_cons pe_int (pa_cons pe_int (pa_cons pe_int (pa_cons (pe_op op_pow pe_int pe_int) (pa_cons (pe_op op_sub (pe_op op_pow pe_int pe_int) pe_int) pa_nil))))))))))
  (pss_one (ps_ret (pe_lc (own := [("_law_spot", 3)]) (g := gName 3) (tt := tYes) rfl scLsz.nd (pi_range1 (by rfl) T.n_range (pa_cons (C8.pe_c DD hr (by decide) (by rfl) (pa_cons (pv 0) (pa_cons (pe_op op_add (pv 1) pe_int) pa_nil))) pa_nil)) (blkOk_by (own := [("_law_spot", 3)]) (N := ["_law_pen_here", "_law_most", "_law_some", "_law_spot"]) (sc := (C8.fnScope sLsz)) (by decide +kernel)) (fun _ _ _ _ _ => pg_name (i := 3) scLsz.nd rfl (Or.inl rfl)) (fun _ _ _ _ _ => pts_nil) (fun _ _ _ _ _ => (C8.pe_c DP hr (by decide) (by rfl) (pa_cons (pv 0) (pa_cons (pe_op op_cat (pv 2) (pe_lst (pa_cons (pe_op op_add pe_int (C8.pe_c DD hr (by decide) (by rfl) (pa_cons (pv 0) (pa_cons pe_int pa_nil)))) pa_nil))) pa_nil)))))))), ?_⟩
    refine ⟨_, _, rfl, rfl, (by unfold CPow; decide), _, _, rfl, rfl, (by unfold CPow; decide), _, _, rfl, rfl, (by show 8 ≤ sizeLine; decide), fun q fq => ?_⟩
    generalize hL : upd H q _ = H1
    have s1 : Same H H1 := by rw [← hL]; exact same_new fq
    have hq1 : H1 q = some (.lst some8) := by rw [← hL]; exact upd_same
    clear hL
    have qp : q ≠ p := hp.ne_new fq
    dsimp only [gName, tSeq]
    refine ⟨_, rfl, _, rfl, _, _, rfl, rfl, p, pl, n, m + 1, rfl, by omega, by omega, hp.keep s1, by omega, fun r H2 r0 r1 hp2 k2 => ?_⟩
    refine ⟨r, rfl, by omega, by omega, fun D hD => ?_⟩
    have Dp := hp2.ne_new hD
    have Dl := hp2.ne_new2 hD
    have kD : Kp p H (upd H2 D (.lst [])) := ((Kp.of s1).trans k2).trans (.of (same_new hD))
    have qD : q ≠ D := fun e => by rw [← e, k2 _ _ qp hq1] at hD; cases hD
    have fD : H D = none := by
      cases e : H D with
      | none => rfl
      | some o => rw [k2 _ _ Dp (s1 _ _ e)] at hD; cases hD
    refine lc_range (lo := 0) (n := r.toNat) (fun i H' => Pen H' p pl (n + 1 + 2 * i) ∧ Kp p H H' ∧ H' q = some (.lst some8) ∧ ∃ ns, SzB ns ∧ ns.length = i ∧ H' D = some (.lst (ns.map V.int))) ⟨hp2.keep (same_new hD), kD, same_new hD _ _ (k2 _ _ qp hq1), [], (fun v hv => by cases hv), rfl, upd_same⟩ (fun i H' hi ⟨hpi, ki, hqi, ns, sb, ln, hd⟩ => ?_) (fun H' ⟨hpi, ki, hqi, ns, sb, ln, hd⟩ => ?_)
    · refine ⟨rfl, ?_⟩
      dsimp only [tYes]
      rw [if_pos rfl]
      refine ⟨_, rfl, _, rfl, _, rfl, p, pl, _, 1000, rfl, by decide, by decide, hpi, by omega, fun r2 H3 r20 r21 hp3 k3 => ?_⟩
      refine ⟨_, _, rfl, rfl, (by show 1 ≤ sizeLine; decide), fun q2 fq2 => ?_⟩
      have hq3 := k3 _ _ qp hqi
      have n12 : q ≠ q2 := fun e => by rw [← e, hq3] at fq2; cases fq2
      refine ⟨q, q2, _, _, rfl, rfl, by rw [upd_ne n12]; exact hq3, upd_same, (by show 8 + 1 ≤ sizeLine; decide), fun q3 fq3 => ?_⟩
      generalize hL : upd (upd H3 q2 _) q3 _ = H4
      have s4 : Same H3 H4 := by rw [← hL]; exact (same_new fq2).trans (same_new fq3)
      have hq4 : H4 q3 = some (.lst (some8 ++ [V.int (1 + r2)])) := by rw [← hL]; exact upd_same
      have f3 : H3 q3 = none := (same_new fq2).free fq3
      clear hL
      refine ⟨p, pl, q3, _, _, rfl, hp3.keep s4, by omega, SqL.of hq4, hp3.ne_new f3, (by show 0 < 9; decide), (by show 9 < 1000000; decide), fun j v H5 hj hp5 k5 => ?_⟩
      obtain ⟨x, rfl, x1, x2⟩ : ∃ x, v = V.int x ∧ 1 ≤ x ∧ x ≤ 10 ^ 30 := some9 r20 r21 (List.mem_of_getElem? hj)
      have hd5 := k5 _ _ Dp (s4 _ _ (k3 _ _ Dp hd))
      refine ⟨_, hd5, ?_, (hp5.more (by omega)).over Dp Dl, fun b o hb e => ?_, ?_, ns ++ [x], fun v hv => ?_, ?_, ?_⟩
      · rw [List.length_map, ln]
        exact Nat.lt_of_lt_of_le (show i < 101 by omega) (by decide)
      · rw [upd_ne (ne_of_none e fD)]
        exact k5 _ _ hb (s4 _ _ (k3 _ _ hb (ki _ _ hb e)))
      · rw [upd_ne qD]
        exact k5 _ _ qp (s4 _ _ (k3 _ _ qp hqi))
      · rcases List.mem_append.mp hv with hv | hv
        · exact sb v hv
        · rw [List.mem_singleton.mp hv]; exact ⟨x1, x2⟩
      · rw [List.length_append, ln]; rfl
      · rw [upd_same, List.map_append]; rfl
    · exact k D ns H' sb (by rw [ln]; omega) hd fD (hpi.more (by omega)) ki

end
set_option pp.maxSteps 700
set_option pp.deepTerms false
abbrev sLmd : Stmt := top 33
abbrev sLpr : Stmt := top 34
open ClX StX
theorem of_lst {K : PySem.W.Frag} {CC DM DS DC : Addr} {ns : List Int} {H : Hp} {Q : VK} {E : XK} {q : Addr} (hq : H q = some (.lst (ns.map V.int))) (sb : SzB ns) (l : ns.length ≤ 5000) (h : ∀ c H', Same H H' → H c = none → ChA CC H' c ns → Q (.ref c) H') : spCof2 K CC DM DS DC [.ref q] H Q E :=
  ⟨_, rfl, .inr ⟨q, _, rfl, .inl hq, any_ints K H _, by rw [List.length_map]; omega, MkO.good sb (fun _ => h) (fun z => absurd z (by omega))⟩⟩
theorem ci_goodT {K : PySem.W.Frag} {CC DM DS : Addr} {H : Hp} {Q : VK} {E : XK} {ns : List Int} {ta : TA} {σ : L2.St} (ht : ∀ R : List V → Hp → Prop, R (ns.map V.int) H → ta σ H R) (sb : SzB ns) (l : ns.length ≤ 5000) (h : ∀ c H', Same H H' → H c = none → ChA CC H' c ns → Q (.ref c) H') : tMakeR CC (spSt K CC DM DS) E ta σ H Q :=
  ht _ fun x dx hx hdx ne => ci_made (Q := Q) (MkO.good sb (fun _ => h) (fun z => absurd z (by omega))) (any_ints K H ns) (by rw [List.length_map]; omega) x dx hx hdx ne
section
variable {X : Cx}
/-- a list display: it stands above what the frame found -/
def tLstN (n : Nat) (ta : TA) : TE := fun σ H Q => ta σ H fun xs H1 => xs.length ≤ sizeLine ∧ ∀ p, H1 p = none → n ≤ p → Q (.ref p) (upd H1 p (.lst xs))
theorem pe_lstN {es : List Expr} {pos : Pos} {t : TA} (h : PA X es t) : PE X (.List es pos) (tLstN X.s_0.heap.objs.size t) := by
  refine ⟨fun pins s σ H Q I hq => ?_⟩
  refine wpAny_List_spliced (thn (h.run pos pins s σ H _ I hq) fun us s1 ⟨xs, H1, I1, r, z, q⟩ => ⟨by rw [← r.length]; exact z, ?_⟩)
  have hf : H1 s1.heap.objs.size = none := I1.hok.fresh (Nat.le_refl _)
  refine ⟨.ref s1.heap.objs.size, upd H1 s1.heap.objs.size (.lst xs), I1.laid (t' := s1.toks) (fun b u e => Heap.get?_push_of_some _ e) (Nat.le_refl _) ?_, rfl, q _ hf I1.sz⟩
  exact ⟨z, us, 0, r, Heap.get?_push_size _ rfl⟩
end
def gV1 : List V → List V → List V := fun _ zs => zs
/-- the static method of, by its parameter's name, too -/
structure StO1 (P : Program) (w : World) (K : PySem.W.Frag) (mg : Str → Option Value) (base : Heap) (CC DM DS DC : Addr) : Prop where
  ex : ∃ (p g : Addr) (fd : FuncData) (gU : List Value → List Value → List Value), SMet K CC "of" p g ∧ FnOk P w K mg base (L2.CX P w) 7 g fd ["sizes"] (spCof2 K CC DM DS DC) ∧ Binds K fd ["sizes"] [] ∧ KBn K fd ["sizes"] 0 ["sizes"] gU gV1
/-- Chunks and its own defs -/
structure ChK (P : Program) (w : World) (K : PySem.W.Frag) (mg : Str → Option Value) (base : Heap) (CC DM DS DC DN fI : Addr) (mc : Value) : Prop where
  CM : ChM2 P w K mg base CC DM DS fI mc
  ME : MetX P w K mg base 2 CC "__eq__" (spCeqA K CC)
  ML : MetX P w K mg base 1 CC "__len__" (spCln CC)
  MT : MetX P w K mg base 1 CC "__iter__" (spCit CC)
  MO : MetX P w K mg base 2 CC "__contains__" (spCco K CC)
  MG : MetG P w K mg base 8 CC (spCgi CC DN)
  nb : PySem.W.findIn K (.ref CC) "__bool__" = some none
  NC : NeC K CC
def spLmd (CC : Addr) : Sp := fun vs H Q _ => ∃ (p pl : Addr) (n : Nat) (l : Addr) (ns : List Int), vs = [.ref p, .ref l] ∧ Pen H p pl n ∧ n ≤ 100000 ∧ H l = some (.lst (ns.map V.int)) ∧ l ≠ p ∧ SzB ns ∧ ns.length ≤ 8 ∧
  ∀ c H', Pen H' p pl (n + 4) → Kp p H H' → ChA CC H' c ns → Q (.ref c) H'
def spLpr (CC : Addr) : Sp := fun vs H Q _ => ∃ (c l : Addr) (ns : List Int), vs = [.ref c, .ref l] ∧ ChA CC H c ns ∧ H l = some (.lst (ns.map V.int)) ∧ SzB ns ∧ ns.length ≤ 8 ∧ ∀ H', Same H H' → Q (.bl true) H'
section
variable {P : Program} {w : World} {K : PySem.W.Frag} {mg : Str → Option Value} {base : Heap}
theorem scLmd : FnScope ["_law_pen_here", "_law_sizes_here"] ["_law_pen_here", "_law_sizes_here"] (C8.fnScope sLmd) := C8.fnScope_by (by decide +kernel)
theorem cal_lmd {f CC DS DC DM DN fI : Addr} {mc : Value} {fd : FuncData} (F : C8.Def K mg "_law_made" sLmd f fd) (b : Binds K fd ["_law_pen_here", "_law_sizes_here"] []) (T : TxtM mg) (O : ChK P w K mg base CC DM DS DC DN fI mc) (XO : StO1 P w K mg base CC DM DS DC) (DD : C8.Cal P w K mg base 1 "_law_draw" spDraw []) : C8.Cal P w K mg base 12 "_law_made" (spLmd CC) [] := by
  have CM := O.CM
  obtain ⟨pO, gO, fdO, gUO, SO, FO, bO, KBO⟩ := XO.ex
  refine C8.cal0 F b .nil scLmd (fun vs H Q E h => ?_) (fun cdv A outer st H vs Q E hr h => ?_)
  · obtain ⟨p, pl, n, l, ns, rfl, _⟩ := h
    rfl
  · obtain ⟨p, pl, n, l, ns, rfl, hp, hn, hl, lp, sb, ln, k⟩ := h
    refine ⟨_, (pss_cons (ps_if (PW.pt (pw_and (pt_cmpR op_eq (pe_callB call_len_seq (by rfl) T.n_len (by decide +kernel) (pa_cons (pv 1) pa_nil)) pe_int (nomark _)) (pw_and1 (pt_cmpR op_eq (C8.pe_c DD hr (by decide) (by rfl) (pa_cons (pv 0) (pa_cons pe_int pa_nil))) pe_int (nomark _))))) (pss_one (ps_ret (pe_makeR0 (E := C8.E0) CM.M CM.F (hr.mono (by decide)) (by rfl) CM.Z.hm (passes_call takes0 (fun _ _ _ _ z => z))))) pss_nil)
  (pss_cons (ps_if (PW.pt (pw_and (pt_cmpR op_eq (pe_callB call_len_seq (by rfl) T.n_len (by decide +kernel) (pa_cons (pv 1) pa_nil)) pe_int (nomark _)) (pw_and1 (pt_cmpR op_eq (C8.pe_c DD hr (by decide) (by rfl) (pa_cons (pv 0) (pa_cons pe_int pa_nil))) pe_int (nomark _))))) (pss_one (ps_ret (pe_makeR (E := C8.E0) CM.M CM.F (hr.mono (by decide)) (by rfl) CM.Z.hm (passes_call takes0 (fun _ _ _ _ z => z)) (pa_cons (pe_ix ix_list (pv 1) pe_int (fun _ _ => rfl)) pa_nil)))) pss_nil)
  (pss_cons (ps_if (PW.pt (pw_and (pt_cmpR op_eq (pe_callB call_len_seq (by rfl) T.n_len (by decide +kernel) (pa_cons (pv 1) pa_nil)) pe_int (nomark _)) (pw_and1 (pt_cmpR op_eq (C8.pe_c DD hr (by decide) (by rfl) (pa_cons (pv 0) (pa_cons pe_int pa_nil))) pe_int (nomark _))))) (pss_one (ps_ret (pe_makeR (E := C8.E0) CM.M CM.F (hr.mono (by decide)) (by rfl) CM.Z.hm (passes_call takes0 (fun _ _ _ _ z => z)) (pa_cons (pe_ix ix_list (pv 1) pe_int (fun _ _ => rfl)) (pa_cons (pe_ix ix_list (pv 1) pe_int (fun _ _ => rfl)) (pa_cons (pe_ix ix_list (pv 1) pe_int (fun _ _ => rfl)) pa_nil)))))) pss_nil)
  (pss_one (ps_ret (pe_ifExp (pt_cmpR op_eq (C8.pe_c DD hr (by decide) (by rfl) (pa_cons (pv 0) (pa_cons pe_int pa_nil))) pe_int (nomark _)) (pe_static (E := C8.E0) (pe_glob (v := .ref CC) (by rfl) CM.Z.hm rfl) SO FO (hr.mono (by decide)) bO .nil (passes_call takes0 (fun _ _ _ _ z => z)) (pa_cons (pv 1) pa_nil)) (pe_staticK (E := C8.E0) (pe_glob (v := .ref CC) (by rfl) CM.Z.hm rfl) SO FO (hr.mono (by decide)) KBO (passes_call takes0 (fun _ _ _ _ z => z)) (pk_cons (pe_callTy call_tuple_of (by rfl) T.n_tuple (by decide +kernel) (pa_cons (pv 1) pa_nil)) pk_nil)))))))), ?_⟩
    have lm : (ns.map V.int).length = ns.length := List.length_map _
    have hp0 := hp
    have k0 : Kp p H H := .of (Same.refl _)
    dsimp only [gName, tSeq]
    refine join_any (fun σ' H' => σ' = [some (V.ref p), some (V.ref l)] ∧ Pen H' p pl (n + 1) ∧ Kp p H H') ?r1 (fun go => ?_)
    rotate_left
    · refine ⟨_, rfl, l, _, rfl, .inl (SqL.of (k0 _ _ lp hl)), rfl, _, rfl, ?_⟩
      by_cases c : ns.length = 0
      · refine iteT' (decide_eq_true (by rw [lm, c]; rfl)) ?_
        refine ⟨_, rfl, p, pl, _, 2, rfl, by decide, by decide, hp0, by omega, fun r Hd r0 r1 hpd kd => ⟨rfl, _, rfl, ?_⟩⟩
        by_cases cr : r = 0
        · refine iteT' (decide_eq_true (by rw [cr])) ?_
          obtain rfl := List.eq_nil_of_length_eq_zero c
          exact ci_none fun c' H2 s2 f2 h2 => k c' H2 ((hpd.keep s2).more (by omega)) (kd.trans (.of s2)) h2
        · exact iteF' (decide_eq_false (fun e => cr (V.int.inj e))) (go _ _ ⟨rfl, hpd, k0.trans kd⟩)
      · exact iteF' (decide_eq_false (fun e => c (by have := V.int.inj e; rw [lm] at this; omega))) (iteF (go _ _ ⟨rfl, hp0.more (by omega), k0⟩))
    case r1 =>
    rintro σ1 Ha ⟨rfl, hp1, k1⟩
    dsimp only [tSeq]
    refine join_any (fun σ' H' => σ' = [some (V.ref p), some (V.ref l)] ∧ Pen H' p pl (n + 2) ∧ Kp p H H') ?r2 (fun go => ?_)
    rotate_left
    · refine ⟨_, rfl, l, _, rfl, .inl (SqL.of (k1 _ _ lp hl)), rfl, _, rfl, ?_⟩
      by_cases c : ns.length = 1
      · refine iteT' (decide_eq_true (by rw [lm, c]; rfl)) ?_
        refine ⟨_, rfl, p, pl, _, 2, rfl, by decide, by decide, hp1, by omega, fun r Hd r0 r1 hpd kd => ⟨rfl, _, rfl, ?_⟩⟩
        by_cases cr : r = 0
        · refine iteT' (decide_eq_true (by rw [cr])) ?_
          obtain ⟨a, rfl⟩ := List.length_eq_one_iff.mp c
          have hld := kd _ _ lp (k1 _ _ lp hl)
          refine ci_goodT (ns := [a]) (fun R r => ⟨_, rfl, l, _, 0, _, rfl, rfl, SqL.of hld, atI_nat (j := 0) rfl, r⟩) sb (show 1 ≤ 5000 by decide) fun c' H2 s2 f2 h2 => k c' H2 ((hpd.keep s2).more (by omega)) ((k1.trans kd).trans (.of s2)) h2
        · exact iteF' (decide_eq_false (fun e => cr (V.int.inj e))) (go _ _ ⟨rfl, hpd, k1.trans kd⟩)
      · exact iteF' (decide_eq_false (fun e => c (by have := V.int.inj e; rw [lm] at this; omega))) (iteF (go _ _ ⟨rfl, hp1.more (by omega), k1⟩))
    case r2 =>
    rintro σ2 Hb ⟨rfl, hp2, k2⟩
    dsimp only [tSeq]
    refine join_any (fun σ' H' => σ' = [some (V.ref p), some (V.ref l)] ∧ Pen H' p pl (n + 3) ∧ Kp p H H') ?r3 (fun go => ?_)
    rotate_left
    · refine ⟨_, rfl, l, _, rfl, .inl (SqL.of (k2 _ _ lp hl)), rfl, _, rfl, ?_⟩
      by_cases c : ns.length = 3
      · refine iteT' (decide_eq_true (by rw [lm, c]; rfl)) ?_
        refine ⟨_, rfl, p, pl, _, 2, rfl, by decide, by decide, hp2, by omega, fun r Hd r0 r1 hpd kd => ⟨rfl, _, rfl, ?_⟩⟩
        by_cases cr : r = 0
        · refine iteT' (decide_eq_true (by rw [cr])) ?_
          obtain ⟨a, b, d, rfl⟩ : ∃ a b d, ns = [a, b, d] := by
            match ns, c with
            | [a, b, d], _ => exact ⟨a, b, d, rfl⟩
          have hld := kd _ _ lp (k2 _ _ lp hl)
          refine ci_goodT (ns := [a, b, d]) (fun R r => ⟨_, rfl, l, _, 0, _, rfl, rfl, SqL.of hld, atI_nat (j := 0) rfl, _, rfl, l, _, 1, _, rfl, rfl, SqL.of hld, atI_nat (j := 1) rfl, _, rfl, l, _, 2, _, rfl, rfl, SqL.of hld, atI_nat (j := 2) rfl, r⟩) sb (show 3 ≤ 5000 by decide) fun c' H2 s2 f2 h2 => k c' H2 ((hpd.keep s2).more (by omega)) ((k2.trans kd).trans (.of s2)) h2
        · exact iteF' (decide_eq_false (fun e => cr (V.int.inj e))) (go _ _ ⟨rfl, hpd, k2.trans kd⟩)
      · exact iteF' (decide_eq_false (fun e => c (by have := V.int.inj e; rw [lm] at this; omega))) (iteF (go _ _ ⟨rfl, hp2.more (by omega), k2⟩))
    case r3 =>
    rintro σ3 Hc ⟨rfl, hp3, k3⟩
    dsimp only [tSeq]
    refine ⟨_, rfl, p, pl, _, 2, rfl, by decide, by decide, hp3, by omega, fun r Hd r0 r1 hpd kd => ⟨rfl, _, rfl, ?_⟩⟩
    have hld := kd _ _ lp (k3 _ _ lp hl)
    by_cases cr : r = 0
    · refine iteT' (decide_eq_true (by rw [cr])) ?_
      exact ⟨rfl, _, rfl, of_lst hld sb (by omega) fun c' H2 s2 f2 h2 => k c' H2 (hpd.keep s2) ((k3.trans kd).trans (.of s2)) h2⟩
    · refine iteF' (decide_eq_false (fun e => cr (V.int.inj e))) ?_
      exact ⟨rfl, _, rfl, l, _, rfl, .inl ⟨SqL.of hld, fun t ft => ⟨rfl, of_tup sb (by omega) (fun c' H2 s2 f2 h2 => k c' H2 (hpd.keep s2) ((k3.trans kd).trans (.of s2)) h2) (same_new ft) upd_same⟩⟩⟩
def tI (ns : List Int) : PyData := .tuple (ns.map PyData.int)
theorem dep_tI (a : List Int) : PyData.depth (tI a) = 1 := by
  show PyData.depthAll (a.map PyData.int) + 1 = 1
  rw [depths_ints]
theorem eqv_tI (a b : List Int) : PyData.eqv (tI a) (tI b) = decide (a = b) := eqvs_ints a b
def pd4 (a b c : List Int) (t : Int) : PyData := .list [tI a, .int t, tI b, tI c]
theorem shaped_pd (a b c : List Int) (t : Int) : SeqAt.shaped (pd4 a b c t) = true := by
  unfold SeqAt.shaped
  have h1 : PyData.canLay0 (pd4 a b c t) = true := by
    show (PyData.canLay0 (tI a) && (true && (PyData.canLay0 (tI b) && (PyData.canLay0 (tI c) && true)))) = true
    rw [show PyData.canLay0 (tI a) = true from lays_ints a, show PyData.canLay0 (tI b) = true from lays_ints b, show PyData.canLay0 (tI c) = true from lays_ints c]; rfl
  have h2 : PyData.depth (pd4 a b c t) ≤ 64 := by
    show max (PyData.depth (tI a)) (max 0 (max (PyData.depth (tI b)) (max (PyData.depth (tI c)) 0))) + 1 ≤ 64
    rw [dep_tI, dep_tI, dep_tI]; decide
  rw [h1, decide_eq_true h2]; rfl
theorem eqv_pd (a b c : List Int) (t : Int) : PyData.eqv (pd4 a b c t) (pd4 a b c t) = true := by
  show (PyData.eqv (tI a) (tI a) && ((t == t) && (PyData.eqv (tI b) (tI b) && (PyData.eqv (tI c) (tI c) && true)))) = true
  rw [eqv_tI, eqv_tI, eqv_tI, decide_eq_true rfl, decide_eq_true rfl, decide_eq_true rfl, beq_self_eq_true]; rfl
theorem dp_pd {H : Hp} {q x y z : Addr} {a b c : List Int} {t : Int} (hq : H q = some (.lst [V.ref x, V.int t, V.ref y, V.ref z])) (hx : H x = some (.tup (a.map V.int))) (hy : H y = some (.tup (b.map V.int))) (hz : H z = some (.tup (c.map V.int))) : Dp K H (.ref q) (pd4 a b c t) :=
  .lst (SqL.of hq) (.cons (.tup (SqT.of hx) (dp_ints _)) (.cons (.int _) (.cons (.tup (SqT.of hy) (dp_ints _)) (.cons (.tup (SqT.of hz) (dp_ints _)) .nil))))
theorem drop_upd {H : Hp} {a : Addr} {o : HO} (h : H a = none) : ItX.dropH (upd H a o) a = H := by
  funext b
  unfold ItX.dropH upd
  by_cases e : b = a
  · rw [e, if_pos rfl, h]
  · rw [if_neg e, if_neg e]
theorem scLpr : FnScope ["_law_made_here", "_law_sizes_here", "_law_size", "_law_spot", "_law_ends", "_law_rests", "_law_total"] ["_law_made_here", "_law_sizes_here"] (C8.fnScope sLpr) := C8.fnScope_by (by decide +kernel)
theorem cal_lpr {f CC DS DC DM DN fI : Addr} {mc : Value} {fd : FuncData} (F : C8.Def K mg "_law_parts_right" sLpr f fd) (b : Binds K fd ["_law_made_here", "_law_sizes_here"] []) (T : TxtM mg) (O : ChK P w K mg base CC DM DS DC DN fI mc) : CalG P w K mg base 6 "_law_parts_right" (spLpr CC) [] := by
  have CM := O.CM
  have ML := O.ML
  refine calG F b .nil scLpr (fun vs H Q E h => ?_) (fun cdv A outer st H vs Q E hG hr h => ?_)
  · obtain ⟨c, l, ns, rfl, _⟩ := h
    rfl
  · obtain ⟨c, l, ns, rfl, hc, hl, sb, ln, k⟩ := h
    refine ⟨_, (pss_cons (ps_par3 (i := 4) (j := 5) (l := 6) rfl scLpr.nd rfl rfl rfl (by decide) (by decide) (by decide) rfl rfl rfl (pa_cons (pe_lstN pa_nil) (pa_cons (pe_lstN pa_nil) (pa_cons pe_int pa_nil))) (by rfl))
  (pss_cons (ps_for PassesOwn.never rfl (pi_list (pv 1)) (pg_name (i := 2) scLpr.nd rfl (Or.inl rfl)) (pss_cons (ps_set (i := 6) scLpr.nd rfl (Or.inl rfl) (pe_op op_add (pv 6) (pv 2)))
  (pss_one (ps_expr (pe_bm PySem.F.plainAttrs_list PySem.F.slot_list_append PySem.F.type_list_append mt_append (pv 4) (pa_cons (pv 6) pa_nil))))))
  (pss_cons (ps_for PassesOwn.never rfl (pi_range1 (by rfl) T.n_range (pa_cons (pe_callB call_len_seq (by rfl) T.n_len (by decide +kernel) (pa_cons (pv 1) pa_nil)) pa_nil)) (pg_name (i := 3) scLpr.nd rfl (Or.inl rfl)) (pss_one (ps_expr (pe_bm PySem.F.plainAttrs_list PySem.F.slot_list_append PySem.F.type_list_append mt_append (pv 5) (pa_cons (pe_op op_add (pe_op op_sub (pv 6) (pe_ix ix_list (pv 4) (pv 3) (fun _ _ => rfl))) (pe_ix ix_list (pv 1) (pv 3) (fun _ _ => rfl))) pa_nil)))))
  (pss_cons (ps_if (pt_cmpR (op_neD hr.units) (pe_lst (pa_cons (pe_fld (pv 0) rfl) (pa_cons (pe_fld (pv 0) rfl) (pa_cons (pe_fld (pv 0) rfl) (pa_cons (pe_fld (pv 0) rfl) pa_nil))))) (pe_lst (pa_cons (pe_callTy call_tuple_of (by rfl) T.n_tuple (by decide +kernel) (pa_cons (pv 1) pa_nil)) (pa_cons (pv 6) (pa_cons (pe_callTy call_tuple_of (by rfl) T.n_tuple (by decide +kernel) (pa_cons (pv 4) pa_nil)) (pa_cons (pe_callTy call_tuple_of (by rfl) T.n_tuple (by decide +kernel) (pa_cons (pv 5) pa_nil)) pa_nil))))) (nomark _)) (pss_one (ps_ret pe_bl)) pss_nil)
  (pss_one (ps_ret (pe_and (pe_cmpR op_eq (pe_callB (call_lenOwn (E := C8.E0) ML (passes_call takes0 (fun _ _ _ _ z => z)) hr (by decide)) (by rfl) T.n_len (by decide +kernel) (pa_cons (pv 0) pa_nil)) (pe_callB call_len_seq (by rfl) T.n_len (by decide +kernel) (pa_cons (pv 1) pa_nil)) (nomark _)) (pe_and (pe_cmpR (op_eqD hr.units) (pe_lc (own := [("_law_size", 2)]) (g := gName 2) (tt := tYes) rfl scLpr.nd (pi_ownT (E := C8.E0) (k := 1) (pv 0) (passes_call takes0 (fun _ _ _ _ z => z)) hr (by decide)) (blkOk_by (own := [("_law_size", 2)]) (N := ["_law_made_here", "_law_sizes_here", "_law_size", "_law_spot", "_law_ends", "_law_rests", "_law_total"]) (sc := (C8.fnScope sLpr)) (by decide +kernel)) (fun _ _ _ _ _ => pg_name (i := 2) scLpr.nd rfl (Or.inl rfl)) (fun _ _ _ _ _ => pts_nil) (fun _ _ _ _ _ => (pv 2))) (pv 1) (nomark _)) (pe_one (pe_cmpR op_eq (pe_callB (call_reprX hG (hr.mono (by decide))) (by rfl) T.n_repr (by decide +kernel) (pa_cons (pe_callTy (call_boolLen (E := C8.E0) ML O.nb (passes_call takes0 (fun _ _ _ _ z => z)) hr (by decide)) (by rfl) T.n_bool (by decide +kernel) (pa_cons (pv 0) pa_nil)) pa_nil)) (pe_callB (call_reprX hG (hr.mono (by decide))) (by rfl) T.n_repr (by decide +kernel) (pa_cons (pe_cmpR (op_neD hr.units) (pv 1) (pe_lstN pa_nil) (nomark _)) pa_nil)) (nomark _))))))))))), ?_⟩
    have lm : (ns.map V.int).length = ns.length := List.length_map _
    refine ⟨(by show 0 ≤ sizeLine; decide), fun q1 f1 n1 => ⟨(by show 0 ≤ sizeLine; decide), fun q2 f2 n2 => ⟨_, _, _, rfl, ?_⟩⟩⟩
    have s1 := (same_new (o := HO.lst []) f1).trans (same_new (o := HO.lst []) f2)
    have e1 : upd (upd H q1 (.lst [])) q2 (.lst []) q1 = some (.lst []) := same_new f2 _ _ upd_same
    have e2 : upd (upd H q1 (.lst [])) q2 (.lst []) q2 = some (.lst []) := upd_same
    have f2' : H q2 = none := (same_new (o := HO.lst []) f1).free f2
    have q12 : q1 ≠ q2 := fun e => by rw [← e, upd_same] at f2; cases f2
    clear f2
    revert s1 e1 e2
    generalize upd (upd H q1 (HO.lst [])) q2 (HO.lst []) = H1
    intro s1 e1 e2
    dsimp only [gName, tSeq]
    refine ⟨_, rfl, l, rfl, ⟨_, SqL.of (s1 _ _ hl)⟩, for_list (K := K) (xs := ns.map V.int) (fun i σ' H' => ∃ x2, σ' = [some (.ref c), some (.ref l), x2, none, some (.ref q1), some (.ref q2), some (.int (ns.take i).sum)] ∧ Same H H' ∧ H' q1 = some (.lst ((endsL 0 (ns.take i)).map V.int)) ∧ H' q2 = some (.lst []))
      ⟨_, rfl, s1, e1, e2⟩ (fun i σ' H' _ h => by obtain ⟨_, _, s, _⟩ := h; exact SqL.of (s _ _ hl)) ?_ ?_⟩
    · rintro i y σ' H' hy ⟨x2, rfl, s', hq1, hq2⟩
      obtain ⟨v, hv, rfl⟩ : ∃ v, ns[i]? = some v ∧ y = V.int v := by
        rw [List.getElem?_map] at hy
        obtain ⟨z, z1, z2⟩ := Option.map_eq_some_iff.mp hy
        exact ⟨z, z1, z2.symm⟩
      have hi : i < ns.length := (List.getElem?_eq_some_iff.mp hv).1
      have et : ns.take (i + 1) = ns.take i ++ [v] := by rw [List.take_add_one, hv]; rfl
      refine ⟨_, rfl, _, rfl, _, _, rfl, rfl, ?_⟩
      refine ⟨_, rfl, .inl ⟨rfl, _, SqL.of hq1⟩, _, rfl, q1, _, _, rfl, rfl, hq1, ?_, some (V.int v), ?_, fun b o e => ?_, ?_, ?_⟩
      · rw [List.length_map, endsL_len]
        exact Nat.lt_of_le_of_lt (Nat.le_trans (List.length_take_le _ _) (show i ≤ 5000 by omega)) (by decide)
      · rw [et, List.sum_append, List.sum_singleton]; rfl
      · rw [upd_ne (ne_of_none e f1)]
        exact s' _ _ e
      · rw [upd_same, et, endsL_snoc, List.map_append, Int.zero_add]; rfl
      · rw [upd_ne q12.symm]
        exact hq2
    · rintro σ' H' ⟨x2, rfl, s', hq1, hq2⟩
      rw [lm, List.take_of_length_le (Nat.le_refl _)] at hq1
      rw [lm, List.take_of_length_le (Nat.le_refl _)]
      dsimp only [gName, tSeq]
      have l1 : (endsL 0 ns).length = ns.length := endsL_len 0 ns
      have l2 : (restsL ns).length = ns.length := by unfold restsL; rw [List.length_zipWith, endsL_len, Nat.min_self]
      refine ⟨_, rfl, l, _, rfl, .inl (SqL.of (s' _ _ hl)), _, rfl, by omega, by omega, for_range (fun i σ' H' => ∃ x3, σ' = [some (.ref c), some (.ref l), x2, x3, some (.ref q1), some (.ref q2), some (.int ns.sum)] ∧ Same H H' ∧ H' q1 = some (.lst ((endsL 0 ns).map V.int)) ∧ H' q2 = some (.lst (((restsL ns).take i).map V.int))) ⟨_, rfl, s', hq1, hq2⟩ ?_ ?_⟩
      · rintro i σ2 H2 hi ⟨x3, rfl, s2, hq1, hq2⟩
        rw [lm] at hi
        have hi' : i < ns.length := by omega
        obtain ⟨a1, g1⟩ : ∃ a1, (endsL 0 ns)[i]? = some a1 := ⟨_, List.getElem?_eq_getElem (by omega)⟩
        obtain ⟨a2, g2⟩ : ∃ a2, ns[i]? = some a2 := ⟨_, List.getElem?_eq_getElem hi'⟩
        have gr : (restsL ns)[i]? = some (ns.sum - a1 + a2) := by unfold restsL; rw [List.getElem?_zipWith, g1, g2]
        have at1 : atI ((endsL 0 ns).map V.int) (0 + (i : Int)) = some (V.int a1) := by
          rw [Int.zero_add]
          exact atI_nat (by rw [List.getElem?_map, g1]; rfl)
        have at2 : atI (ns.map V.int) (0 + (i : Int)) = some (V.int a2) := by
          rw [Int.zero_add]
          exact atI_nat (by rw [List.getElem?_map, g2]; rfl)
        dsimp only [gName]
        refine ⟨_, rfl, .inl ⟨rfl, _, SqL.of hq2⟩, _, rfl, _, rfl, _, rfl, q1, _, _, _, rfl, rfl, SqL.of hq1, at1, _, _, rfl, rfl, _, rfl, _, rfl, l, _, _, _, rfl, rfl, SqL.of (s2 _ _ hl), at2, _, _, rfl, rfl, q2, _, _, rfl, rfl, hq2, ?_, _, rfl, fun b o e => ?_, ?_, ?_⟩
        · rw [List.length_map]
          exact Nat.lt_of_le_of_lt (Nat.le_trans (List.length_take_le _ _) (show i ≤ 5000 by omega)) (by decide)
        · rw [upd_ne (ne_of_none e f2')]
          exact s2 _ _ e
        · rw [upd_ne q12]
          exact hq1
        · rw [upd_same, List.take_add_one, gr, List.map_append]; rfl
      · rintro σ2 H2 ⟨x3, rfl, s2, hq1, hq2⟩
        rw [lm] at hq2
        rw [List.take_of_length_le (by omega)] at hq2
        clear s' s1 e1 e2
        dsimp only [gName, tSeq]
        have hc2 := hc.same s2
        obtain ⟨dx, p, e, r, hi, hp, he, hr'⟩ := id hc2
        refine ⟨_, rfl, c, CC, dx, _, _, rfl, hi, CM.Z.cl, CM.Z.n1, chF_sizes _ _ _ _, _, rfl, c, CC, dx, _, _, rfl, hi, CM.Z.cl, CM.Z.n2, chF_total _ _ _ _, _, rfl, c, CC, dx, _, _, rfl, hi, CM.Z.cl, CM.Z.n3, chF_ends _ _ _ _, _, rfl, c, CC, dx, _, _, rfl, hi, CM.Z.cl, CM.Z.n4, chF_rests _ _ _ _, (by show 4 ≤ sizeLine; decide), fun b1 fb1 => ?_⟩
        have t1 := same_new (o := HO.lst [V.ref p, V.int ns.sum, V.ref e, V.ref r]) fb1
        refine ⟨_, rfl, l, _, rfl, .inl ⟨SqL.of (t1 _ _ (s2 _ _ hl)), fun u1 fu1 => ?_⟩⟩
        have t2 := same_new (o := HO.tup (ns.map V.int)) fu1
        refine ⟨_, rfl, _, rfl, q1, _, rfl, .inl ⟨SqL.of (t2 _ _ (t1 _ _ hq1)), fun u2 fu2 => ?_⟩⟩
        have t3 := same_new (o := HO.tup ((endsL 0 ns).map V.int)) fu2
        refine ⟨_, rfl, q2, _, rfl, .inl ⟨SqL.of (t3 _ _ (t2 _ _ (t1 _ _ hq2))), fun u3 fu3 => ⟨(by show 4 ≤ sizeLine; decide), fun b2 fb2 => ?_⟩⟩⟩
        have t4 := same_new (o := HO.tup ((restsL ns).map V.int)) fu3
        have t5 := same_new (o := HO.lst [V.ref u1, V.int ns.sum, V.ref u2, V.ref u3]) fb2
        have d1 := dp_pd (K := K) ((t5 _ _ (t4 _ _ (t3 _ _ (t2 _ _ upd_same))))) (t5 _ _ (t4 _ _ (t3 _ _ (t2 _ _ (t1 _ _ hp))))) (t5 _ _ (t4 _ _ (t3 _ _ (t2 _ _ (t1 _ _ he))))) (t5 _ _ (t4 _ _ (t3 _ _ (t2 _ _ (t1 _ _ hr')))))
        have d2 := dp_pd (K := K) (upd_same (H := upd (upd (upd (upd H2 b1 (HO.lst [V.ref p, V.int ns.sum, V.ref e, V.ref r])) u1 (HO.tup (ns.map V.int))) u2 (HO.tup ((endsL 0 ns).map V.int))) u3 (HO.tup ((restsL ns).map V.int))) (a := b2) (o := HO.lst [V.ref u1, V.int ns.sum, V.ref u2, V.ref u3])) (t5 _ _ (t4 _ _ (t3 _ _ upd_same))) (t5 _ _ (t4 _ _ upd_same)) (t5 _ _ upd_same)
        have tt := (((s2.trans t1).trans t2).trans (t3.trans t4)).trans t5
        refine ⟨_, _, d1, d2, shaped_pd _ _ _ _, shaped_pd _ _ _ _, _, rfl, iteF' (by rw [eqv_pd]; rfl) ?_⟩
        have y1 : upd (upd (upd (upd (upd H2 b1 (HO.lst [V.ref p, V.int ns.sum, V.ref e, V.ref r])) u1 (HO.tup (ns.map V.int))) u2 (HO.tup ((endsL 0 ns).map V.int))) u3 (HO.tup ((restsL ns).map V.int))) b2 (HO.lst [V.ref u1, V.int ns.sum, V.ref u2, V.ref u3]) q1 = some (.lst ((endsL 0 ns).map V.int)) := t5 _ _ (t4 _ _ (t3 _ _ (t2 _ _ (t1 _ _ hq1))))
        clear d1 d2 t1 t2 t3 t4 t5 hi hp he hr' hc2 fb1 fu1 fu2 fu3 fb2 hq1 hq2
        revert tt y1
        generalize upd (upd (upd (upd (upd H2 b1 _) u1 _) u2 _) u3 _) b2 _ = H3
        intro tt y1
        dsimp only [tNext, tSeq]
        have hc3 := hc.same tt
        obtain ⟨dx, p, e, r, hi, hp, he, hr'⟩ := id hc3
        refine ⟨_, rfl, c, dx, _, rfl, hi, c, ns, rfl, hc3, _, rfl, by omega, by omega, _, rfl, l, _, rfl, .inl (SqL.of (tt _ _ hl)), rfl, _, rfl, iteT' (decide_eq_true (by rw [lm])) ?_⟩
        refine ⟨_, rfl, CC, c, dx, _, _, q1, _, rfl, hi, O.MT, y1, n1, c, ns, rfl, hc3, fun p3 it hp3 fit hab => ⟨it, p3, rfl, upd_same, hab _ _ y1, ?_⟩⟩
        rw [drop_upd fit]
        intro D hD
        refine lc_tup (xs := ns.map V.int) (fun i H' => Same H3 H' ∧ H' D = some (.lst ((ns.take i).map V.int))) ⟨same_new hD, upd_same⟩ (fun i H' _ h => SqT.of (h.1 _ _ hp3)) ?_ ?_
        · rintro i y H' hy ⟨s', hd⟩
          obtain ⟨v, hv, rfl⟩ : ∃ v, ns[i]? = some v ∧ y = V.int v := by
            rw [List.getElem?_map] at hy
            obtain ⟨z, z1, z2⟩ := Option.map_eq_some_iff.mp hy
            exact ⟨z, z1, z2.symm⟩
          have hi' : i < ns.length := (List.getElem?_eq_some_iff.mp hv).1
          refine ⟨rfl, ?_⟩
          dsimp only [tYes]
          rw [if_pos rfl]
          refine ⟨_, rfl, _, hd, ?_, fun b o e => ?_, ?_⟩
          · rw [List.length_map]
            exact Nat.lt_of_le_of_lt (Nat.le_trans (List.length_take_le _ _) (show i ≤ 5000 by omega)) (by decide)
          · rw [upd_ne (ne_of_none e hD)]
            exact s' _ _ e
          · rw [upd_same, List.take_add_one, hv, List.map_append]; rfl
        · rintro H4 ⟨s4, hd⟩
          rw [lm, List.take_of_length_le (Nat.le_refl _)] at hd
          have t4 := tt.trans s4
          have hc4 := hc.same t4
          obtain ⟨dx4, p4, e4, r4, hi4, _⟩ := id hc4
          refine ⟨_, rfl, .list (ns.map PyData.int), .list (ns.map PyData.int), .lst (SqL.of hd) (dp_ints _), .lst (SqL.of (t4 _ _ hl)) (dp_ints _), shaped_ints _, shaped_ints _, ?_⟩
          rw [show PyData.eqv (.list (ns.map PyData.int)) (.list (ns.map PyData.int)) = decide (ns = ns) from eqvs_ints ns ns, decide_eq_true rfl]
          refine ⟨true, rfl, iteT ?_⟩
          refine ⟨_, rfl, c, dx4, _, rfl, hi4, c, ns, rfl, hc4, _, rfl, by omega, by omega, _, _, rfl, .bl _, _, rfl, (by show 0 ≤ sizeLine; decide), fun q5 f5 n5 => ?_⟩
          have s5 := same_new (o := HO.lst []) f5
          refine ⟨.list (ns.map PyData.int), .list [], .lst (SqL.of (s5 _ _ (t4 _ _ hl))) (dp_ints _), .lst (SqL.of upd_same) .nil, shaped_ints _, shaped_ints [], _, _, rfl, .bl _, rfl, ?_⟩
          have fin := k _ (t4.trans s5)
          cases ns with
          | nil => exact fin
          | cons a r => exact fin
end
end Lw
namespace Lw
open PySem PySem.Spec PyProof.Rows L2
open SX PySem.NumText TL LamX ClX StX
set_option pp.maxSteps 900
abbrev sLas : Stmt := top 35
/-- a def's table of code objects among those that are tracked -/
structure TabOf (T : List (Addr × Str)) (B : Addr) (x : Str) : Prop where
  mem : (B, (x ++ (".<locals>." : Str)) ++ ("<lambda>" : Str)) ∈ T
  own : ∀ p ∈ T, p.1 = B → p.2 = (x ++ (".<locals>." : Str)) ++ ("<lambda>" : Str)
section
variable {X : Cx} {pins : List (Addr × Obj)} {σ : L2.St} {H : Hp} {s : Shared} {C : Addr} {sp : Sp} {a b : Expr} {ta tb : TE} {k j : Nat} {E : XK} {pos : Pos} {K : PySem.W.Frag}
theorem pe_fldK (K' : PySem.W.Frag) (hK : X.K = K') {e : Expr} {te : TE} {f : Str} {pos : Pos} (he : PE X e te) (hb : attributeBase e f X.env (eval e X.env) = eval e X.env) : PE X (.Attribute e f pos) (tFld K' te f) := by
  subst hK
  exact pe_fld he hb
theorem call_iszK (K' : PySem.W.Frag) (hK : X.K = K') : CallR X (.builtin "isinstance") (rIsz K') := by
  subst hK
  exact call_isz
def rLof (K : PySem.W.Frag) : List V → Hp → VK → Prop := fun xs H Q => ∃ p ys, xs = [.ref p] ∧ (SqL K H p ys ∨ SqT K H p ys) ∧ ∀ l, H l = none → Q (.ref l) (upd H l (.lst ys))
theorem call_list_ofK (K' : PySem.W.Frag) (hK : X.K = K') : CallR X (.type "list") (rLof K') := by
  subst hK
  exact call_list_of
/-- x in y, x not in y: y an instance of C -/
def rInC (C : Addr) (sp : Sp) (neg : Bool) (E : XK) : R2 := fun x y H Q => ∃ (a dx : Addr) (fs : List (Str × V)), y = .ref a ∧ H a = some (.ins C dx fs) ∧ sp [.ref a, x] H (fun v H' => ∃ c, v = .bl c ∧ Q (.bl (if neg then !c else c)) H') E
theorem op_inC (M : MetX X.prog X.w X.K X.mg X.base k C "__contains__" sp) (hx : Passes (L2.CX X.prog X.w) X E) (hr : Room j X.A) (hk : k ≤ j) : OpR X (compareOp .In) (rInC C sp false E) := fun pins s σ H x y v u Q I rx ry h => by
  obtain ⟨a, dx, fs, e, ha, q⟩ := h
  exact op_inOwn hx hr hk pins s σ H x y v u Q I rx ry ⟨C, a, dx, fs, sp, e, ha, M, q⟩
theorem op_notInC (M : MetX X.prog X.w X.K X.mg X.base k C "__contains__" sp) (hx : Passes (L2.CX X.prog X.w) X E) (hr : Room j X.A) (hk : k ≤ j) : OpR X (compareOp .NotIn) (rInC C sp true E) := fun pins s σ H x y v u Q I rx ry h => by
  obtain ⟨a, dx, fs, e, ha, q⟩ := h
  exact op_notInOwn hx hr hk pins s σ H x y v u Q I rx ry ⟨C, a, dx, fs, sp, e, ha, M, q⟩
/-- y[x], y an instance of C, x no slice -/
def rSubC (C : Addr) (sp : Sp) (E : XK) : R2 := fun x y H Q => ∃ (o dx : Addr) (fs : List (Str × V)), x = .ref o ∧ H o = some (.ins C dx fs) ∧ sp [.ref o, y] H Q E
theorem pe_subC (M : MetG X.prog X.w X.K X.mg X.base k C sp) (ha : PE X a ta) (hb : PE X b tb) (hx : Passes (L2.CX X.prog X.w) X E) (hr : Room j X.A) (hk : k + 1 ≤ j) (hs : ∀ (o : Addr) (i : Value), subscripted b true (.ref o) i = runValue (.builtin "lifetime.subscript" ⟨[.ref o, i], []⟩) := by intros; with_unfolding_all rfl) :
    PE X (.Subscript a b pos) (tOp (rSubC C sp E) ta tb) := by
  refine ⟨fun pins s σ H Q I h => Subscript_ (binT ha hb I h fun v u s2 x y H2 I2 rx ry q => ?_)⟩
  obtain ⟨o, dx, fs, rfl, ho, q⟩ := q
  cases (show v = Value.ref o from rx)
  obtain ⟨_, _, J⟩ := ins_at I2 ho
  have hr1 : Room k X.A.in1 := Room.in1 (hr.mono hk)
  obtain ⟨g, hm, hf, w2⟩ := run_getA (us := [.ref o, u]) (vs := [.ref o, y]) M hx hr1 I2.env0.in1 I2 (.cons rfl (.cons ry .nil)) q
  obtain ⟨m, F⟩ := I2.fr
  exact PySem.W.sub_K F I2.ok.mod.kin J hm.at_ hf hm.fn w2 (hs o u)
end
theorem KpN.ofK {p : Addr} {H H' : Hp} (k : Kp p H H') : KpN p H H' := fun b o n e _ => k b o n e
theorem KpN.ext {p : Addr} {H H' : Hp} (x : ExtN H H') : KpN p H H' := fun b o _ e n => x b o e n
theorem KpN.trans {p : Addr} {H H' H'' : Hp} (a : KpN p H H') (b : KpN p H' H'') : KpN p H H'' := fun c o n e z => b c o n (a c o n e z) z
theorem log30' {i : Int} (h : i.natAbs ≤ 10 ^ 31) : i.natAbs.log2 < 200 := by
  by_cases z : i.natAbs = 0
  · rw [z]; decide
  · exact (Nat.log2_lt z).mpr (Nat.lt_of_le_of_lt h (by decide +kernel))
theorem hd_chunk {K : PySem.W.Frag} {DC DS DT DN DM : Addr} {x : V} {z : Str} {H : Hp} {Q : VK} (o : ∀ H', Rp K H' x z) (k : ∀ t H8, Same H H8 → H t = none → H8 t = some (.tup [.str (Str.ofString "chunk"), .str z]) → Q (.ref t) H8) : Bf DN "at" x H (HeardX K DC DS DT DN DM Q) := fun d fs H7 s7 hd f1 =>
  have s8 : Same H (upd H7 d (.xd fs)) := s7.trans (same_new hd)
  .inr (.inr (.inr (.inl ⟨rfl, d, fs, x, z, rfl, upd_same, f1, o _, fun t H8 s9 n9 h9 => k t H8 (s8.trans s9) (s8.free n9) h9⟩)))
def pSt (a b : Str) : PyData := .tuple [.str a, .str b]
theorem dp_pSt {K : PySem.W.Frag} {H : Hp} {t : Addr} {a b : Str} (h : H t = some (.tup [.str a, .str b])) : Dp K H (.ref t) (pSt a b) := .tup (SqT.of h) (.cons (.str _) (.cons (.str _) .nil))
theorem eqv_pSt (a b : Str) : PyData.eqv (pSt a b) (pSt a b) = true := by simp [pSt, PyData.eqv, PyData.eqvAll]
theorem lay_pSt {a b : Str} (ha : PyData.canLay0 (.str a) = true) (hb : PyData.canLay0 (.str b) = true) : (pSt a b).canLay0 = true := by
  show (PyData.canLay0 (.str a) && (PyData.canLay0 (.str b) && true)) = true
  rw [ha, hb]; rfl
theorem shaped_pSt {a b : Str} (ha : PyData.canLay0 (.str a) = true) (hb : PyData.canLay0 (.str b) = true) : SeqAt.shaped (pSt a b) = true := by
  unfold SeqAt.shaped
  rw [lay_pSt ha hb]; rfl
theorem strOk_S {cs : List Nat} (h : ∀ c ∈ cs, c < 128) : PyData.canLay0 (.str (S cs)) = true := by
  show cs.toArray.all (· < 1114112) = true
  rw [List.all_toArray, List.all_eq_true]
  intro c hc
  exact decide_eq_true (Nat.lt_trans (h c hc) (by decide))
theorem strOk_int (i : Int) : PyData.canLay0 (.str (Str.ofString (toString i))) = true := by
  rw [str_int]
  refine strOk_S fun c hc => ?_
  unfold intL at hc
  split at hc
  · rcases List.mem_cons.mp hc with h | h
    · omega
    · have := numL_digits _ _ h; omega
  · have := numL_digits _ _ hc; omega
/-! ### Chunks cut by slices, lists cut by slices -/
theorem sl_lo {r : Int} (h0 : 0 ≤ r) (h1 : r < 12) : some (r - 3) ∈ slBs := by
  have : r = 0 ∨ r = 1 ∨ r = 2 ∨ r = 3 ∨ r = 4 ∨ r = 5 ∨ r = 6 ∨ r = 7 ∨ r = 8 ∨ r = 9 ∨ r = 10 ∨ r = 11 := by omega
  rcases this with rfl | rfl | rfl | rfl | rfl | rfl | rfl | rfl | rfl | rfl | rfl | rfl <;> decide
theorem pl_all {n : Nat} (h : n ≤ 8) : plL none none none n = List.range n := by
  have : (List.range 9).all (fun n => plL none none none n == List.range n) = true := by decide +kernel
  exact eq_of_beq (List.all_eq_true.mp this n (List.mem_range.mpr (by omega)))
theorem cgi_sl {P : Program} {w : World} {K : PySem.W.Frag} {mg : Str → Option Value} {base : Heap} {CC DM DS DC DN fI c : Addr} {mc : Value} {ns : List Int} {l u t : Option Int} {H : Hp} {Q : VK} {E : XK} (O : ChK P w K mg base CC DM DS DC DN fI mc) (hc : ChA CC H c ns) (ln : ns.length ≤ 8) (sb : SzB ns) (hl : l ∈ slBs) (hu : u ∈ slBs) (ht : t ∈ slTs)
    (k : ∀ c1 H', Same H H' → ChA CC H' c1 (pkI (plL l u t ns.length) ns) → Q (.ref c1) H') :
    ∃ (C o dx : Addr) (fs : List (Str × V)) (sp : Sp), V.ref c = .ref o ∧ H o = some (.ins C dx fs) ∧ MetG P w K mg base 8 C sp ∧ ∀ p, H p = none → sp [.ref o, .ref p] (upd H p (SlO p l u t)) Q E := by
  obtain ⟨dx, p, e, r, hi, _⟩ := id hc
  exact ⟨CC, c, dx, _, _, rfl, hi, O.MG, fun p1 fp1 => ⟨c, ns, _, rfl, hc.same (same_new fp1), by omega, .inr ⟨p1, l, u, t, rfl, upd_same, hl, hu, ht, ln, sb, fun c1 H8 s8 _ h8 => k c1 H8 ((same_new fp1).trans s8) h8⟩⟩⟩
inductive CsAt (CC : Addr) (H : Hp) : List V → List (List Int) → Prop where
  | nil : CsAt CC H [] []
  | cons {a : Addr} {ns : List Int} {vs : List V} {ls : List (List Int)} (h : ChA CC H a ns) (r : CsAt CC H vs ls) : CsAt CC H (.ref a :: vs) (ns :: ls)
theorem CsAt.same {CC : Addr} {H H' : Hp} (s : Same H H') : ∀ {vs : List V} {ls : List (List Int)}, CsAt CC H vs ls → CsAt CC H' vs ls
  | _, _, .nil => .nil
  | _, _, .cons h r => .cons (h.same s) (r.same s)
theorem CsAt.get {CC : Addr} {H : Hp} : ∀ {vs : List V} {ls : List (List Int)} {i : Nat} {v : V}, CsAt CC H vs ls → vs[i]? = some v → ∃ c m, v = .ref c ∧ ChA CC H c m ∧ ls[i]? = some m
  | _, _, 0, _, .cons h _, e => by cases e; exact ⟨_, _, rfl, h, rfl⟩
  | _, _, i + 1, _, .cons _ r, e => r.get (i := i) e
theorem CsAt.len {CC : Addr} {H : Hp} : ∀ {vs : List V} {ls : List (List Int)}, CsAt CC H vs ls → vs.length = ls.length
  | _, _, .nil => rfl
  | _, _, .cons _ r => by rw [List.length_cons, List.length_cons, r.len]
inductive LsAt (H : Hp) : List V → List (List Int) → Prop where
  | nil : LsAt H [] []
  | cons {a : Addr} {ns : List Int} {vs : List V} {ls : List (List Int)} (h : H a = some (.lst (ns.map V.int))) (r : LsAt H vs ls) : LsAt H (.ref a :: vs) (ns :: ls)
theorem LsAt.same {H H' : Hp} (s : Same H H') : ∀ {vs : List V} {ls : List (List Int)}, LsAt H vs ls → LsAt H' vs ls
  | _, _, .nil => .nil
  | _, _, .cons h r => .cons (s _ _ h) (r.same s)
theorem LsAt.put {H : Hp} {D : Addr} {o : HO} {hd : List V} (hD : H D = some (.lst hd)) : ∀ {vs : List V} {ls : List (List Int)}, LsAt H vs ls → (∀ v ∈ vs, v ≠ .ref D) → LsAt (upd H D o) vs ls
  | _, _, .nil, _ => .nil
  | _, _, .cons h r, n => .cons (by rw [upd_ne (fun e => n _ List.mem_cons_self (by rw [e]))]; exact h) (r.put hD fun v hv => n v (List.mem_cons_of_mem _ hv))
theorem LsAt.snoc {H : Hp} {a : Addr} {m : List Int} (h : H a = some (.lst (m.map V.int))) : ∀ {vs : List V} {ls : List (List Int)}, LsAt H vs ls → LsAt H (vs ++ [.ref a]) (ls ++ [m])
  | _, _, .nil => .cons h .nil
  | _, _, .cons h' r => .cons h' (r.snoc h)
def tLi (ns : List Int) : PyData := .list (ns.map PyData.int)
def tLL (ls : List (List Int)) : PyData := .list (ls.map tLi)
theorem LsAt.all {K : PySem.W.Frag} {H : Hp} : ∀ {vs : List V} {ls : List (List Int)}, LsAt H vs ls → DpAll K H vs (ls.map tLi)
  | _, _, .nil => .nil
  | _, _, .cons h r => .cons (.lst (SqL.of h) (dp_ints _)) r.all
theorem shaped_tLL (ls : List (List Int)) : SeqAt.shaped (tLL ls) = true := by
  have h1 : ∀ ls : List (List Int), PyData.canLayAll0 (ls.map tLi) = true := fun ls => by
    induction ls with
    | nil => rfl
    | cons a r ih => show (PyData.canLay0 (tLi a) && PyData.canLayAll0 (r.map tLi)) = true; rw [ih, show PyData.canLay0 (tLi a) = true from lays_ints a]; rfl
  have h2 : ∀ ls : List (List Int), PyData.depthAll (ls.map tLi) ≤ 1 := fun ls => by
    induction ls with
    | nil => exact Nat.zero_le _
    | cons a r ih =>
      have : PyData.depth (tLi a) = 1 := by
        show PyData.depthAll (a.map PyData.int) + 1 = 1
        rw [depths_ints]
      show max (PyData.depth (tLi a)) (PyData.depthAll (r.map tLi)) ≤ 1; omega
  unfold SeqAt.shaped
  rw [show PyData.canLay0 (tLL ls) = true from h1 ls]
  have h3 : PyData.depth (tLL ls) ≤ 64 := by
    show PyData.depthAll (ls.map tLi) + 1 ≤ 64
    have := h2 ls
    omega
  rw [decide_eq_true h3]; rfl
theorem eqv_tLL (ls : List (List Int)) : PyData.eqv (tLL ls) (tLL ls) = true := by
  show PyData.eqvAll (ls.map tLi) (ls.map tLi) = true
  induction ls with
  | nil => rfl
  | cons a r ih => show (PyData.eqv (tLi a) (tLi a) && PyData.eqvAll (r.map tLi) (r.map tLi)) = true; rw [ih, show PyData.eqv (tLi a) (tLi a) = decide (a = a) from eqvs_ints a a, decide_eq_true rfl]; rfl
/-- the six cuts -/
def six (l u t : Option Int) (ns : List Int) : List (List Int) := [pkI (plL l u none ns.length) ns, pkI (plL l none none ns.length) ns, pkI (plL none u none ns.length) ns, pkI (plL l u t ns.length) ns, pkI (plL none none t ns.length) ns, ns]
def spLas (CC : Addr) (T : List (Addr × Str)) : Sp := fun vs H Q _ => ∃ (p pl : Addr) (n : Nat) (c l : Addr) (ns : List Int), vs = [.ref p, .ref c, .ref l] ∧ Pen H p pl n ∧ n ≤ 100000 ∧ ChA CC H c ns ∧ H l = some (.lst (ns.map V.int)) ∧ l ≠ p ∧ SzB ns ∧ ns.length ≤ 8 ∧ Tabs T H ∧
  ∀ H', Pen H' p pl (n + 40) → KpN p H H' → Tabs T H' → Q (.bl true) H'
section
variable {P : Program} {w : World} {K : PySem.W.Frag} {mg : Str → Option Value} {base : Heap}
theorem scLas : FnScope ["_law_pen_here", "_law_made_here", "_law_sizes_here", "_law_many", "_law_odd", "_law_step", "_law_cuts", "_law_due", "_law_far", "_law_low", "_law_high", "_law_spot", "_law_size", "_law_part"] ["_law_pen_here", "_law_made_here", "_law_sizes_here"] (C8.fnScope sLas) := C8.fnScope_by (by decide +kernel)
set_option maxHeartbeats 4000000 in
theorem cal_las {f c B CC DC DS DT DN DM L gH fI : Addr} {TS : List (Addr × Str)} {mc : Value} {fd fdH : FuncData} (F : DefC K mg "_law_asked_right" sLas f fd c) (b : Binds K fd ["_law_pen_here", "_law_made_here", "_law_sizes_here"] []) (FH : C8.Def K mg "_law_heard" sHea gH fdH) (bH : Binds K fdH ["_law_ask"] []) (TB : TabB base mg c B) (TO : TabOf TS B "_law_asked_right")
    (R : Hrd K mg DC DS DT DN DM L) (T : TxtM mg) (O : ChK P w K mg base CC DM DS DC DN fI mc) (IC : C8.InsC K CC) (DD : C8.Cal P w K mg base 1 "_law_draw" spDraw []) (DP : C8.Cal P w K mg base 2 "_law_pick" (spPick K) []) : CalG P w K mg base 15 "_law_asked_right" (spLas CC TS) [] := by
  have CM := O.CM
  have ML := O.ML
  obtain ⟨ocH, odH, dVH, kVH, docH, pmH, anH, cdvH, ctH, oslH, rfl, lkH, cdH⟩ := FH.fn.ex
  refine calGC F b .nil scLas (fun vs H Q E h => ?_) (fun A outer st H vs Q E hG hr h => ?_)
  · obtain ⟨p, pl, n, c', l, ns, rfl, _⟩ := h
    rfl
  · obtain ⟨p, pl, n, c', l, ns, rfl, hp, hn, hc, hl, lp, sb, ln, ht, k⟩ := h
    refine ⟨_, (pss_cons (ps_set (i := 3) scLas.nd rfl (Or.inl rfl) (pe_callB call_len_seq (by rfl) T.n_len (by decide +kernel) (pa_cons (pv 2) pa_nil)))
  (pss_cons (ps_set (i := 4) scLas.nd rfl (Or.inl rfl) (C8.pe_c DP hr (by decide) (by rfl) (pa_cons (pv 0) (pa_cons (pe_lst (pa_cons pe_non (pa_cons pe_bl (pa_cons pe_bl (pa_cons pe_str (pa_cons (pe_tup (pa_cons pe_int pa_nil)) (pa_cons (pe_lst (pa_cons pe_int pa_nil)) (pa_cons pe_dnewK (pa_cons pe_int (pa_cons (pe_un un_neg pe_int) (pa_cons (pe_op op_pow pe_int pe_int) pa_nil))))))))))) pa_nil))))
  (pss_cons (ps_if (PW.pt (pw_or (pt_cmpR (op_inC (E := C8.E0) O.MO (passes_call takes0 (fun _ _ _ _ z => z)) hr (by decide)) (pv 4) (pv 1) (by rfl)) (pw_or (pt_cmpR (op_neD hr.units) (pe_lc (own := [("_law_size", 12)]) (g := gName 12) rfl scLas.nd (pi_list (pv 2)) (blkOk_by (own := [("_law_size", 12)]) (N := ["_law_pen_here", "_law_made_here", "_law_sizes_here", "_law_many", "_law_odd", "_law_step", "_law_cuts", "_law_due", "_law_far", "_law_low", "_law_high", "_law_spot", "_law_size", "_law_part"]) (sc := (C8.fnScope sLas)) (by decide +kernel)) (fun _ _ _ _ _ => pg_name (i := 12) scLas.nd rfl (Or.inl rfl)) (fun _ _ _ _ _ => pts_one (pt_cmpR (op_notInC (E := C8.E0) O.MO (passes_call takes0 (fun _ _ _ _ z => z)) hr (by decide)) (pv 12) (pv 1) (by rfl))) (fun _ _ _ _ _ => (pv 12))) (pe_lst pa_nil) (nomark _)) (pw_or1 (pt_cmpR op_ne (pe_callB (call_reprX hG (hr.mono (by decide))) (by rfl) T.n_repr (by decide +kernel) (pa_cons (pe_cmpR (op_inC (E := C8.E0) O.MO (passes_call takes0 (fun _ _ _ _ z => z)) hr (by decide)) pe_int (pv 1) (by rfl)) pa_nil)) (pe_callB (call_reprX hG (hr.mono (by decide))) (by rfl) T.n_repr (by decide +kernel) (pa_cons (pe_cmpR op_in_seq pe_int (pv 2) (by rfl)) pa_nil)) (nomark _)))))) (pss_one (ps_ret pe_bl)) pss_nil)
  (pss_cons (ps_if (pt_cmpR (op_neD hr.units) (pe_lc (own := [("_law_spot", 11)]) (g := gName 11) (tt := tYes) rfl scLas.nd (pi_range1 (by rfl) T.n_range (pa_cons (pv 3) pa_nil)) (blkOk_by (own := [("_law_spot", 11)]) (N := ["_law_pen_here", "_law_made_here", "_law_sizes_here", "_law_many", "_law_odd", "_law_step", "_law_cuts", "_law_due", "_law_far", "_law_low", "_law_high", "_law_spot", "_law_size", "_law_part"]) (sc := (C8.fnScope sLas)) (by decide +kernel)) (fun _ _ _ _ _ => pg_name (i := 11) scLas.nd rfl (Or.inl rfl)) (fun _ _ _ _ _ => pts_nil) (fun _ _ _ _ _ => (pe_subC (E := C8.E0) O.MG (pv 1) (pv 11) (passes_call takes0 (fun _ _ _ _ z => z)) hr (by decide)))) (pv 2) (nomark _)) (pss_one (ps_ret pe_bl)) pss_nil)
  (pss_cons (ps_par (i := 9) (j := 10) rfl scLas.nd rfl rfl (by decide) rfl rfl (pa_cons (pe_op op_sub (C8.pe_c DD hr (by decide) (by rfl) (pa_cons (pv 0) (pa_cons pe_int pa_nil))) pe_int) (pa_cons (pe_op op_sub (C8.pe_c DD hr (by decide) (by rfl) (pa_cons (pv 0) (pa_cons pe_int pa_nil))) pe_int) pa_nil)) (by rfl))
  (pss_cons (ps_set (i := 5) scLas.nd rfl (Or.inl rfl) (C8.pe_c DP hr (by decide) (by rfl) (pa_cons (pv 0) (pa_cons (pe_lst (pa_cons pe_int (pa_cons pe_int (pa_cons pe_int (pa_cons (pe_un un_neg pe_int) (pa_cons (pe_un un_neg pe_int) pa_nil)))))) pa_nil))))
  (pss_cons (ps_set (i := 6) scLas.nd rfl (Or.inl rfl) (pe_lst (pa_cons (pe_slOwn (E := C8.E0) (k := 8) (pv 1) (po_some (pv 9)) (po_some (pv 10)) po_none (passes_call takes0 (fun _ _ _ _ z => z)) hr (by decide)) (pa_cons (pe_slOwn (E := C8.E0) (k := 8) (pv 1) (po_some (pv 9)) po_none po_none (passes_call takes0 (fun _ _ _ _ z => z)) hr (by decide)) (pa_cons (pe_slOwn (E := C8.E0) (k := 8) (pv 1) po_none (po_some (pv 10)) po_none (passes_call takes0 (fun _ _ _ _ z => z)) hr (by decide)) (pa_cons (pe_slOwn (E := C8.E0) (k := 8) (pv 1) (po_some (pv 9)) (po_some (pv 10)) (po_some (pv 5)) (passes_call takes0 (fun _ _ _ _ z => z)) hr (by decide)) (pa_cons (pe_slOwn (E := C8.E0) (k := 8) (pv 1) po_none po_none (po_some (pv 5)) (passes_call takes0 (fun _ _ _ _ z => z)) hr (by decide)) (pa_cons (pe_slOwn (E := C8.E0) (k := 8) (pv 1) po_none po_none po_none (passes_call takes0 (fun _ _ _ _ z => z)) hr (by decide)) pa_nil))))))))
  (pss_cons (ps_set (i := 7) scLas.nd rfl (Or.inl rfl) (pe_lst (pa_cons (pe_slL (pv 2) (po_some (pv 9)) (po_some (pv 10)) po_none) (pa_cons (pe_slL (pv 2) (po_some (pv 9)) po_none po_none) (pa_cons (pe_slL (pv 2) po_none (po_some (pv 10)) po_none) (pa_cons (pe_slL (pv 2) (po_some (pv 9)) (po_some (pv 10)) (po_some (pv 5))) (pa_cons (pe_slL (pv 2) po_none po_none (po_some (pv 5))) (pa_cons (pv 2) pa_nil))))))))
  (pss_cons (ps_if (PW.pt (pw_or (pt_cmpR (op_neD hr.units) (pe_lc (own := [("_law_part", 13)]) (g := gName 13) (tt := tYes) rfl scLas.nd (pi_list (pv 6)) (blkOk_by (own := [("_law_part", 13)]) (N := ["_law_pen_here", "_law_made_here", "_law_sizes_here", "_law_many", "_law_odd", "_law_step", "_law_cuts", "_law_due", "_law_far", "_law_low", "_law_high", "_law_spot", "_law_size", "_law_part"]) (sc := (C8.fnScope sLas)) (by decide +kernel)) (fun _ _ _ _ _ => pg_name (i := 13) scLas.nd rfl (Or.inl rfl)) (fun _ _ _ _ _ => pts_nil) (fun _ _ _ _ _ => (pe_callTy (call_list_ofK K rfl) (by rfl) T.n_list (by decide +kernel) (pa_cons (pe_fldK K rfl (pv 13) rfl) pa_nil)))) (pv 7) (nomark _)) (pw_or1 (pt_cmpR (op_neD hr.units) (pe_lc (own := [("_law_part", 13)]) (g := gName 13) rfl scLas.nd (pi_list (pv 6)) (blkOk_by (own := [("_law_part", 13)]) (N := ["_law_pen_here", "_law_made_here", "_law_sizes_here", "_law_many", "_law_odd", "_law_step", "_law_cuts", "_law_due", "_law_far", "_law_low", "_law_high", "_law_spot", "_law_size", "_law_part"]) (sc := (C8.fnScope sLas)) (by decide +kernel)) (fun _ _ _ _ _ => pg_name (i := 13) scLas.nd rfl (Or.inl rfl)) (fun _ _ _ _ _ => pts_one (pt_not (pt_val (pe_callB (call_iszK K rfl) (by rfl) T.n_isinstance (by decide +kernel) (pa_cons (pv 13) (pa_cons (pe_glob (v := .ref CC) (by rfl) CM.Z.hm rfl) pa_nil)))))) (fun _ _ _ _ _ => (pv 13))) (pe_lst pa_nil) (nomark _))))) (pss_one (ps_ret pe_bl)) pss_nil)
  (pss_cons (ps_set (i := 8) scLas.nd rfl (Or.inr rfl) (C8.pe_c DP hr (by decide) (by rfl) (pa_cons (pv 0) (pa_cons (pe_lst (pa_cons (pv 3) (pa_cons (pe_un un_neg pe_int) (pa_cons (pe_op op_add (pv 3) pe_int) (pa_cons (pe_op op_sub (pe_un un_neg (pv 3)) pe_int) (pa_cons (pe_op op_pow pe_int pe_int) pa_nil)))))) pa_nil))))
  (pss_one (ps_ret (pe_cmpR (op_eqD hr.units) (pe_lamcall (k := 12) (T := TS) (TT := TTheard K DC DS DT DN DM) (by rfl) FH.mgf FH.kp lkH cdH bH scHea rfl (.inl rfl) (heard_gives R T.toTxt hG (hr.mono (by decide))) TB rfl TO.mem TO.own (hr.mono (by decide)) (lamS_by (by rfl)) rfl (fun _ _ _ _ _ => rfl)
      (fun A outer s H E f c2 hr2 => (by exact (pe_subC O.MG (pv 1) (pv 8) (passes_call (takes_of rfl rfl rfl rfl) (fun _ _ _ _ z => z)) hr2 (Nat.le_of_ble_eq_true rfl))))) (pe_tup (pa_cons pe_str (pa_cons (pe_callB (call_reprX hG (hr.mono (by decide))) (by rfl) T.n_repr (by decide +kernel) (pa_cons (pv 8) pa_nil)) pa_nil))) (nomark _)))))))))))))), ?_⟩
    have Z := CM.Z
    have lm : (ns.map V.int).length = ns.length := List.length_map _
    refine ⟨_, rfl, l, _, rfl, .inl (SqL.of hl), ?_⟩
    refine ⟨_, rfl, (by show 1 ≤ sizeLine; decide), fun tq ftq => ⟨(by show 1 ≤ sizeLine; decide), fun lq flq dq fdq => ⟨_, rfl, _, _, rfl, rfl, (by unfold CPow; decide), (by show 10 ≤ sizeLine; decide), fun q fq => ?_⟩⟩⟩
    have s1 := same_new (o := HO.tup [V.int 1]) ftq
    have s2 := same_new (o := HO.lst [V.int 1]) flq
    have s3 := same_new (o := HO.dK []) fdq
    have e1 := s3 _ _ (s2 _ _ (upd_same (H := H) (a := tq) (o := HO.tup [V.int 1])))
    have e2 := s3 _ _ (upd_same (H := upd H tq (HO.tup [V.int 1])) (a := lq) (o := HO.lst [V.int 1]))
    have e3 := upd_same (H := upd (upd H tq (HO.tup [V.int 1])) lq (HO.lst [V.int 1])) (a := dq) (o := HO.dK [])
    have tqp := hp.ne_new ftq
    have lqp := (hp.keep s1).ne_new flq
    have dqp := ((hp.keep s1).keep s2).ne_new fdq
    have s123 := (s1.trans s2).trans s3
    have hp1 := hp.keep s123
    have qp := hp1.ne_new fq
    generalize hL : upd (upd (upd (upd H tq (HO.tup [V.int 1])) lq (HO.lst [V.int 1])) dq (HO.dK [])) q _ = H1
    have sq : Same (upd (upd (upd H tq (HO.tup [V.int 1])) lq (HO.lst [V.int 1])) dq (HO.dK [])) H1 := by rw [← hL]; exact same_new fq
    obtain ⟨xs, hxs⟩ : ∃ xs, xs = [V.non, V.bl true, V.bl false, V.str (Str.ofString "1"), V.ref tq, V.ref lq, V.ref dq, V.int 0, V.int (-1), V.int ((10 : Int) ^ (31 : Int).toNat)] := ⟨_, rfl⟩
    have hq1 : H1 q = some (.lst xs) := by rw [← hL, hxs]; exact upd_same
    have s1' := s123.trans sq
    have hp2 := hp1.keep sq
    have ht2 := ht.ext s1'
    have hc2 := hc.same s1'
    have hl2 := s1' _ _ hl
    have kk0 : KpN p H H1 := .ext (.of s1')
    replace e1 := sq _ _ e1
    replace e2 := sq _ _ e2
    replace e3 := sq _ _ e3
    clear hL s1 s2 s3 s123 s1' sq hp1 fq fdq flq ftq hp hc hl ht
    refine ⟨p, pl, q, n, xs, rfl, hp2, by omega, SqL.of hq1, qp, by rw [hxs]; show 0 < 10; decide, by rw [hxs]; show 10 < 1000000; decide, fun j v H2 hj hp3 k3 => ?_⟩
    have ht3 := Lw.Tabs.kp ht2 hp2 k3
    have hc3 := hc2.kp hp2 k3
    have hl3 := k3 _ _ lp hl2
    have kk1 := kk0.trans (.ofK k3)
    obtain ⟨av, cv⟩ : Anyv K H2 v ∧ conB v ns = false := by
      have hv := List.mem_of_getElem? hj
      have big : ∀ i : Int, ¬ (1 ≤ i ∧ i ≤ 10 ^ 30) → conB (.int i) ns = false := fun i h => by
        show ns.contains i = false
        cases e : ns.contains i with
        | false => rfl
        | true => exact absurd (sb i (List.contains_iff_mem.mp e)) h
      rw [hxs] at hv
      simp only [List.mem_cons, List.not_mem_nil, or_false] at hv
      rcases hv with rfl | rfl | rfl | rfl | rfl | rfl | rfl | rfl | rfl | rfl
      · exact ⟨.non, rfl⟩
      · exact ⟨.bl _, rfl⟩
      · exact ⟨.bl _, rfl⟩
      · exact ⟨.str _, rfl⟩
      · exact ⟨.obj (.x (.base (.tup (k3 _ _ tqp e1)))) (kit_ty (by decide +kernel)) (kit_ty (by decide +kernel)) (kit_ty (by decide +kernel)), rfl⟩
      · exact ⟨.obj (.x (.base (.lst (k3 _ _ lqp e2)))) (kit_ty (by decide +kernel)) (kit_ty (by decide +kernel)) (kit_ty (by decide +kernel)), rfl⟩
      · exact ⟨.obj (.x (.base (.dK (k3 _ _ dqp e3)))) (kit_ty (by decide +kernel)) (kit_ty (by decide +kernel)) (kit_ty (by decide +kernel)), rfl⟩
      · exact ⟨.int _, big _ (by decide)⟩
      · exact ⟨.int _, big _ (by decide)⟩
      · exact ⟨.int _, big _ (by decide +kernel)⟩
    clear hj hq1 e1 e2 e3 ht2 hp2 k3 hxs tqp lqp dqp qp hc2 hl2 kk0
    clear xs
    dsimp only [gName, tSeq]
    obtain ⟨dx, pz, e, r, hi, hpz, _⟩ := id hc3
    refine ⟨_, rfl, _, rfl, c', dx, _, rfl, hi, c', ns, v, rfl, hc3, av, _, rfl, _, rfl, iteF' cv ?_⟩
    have gets : ∀ {i : Nat} {y : V}, (ns.map V.int)[i]? = some y → ∃ v, y = .int v ∧ ns[i]? = some v := fun {i y} e => by
      rw [List.getElem?_map] at e
      obtain ⟨z, z1, z2⟩ := Option.map_eq_some_iff.mp e
      exact ⟨z, z2.symm, z1⟩
    refine ⟨_, rfl, l, rfl, ⟨_, SqL.of hl3⟩, fun D hD => ?_⟩
    refine lc_list (xs := ns.map V.int) (fun i H' => Same H2 H' ∧ H' D = some (.lst [])) ⟨same_new hD, upd_same⟩ (fun i H' _ h => SqL.of (h.1 _ _ hl3)) ?_ ?_
    · rintro i y H' hy ⟨s', hd⟩
      obtain ⟨v', rfl, hv'⟩ := gets hy
      refine ⟨rfl, _, rfl, _, rfl, c', dx, _, rfl, s' _ _ hi, c', ns, _, rfl, hc3.same s', .int _, _, rfl, _, rfl, ?_⟩
      have cc : conB (.int v') ns = true := List.contains_iff_mem.mpr (List.mem_of_getElem? hv')
      refine iteF' (by show (!conB (.int v') ns) = false; rw [cc]; rfl) ⟨s', hd⟩
    · rintro H3 ⟨s3, hd⟩
      have hp4 := hp3.keep s3
      have hc4 := hc3.same s3
      have hl4 := s3 _ _ hl3
      have ht4 := ht3.ext s3
      have kk2 := kk1.trans (.ext (.of s3))
      clear hp3 hc3 hl3 ht3 kk1 hi hpz
      refine ⟨(by show 0 ≤ sizeLine; decide), fun q2 fq2 => ?_⟩
      have s4 := same_new (o := HO.lst []) fq2
      refine ⟨.list [], .list [], .lst (SqL.of (s4 _ _ hd)) .nil, .lst (SqL.of upd_same) .nil, shaped_ints [], shaped_ints [], _, rfl, iteF' rfl ?_⟩
      have hp5 := hp4.keep s4
      have hc5 := hc4.same s4
      have hl5 := s4 _ _ hl4
      have ht5 := ht4.ext s4
      have kk3 := kk2.trans (.ext (.of s4))
      clear hp4 hc4 hl4 ht4 kk2 hd s3 s4 hD
      revert hp5 hc5 hl5 ht5 kk3
      generalize upd H3 q2 _ = H5
      intro hp5 hc5 hl5 ht5 kk3
      obtain ⟨dx, pz, e, r, hi, hpz, _⟩ := id hc5
      refine ⟨_, rfl, c', dx, _, rfl, hi, c', ns, _, rfl, hc5, .int _, _, rfl, _, _, rfl, .bl _, _, rfl, l, _, rfl, .inl (SqL.of hl5), rfl, flat_ints ns, _, _, rfl, .bl _, rfl, _, rfl, iteF' ?_ ?_⟩
      · rw [inV_ints, show conB (V.int 5) ns = ns.contains 5 from rfl]
        cases ns.contains 5 <;> rfl
      refine ⟨_, rfl, _, rfl, by omega, by omega, fun D2 hD2 => ?_⟩
      refine lc_range (lo := 0) (n := (ns.map V.int).length) (fun i H' => Same H5 H' ∧ H' D2 = some (.lst ((ns.take i).map V.int))) ⟨same_new hD2, upd_same⟩ (fun i H' hi' ⟨s', hd⟩ => ?_) (fun H' ⟨s', hd⟩ => ?_)
      · have hlt : i < ns.length := by rw [lm] at hi'; exact hi'
        obtain ⟨v', hv'⟩ : ∃ v', ns[i]? = some v' := ⟨_, List.getElem?_eq_getElem hlt⟩
        refine ⟨rfl, ?_⟩
        dsimp only [tYes]
        rw [if_pos rfl]
        refine ⟨_, rfl, _, rfl, c', dx, _, rfl, s' _ _ hi, c', ns, _, rfl, hc5.same s', by omega, .inl ⟨0 + (i : Int), rfl, fun z => absurd (show 0 ≤ 0 + (i : Int) ∧ 0 + (i : Int) < ns.length by omega) z, fun n' h0 h1 hn' => ⟨_, hd, ?_, fun b o e => ?_, ?_⟩⟩⟩
        · rw [List.length_map]
          exact Nat.lt_of_le_of_lt (Nat.le_trans (List.length_take_le _ _) (show i ≤ 5000 by omega)) (by decide)
        · rw [upd_ne (ne_of_none e hD2)]
          exact s' _ _ e
        · rw [show (0 + (i : Int)).toNat = i by omega] at hn'
          rw [upd_same, List.take_add_one, hn', List.map_append]; rfl
      rw [lm, List.take_of_length_le (Nat.le_refl _)] at hd
      refine ⟨_, rfl, .list (ns.map PyData.int), .list (ns.map PyData.int), .lst (SqL.of hd) (dp_ints _), .lst (SqL.of (s' _ _ hl5)) (dp_ints _), shaped_ints _, shaped_ints _, _, rfl, iteF' ?_ ?_⟩
      · rw [show PyData.eqv (.list (ns.map PyData.int)) (.list (ns.map PyData.int)) = decide (ns = ns) from eqvs_ints ns ns, decide_eq_true rfl]; rfl
      have hp6 := hp5.keep s'
      have hc6 := hc5.same s'
      have hl6 := s' _ _ hl5
      have ht6 := ht5.ext s'
      have kk4 := kk3.trans (.ext (.of s'))
      clear hp5 hc5 hl5 ht5 kk3 hd hD2 s' hi
      refine ⟨_, rfl, p, pl, _, 12, rfl, by decide, by decide, hp6, by omega, fun r1 H7 ra rb hp7 k7 => ⟨_, _, rfl, rfl, _, rfl, p, pl, _, 12, rfl, by decide, by decide, hp7, by omega, fun r2 H8 rc rd hp8 k8 => ⟨_, _, rfl, rfl, _, _, rfl, ?_⟩⟩⟩
      have ht8 := Lw.Tabs.kp (Lw.Tabs.kp ht6 hp6 k7) hp7 k8
      have hc8 := (hc6.kp hp6 k7).kp hp7 k8
      have hl8 := k8 _ _ lp (k7 _ _ lp hl6)
      have kk5 := (kk4.trans (.ofK k7)).trans (.ofK k8)
      clear ht6 hc6 hl6 kk4 k7 k8 hp7 hp6
      dsimp only [tSeq]
      refine ⟨_, rfl, _, rfl, _, rfl, (by show 5 ≤ sizeLine; decide), fun q3 fq3 => ?_⟩
      have q3p := hp8.ne_new fq3
      generalize hL : upd H8 q3 _ = H9
      have s9 : Same H8 H9 := by rw [← hL]; exact same_new fq3
      obtain ⟨xs, hxs⟩ : ∃ xs, xs = [V.int 1, V.int 2, V.int 3, V.int (-1), V.int (-2)] := ⟨_, rfl⟩
      have hq9 : H9 q3 = some (.lst xs) := by rw [← hL, hxs]; exact upd_same
      have hp9 := hp8.keep s9
      clear hL
      refine ⟨p, pl, q3, _, xs, rfl, hp9, by omega, SqL.of hq9, q3p, by rw [hxs]; show 0 < 5; decide, by rw [hxs]; show 5 < 1000000; decide, fun j vt H10 hj hp10 k10 => ?_⟩
      have ht10 := Lw.Tabs.kp (ht8.ext s9) hp9 k10
      have hc10 := (hc8.same s9).kp hp9 k10
      have hl10 := k10 _ _ lp (s9 _ _ hl8)
      have kk6 := (kk5.trans (.ext (.of s9))).trans (.ofK k10)
      obtain ⟨tv, rfl, htv⟩ : ∃ tv, vt = V.int tv ∧ some tv ∈ slTs := by
        have hv := List.mem_of_getElem? hj
        rw [hxs] at hv
        simp only [List.mem_cons, List.not_mem_nil, or_false] at hv
        rcases hv with rfl | rfl | rfl | rfl | rfl <;> exact ⟨_, rfl, by decide⟩
      have hlo := sl_lo ra rb
      have hhi := sl_lo rc rd
      obtain ⟨lo, elo⟩ : ∃ lo, lo = r1 - 3 := ⟨_, rfl⟩
      obtain ⟨hi', ehi⟩ : ∃ hi', hi' = r2 - 3 := ⟨_, rfl⟩
      rw [← elo] at hlo
      rw [← ehi] at hhi
      rw [← elo, ← ehi]
      clear ht8 hc8 hl8 kk5 hq9 hp9 hj hxs k10 q3p s9 fq3 hp8 elo ehi ra rb rc rd
      clear xs
      have n0 : (none : Option Int) ∈ slBs := by decide
      have t0 : (none : Option Int) ∈ slTs := by decide
      dsimp only [gName, tSeq]
      refine ⟨_, rfl, _, rfl, _, rfl, _, rfl, _, rfl, cgi_sl O hc10 ln sb hlo hhi t0 fun c1 G1 g1 h1 => ?_⟩
      have i0 := hc10.same g1
      refine ⟨_, rfl, _, rfl, _, rfl, cgi_sl O i0 ln sb hlo n0 t0 fun c2 G2 g2 h2 => ?_⟩
      have i1 := i0.same g2
      refine ⟨_, rfl, _, rfl, _, rfl, cgi_sl O i1 ln sb n0 hhi t0 fun c3 G3 g3 h3 => ?_⟩
      have i2 := i1.same g3
      refine ⟨_, rfl, _, rfl, _, rfl, _, rfl, _, rfl, _, rfl, _, rfl, cgi_sl O i2 ln sb hlo hhi htv fun c4 G4 g4 h4 => ?_⟩
      have i3 := i2.same g4
      refine ⟨_, rfl, _, rfl, _, rfl, cgi_sl O i3 ln sb n0 n0 htv fun c5 G5 g5 h5 => ?_⟩
      have i4 := i3.same g5
      refine ⟨_, rfl, cgi_sl O i4 ln sb n0 n0 t0 fun c6 G6 g6 h6 => ⟨(by show 6 ≤ sizeLine; decide), fun qc fqc => ?_⟩⟩
      have gq := same_new (o := HO.lst [V.ref c1, V.ref c2, V.ref c3, V.ref c4, V.ref c5, V.ref c6]) fqc
      rw [pl_all ln, pk_range] at h6
      have X1 : CsAt CC _ [V.ref c1, V.ref c2, V.ref c3, V.ref c4, V.ref c5, V.ref c6] (six (some lo) (some hi') (some tv) ns) := .cons (h1.same (((((g2.trans g3).trans g4).trans g5).trans g6).trans gq)) (.cons (h2.same ((((g3.trans g4).trans g5).trans g6).trans gq)) (.cons (h3.same (((g4.trans g5).trans g6).trans gq)) (.cons (h4.same ((g5.trans g6).trans gq)) (.cons (h5.same (g6.trans gq)) (.cons (h6.same gq) .nil)))))
      have gg := (((((g1.trans g2).trans g3).trans g4).trans g5).trans g6).trans gq
      have Xq : upd G6 qc (.lst [V.ref c1, V.ref c2, V.ref c3, V.ref c4, V.ref c5, V.ref c6]) qc = some (.lst [V.ref c1, V.ref c2, V.ref c3, V.ref c4, V.ref c5, V.ref c6]) := upd_same
      clear i0 i1 i2 i3 i4 h1 h2 h3 h4 h5 h6 g1 g2 g3 g4 g5 g6 gq fqc
      revert X1 gg Xq
      generalize upd G6 qc _ = G7
      intro X1 gg Xq
      have hc11 := hc10.same gg
      have hl11 := gg _ _ hl10
      have ht11 := ht10.ext gg
      have hp11 := hp10.keep gg
      have kk7 := kk6.trans (.ext (.of gg))
      clear hc10 hl10 ht10 hp10 kk6 gg
      clear G1 G2 G3 G4 G5 G6
      dsimp only [gName, tSeq]
      refine ⟨_, rfl, _, rfl, _, rfl, _, rfl, _, rfl, l, _, rfl, SqL.of hl11, slT_ne t0, fun d1 fd1 => ?_⟩
      have g1 := same_new (o := HO.lst (pkV (plL (some lo) (some hi') none (ns.map V.int).length) (ns.map V.int))) fd1
      have h1 : upd G7 d1 (HO.lst (pkV (plL (some lo) (some hi') none (ns.map V.int).length) (ns.map V.int))) d1 = some (.lst ((pkI (plL (some lo) (some hi') none ns.length) ns).map V.int)) := by rw [upd_same, lm, pk_ints]
      clear fd1
      revert g1 h1
      generalize upd G7 d1 _ = G1
      intro g1 h1
      have i1 := g1 _ _ hl11
      refine ⟨_, rfl, _, rfl, _, rfl, l, _, rfl, SqL.of i1, slT_ne t0, fun d2 fd2 => ?_⟩
      have g2 := same_new (o := HO.lst (pkV (plL (some lo) none none (ns.map V.int).length) (ns.map V.int))) fd2
      have h2 : upd G1 d2 (HO.lst (pkV (plL (some lo) none none (ns.map V.int).length) (ns.map V.int))) d2 = some (.lst ((pkI (plL (some lo) none none ns.length) ns).map V.int)) := by rw [upd_same, lm, pk_ints]
      clear fd2
      revert g2 h2
      generalize upd G1 d2 _ = G2
      intro g2 h2
      have i2 := g2 _ _ i1
      refine ⟨_, rfl, _, rfl, _, rfl, l, _, rfl, SqL.of i2, slT_ne t0, fun d3 fd3 => ?_⟩
      have g3 := same_new (o := HO.lst (pkV (plL none (some hi') none (ns.map V.int).length) (ns.map V.int))) fd3
      have h3 : upd G2 d3 (HO.lst (pkV (plL none (some hi') none (ns.map V.int).length) (ns.map V.int))) d3 = some (.lst ((pkI (plL none (some hi') none ns.length) ns).map V.int)) := by rw [upd_same, lm, pk_ints]
      clear fd3
      revert g3 h3
      generalize upd G2 d3 _ = G3
      intro g3 h3
      have i3 := g3 _ _ i2
      refine ⟨_, rfl, _, rfl, _, rfl, _, rfl, _, rfl, _, rfl, _, rfl, l, _, rfl, SqL.of i3, slT_ne htv, fun d4 fd4 => ?_⟩
      have g4 := same_new (o := HO.lst (pkV (plL (some lo) (some hi') (some tv) (ns.map V.int).length) (ns.map V.int))) fd4
      have h4 : upd G3 d4 (HO.lst (pkV (plL (some lo) (some hi') (some tv) (ns.map V.int).length) (ns.map V.int))) d4 = some (.lst ((pkI (plL (some lo) (some hi') (some tv) ns.length) ns).map V.int)) := by rw [upd_same, lm, pk_ints]
      clear fd4
      revert g4 h4
      generalize upd G3 d4 _ = G4
      intro g4 h4
      have i4 := g4 _ _ i3
      refine ⟨_, rfl, _, rfl, _, rfl, l, _, rfl, SqL.of i4, slT_ne htv, fun d5 fd5 => ?_⟩
      have g5 := same_new (o := HO.lst (pkV (plL none none (some tv) (ns.map V.int).length) (ns.map V.int))) fd5
      have h5 : upd G4 d5 (HO.lst (pkV (plL none none (some tv) (ns.map V.int).length) (ns.map V.int))) d5 = some (.lst ((pkI (plL none none (some tv) ns.length) ns).map V.int)) := by rw [upd_same, lm, pk_ints]
      clear fd5
      revert g5 h5
      generalize upd G4 d5 _ = G5
      intro g5 h5
      have i5 := g5 _ _ i4
      refine ⟨_, rfl, (by show 6 ≤ sizeLine; decide), fun qd fqd => ?_⟩
      have gq := same_new (o := HO.lst [V.ref d1, V.ref d2, V.ref d3, V.ref d4, V.ref d5, V.ref l]) fqd
      have Y1 : LsAt _ [V.ref d1, V.ref d2, V.ref d3, V.ref d4, V.ref d5, V.ref l] (six (some lo) (some hi') (some tv) ns) := .cons ((((((g2.trans g3).trans g4).trans g5).trans gq)) _ _ h1) (.cons (((((g3.trans g4).trans g5).trans gq)) _ _ h2) (.cons ((((g4.trans g5).trans gq)) _ _ h3) (.cons (((g5.trans gq)) _ _ h4) (.cons (gq _ _ h5) (.cons (gq _ _ i5) .nil)))))
      have gg := ((((g1.trans g2).trans g3).trans g4).trans g5).trans gq
      have Yq : upd G5 qd (.lst [V.ref d1, V.ref d2, V.ref d3, V.ref d4, V.ref d5, V.ref l]) qd = some (.lst [V.ref d1, V.ref d2, V.ref d3, V.ref d4, V.ref d5, V.ref l]) := upd_same
      clear i1 i2 i3 i4 i5 h1 h2 h3 h4 h5 g1 g2 g3 g4 g5 gq fqd
      revert Y1 gg Yq
      generalize upd G5 qd _ = G8
      intro Y1 gg Yq
      have hc12 := hc11.same gg
      have hl12 := gg _ _ hl11
      have ht12 := ht11.ext gg
      have hp12 := hp11.keep gg
      have kk8 := kk7.trans (.ext (.of gg))
      replace X1 := X1.same gg
      replace Xq := gg _ _ Xq
      clear hc11 hl11 ht11 hp11 kk7 gg
      clear G1 G2 G3 G4 G5
      have l6 : [V.ref c1, V.ref c2, V.ref c3, V.ref c4, V.ref c5, V.ref c6].length = 6 := rfl
      revert X1 Xq Y1 Yq l6
      generalize [V.ref c1, V.ref c2, V.ref c3, V.ref c4, V.ref c5, V.ref c6] = vs
      generalize [V.ref d1, V.ref d2, V.ref d3, V.ref d4, V.ref d5, V.ref l] = us
      generalize six (some lo) (some hi') (some tv) ns = ls
      intro Y1 Yq X1 Xq l6
      have lvl := X1.len
      dsimp only [gName, tSeq]
      refine ⟨_, rfl, qc, rfl, ⟨_, SqL.of Xq⟩, fun D hD => ?_⟩
      refine lc_list (xs := vs) (fun i H' => Same G8 H' ∧ ∃ acc, H' D = some (.lst acc) ∧ acc.length = i ∧ LsAt H' acc (ls.take i) ∧ ∀ v ∈ acc, v ≠ .ref D) ⟨same_new hD, [], upd_same, rfl, .nil, fun v hv => by cases hv⟩ (fun i H' _ h => SqL.of (h.1 _ _ Xq)) ?_ ?_
      · rintro i y H' hy ⟨s', acc, hd, la, La, nD⟩
        have hi6 : i < 6 := by rw [← l6]; exact (List.getElem?_eq_some_iff.mp hy).1
        obtain ⟨cx, m, rfl, hcx, hm⟩ := X1.get hy
        obtain ⟨dxx, pxx, _, _, hixx, hpxx, _⟩ := id (hcx.same s')
        refine ⟨rfl, ?_⟩
        dsimp only [tYes]
        rw [if_pos rfl]
        refine ⟨_, rfl, cx, CC, dxx, _, _, rfl, hixx, Z.cl, Z.n1, chF_sizes _ _ _ _, pxx, _, rfl, .inr (SqT.of hpxx), fun e fe => ?_⟩
        have se := same_new (o := HO.lst (m.map V.int)) fe
        have eD : e ≠ D := fun z => by rw [z, hd] at fe; cases fe
        refine ⟨acc, se _ _ hd, ?_, fun b o eb => ?_, acc ++ [V.ref e], upd_same, ?_, ?_, fun v hv => ?_⟩
        · rw [la]; exact Nat.lt_trans hi6 (by decide)
        · rw [upd_ne (ne_of_none eb hD)]
          exact se _ _ (s' _ _ eb)
        · rw [List.length_append, la]; rfl
        · rw [List.take_add_one, hm]
          refine LsAt.put (se _ _ hd) (LsAt.snoc upd_same (La.same se)) fun v hv => ?_
          rcases List.mem_append.mp hv with hv | hv
          · exact nD v hv
          · rw [List.mem_singleton.mp hv]; exact fun z => eD (V.ref.inj z)
        · rcases List.mem_append.mp hv with hv | hv
          · exact nD v hv
          · rw [List.mem_singleton.mp hv]; exact fun z => eD (V.ref.inj z)
      rintro H11 ⟨s11, acc, hd, la, La, nD⟩
      rw [List.take_of_length_le (by rw [lvl]; exact Nat.le_refl _)] at La
      refine ⟨_, rfl, tLL ls, tLL ls, .lst (SqL.of hd) La.all, .lst (SqL.of (s11 _ _ Yq)) (Y1.same s11).all, shaped_tLL _, shaped_tLL _, _, rfl, iteF' (by rw [eqv_tLL]; rfl) ?_⟩
      have hc13 := hc12.same s11
      have hl13 := s11 _ _ hl12
      have ht13 := ht12.ext s11
      have hp13 := hp12.keep s11
      have kk9 := kk8.trans (.ext (.of s11))
      replace X1 := X1.same s11
      replace Xq := s11 _ _ Xq
      clear hc12 hl12 ht12 hp12 kk8 s11 La nD la hd hD Yq Y1 lvl
      refine ⟨_, rfl, qc, rfl, ⟨_, SqL.of Xq⟩, fun D2 hD2 => ?_⟩
      refine lc_list (xs := vs) (fun i H' => Same H11 H' ∧ H' D2 = some (.lst [])) ⟨same_new hD2, upd_same⟩ (fun i H' _ h => SqL.of (h.1 _ _ Xq)) ?_ ?_
      · rintro i y H' hy ⟨s', hd⟩
        obtain ⟨cx, m, rfl, hcx, hm⟩ := X1.get hy
        obtain ⟨dxx, pxx, _, _, hixx, hpxx, _⟩ := id (hcx.same s')
        refine ⟨rfl, _, rfl, _, .ref CC, .ref CC, .ref CC, true, rfl, .own CC, .x (.base (.ins hixx IC.cl IC.ha IC.hn IC.htk IC.hm)), IC.me, _, rfl, iteF ⟨s', hd⟩⟩
      rintro H12 ⟨s12, hd⟩
      refine ⟨(by show 0 ≤ sizeLine; decide), fun q5 fq5 => ?_⟩
      have s5 := same_new (o := HO.lst []) fq5
      refine ⟨.list [], .list [], .lst (SqL.of (s5 _ _ hd)) .nil, .lst (SqL.of upd_same) .nil, shaped_ints [], shaped_ints [], _, rfl, iteF' rfl ?_⟩
      have s125 := s12.trans s5
      have hc14 := hc13.same s125
      have hl14 := s125 _ _ hl13
      have ht14 := ht13.ext s125
      have hp14 := hp13.keep s125
      have kk10 := kk9.trans (.ext (.of s125))
      clear hc13 hl13 ht13 hp13 kk9 s125 s12 s5 hd hD2 X1 Xq l6
      revert hc14 hl14 ht14 hp14 kk10
      generalize upd H12 q5 _ = H13
      intro hc14 hl14 ht14 hp14 kk10
      clear fq5 q5 H12 H11 G8 G7
      dsimp only [tNext, tSeq]
      refine ⟨_, rfl, _, rfl, _, rfl, _, rfl, _, _, rfl, rfl, _, rfl, _, rfl, _, _, rfl, rfl, _, _, rfl, rfl, (by unfold CPow; decide), (by show 5 ≤ sizeLine; decide), fun q6 fq6 => ?_⟩
      have q6p := hp14.ne_new fq6
      generalize hL : upd H13 q6 _ = H14
      have s14 : Same H13 H14 := by rw [← hL]; exact same_new fq6
      obtain ⟨xs, hxs⟩ : ∃ xs, xs = [V.int ((ns.map V.int).length : Int), V.int (-1), V.int (((ns.map V.int).length : Int) + 5), V.int (-((ns.map V.int).length : Int) - 1), V.int ((10 : Int) ^ (20 : Int).toNat)] := ⟨_, rfl⟩
      have hq14 : H14 q6 = some (.lst xs) := by rw [← hL, hxs]; exact upd_same
      have hp15 := hp14.keep s14
      clear hL
      refine ⟨p, pl, q6, _, xs, rfl, hp15, by omega, SqL.of hq14, q6p, by rw [hxs]; show 0 < 5; decide, by rw [hxs]; show 5 < 1000000; decide, fun j vz H15 hj hp16 k16 => ?_⟩
      have ht16 := Lw.Tabs.kp (ht14.ext s14) hp15 k16
      have hc16 := (hc14.same s14).kp hp15 k16
      have kk11 := (kk10.trans (.ext (.of s14))).trans (.ofK k16)
      obtain ⟨z, rfl, hz, zb⟩ : ∃ z, vz = V.int z ∧ ¬ (0 ≤ z ∧ z < ns.length) ∧ z.natAbs ≤ 10 ^ 31 := by
        have hv := List.mem_of_getElem? hj
        rw [hxs, lm] at hv
        simp only [List.mem_cons, List.not_mem_nil, or_false] at hv
        have b31 : (10 ^ 31 : Nat) = 10000000000000000000000000000000 := by decide
        rcases hv with rfl | rfl | rfl | rfl | rfl
        · exact ⟨_, rfl, by omega, by rw [b31]; omega⟩
        · exact ⟨_, rfl, by omega, by decide⟩
        · exact ⟨_, rfl, by omega, by rw [b31]; omega⟩
        · exact ⟨_, rfl, by omega, by rw [b31]; omega⟩
        · refine ⟨_, rfl, ?_, by decide +kernel⟩
          have b20 : (10 : Int) ^ (20 : Int).toNat = 100000000000000000000 := by decide +kernel
          rw [b20]; omega
      have rz : ∀ H' : Hp, Rp K H' (V.int z) (toString z) := fun _ => .int z (Nat.lt_trans (log30' zb) (by decide))
      clear hj hxs hq14 hp15 k16 q6p s14 fq6 hp14 ht14 hc14 hl14 kk10
      clear xs
      dsimp only [gName, tSeq]
      obtain ⟨dx9, pz9, e9, r9, hi9, _⟩ := id hc16
      refine ⟨ht16, fun Ha xa ta Hb sb' => ?_⟩
      have xx := xa.trans (ExtN.of sb')
      have hcb := hc16.extn xx
      have tb := ta.ext sb'
      have pb := hp16.extn xx
      have kb := kk11.trans (.ext xx)
      obtain ⟨dx9, pz9, e9, r9, hi9, _⟩ := id hcb
      refine ⟨_, rfl, _, rfl, c', dx9, _, rfl, hi9, c', ns, _, rfl, hcb, by omega, .inl ⟨z, rfl, fun _ => hd_chunk rz fun u1 Hc sc nc hu1 => ?_, fun n' h0 h1 _ => absurd ⟨h0, h1⟩ hz⟩⟩
      refine ⟨_, rfl, _, _, rfl, rz _, (by show 2 ≤ sizeLine; decide), fun u2 fu2 => ?_⟩
      have su := same_new (o := HO.tup [V.str (Str.ofString "chunk"), V.str (Str.ofString (toString z))]) fu2
      refine ⟨pSt (Str.ofString "chunk") (Str.ofString (toString z)), pSt (Str.ofString "chunk") (Str.ofString (toString z)), dp_pSt (su _ _ hu1), dp_pSt upd_same, shaped_pSt (by decide +kernel) (strOk_int z), shaped_pSt (by decide +kernel) (strOk_int z), ?_⟩
      rw [eqv_pSt]
      exact k _ (((pb.keep sc).keep su).more (by omega)) ((kb.trans (.ext (.of sc))).trans (.ext (.of su))) ((tb.ext sc).ext su)
end
end Lw
namespace Lw
open PySem PySem.Spec PyProof.Rows L2
open SX PySem.NumText TL LamX ClX StX
set_option pp.maxSteps 900
abbrev sLeq : Stmt := top 36
def nfN : List String := ["tuple", "list", "int", "NoneType", "str"]
/-- what is never Chunks -/
structure EqNo (K : PySem.W.Frag) (CC : Addr) : Prop where
  f : (nfN.all fun n => PySem.W.subIn K (.type n) (.ref CC) == some false && PySem.W.kitOne K (.type n) (.ref CC) == some false) = true
theorem EqNo.at_ {K : PySem.W.Frag} {CC : Addr} (h : EqNo K CC) {n : String} (hn : n ∈ nfN) : PySem.W.notFirst K CC (.type n) = true ∧ PySem.W.kitOne K (.type n) (.ref CC) = some false := by
  have h1 := List.all_eq_true.mp h.f n hn
  rw [Bool.and_eq_true] at h1
  refine ⟨?_, eq_of_beq h1.2⟩
  unfold PySem.W.notFirst
  rw [eq_of_beq h1.1]; simp
section
variable {X : Cx} {C : Addr} {k j : Nat} {sp : Sp} {E : XK}
theorem op_eqGK (K' : PySem.W.Frag) (hK : X.K = K') (M : MetX X.prog X.w X.K X.mg X.base k C "__eq__" sp) (hx : Passes (L2.CX X.prog X.w) X E) (hr : Room j X.A) (hk : k ≤ j) : OpR X (compareOp .Eq) (rEqG K' C sp E) := by
  subst hK
  exact op_eqG M hx hr hk
end
theorem ChA.lput {CC : Addr} {H : Hp} {c q : Addr} {ns : List Int} {xs : List V} (h : ChA CC H c ns) (hq : H q = some (.lst xs)) (ys : List V) : ChA CC (upd H q (.lst ys)) c ns := h.move fun b o e nl _ => by
  have : b ≠ q := fun z => by rw [z, hq] at e; cases e; exact nl _ rfl
  rw [upd_ne this]; exact e
theorem SzB.app {a b : List Int} (h : SzB a) (g : SzB b) : SzB (a ++ b) := fun v hv => (List.mem_append.mp hv).elim (h v) (g v)
/-- == of two Chunks -/
theorem eq_two {K : PySem.W.Frag} {CC a b : Addr} {ns ms : List Int} {H : Hp} {Q : VK} {E : XK} (I : C8.InsC K CC) (ha : ChA CC H a ns) (hb : ChA CC H b ms) (q : Q (.bl (decide (ns = ms))) H) : rEqG K CC (spCeqA K CC) E (.ref a) (.ref b) H Q := by
  obtain ⟨dx, p, e, r, hi, _⟩ := id ha
  obtain ⟨dy, p2, e2, r2, hj, _⟩ := id hb
  exact ⟨a, dx, _, .ref CC, rfl, hi, .base (.ins hj I.cl I.ha I.hn I.htk I.hm), by simp [PySem.W.notFirst], a, ns, _, rfl, ha, .inr ⟨b, ms, rfl, hb, q⟩⟩
theorem eq_no {K : PySem.W.Frag} {CC a : Addr} {n : String} {ns : List Int} {y : V} {H : Hp} {Q : VK} {E : XK} (N : EqNo K CC) (hn : n ∈ nfN) (ha : ChA CC H a ns) (ty : TyX K H y (.type n)) (q : Q (.bl false) H) : rEqG K CC (spCeqA K CC) E (.ref a) y H Q := by
  obtain ⟨dx, p, e, r, hi, _⟩ := id ha
  exact ⟨a, dx, _, .type n, rfl, hi, ty, (N.at_ hn).1, a, ns, _, rfl, ha, .inl ⟨_, .x ty, (N.at_ hn).2, q⟩⟩
theorem ne_two {K : PySem.W.Frag} {CC a b : Addr} {ns ms : List Int} {H : Hp} {Q : VK} {E : XK} (ha : ChA CC H a ns) (hb : ChA CC H b ms) (q : Q (.bl (!decide (ns = ms))) H) : rNR CC (spCeqA K CC) E (.ref a) (.ref b) H Q := by
  obtain ⟨dx, p, e, r, hi, _⟩ := id ha
  obtain ⟨dy, p2, e2, r2, hj, _⟩ := id hb
  exact ⟨a, dx, _, b, dy, _, rfl, hi, rfl, hj, a, ns, _, rfl, ha, .inr ⟨b, ms, rfl, hb, _, rfl, q⟩⟩
theorem pen_int {H : Hp} {p pl b : Addr} {n : Nat} {ms : List Int} (hp : Pen H p pl n) (hb : H b = some (.lst (ms.map V.int))) : b ≠ p := by
  obtain ⟨xs, a, g, hh, _⟩ := hp
  intro e
  rw [e, hh.at_] at hb
  have := HO.lst.inj (Option.some.inj hb)
  cases ms <;> cases this
def spLeq (CC : Addr) : Sp := fun vs H Q _ => ∃ (p pl : Addr) (n : Nat) (c l : Addr) (ns : List Int), vs = [.ref p, .ref c, .ref l] ∧ Pen H p pl n ∧ n ≤ 100000 ∧ ChA CC H c ns ∧ H l = some (.lst (ns.map V.int)) ∧ l ≠ p ∧ SzB ns ∧ ns.length ≤ 8 ∧
  ∀ H', Pen H' p pl (n + 1) → Kp p H H' → Q (.bl true) H'
section
variable {P : Program} {w : World} {K : PySem.W.Frag} {mg : Str → Option Value} {base : Heap}
theorem scLeq : FnScope ["_law_pen_here", "_law_made_here", "_law_sizes_here", "_law_handed", "_law_again", "_law_bent", "_law_thing"] ["_law_pen_here", "_law_made_here", "_law_sizes_here"] (C8.fnScope sLeq) := C8.fnScope_by (by decide +kernel)
set_option maxHeartbeats 4000000 in
theorem cal_leq {f CC DC DS DM DN fI : Addr} {mc : Value} {fd : FuncData} (F : C8.Def K mg "_law_equal_right" sLeq f fd) (b : Binds K fd ["_law_pen_here", "_law_made_here", "_law_sizes_here"] [])
    (T : TxtM mg) (O : ChK P w K mg base CC DM DS DC DN fI mc) (XO : StO1 P w K mg base CC DM DS DC) (IC : C8.InsC K CC) (EN : EqNo K CC) (MS : MetX P w K mg base 2 CC "__str__" (spCst CC)) (DP : C8.Cal P w K mg base 2 "_law_pick" (spPick K) []) : C8.Cal P w K mg base 12 "_law_equal_right" (spLeq CC) [] := by
  have CM := O.CM
  have ME := O.ME
  have NC := O.NC
  obtain ⟨pO, gO, fdO, gUO, SO, FO, bO, KBO⟩ := XO.ex
  refine C8.cal0 F b .nil scLeq (fun vs H Q E h => ?_) (fun cdv A outer st H vs Q E hr h => ?_)
  · obtain ⟨p, pl, n, c', l, ns, rfl, _⟩ := h
    rfl
  · obtain ⟨p, pl, n, c', l, ns, rfl, hp, hn, hc, hl, lp, sb, ln, k⟩ := h
    refine ⟨_, (pss_cons (ps_set (i := 3) scLeq.nd rfl (Or.inl rfl) (pe_callTy call_list_of (by rfl) T.n_list (by decide +kernel) (pa_cons (pv 2) pa_nil)))
  (pss_cons (ps_set (i := 4) scLeq.nd rfl (Or.inl rfl) (pe_static (E := C8.E0) (pe_glob (v := .ref CC) (by rfl) CM.Z.hm rfl) SO FO (hr.mono (by decide)) bO .nil (passes_call takes0 (fun _ _ _ _ z => z)) (pa_cons (pv 3) pa_nil)))
  (pss_cons (ps_expr (pe_bm PySem.F.plainAttrs_list PySem.F.slot_list_append PySem.F.type_list_append mt_append (pv 3) (pa_cons pe_int pa_nil)))
  (pss_cons (ps_if (PW.pt (pw_or (pt_not (pt_cmpR (op_eqGK K rfl (E := C8.E0) ME (passes_call takes0 (fun _ _ _ _ z => z)) hr (by decide)) (pv 4) (pv 1) (nomark _))) (pw_or (pt_cmpR (op_neR (E := C8.E0) NC ME (passes_call takes0 (fun _ _ _ _ z => z)) hr (by decide)) (pv 4) (pv 1) (nomark _)) (pw_or1 (pt_cmpR (op_neD hr.units) (pe_fld (pv 4) rfl) (pe_callTy call_tuple_of (by rfl) T.n_tuple (by decide +kernel) (pa_cons (pv 2) pa_nil)) (nomark _)))))) (pss_one (ps_ret pe_bl)) pss_nil)
  (pss_cons (ps_set (i := 5) scLeq.nd rfl (Or.inl rfl) (C8.pe_c DP hr (by decide) (by rfl) (pa_cons (pv 0) (pa_cons (pe_lst (pa_cons (pe_op op_cat (pv 2) (pe_lst (pa_cons pe_int pa_nil))) (pa_cons (pe_op op_cat (pe_slL (pv 2) (po_some pe_int) po_none po_none) (pe_lst (pa_cons pe_int (pa_cons pe_int pa_nil)))) (pa_cons (pe_op op_cat (pe_lst (pa_cons pe_int pa_nil)) (pv 2)) pa_nil)))) pa_nil))))
  (pss_cons (ps_if (PW.pt (pw_or (pt_cmpR op_ne (pe_cmpR (op_eqGK K rfl (E := C8.E0) ME (passes_call takes0 (fun _ _ _ _ z => z)) hr (by decide)) (pe_static (E := C8.E0) (pe_glob (v := .ref CC) (by rfl) CM.Z.hm rfl) SO FO (hr.mono (by decide)) bO .nil (passes_call takes0 (fun _ _ _ _ z => z)) (pa_cons (pv 5) pa_nil)) (pv 1) (nomark _)) (pe_cmpR (op_eqD hr.units) (pv 5) (pv 2) (nomark _)) (nomark _)) (pw_or1 (pt_cmpR op_ne (pe_cmpR (op_neR (E := C8.E0) NC ME (passes_call takes0 (fun _ _ _ _ z => z)) hr (by decide)) (pe_static (E := C8.E0) (pe_glob (v := .ref CC) (by rfl) CM.Z.hm rfl) SO FO (hr.mono (by decide)) bO .nil (passes_call takes0 (fun _ _ _ _ z => z)) (pa_cons (pv 5) pa_nil)) (pv 1) (nomark _)) (pe_cmpR (op_neD hr.units) (pv 5) (pv 2) (nomark _)) (nomark _))))) (pss_one (ps_ret pe_bl)) pss_nil)
  (pss_one (ps_ret (pe_cmpR (op_eqD hr.units) (pe_lc (own := [("_law_thing", 6)]) (g := gName 6) rfl scLeq.nd (pi_list (pe_lst (pa_cons (pe_callTy call_tuple_of (by rfl) T.n_tuple (by decide +kernel) (pa_cons (pv 2) pa_nil)) (pa_cons (pv 2) (pa_cons (pe_fld (pv 1) rfl) (pa_cons pe_non (pa_cons (pe_callTy (call_strOwn (E := C8.E0) MS (passes_call takes0 (fun _ _ _ _ z => z)) hr (by decide)) (by rfl) T.n_str (by decide +kernel) (pa_cons (pv 1) pa_nil)) pa_nil))))))) (blkOk_by (own := [("_law_thing", 6)]) (N := ["_law_pen_here", "_law_made_here", "_law_sizes_here", "_law_handed", "_law_again", "_law_bent", "_law_thing"]) (sc := (C8.fnScope sLeq)) (by decide +kernel)) (fun _ _ _ _ _ => pg_name (i := 6) scLeq.nd rfl (Or.inl rfl)) (fun _ _ _ _ _ => pts_one (pt_cmpR (op_eqGK K rfl (E := C8.E0) ME (passes_call takes0 (fun _ _ _ _ z => z)) hr (by decide)) (pv 1) (pv 6) (nomark _))) (fun _ _ _ _ _ => (pv 6))) (pe_lst pa_nil) (nomark _)))))))))), ?_⟩
    have Z := CM.Z
    have lm : (ns.map V.int).length = ns.length := List.length_map _
    refine ⟨_, rfl, l, _, rfl, .inl (SqL.of hl), fun lh flh => ?_⟩
    have s1 := same_new (o := HO.lst (ns.map V.int)) flh
    have hh : upd H lh (HO.lst (ns.map V.int)) lh = some (.lst (ns.map V.int)) := upd_same
    revert s1 hh
    generalize upd H lh _ = H1
    intro s1 hh
    dsimp only [gName, tSeq]
    refine ⟨rfl, _, rfl, of_lst hh sb (by omega) fun ca H2 s2 f2 h2 => ?_⟩
    dsimp only [gName, tSeq]
    have hh2 := s2 _ _ hh
    refine ⟨_, rfl, .inl ⟨rfl, _, SqL.of hh2⟩, lh, _, _, rfl, rfl, hh2, (by rw [lm]; exact Nat.lt_of_le_of_lt ln (by decide)), ?_⟩
    have s3 : Same H (upd H2 lh (.lst (ns.map V.int ++ [V.int 7]))) := fun b o e => by
      rw [upd_ne (ne_of_none e flh)]
      exact s2 _ _ (s1 _ _ e)
    have hca := h2.lput hh2 (ns.map V.int ++ [V.int 7])
    clear s1 s2 hh f2 h2 hh2 flh
    revert s3 hca
    generalize upd H2 lh _ = H3
    intro s3 hca
    clear H1 H2
    have hc3 := hc.same s3
    have hl3 := s3 _ _ hl
    have hp3 := hp.keep s3
    have kk := Kp.of (p := p) s3
    clear hc hl hp s3
    dsimp only [tSeq]
    obtain ⟨dxa, pa, _, _, hia, hpa, _⟩ := id hca
    refine ⟨_, rfl, _, rfl, eq_two IC hca hc3 ⟨_, rfl, iteF' (by rw [decide_eq_true rfl]; rfl) ?_⟩⟩
    refine ⟨_, rfl, _, rfl, ne_two hca hc3 ⟨_, rfl, iteF' (by rw [decide_eq_true rfl]; rfl) ?_⟩⟩
    refine ⟨_, rfl, ca, CC, dxa, _, _, rfl, hia, Z.cl, Z.n1, chF_sizes _ _ _ _, _, rfl, l, _, rfl, .inl ⟨SqL.of hl3, fun t1 ft1 => ?_⟩⟩
    have s4 := same_new (o := HO.tup (ns.map V.int)) ft1
    refine ⟨tI ns, tI ns, .tup (SqT.of (s4 _ _ hpa)) (dp_ints _), .tup (SqT.of upd_same) (dp_ints _), shaped_tints _, shaped_tints _, _, rfl, iteF' (by rw [eqv_tI, decide_eq_true rfl]; rfl) ?_⟩
    have hc4 := hc3.same s4
    have hl4 := s4 _ _ hl3
    have hp4 := hp3.keep s4
    have kk2 := kk.trans (.of s4)
    clear hia hpa hc3 hl3 hp3 kk s4 hca
    revert hc4 hl4 hp4 kk2
    generalize upd H3 t1 _ = H4
    intro hc4 hl4 hp4 kk2
    clear ft1
    dsimp only [tNext, tSeq]
    have big : 5000 ≤ sizeLine := by decide
    refine ⟨_, rfl, _, rfl, (by show 1 ≤ sizeLine; decide), fun x1 fx1 => ⟨l, x1, _, _, rfl, rfl, same_new fx1 _ _ hl4, upd_same, (by rw [lm]; show ns.length + 1 ≤ sizeLine; omega), fun b1 fb1 => ?_⟩⟩
    have e1 : upd (upd H4 x1 (.lst [V.int 1])) b1 (.lst (ns.map V.int ++ [V.int 1])) b1 = some (.lst ((ns ++ [1]).map V.int)) := by rw [upd_same, List.map_append]; rfl
    have g1 := (same_new (o := HO.lst [V.int 1]) fx1).trans (same_new (o := HO.lst (ns.map V.int ++ [V.int 1])) fb1)
    revert e1 g1
    generalize upd (upd H4 x1 _) b1 _ = H5
    intro e1 g1
    clear fx1 fb1
    have hl5 := g1 _ _ hl4
    refine ⟨_, rfl, _, rfl, l, _, rfl, SqL.of hl5, slT_ne (by decide), fun x2 fx2 => ⟨(by show 2 ≤ sizeLine; decide), fun x3 fx3 => ?_⟩⟩
    obtain ⟨pk, hpk⟩ : ∃ pk, pk = pkI (plL (some 1) none none ns.length) ns := ⟨_, rfl⟩
    have lpk : pk.length ≤ 8 := by
      rw [hpk]
      exact Nat.le_trans (List.length_filterMap_le _ _) (sl_one ln (l := some 1) (u := none) (t := none) (by decide) (by decide) (by decide)).2.2
    have spk : SzB pk := fun v hv => by rw [hpk] at hv; exact sb v (pk_mem hv)
    have ex2 : pkV (plL (some 1) none none (ns.map V.int).length) (ns.map V.int) = pk.map V.int := by rw [lm, pk_ints, hpk]
    rw [ex2] at fx3 ⊢
    have n23 : x2 ≠ x3 := fun e => by rw [← e, upd_same] at fx3; cases fx3
    have lmk : (pk.map V.int).length = pk.length := List.length_map _
    refine ⟨x2, x3, _, _, rfl, rfl, same_new fx3 _ _ upd_same, upd_same, (by rw [lmk]; show pk.length + 2 ≤ sizeLine; omega), fun b2 fb2 => ?_⟩
    have e2 : upd (upd (upd H5 x2 (.lst (pk.map V.int))) x3 (.lst [V.int 3, V.int 3])) b2 (.lst (pk.map V.int ++ [V.int 3, V.int 3])) b2 = some (.lst ((pk ++ [3, 3]).map V.int)) := by rw [upd_same, List.map_append]; rfl
    have g2 := ((same_new (o := HO.lst (pk.map V.int)) fx2).trans (same_new (o := HO.lst [V.int 3, V.int 3]) fx3)).trans (same_new (o := HO.lst (pk.map V.int ++ [V.int 3, V.int 3])) fb2)
    revert e2 g2
    generalize upd (upd (upd H5 x2 _) x3 _) b2 _ = H6
    intro e2 g2
    clear fx2 fx3 fb2 n23 ex2 hpk
    refine ⟨(by show 1 ≤ sizeLine; decide), fun x4 fx4 => ⟨_, rfl, x4, l, _, _, rfl, rfl, upd_same, same_new fx4 _ _ (g2 _ _ hl5), (by rw [lm]; show 1 + ns.length ≤ sizeLine; omega), fun b3 fb3 => ?_⟩⟩
    have e3 : upd (upd H6 x4 (.lst [V.int 4])) b3 (.lst ([V.int 4] ++ ns.map V.int)) b3 = some (.lst (([4] ++ ns).map V.int)) := by rw [upd_same, List.map_append]; rfl
    have g3 := (same_new (o := HO.lst [V.int 4]) fx4).trans (same_new (o := HO.lst ([V.int 4] ++ ns.map V.int)) fb3)
    revert e3 g3
    generalize upd (upd H6 x4 _) b3 _ = H7
    intro e3 g3
    clear fx4 fb3
    refine ⟨(by show 3 ≤ sizeLine; decide), fun q fq => ?_⟩
    have gq := same_new (o := HO.lst [V.ref b1, V.ref b2, V.ref b3]) fq
    have hq : upd H7 q (.lst [V.ref b1, V.ref b2, V.ref b3]) q = some (.lst [V.ref b1, V.ref b2, V.ref b3]) := upd_same
    have gg := ((g1.trans g2).trans g3).trans gq
    have f1 := gq _ _ (g3 _ _ (g2 _ _ e1))
    have f2 := gq _ _ (g3 _ _ e2)
    have f3 := gq _ _ e3
    have hp7 := hp4.keep ((g1.trans g2).trans g3)
    have qp := hp7.ne_new fq
    revert hq gg f1 f2 f3
    generalize upd H7 q _ = H8
    intro hq gg f1 f2 f3
    have hp8 := hp4.keep gg
    have hc8 := hc4.same gg
    have hl8 := gg _ _ hl4
    have kk3 := kk2.trans (.of gg)
    clear g1 g2 g3 gq gg e1 e2 e3 hp7 hl5 hp4 hc4 hl4 kk2 fq
    refine ⟨p, pl, q, _, _, rfl, hp8, by omega, SqL.of hq, qp, (by show 0 < 3; decide), (by show 3 < 1000000; decide), fun j v H9 hj hp9 k9 => ?_⟩
    obtain ⟨bb, ms, rfl, hbb, sm, lms⟩ : ∃ bb ms, v = V.ref bb ∧ H9 bb = some (.lst (ms.map V.int)) ∧ SzB ms ∧ ms.length ≤ 10 := by
      have hv := List.mem_of_getElem? hj
      simp only [List.mem_cons, List.not_mem_nil, or_false] at hv
      rcases hv with rfl | rfl | rfl
      · refine ⟨b1, _, rfl, k9 _ _ (pen_int hp8 f1) f1, sb.app fun v hv => ?_, by rw [List.length_append]; show ns.length + 1 ≤ 10; omega⟩
        rw [List.mem_singleton.mp hv]; decide
      · refine ⟨b2, _, rfl, k9 _ _ (pen_int hp8 f2) f2, spk.app fun v hv => ?_, by rw [List.length_append]; show pk.length + 2 ≤ 10; omega⟩
        have : v = 3 := by simpa using hv
        rw [this]; decide
      · refine ⟨b3, _, rfl, k9 _ _ (pen_int hp8 f3) f3, SzB.app (fun v hv => ?_) sb, by rw [List.length_append]; show 1 + ns.length ≤ 10; omega⟩
        rw [List.mem_singleton.mp hv]; decide
    have hc9 := hc8.kp hp8 k9
    have hl9 := k9 _ _ lp hl8
    have kk4 := kk3.trans k9
    clear hc8 hl8 kk3 hj f1 f2 f3 hq hp8 k9 qp spk lpk
    dsimp only [gName, tSeq]
    have em : PyData.eqv (.list (ms.map PyData.int)) (.list (ns.map PyData.int)) = decide (ms = ns) := eqvs_ints ms ns
    refine ⟨rfl, _, rfl, of_lst hbb sm (by omega) fun cb H10 s10 f10 h10 => ?_⟩
    refine ⟨_, rfl, eq_two IC h10 (hc9.same s10) ⟨_, rfl, _, rfl, .list (ms.map PyData.int), .list (ns.map PyData.int), .lst (SqL.of (s10 _ _ hbb)) (dp_ints _), .lst (SqL.of (s10 _ _ hl9)) (dp_ints _), shaped_ints _, shaped_ints _, rfl, _, rfl, iteF' (by rw [em]; cases decide (ms = ns) <;> rfl) ?_⟩⟩
    refine ⟨rfl, _, rfl, of_lst (s10 _ _ hbb) sm (by omega) fun cd H11 s11 f11 h11 => ?_⟩
    have s12 := s10.trans s11
    refine ⟨_, rfl, ne_two h11 (hc9.same s12) ⟨_, rfl, _, rfl, .list (ms.map PyData.int), .list (ns.map PyData.int), .lst (SqL.of (s12 _ _ hbb)) (dp_ints _), .lst (SqL.of (s12 _ _ hl9)) (dp_ints _), shaped_ints _, shaped_ints _, rfl, _, rfl, iteF' (by rw [em]; cases decide (ms = ns) <;> rfl) ?_⟩⟩
    have hcB := hc9.same s12
    have hlB := s12 _ _ hl9
    have hpB := hp9.keep s12
    have kk5 := kk4.trans (.of s12)
    clear h10 h11 f10 f11 s10 s11 s12 hc9 hl9 hp9 kk4 hbb em
    dsimp only [tNext, tSeq]
    refine ⟨_, rfl, l, _, rfl, .inl ⟨SqL.of hlB, fun tt ftt => ?_⟩⟩
    have st := same_new (o := HO.tup (ns.map V.int)) ftt
    obtain ⟨dx, pz, e, r, hi, _⟩ := id (hcB.same st)
    refine ⟨_, rfl, _, rfl, c', CC, dx, _, _, rfl, hi, Z.cl, Z.n2, chF_total _ _ _ _, _, rfl, c', dx, _, rfl, hi, c', ns, rfl, (hcB.same st).weak, ⟨sb, by omega⟩, by omega, fun H12 s12 => ⟨_, rfl, (by show 5 ≤ sizeLine; decide), fun q2 fq2 => ?_⟩⟩
    have sq := same_new (o := HO.lst [V.ref tt, V.ref l, V.int ns.sum, V.non, V.str (S (chTx ns))]) fq2
    have ss := (st.trans s12).trans sq
    have ett := sq _ _ (s12 _ _ (upd_same (H := H11) (a := tt) (o := HO.tup (ns.map V.int))))
    refine ⟨q2, rfl, ⟨_, SqL.of upd_same⟩, fun D hD => ?_⟩
    have eq2 := upd_same (H := H12) (a := q2) (o := HO.lst [V.ref tt, V.ref l, V.int ns.sum, V.non, V.str (S (chTx ns))])
    refine lc_list (xs := [V.ref tt, V.ref l, V.int ns.sum, V.non, V.str (S (chTx ns))]) (fun i H' => Same (upd H12 q2 (HO.lst [V.ref tt, V.ref l, V.int ns.sum, V.non, V.str (S (chTx ns))])) H' ∧ H' D = some (.lst [])) ⟨same_new hD, upd_same⟩ (fun i H' _ h => SqL.of (h.1 _ _ eq2)) ?_ ?_
    · rintro i y H' hy ⟨s', hd⟩
      obtain ⟨nn, hnn, ty⟩ : ∃ nn, nn ∈ nfN ∧ TyX K H' y (.type nn) := by
        have hv := List.mem_of_getElem? hy
        simp only [List.mem_cons, List.not_mem_nil, or_false] at hv
        rcases hv with rfl | rfl | rfl | rfl | rfl
        · exact ⟨"tuple", by decide, .base (.tup (s' _ _ ett))⟩
        · exact ⟨"list", by decide, .base (.lst (s' _ _ (ss _ _ hlB)))⟩
        · exact ⟨"int", by decide, .base (.int _)⟩
        · exact ⟨"NoneType", by decide, .base .non⟩
        · exact ⟨"str", by decide, .base (.str _)⟩
      exact ⟨rfl, _, rfl, _, rfl, eq_no EN hnn ((hcB.same ss).same s') ty ⟨_, rfl, iteF ⟨s', hd⟩⟩⟩
    rintro H13 ⟨s13, hd⟩
    refine ⟨(by show 0 ≤ sizeLine; decide), fun q5 fq5 => ?_⟩
    have s5 := same_new (o := HO.lst []) fq5
    refine ⟨.list [], .list [], .lst (SqL.of (s5 _ _ hd)) .nil, .lst (SqL.of upd_same) .nil, shaped_ints [], shaped_ints [], ?_⟩
    exact k _ (((hpB.keep ss).keep s13).keep s5) (((kk5.trans (.of ss)).trans (.of s13)).trans (.of s5))
end
end Lw
namespace Lw
open PySem PySem.Spec PyProof.Rows L2
open SX PySem.NumText TL LamX ClX StX
set_option pp.maxSteps 900
abbrev sLrr : Stmt := top 37
theorem log30 {i : Int} (h : i.natAbs ≤ 10 ^ 31) : i.natAbs.log2 < 200 := log30' h
/-! ### a value that may be asked about, and its repr -/
def AR (K : PySem.W.Frag) (H : Hp) (v : V) (z : Str) : Prop := Anyv K H v ∧ Rp K H v z
def Od (K : PySem.W.Frag) (H : Hp) (v : V) (z : Str) : Prop := ((∀ a, v ≠ .ref a) ∧ ∀ H', AR K H' v z) ∨ ∃ a o, v = .ref a ∧ H a = some o ∧ (∀ ps, o ≠ .tbl ps) ∧ ∀ H', H' a = some o → AR K H' v z
/-- v stands elsewhere -/
def Off (v : V) (l : Addr) : Prop := ∀ a, v = .ref a → a ≠ l
theorem Od.get {K : PySem.W.Frag} {H : Hp} {v : V} {z : Str} (h : Od K H v z) : AR K H v z := by
  rcases h with ⟨_, h⟩ | ⟨a, o, _, e, _, h⟩
  · exact h H
  · exact h H e
theorem Od.move {K : PySem.W.Frag} {H H' : Hp} {v : V} {z : Str} (h : Od K H v z) (k : ∀ a o, v = .ref a → H a = some o → (∀ ps, o ≠ .tbl ps) → H' a = some o) : Od K H' v z := by
  rcases h with h | ⟨a, o, ev, e, n, h⟩
  · exact .inl h
  · exact .inr ⟨a, o, ev, k a o ev e n, n, h⟩
theorem Od.extn {K : PySem.W.Frag} {H H' : Hp} {v : V} {z : Str} (h : Od K H v z) (x : ExtN H H') : Od K H' v z := h.move fun a o _ e n => x a o e n
theorem Od.same {K : PySem.W.Frag} {H H' : Hp} {v : V} {z : Str} (h : Od K H v z) (s : Same H H') : Od K H' v z := h.extn (ExtN.of s)
theorem Od.kp {K : PySem.W.Frag} {H H' : Hp} {v : V} {z : Str} {p : Addr} (h : Od K H v z) (ne : Off v p) (k : Kp p H H') : Od K H' v z := h.move fun a o ev e _ => k a o (ne a ev) e
theorem Od.upd {K : PySem.W.Frag} {H : Hp} {v : V} {z : Str} {l : Addr} {o : HO} (h : Od K H v z) (ne : Off v l) : Od K (upd H l o) v z := h.move fun a u ev e _ => by rw [upd_ne (ne a ev)]; exact e
theorem Od.off {K : PySem.W.Frag} {H : Hp} {v : V} {z : Str} {l : Addr} (h : Od K H v z) (hl : H l = none) : Off v l := fun a ev => by
  rcases h with ⟨n, _⟩ | ⟨b, o, ev2, e, _⟩
  · exact absurd ev (n a)
  · rw [ev] at ev2
    cases ev2
    exact ne_of_none e hl
theorem od_non {K : PySem.W.Frag} {H : Hp} : Od K H .non "None" := .inl ⟨fun a e => (by cases e), fun _ => ⟨.non, .non⟩⟩
theorem od_int {K : PySem.W.Frag} {H : Hp} {i : Int} (h : i.natAbs ≤ 10 ^ 31) : Od K H (.int i) (toString i) := .inl ⟨fun a e => (by cases e), fun _ => ⟨.int i, .int i (Nat.lt_trans (log30 h) (by decide))⟩⟩
theorem od_bl {K : PySem.W.Frag} {H : Hp} (b : Bool) : Od K H (.bl b) (if b then "True" else "False") := .inl ⟨fun a e => (by cases e), fun _ => ⟨.bl b, .bl b⟩⟩
theorem od_str {K : PySem.W.Frag} {H : Hp} {z : Str} (h : (reprText z).length ≤ sizeLine) : Od K H (.str z) (reprText z) := .inl ⟨fun a e => (by cases e), fun _ => ⟨.str z, .str z h⟩⟩
theorem dp_intsG {K : PySem.W.Frag} {H : Hp} : ∀ xs : List Int, DpAll K H (xs.map V.int) (xs.map PyData.int)
  | [] => .nil
  | n :: r => .cons (.int n) (dp_intsG r)
theorem od_tup {K : PySem.W.Frag} {a : Addr} {H : Hp} {ns : List Int} (h : H a = some (.tup (ns.map V.int))) (h1 : (PyData.tuple (ns.map PyData.int)).showable = true) (h2 : (PyData.tuple (ns.map PyData.int)).hasDict = false) (h3 : (PyData.tuple (ns.map PyData.int)).depth ≤ 100) (h4 : (PyData.tuple (ns.map PyData.int)).shown.length ≤ sizeLine) : Od K H (.ref a) (PyData.tuple (ns.map PyData.int)).shown :=
  .inr ⟨a, _, rfl, h, fun ps z => (by cases z), fun H' e => ⟨.obj (.x (.base (.tup e))) (kit_ty (by decide +kernel)) (kit_ty (by decide +kernel)) (kit_ty (by decide +kernel)), .data (.tup (SqT.of e) (dp_intsG ns)) h1 h2 h3 h4⟩⟩
theorem od_lst {K : PySem.W.Frag} {a : Addr} {H : Hp} {ns : List Int} (h : H a = some (.lst (ns.map V.int))) (h1 : (PyData.list (ns.map PyData.int)).showable = true) (h2 : (PyData.list (ns.map PyData.int)).hasDict = false) (h3 : (PyData.list (ns.map PyData.int)).depth ≤ 100) (h4 : (PyData.list (ns.map PyData.int)).shown.length ≤ sizeLine) : Od K H (.ref a) (PyData.list (ns.map PyData.int)).shown :=
  .inr ⟨a, _, rfl, h, fun ps z => (by cases z), fun H' e => ⟨.obj (.x (.base (.lst e))) (kit_ty (by decide +kernel)) (kit_ty (by decide +kernel)) (kit_ty (by decide +kernel)), .data (.lst (SqL.of e) (dp_intsG ns)) h1 h2 h3 h4⟩⟩
theorem off_no {v : V} {l : Addr} (h : ∀ a, v ≠ .ref a) : Off v l := fun a e => absurd e (h a)
theorem off_ref {a l : Addr} (h : a ≠ l) : Off (.ref a) l := fun b e => by cases e; exact h
/-- what is shown of such a value may be laid out -/
theorem Rp.lay {K : PySem.W.Frag} {H : Hp} {v : V} {z : Str} (h : AR K H v z) (k : PyData.canLay0 (.str z) = true) : PyData.canLay0 (.str z) = true := k
/-! ### answers gathered in a list -/
structure Acc (H : Hp) (l : Addr) (ts : List Addr) (x : List V) : Prop where
  at_ : H l = some (.lst (ts.map V.ref))
  all : ∀ t ∈ ts, H t = some (.tup x)
theorem Acc.extn {H H' : Hp} {l : Addr} {ts : List Addr} {x : List V} (a : Acc H l ts x) (e : ExtN H H') : Acc H' l ts x := ⟨e _ _ a.at_ (fun ps z => by cases z), fun t ht => e _ _ (a.all t ht) (fun ps z => by cases z)⟩
theorem Acc.push {H : Hp} {l t : Addr} {ts : List Addr} {x : List V} (a : Acc H l ts x) (h : H t = some (.tup x)) : Acc (upd H l (.lst (ts.map V.ref ++ [V.ref t]))) l (ts ++ [t]) x := by
  have ne : ∀ {u : Addr}, H u = some (.tup x) → u ≠ l := fun e z => by rw [z, a.at_] at e; cases e
  refine ⟨by rw [upd_same, List.map_append]; rfl, fun u hu => ?_⟩
  rcases List.mem_append.mp hu with hu | hu
  · rw [upd_ne (ne (a.all u hu))]; exact a.all u hu
  · rw [List.mem_singleton.mp hu, upd_ne (ne h)]; exact h
theorem Acc.one {H : Hp} {l t : Addr} {x : List V} (hl : H l = none) (h : H t = some (.tup x)) : Acc (upd H l (.lst [V.ref t])) l [t] x := by
  refine ⟨upd_same, fun u hu => ?_⟩
  rw [List.mem_singleton.mp hu, upd_ne (ne_of_none h hl)]; exact h
theorem dp_reps {K : PySem.W.Frag} {H : Hp} {d : PyData} : ∀ {ts : List Addr}, (∀ t ∈ ts, Dp K H (.ref t) d) → DpAll K H (ts.map V.ref) (List.replicate ts.length d)
  | [], _ => .nil
  | t :: r, h => .cons (h t List.mem_cons_self) (dp_reps fun u hu => h u (List.mem_cons_of_mem _ hu))
theorem Acc.dp {K : PySem.W.Frag} {H : Hp} {l : Addr} {ts : List Addr} {x : List V} {d : PyData} (a : Acc H l ts x) (h : ∀ t, H t = some (.tup x) → Dp K H (.ref t) d) : Dp K H (.ref l) (.list (List.replicate ts.length d)) := .lst (SqL.of a.at_) (dp_reps fun t ht => h t (a.all t ht))
theorem shaped_reps {d : PyData} (h : d.canLay0 = true) (hd : d.depth ≤ 10) (n : Nat) : SeqAt.shaped (.list (List.replicate n d)) = true := by
  have h1 : ∀ n, PyData.canLayAll0 (List.replicate n d) = true := fun n => by
    induction n with
    | zero => rfl
    | succ n ih => rw [List.replicate_succ]; show (d.canLay0 && PyData.canLayAll0 (List.replicate n d)) = true; rw [h, ih]; rfl
  have h2 : ∀ n, PyData.depthAll (List.replicate n d) ≤ 10 := fun n => by
    induction n with
    | zero => exact Nat.zero_le _
    | succ n ih => rw [List.replicate_succ]; show max d.depth (PyData.depthAll (List.replicate n d)) ≤ 10; omega
  unfold SeqAt.shaped
  rw [show PyData.canLay0 (.list (List.replicate n d)) = true from h1 n]
  have h3 : PyData.depth (.list (List.replicate n d)) ≤ 64 := by
    show PyData.depthAll (List.replicate n d) + 1 ≤ 64
    have := h2 n
    omega
  rw [decide_eq_true h3]; rfl
theorem eqv_reps {d : PyData} (h : PyData.eqv d d = true) (n : Nat) : PyData.eqv (.list (List.replicate n d)) (.list (List.replicate n d)) = true := by
  show PyData.eqvAll (List.replicate n d) (List.replicate n d) = true
  induction n with
  | zero => rfl
  | succ n ih => rw [List.replicate_succ]; show (PyData.eqv d d && PyData.eqvAll (List.replicate n d) (List.replicate n d)) = true; rw [h, ih]; rfl
/-- a tuple of two texts -/
def p2 (a b : Str) : PyData := .tuple [.str a, .str b]
theorem dp_p2 {K : PySem.W.Frag} {H : Hp} {t : Addr} {a b : Str} (h : H t = some (.tup [.str a, .str b])) : Dp K H (.ref t) (p2 a b) := .tup (SqT.of h) (.cons (.str _) (.cons (.str _) .nil))
theorem lay_p2 {a b : Str} (ha : PyData.canLay0 (.str a) = true) (hb : PyData.canLay0 (.str b) = true) : (p2 a b).canLay0 = true := by
  show (PyData.canLay0 (.str a) && (PyData.canLay0 (.str b) && true)) = true
  rw [ha, hb]; rfl
theorem eqv_p2 (a b : Str) : PyData.eqv (p2 a b) (p2 a b) = true := by simp [p2, PyData.eqv, PyData.eqvAll]
/-! ### refusals -/
section
variable {K : PySem.W.Frag} {CC DM DS DT DC DN : Addr} {H : Hp} {Q : VK} {E : XK}
theorem hd_size {x : V} {z : Str} (o : Od K H x z) (k : ∀ t H8, Same H H8 → H t = none → H8 t = some (.tup [.str (Str.ofString "size"), .str z]) → Q (.ref t) H8) : Bf DS "value" x H (HeardX K DC DS DT DN DM Q) := fun d fs H7 s7 hd f1 =>
  have s8 : Same H (upd H7 d (.xd fs)) := s7.trans (same_new hd)
  .inr (.inl ⟨rfl, d, fs, x, z, rfl, upd_same, f1, (o.same s8).get.2, fun t H8 s9 n9 h9 => k t H8 (s8.trans s9) (s8.free n9) h9⟩)
theorem hd_part (k : ∀ t H8, Same H H8 → H t = none → H8 t = some (.tup [.str (Str.ofString "chunks"), .str (Str.ofString "sizes")]) → Q (.ref t) H8) : Bf DC "part" (.str (Str.ofString "sizes")) H (HeardX K DC DS DT DN DM Q) := fun d fs H7 s7 hd f1 =>
  have s8 : Same H (upd H7 d (.xd fs)) := s7.trans (same_new hd)
  .inl ⟨rfl, d, fs, _, rfl, upd_same, f1, fun t H8 s9 n9 h9 => k t H8 (s8.trans s9) (s8.free n9) h9⟩
/-- the first that is wrong -/
theorem mko_bad {xs ys : List V} {v : V} (hx : ∀ y ∈ xs, isZ y = true) (hv : isZ v = false) (h : Bf DS "value" v H E) : MkO CC DM DS (xs ++ v :: ys) H Q E := by
  have ev : (xs ++ v :: ys)[xs.length]? = some v := by rw [List.getElem?_append_right (Nat.le_refl _), Nat.sub_self]; rfl
  refine ⟨fun i y e g z => ?_, fun ms e sb => ?_⟩
  · rcases Nat.lt_trichotomy i xs.length with c | c | c
    · rw [List.getElem?_append_left c] at e
      rw [hx y (List.mem_of_getElem? e)] at z
      cases z
    · subst c
      rw [ev] at e
      cases e
      exact h
    · have := g _ _ c ev
      rw [hv] at this
      cases this
  · have hm : v ∈ ms.map V.int := by rw [← e]; exact List.mem_append.mpr (.inr List.mem_cons_self)
    obtain ⟨x, hx', rfl⟩ := List.mem_map.mp hm
    rw [isZ_of (sb x hx').1 (sb x hx').2] at hv
    cases hv
theorem ci_anyT {ta : TA} {σ : L2.St} {xs : List V} (ht : ∀ R : List V → Hp → Prop, R xs H → ta σ H R) (av : ∀ y ∈ xs, Anyv K H y) (l : xs.length ≤ 20000) (h : MkO CC DM DS xs H Q E) : tMakeR CC (spSt K CC DM DS) E ta σ H Q :=
  ht _ fun x dx hx hdx ne => ci_made (Q := Q) h av l x dx hx hdx ne
theorem ints_z {ns : List Int} (sb : SzB ns) : ∀ y ∈ ns.map V.int, isZ y = true := fun y hy => by
  obtain ⟨x, hx, rfl⟩ := List.mem_map.mp hy
  exact isZ_of (sb x hx).1 (sb x hx).2
end
theorem od_dnil {K : PySem.W.Frag} {a : Addr} {H : Hp} (h : H a = some (.dK [])) : Od K H (.ref a) (PyData.dict []).shown :=
  .inr ⟨a, _, rfl, h, fun ps z => (by cases z), fun H' e => ⟨.obj (.x (.base (.dK e))) (kit_ty (by decide +kernel)) (kit_ty (by decide +kernel)) (kit_ty (by decide +kernel)), .dnil e⟩⟩
section
variable {X : Cx}
def rTof (K : PySem.W.Frag) : List V → Hp → VK → Prop := fun xs H Q => ∃ p ys, xs = [.ref p] ∧ ((SqL K H p ys ∧ ∀ l, H l = none → Q (.ref l) (upd H l (.tup ys))) ∨ (SqT K H p ys ∧ Q (.ref p) H))
theorem call_tuple_ofK (K' : PySem.W.Frag) (hK : X.K = K') : CallR X (.type "tuple") (rTof K') := by
  subst hK
  exact call_tuple_of
end
def D5 (z : Str) : PyData := .list [pSt (Str.ofString "size") z, pSt (Str.ofString "size") z, pSt (Str.ofString "size") z, pSt (Str.ofString "size") z, pSt (Str.ofString "chunks") (Str.ofString "sizes")]
theorem shaped_D5 {z : Str} (hz : PyData.canLay0 (.str z) = true) : SeqAt.shaped (D5 z) = true := by
  have h1 : PyData.canLay0 (D5 z) = true := by
    show ((pSt (Str.ofString "size") z).canLay0 && ((pSt (Str.ofString "size") z).canLay0 && ((pSt (Str.ofString "size") z).canLay0 && ((pSt (Str.ofString "size") z).canLay0 && ((pSt (Str.ofString "chunks") (Str.ofString "sizes")).canLay0 && true))))) = true
    rw [lay_pSt (by decide +kernel) hz, lay_pSt (a := Str.ofString "chunks") (b := Str.ofString "sizes") (by decide +kernel) (by decide +kernel)]; rfl
  unfold SeqAt.shaped
  rw [h1]; rfl
theorem eqv_D5 (z : Str) : PyData.eqv (D5 z) (D5 z) = true := by simp [D5, pSt, PyData.eqv, PyData.eqvAll]
theorem dp_D5 {K : PySem.W.Frag} {H : Hp} {l a b c d e : Addr} {z : Str} (hl : H l = some (.lst [V.ref a, V.ref b, V.ref c, V.ref d, V.ref e])) (ha : H a = some (.tup [.str (Str.ofString "size"), .str z])) (hb : H b = some (.tup [.str (Str.ofString "size"), .str z])) (hc : H c = some (.tup [.str (Str.ofString "size"), .str z])) (hd : H d = some (.tup [.str (Str.ofString "size"), .str z])) (he : H e = some (.tup [.str (Str.ofString "chunks"), .str (Str.ofString "sizes")])) : Dp K H (.ref l) (D5 z) :=
  .lst (SqL.of hl) (.cons (dp_pSt ha) (.cons (dp_pSt hb) (.cons (dp_pSt hc) (.cons (dp_pSt hd) (.cons (dp_pSt he) .nil)))))
/-- neither a list nor a tuple, and stays so -/
def NsP (K : PySem.W.Frag) (H : Hp) (x : V) : Prop := (∀ H', NoSeq K H' x) ∨ ∃ a o, x = .ref a ∧ H a = some o ∧ (∀ ps, o ≠ .tbl ps) ∧ (∀ ys, o ≠ .lst ys) ∧ ∀ H', H' a = some o → NoSeq K H' x
theorem NsP.get {K : PySem.W.Frag} {H : Hp} {x : V} (h : NsP K H x) : NoSeq K H x := by
  rcases h with h | ⟨a, o, _, e, _, _, h⟩
  · exact h H
  · exact h H e
theorem NsP.extn {K : PySem.W.Frag} {H H' : Hp} {x : V} (h : NsP K H x) (e : ExtN H H') : NsP K H' x := by
  rcases h with h | ⟨a, o, ev, ea, n, l, h⟩
  · exact .inl h
  · exact .inr ⟨a, o, ev, e _ _ ea n, n, l, h⟩
theorem NsP.put {K : PySem.W.Frag} {H : Hp} {x : V} {l : Addr} {xs ys : List V} (h : NsP K H x) (hl : H l = some (.lst xs)) : NsP K (upd H l (.lst ys)) x := by
  rcases h with h | ⟨a, o, ev, ea, n, nl, h⟩
  · exact .inl h
  · refine .inr ⟨a, o, ev, ?_, n, nl, h⟩
    rw [upd_ne (fun z => by rw [z, hl] at ea; exact nl _ (Option.some.inj ea).symm)]
    exact ea
theorem no_lt {K : PySem.W.Frag} {n : String} (h1 : PySem.W.kitOne K (.type n) (.type "list") = some false) (h2 : PySem.W.kitOne K (.type n) (.type "tuple") = some false) : PySem.W.kitAny K (.type n) [.type "list", .type "tuple"] = some false :=
  kitAny_cons h1 (fun _ => kitAny_cons h2 (fun _ => rfl) (fun z => by cases z)) (fun z => by cases z)
structure Gq (K : PySem.W.Frag) (TS : List (Addr × Str)) (p pl : Addr) (n : Nat) (v u x : V) (zv zu : Str) (x7 : Addr) (L : List V) (H : Hp) : Prop where
  hp : Pen H p pl n
  ht : Tabs TS H
  ov : Od K H v zv
  ou : Od K H u zu
  nx : NsP K H x
  h7 : H x7 = some (.lst L)
structure FrQ (p pl : Addr) (v u : V) (x7 l : Addr) : Prop where
  n1 : l ≠ p
  n2 : l ≠ pl
  n3 : Off v l
  n4 : Off u l
  n5 : l ≠ x7
section
variable {K : PySem.W.Frag} {TS : List (Addr × Str)} {p pl l x7 : Addr} {n : Nat} {v u x : V} {zv zu : Str} {L : List V} {H H' : Hp}
theorem Gq.fr (g : Gq K TS p pl n v u x zv zu x7 L H) (h : H l = none) : FrQ p pl v u x7 l := ⟨g.hp.ne_new h, g.hp.ne_new2 h, g.ov.off h, g.ou.off h, (ne_of_none g.h7 h).symm⟩
theorem Gq.ext (g : Gq K TS p pl n v u x zv zu x7 L H) (e : ExtN H H') (t : Tabs TS H') : Gq K TS p pl n v u x zv zu x7 L H' := ⟨Lw.Pen.extn g.hp e, t, g.ov.extn e, g.ou.extn e, g.nx.extn e, e _ _ g.h7 (fun ps z => by cases z)⟩
theorem Gq.same (g : Gq K TS p pl n v u x zv zu x7 L H) (s : Same H H') : Gq K TS p pl n v u x zv zu x7 L H' := g.ext (ExtN.of s) (g.ht.ext s)
theorem Gq.put {xs ys : List V} (g : Gq K TS p pl n v u x zv zu x7 L H) (f : FrQ p pl v u x7 l) (h : H l = some (.lst xs)) : Gq K TS p pl n v u x zv zu x7 L (upd H l (.lst ys)) :=
  ⟨g.hp.over f.n1 f.n2, Lw.Tabs.put g.ht h, g.ov.upd f.n3, g.ou.upd f.n4, g.nx.put h, by rw [upd_ne f.n5.symm]; exact g.h7⟩
theorem bent_av {a1 a2 : List Int} (ov : Od K H v zv) (ou : Od K H u zu) : ∀ y ∈ a1.map V.int ++ v :: (a2.map V.int ++ [u]), Anyv K H y := fun y hy => by
  rcases List.mem_append.mp hy with hy | hy
  · exact any_ints K H a1 y hy
  · rcases List.mem_cons.mp hy with rfl | hy
    · exact ov.get.1
    · rcases List.mem_append.mp hy with hy | hy
      · exact any_ints K H a2 y hy
      · rw [List.mem_singleton.mp hy]; exact ou.get.1
end
def spLrr (T : List (Addr × Str)) : Sp := fun vs H Q _ => ∃ (p pl : Addr) (n : Nat) (l : Addr) (ns : List Int), vs = [.ref p, .ref l] ∧ Pen H p pl n ∧ n ≤ 100000 ∧ H l = some (.lst (ns.map V.int)) ∧ l ≠ p ∧ SzB ns ∧ ns.length ≤ 8 ∧ Tabs T H ∧
  ∀ H', Pen H' p pl (n + 40) → Tabs T H' → Q (.bl true) H'
section
variable {P : Program} {w : World} {K : PySem.W.Frag} {mg : Str → Option Value} {base : Heap}
theorem scLrr : FnScope ["_law_pen_here", "_law_sizes_here", "_law_some", "_law_bent", "_law_strange", "_law_heard_here", "_law_odd", "_law_spot"] ["_law_pen_here", "_law_sizes_here"] (C8.fnScope sLrr) := C8.fnScope_by (by decide +kernel)
set_option maxHeartbeats 4000000 in
theorem cal_lrr {f c B CC DC DS DT DN DM L gH fI : Addr} {TS : List (Addr × Str)} {mc : Value} {fd fdH : FuncData} (F : DefC K mg "_law_refused_right" sLrr f fd c) (b : Binds K fd ["_law_pen_here", "_law_sizes_here"] []) (FH : C8.Def K mg "_law_heard" sHea gH fdH) (bH : Binds K fdH ["_law_ask"] []) (TB : TabB base mg c B) (TO : TabOf TS B "_law_refused_right")
    (R : Hrd K mg DC DS DT DN DM L) (T : TxtM mg) (O : ChK P w K mg base CC DM DS DC DN fI mc) (XO : StO1 P w K mg base CC DM DS DC) (IC : C8.InsC K CC) (nsq : PySem.W.kitAny K (.ref CC) [.type "list", .type "tuple"] = some false) (DD : C8.Cal P w K mg base 1 "_law_draw" spDraw []) (DP : C8.Cal P w K mg base 2 "_law_pick" (spPick K) []) : CalG P w K mg base 15 "_law_refused_right" (spLrr TS) [] := by
  have CM := O.CM
  obtain ⟨ocH, odH, dVH, kVH, docH, pmH, anH, cdvH, ctH, oslH, rfl, lkH, cdH⟩ := FH.fn.ex
  obtain ⟨pO, gO, fdO, gUO, SO, FO, bO, KBO⟩ := XO.ex
  refine calGC F b .nil scLrr (fun vs H Q E h => ?_) (fun A outer st H vs Q E hG hr h => ?_)
  · obtain ⟨p, pl, n, l, ns, rfl, _⟩ := h
    rfl
  · obtain ⟨p, pl, n, l, ns, rfl, hp, hn, hl, lp, sb, ln, ht, k⟩ := h
    refine ⟨_, (pss_cons (ps_set (i := 2) scLrr.nd rfl (Or.inl rfl) (pe_lst (pa_cons pe_non (pa_cons pe_int (pa_cons (pe_un un_neg pe_int) (pa_cons pe_bl (pa_cons pe_str (pa_cons (pe_tup (pa_cons pe_int pa_nil)) (pa_cons (pe_lst (pa_cons pe_int pa_nil)) (pa_cons pe_dnewK (pa_cons (pe_op op_add (pe_op op_pow pe_int pe_int) pe_int) pa_nil)))))))))))
  (pss_cons (ps_asg (pe_tup (pa_cons (C8.pe_c DP hr (by decide) (by rfl) (pa_cons (pv 0) (pa_cons (pv 2) pa_nil))) (pa_cons (C8.pe_c DD hr (by decide) (by rfl) (pa_cons (pv 0) (pa_cons (pe_op op_add (pe_callB call_len_seq (by rfl) T.n_len (by decide +kernel) (pa_cons (pv 1) pa_nil)) pe_int) pa_nil))) pa_nil))) (pg_tup (by rfl) (pgs_cons (pg_name (i := 6) scLrr.nd rfl (Or.inr rfl)) (pgs_cons (pg_name (i := 7) scLrr.nd rfl (Or.inl rfl)) pgs_nil))))
  (pss_cons (ps_set (i := 3) scLrr.nd rfl (Or.inr rfl) (pe_op op_cat (pe_op op_cat (pe_op op_cat (pe_slL (pv 1) po_none (po_some (pv 7)) po_none) (pe_lst (pa_cons (pv 6) pa_nil))) (pe_slL (pv 1) (po_some (pv 7)) po_none po_none)) (pe_lst (pa_cons (C8.pe_c DP hr (by decide) (by rfl) (pa_cons (pv 0) (pa_cons (pv 2) pa_nil))) pa_nil))))
  (pss_cons (ps_set (i := 4) scLrr.nd rfl (Or.inr rfl) (C8.pe_c DP hr (by decide) (by rfl) (pa_cons (pv 0) (pa_cons (pe_lst (pa_cons pe_non (pa_cons pe_int (pa_cons pe_str (pa_cons pe_dnewK (pa_cons (pe_disp (pps_cons pe_int pe_int pps_nil) (by rfl) (by rfl) (fun z => by cases z) (by decide)) (pa_cons pe_bl (pa_cons (pe_makeR (E := C8.E0) CM.M CM.F (hr.mono (by decide)) (by rfl) CM.Z.hm (passes_call takes0 (fun _ _ _ _ z => z)) (pa_cons pe_int pa_nil)) pa_nil)))))))) pa_nil))))
  (pss_cons (ps_set (i := 5) scLrr.nd rfl (Or.inl rfl) (pe_lst (pa_cons (pe_lamcall (k := 12) (T := TS) (TT := TTheard K DC DS DT DN DM) (by rfl) FH.mgf FH.kp lkH cdH bH scHea rfl (.inl rfl) (heard_gives R T.toTxt hG (hr.mono (by decide))) TB rfl TO.mem TO.own (hr.mono (by decide)) (lamS_by (by rfl)) rfl (fun _ _ _ _ _ => rfl)
      (fun A outer s H E f c2 hr2 => (by exact (pe_static (pe_glob (v := .ref CC) (by rfl) CM.Z.hm rfl) SO FO (hr2.mono (by decide)) bO .nil (passes_call (takes_of rfl rfl rfl rfl) (fun _ _ _ _ z => z)) (pa_cons (pv 3) pa_nil))))) pa_nil)))
  (pss_cons (ps_expr (pe_bm PySem.F.plainAttrs_list PySem.F.slot_list_append PySem.F.type_list_append mt_append (pv 5) (pa_cons (pe_lamcall (k := 12) (T := TS) (TT := TTheard K DC DS DT DN DM) (by rfl) FH.mgf FH.kp lkH cdH bH scHea rfl (.inl rfl) (heard_gives R T.toTxt hG (hr.mono (by decide))) TB rfl TO.mem TO.own (hr.mono (by decide)) (lamS_by (by rfl)) rfl (fun _ _ _ _ _ => rfl)
      (fun A outer s H E f c2 hr2 => (by exact (pe_static (pe_glob (v := .ref CC) (by rfl) CM.Z.hm rfl) SO FO (hr2.mono (by decide)) bO .nil (passes_call (takes_of rfl rfl rfl rfl) (fun _ _ _ _ z => z)) (pa_cons (pe_callTy (call_tuple_ofK K rfl) (by rfl) T.n_tuple (by decide +kernel) (pa_cons (pv 3) pa_nil)) pa_nil))))) pa_nil)))
  (pss_cons (ps_expr (pe_bm PySem.F.plainAttrs_list PySem.F.slot_list_append PySem.F.type_list_append mt_append (pv 5) (pa_cons (pe_lamcall (k := 12) (T := TS) (TT := TTheard K DC DS DT DN DM) (by rfl) FH.mgf FH.kp lkH cdH bH scHea rfl (.inl rfl) (heard_gives R T.toTxt hG (hr.mono (by decide))) TB rfl TO.mem TO.own (hr.mono (by decide)) (lamS_by (by rfl)) rfl (fun _ _ _ _ _ => rfl)
      (fun A outer s H E f c2 hr2 => (by exact (pe_makeR CM.M CM.F (hr2.mono (by decide)) (by rfl) CM.Z.hm (passes_call (takes_of rfl rfl rfl rfl) (fun _ _ _ _ z => z)) (pa_cons (pv 6) pa_nil))))) pa_nil)))
  (pss_cons (ps_expr (pe_bm PySem.F.plainAttrs_list PySem.F.slot_list_append PySem.F.type_list_append mt_append (pv 5) (pa_cons (pe_lamcall (k := 12) (T := TS) (TT := TTheard K DC DS DT DN DM) (by rfl) FH.mgf FH.kp lkH cdH bH scHea rfl (.inl rfl) (heard_gives R T.toTxt hG (hr.mono (by decide))) TB rfl TO.mem TO.own (hr.mono (by decide)) (lamS_by (by rfl)) rfl (fun _ _ _ _ _ => rfl)
      (fun A outer s H E f c2 hr2 => (by exact (pe_makeR CM.M CM.F (hr2.mono (by decide)) (by rfl) CM.Z.hm (passes_call (takes_of rfl rfl rfl rfl) (fun _ _ _ _ z => z)) (pa_cons pe_int (pa_cons (pv 6) (pa_cons pe_non pa_nil))))))) pa_nil)))
  (pss_cons (ps_expr (pe_bm PySem.F.plainAttrs_list PySem.F.slot_list_append PySem.F.type_list_append mt_append (pv 5) (pa_cons (pe_lamcall (k := 12) (T := TS) (TT := TTheard K DC DS DT DN DM) (by rfl) FH.mgf FH.kp lkH cdH bH scHea rfl (.inl rfl) (heard_gives R T.toTxt hG (hr.mono (by decide))) TB rfl TO.mem TO.own (hr.mono (by decide)) (lamS_by (by rfl)) rfl (fun _ _ _ _ _ => rfl)
      (fun A outer s H E f c2 hr2 => (by exact (pe_static (pe_glob (v := .ref CC) (by rfl) CM.Z.hm rfl) SO FO (hr2.mono (by decide)) bO .nil (passes_call (takes_of rfl rfl rfl rfl) (fun _ _ _ _ z => z)) (pa_cons (pv 4) pa_nil))))) pa_nil)))
  (pss_one (ps_ret (pe_cmpR (op_eqD hr.units) (pv 5) (pe_op op_cat (pe_op op_rep (pe_lst (pa_cons (pe_tup (pa_cons pe_str (pa_cons (pe_callB (call_reprX hG (hr.mono (by decide))) (by rfl) T.n_repr (by decide +kernel) (pa_cons (pv 6) pa_nil)) pa_nil))) pa_nil)) pe_int) (pe_lst (pa_cons (pe_tup (pa_cons pe_str (pa_cons pe_str pa_nil))) pa_nil))) (nomark _))))))))))))), ?_⟩
    have lm : (ns.map V.int).length = ns.length := List.length_map _
    refine ⟨_, rfl, (by show 1 ≤ sizeLine; decide), fun tq ftq => ⟨(by show 1 ≤ sizeLine; decide), fun lq flq dq fdq => ⟨_, _, rfl, rfl, (by unfold CPow; decide), _, _, rfl, rfl, (by show 9 ≤ sizeLine; decide), fun q fq => ?_⟩⟩⟩
    have s1 := same_new (o := HO.tup [V.int 1]) ftq
    have s2 := same_new (o := HO.lst [V.int 2]) flq
    have s3 := same_new (o := HO.dK []) fdq
    have e1 := s3 _ _ (s2 _ _ (upd_same (H := H) (a := tq) (o := HO.tup [V.int 1])))
    have e2 := s3 _ _ (upd_same (H := upd H tq (HO.tup [V.int 1])) (a := lq) (o := HO.lst [V.int 2]))
    have e3 := upd_same (H := upd (upd H tq (HO.tup [V.int 1])) lq (HO.lst [V.int 2])) (a := dq) (o := HO.dK [])
    have tqp := hp.ne_new ftq
    have lqp := (hp.keep s1).ne_new flq
    have dqp := ((hp.keep s1).keep s2).ne_new fdq
    have s123 := (s1.trans s2).trans s3
    have hp1 := hp.keep s123
    have qp := hp1.ne_new fq
    generalize hL : upd (upd (upd (upd H tq (HO.tup [V.int 1])) lq (HO.lst [V.int 2])) dq (HO.dK [])) q _ = H1
    have sq : Same (upd (upd (upd H tq (HO.tup [V.int 1])) lq (HO.lst [V.int 2])) dq (HO.dK [])) H1 := by rw [← hL]; exact same_new fq
    obtain ⟨xs, hxs⟩ : ∃ xs, xs = [V.non, V.int 0, V.int (-1), V.bl true, V.str (Str.ofString "1"), V.ref tq, V.ref lq, V.ref dq, V.int ((10 : Int) ^ (30 : Int).toNat + 1)] := ⟨_, rfl⟩
    have hq1 : H1 q = some (.lst xs) := by rw [← hL, hxs]; exact upd_same
    have s1' := s123.trans sq
    have hp2 := hp1.keep sq
    have ht2 := ht.ext s1'
    have hl2 := s1' _ _ hl
    have lxs : xs.length = 9 := by rw [hxs]; rfl
    replace e1 := sq _ _ e1
    replace e2 := sq _ _ e2
    replace e3 := sq _ _ e3
    have od : ∀ {H' : Hp} {v : V}, H' tq = some (.tup [V.int 1]) → H' lq = some (.lst [V.int 2]) → H' dq = some (.dK []) → v ∈ xs → ∃ z, Od K H' v z ∧ Off v p ∧ isZ v = false ∧ PyData.canLay0 (.str z) = true := by
      intro H' v g1 g2 g3 hv
      rw [hxs] at hv
      simp only [List.mem_cons, List.not_mem_nil, or_false] at hv
      rcases hv with rfl | rfl | rfl | rfl | rfl | rfl | rfl | rfl | rfl
      · exact ⟨_, od_non, off_no (fun a e => by cases e), rfl, by decide +kernel⟩
      · exact ⟨_, od_int (by decide), off_no (fun a e => by cases e), by decide +kernel, strOk_int _⟩
      · exact ⟨_, od_int (by decide), off_no (fun a e => by cases e), by decide +kernel, strOk_int _⟩
      · exact ⟨_, od_bl true, off_no (fun a e => by cases e), rfl, by decide +kernel⟩
      · exact ⟨_, od_str (by decide +kernel), off_no (fun a e => by cases e), rfl, by decide +kernel⟩
      · exact ⟨_, od_tup (ns := [1]) g1 (by decide +kernel) (by decide +kernel) (by decide +kernel) (by decide +kernel), off_ref tqp, rfl, by decide +kernel⟩
      · exact ⟨_, od_lst (ns := [2]) g2 (by decide +kernel) (by decide +kernel) (by decide +kernel) (by decide +kernel), off_ref lqp, rfl, by decide +kernel⟩
      · exact ⟨_, od_dnil g3, off_ref dqp, rfl, by decide +kernel⟩
      · exact ⟨_, od_int (by decide +kernel), off_no (fun a e => by cases e), by decide +kernel, strOk_int _⟩
    clear hL s1 s2 s3 s123 s1' sq hp1 fq fdq flq ftq hp hl ht hxs
    dsimp only [gName, tSeq]
    refine ⟨_, rfl, _, rfl, p, pl, q, n, xs, rfl, hp2, by omega, SqL.of hq1, qp, by omega, by omega, fun j v H2 hj hp3 k3 => ?_⟩
    have hl3 := k3 _ _ lp hl2
    refine ⟨_, rfl, _, rfl, l, _, rfl, .inl (SqL.of hl3), _, _, rfl, rfl, p, pl, _, _, rfl, by omega, by omega, hp3, by omega, fun r H3 r0 r1 hp4 k4 => ?_⟩
    have k34 := k3.trans k4
    have ht4 := Lw.Tabs.kp (Lw.Tabs.kp ht2 hp2 k3) hp3 k4
    have hl4 := k4 _ _ lp hl3
    replace e1 := k34 _ _ tqp e1
    replace e2 := k34 _ _ lqp e2
    replace e3 := k34 _ _ dqp e3
    replace hq1 := k34 _ _ qp hq1
    have hv := List.mem_of_getElem? hj
    clear hj k3 k4 k34 hl3 hp3 hl2 ht2 hp2
    rw [lm] at r1
    refine ⟨(by show 2 ≤ sizeLine; decide), fun t2 ft2 => ?_⟩
    refine ⟨t2, _, rfl, SqT.of upd_same, rfl, _, _, rfl, _, _, rfl, rfl, ?_⟩
    have st2 := same_new (o := HO.tup [v, V.int r]) ft2
    have hp5 := hp4.keep st2
    have ht5 := ht4.ext st2
    have hl5 := st2 _ _ hl4
    replace e1 := st2 _ _ e1
    replace e2 := st2 _ _ e2
    replace e3 := st2 _ _ e3
    replace hq1 := st2 _ _ hq1
    clear st2 hp4 ht4 hl4
    revert hp5 ht5 hl5 e1 e2 e3 hq1
    generalize upd H3 t2 _ = H5
    intro hp5 ht5 hl5 e1 e2 e3 hq1
    clear ft2
    have hr : some r ∈ slBs := by
      have : r = 0 ∨ r = 1 ∨ r = 2 ∨ r = 3 ∨ r = 4 ∨ r = 5 ∨ r = 6 ∨ r = 7 ∨ r = 8 := by omega
      rcases this with rfl | rfl | rfl | rfl | rfl | rfl | rfl | rfl | rfl <;> decide
    obtain ⟨a1, ha1⟩ : ∃ a1, a1 = pkI (plL none (some r) none ns.length) ns := ⟨_, rfl⟩
    obtain ⟨a2, ha2⟩ : ∃ a2, a2 = pkI (plL (some r) none none ns.length) ns := ⟨_, rfl⟩
    have la1 : a1.length ≤ 8 := by rw [ha1]; exact Nat.le_trans (List.length_filterMap_le _ _) (sl_one ln (by decide) hr (by decide)).2.2
    have la2 : a2.length ≤ 8 := by rw [ha2]; exact Nat.le_trans (List.length_filterMap_le _ _) (sl_one ln hr (by decide) (by decide)).2.2
    have sa1 : SzB a1 := fun v hv => by rw [ha1] at hv; exact sb v (pk_mem hv)
    have ex1 : pkV (plL none (some r) none (ns.map V.int).length) (ns.map V.int) = a1.map V.int := by rw [lm, pk_ints, ha1]
    have ex2 : pkV (plL (some r) none none (ns.map V.int).length) (ns.map V.int) = a2.map V.int := by rw [lm, pk_ints, ha2]
    have lm1 : (a1.map V.int).length = a1.length := List.length_map _
    have lm2 : (a2.map V.int).length = a2.length := List.length_map _
    have big : 5000 ≤ sizeLine := by decide
    dsimp only [gName, tSeq]
    refine ⟨_, rfl, _, rfl, _, rfl, l, _, rfl, SqL.of hl5, slT_ne (by decide), fun x1 fx1 => ⟨_, rfl, (by show 1 ≤ sizeLine; decide), fun x2 fx2 => ?_⟩⟩
    rw [ex1] at fx2 ⊢
    have n12 : x1 ≠ x2 := fun e => by rw [← e, upd_same] at fx2; cases fx2
    refine ⟨x1, x2, _, _, rfl, rfl, same_new fx2 _ _ upd_same, upd_same, (by rw [lm1]; show a1.length + 1 ≤ sizeLine; omega), fun x3 fx3 => ?_⟩
    have g1 := ((same_new (o := HO.lst (a1.map V.int)) fx1).trans (same_new (o := HO.lst [v]) fx2)).trans (same_new (o := HO.lst (a1.map V.int ++ [v])) fx3)
    have h3 : upd (upd (upd H5 x1 (.lst (a1.map V.int))) x2 (.lst [v])) x3 (.lst (a1.map V.int ++ [v])) x3 = some (.lst (a1.map V.int ++ [v])) := upd_same
    revert g1 h3
    generalize upd (upd (upd H5 x1 _) x2 _) x3 _ = H6
    intro g1 h3
    clear fx1 fx2 fx3 n12
    have hl6 := g1 _ _ hl5
    refine ⟨_, rfl, _, rfl, _, rfl, l, _, rfl, SqL.of hl6, slT_ne (by decide), fun x4 fx4 => ?_⟩
    rw [ex2]
    refine ⟨x3, x4, _, _, rfl, rfl, same_new fx4 _ _ h3, upd_same, (by rw [lm2, List.length_append, lm1]; show a1.length + 1 + a2.length ≤ sizeLine; omega), fun x5 fx5 => ?_⟩
    have g2 := (same_new (o := HO.lst (a2.map V.int)) fx4).trans (same_new (o := HO.lst (a1.map V.int ++ [v] ++ a2.map V.int)) fx5)
    have h5 : upd (upd H6 x4 (.lst (a2.map V.int))) x5 (.lst (a1.map V.int ++ [v] ++ a2.map V.int)) x5 = some (.lst (a1.map V.int ++ [v] ++ a2.map V.int)) := upd_same
    have x5p := (hp5.keep (g1.trans (same_new (o := HO.lst (a2.map V.int)) fx4))).ne_new fx5
    revert g2 h5
    generalize upd (upd H6 x4 _) x5 _ = H7
    intro g2 h5
    clear fx4 fx5
    have g12 := g1.trans g2
    have hp7 := hp5.keep g12
    refine ⟨_, rfl, _, rfl, p, pl, q, _, xs, rfl, hp7, by omega, SqL.of (g12 _ _ hq1), qp, by omega, by omega, fun j2 u H8 hj2 hp8 k8 => ⟨(by show 1 ≤ sizeLine; decide), fun x6 fx6 => ⟨x5, x6, _, _, rfl, rfl, same_new fx6 _ _ (k8 _ _ x5p h5), upd_same, (by rw [List.length_append, lm2, List.length_append, lm1]; show a1.length + 1 + a2.length + 1 ≤ sizeLine; omega), fun x7 fx7 => ?_⟩⟩⟩
    have hu := List.mem_of_getElem? hj2
    have g3 := (same_new (o := HO.lst [u]) fx6).trans (same_new (o := HO.lst (a1.map V.int ++ [v] ++ a2.map V.int ++ [u])) fx7)
    have h7 : upd (upd H8 x6 (.lst [u])) x7 (.lst (a1.map V.int ++ [v] ++ a2.map V.int ++ [u])) x7 = some (.lst (a1.map V.int ++ v :: (a2.map V.int ++ [u]))) := by
      rw [upd_same]; simp
    have x7p := (hp8.keep (same_new (o := HO.lst [u]) fx6)).ne_new fx7
    revert g3 h7
    generalize upd (upd H8 x6 _) x7 _ = H9
    intro g3 h7
    clear fx6 fx7
    have ht9 := (Lw.Tabs.kp (ht5.ext g12) hp7 k8).ext g3
    have hp9 := hp8.keep g3
    have hl9 := g3 _ _ (k8 _ _ lp (g12 _ _ hl5))
    replace e1 := g3 _ _ (k8 _ _ tqp (g12 _ _ e1))
    replace e2 := g3 _ _ (k8 _ _ lqp (g12 _ _ e2))
    replace e3 := g3 _ _ (k8 _ _ dqp (g12 _ _ e3))
    obtain ⟨zv, ov, offv, vz, zvL⟩ := od e1 e2 e3 hv
    obtain ⟨zu, ou, offu, _, _⟩ := od e1 e2 e3 hu
    clear e1 e2 e3 hv hu od hj2 k8 g3 g12 g1 g2 hp8 hp7 hp5 ht5 hl5 hl6 h3 h5 hq1 ex1 ex2 ha1 ha2 tqp lqp dqp qp lxs hr
    clear x1 x2 x3 x4 x6
    dsimp only [gName, tSeq]
    refine ⟨_, rfl, fun y1 fy1 y2 fy2 => ⟨upd_same, [(.inl 1, .int 2)], rfl, (by decide), ?_⟩⟩
    rw [upd_upd]
    have s1 := same_new (o := HO.dK []) fy1
    have s2 := same_new (o := HO.dK (mergeK [] [(.inl 1, V.int 2)])) fy2
    have d1 : upd (upd H9 y1 (HO.dK [])) y2 (HO.dK (mergeK [] [(.inl 1, V.int 2)])) y1 = some (.dK []) := s2 _ _ upd_same
    have d2 : upd (upd H9 y1 (HO.dK [])) y2 (HO.dK (mergeK [] [(.inl 1, V.int 2)])) y2 = some (.dK [(.inl 1, V.int 2)]) := upd_same
    have y1p := hp9.ne_new fy1
    have y2p := (hp9.keep s1).ne_new fy2
    have g12 := s1.trans s2
    revert d1 d2 g12
    generalize upd (upd H9 y1 _) y2 _ = H10
    intro d1 d2 g12
    clear s1 s2 fy1 fy2
    dsimp only [tCons, tC]
    refine ci_goodT (ns := [2]) (fun _ r => r) (fun v hv => by rw [List.mem_singleton.mp hv]; decide) (by decide) fun cs H11 s11 f11 h11 => ⟨(by show 7 ≤ sizeLine; decide), fun q2 fq2 => ?_⟩
    have sq2 := same_new (o := HO.lst [V.non, V.int 0, V.str (Str.ofString "4 4"), V.ref y1, V.ref y2, V.bl true, V.ref cs]) fq2
    have gg := (g12.trans s11).trans sq2
    have hp11 := hp9.keep gg
    have q2p := (hp9.keep (g12.trans s11)).ne_new fq2
    have csp := (hp9.keep g12).ne_new f11
    refine ⟨p, pl, q2, _, _, rfl, hp11, by omega, SqL.of upd_same, q2p, (by show 0 < 7; decide), (by show 7 < 1000000; decide), fun j3 x H12 hj3 hp12 k12 => ?_⟩
    have nx : NsP K H12 x := by
      have hx := List.mem_of_getElem? hj3
      simp only [List.mem_cons, List.not_mem_nil, or_false] at hx
      have d1' := k12 _ _ y1p (sq2 _ _ (s11 _ _ d1))
      have d2' := k12 _ _ y2p (sq2 _ _ (s11 _ _ d2))
      obtain ⟨dxc, _, _, _, hic, _⟩ := id h11
      have hic' := k12 _ _ csp (sq2 _ _ hic)
      rcases hx with rfl | rfl | rfl | rfl | rfl | rfl | rfl
      · exact .inl fun H' => ⟨_, .base .non, no_lt (kit_ty (by decide +kernel)) (kit_ty (by decide +kernel))⟩
      · exact .inl fun H' => ⟨_, .base (.int _), no_lt (kit_ty (by decide +kernel)) (kit_ty (by decide +kernel))⟩
      · exact .inl fun H' => ⟨_, .base (.str _), no_lt (kit_ty (by decide +kernel)) (kit_ty (by decide +kernel))⟩
      · exact .inr ⟨y1, _, rfl, d1', fun ps z => (by cases z), fun ps z => (by cases z), fun H' e => ⟨_, .base (.dK e), no_lt (kit_ty (by decide +kernel)) (kit_ty (by decide +kernel))⟩⟩
      · exact .inr ⟨y2, _, rfl, d2', fun ps z => (by cases z), fun ps z => (by cases z), fun H' e => ⟨_, .base (.dK e), no_lt (kit_ty (by decide +kernel)) (kit_ty (by decide +kernel))⟩⟩
      · exact .inl fun H' => ⟨_, .base (.bl _), no_lt (kit_ty (by decide +kernel)) (kit_ty (by decide +kernel))⟩
      · exact .inr ⟨cs, _, rfl, hic', fun ps z => (by cases z), fun ps z => (by cases z), fun H' e => ⟨_, .base (.ins e IC.cl IC.ha IC.hn IC.htk IC.hm), nsq⟩⟩
    have G0 : Gq K TS p pl _ v u x zv zu x7 (a1.map V.int ++ v :: (a2.map V.int ++ [u])) H12 := ⟨hp12, Lw.Tabs.kp (ht9.ext gg) hp11 k12, (ov.same gg).kp offv k12, (ou.same gg).kp offu k12, nx, k12 _ _ x7p (gg _ _ h7)⟩
    clear nx hp12 hp11 k12 hj3 sq2 gg s11 f11 h11 fq2 q2p csp d1 d2 y1p y2p g12 offv offu ov ou h7 x7p hp9 ht9 hl9
    have lb : (a1.map V.int ++ v :: (a2.map V.int ++ [u])).length ≤ 20000 := by rw [List.length_append, lm1, List.length_cons, List.length_append, lm2]; show a1.length + (a2.length + 1 + 1) ≤ 20000; omega
    dsimp only [gName, tSeq]
    refine ⟨G0.ht, fun Ha xa ta Hb sb' => ⟨rfl, _, rfl, ?_⟩⟩
    have G1 := (G0.ext xa ta).same sb'
    clear G0 xa ta sb'
    refine ⟨_, rfl, .inr ⟨x7, _, rfl, .inl G1.h7, bent_av G1.ov G1.ou, lb, mko_bad (ints_z sa1) vz (hd_size G1.ov fun a1' H8 s8 n8 h8 => ⟨(by show 1 ≤ sizeLine; decide), fun l1 fl1 => ?_⟩)⟩⟩
    have A1 := Acc.one fl1 h8
    have G2 := G1.same s8
    have F1 := G2.fr fl1
    have G3 := G2.same (same_new (o := HO.lst [V.ref a1']) fl1)
    clear G1 G2 s8 n8 h8 fl1
    revert A1 G3
    generalize upd H8 l1 _ = J1
    intro A1 G3
    dsimp only [gName, tSeq]
    refine ⟨_, rfl, .inl ⟨rfl, _, SqL.of A1.at_⟩, G3.ht, fun H5 x5 t5 H6 s6 => ⟨rfl, _, rfl, x7, _, rfl, .inl ⟨SqL.of ((G3.ext x5 t5).same s6).h7, fun tt ftt => ?_⟩⟩⟩
    have G4 := ((G3.ext x5 t5).same s6).same (same_new (o := HO.tup (a1.map V.int ++ v :: (a2.map V.int ++ [u]))) ftt)
    have A2 := ((A1.extn x5).extn (ExtN.of s6)).extn (ExtN.of (same_new (o := HO.tup (a1.map V.int ++ v :: (a2.map V.int ++ [u]))) ftt))
    have htt := upd_same (H := H6) (a := tt) (o := HO.tup (a1.map V.int ++ v :: (a2.map V.int ++ [u])))
    clear G3 A1 x5 t5 s6 ftt
    revert G4 A2 htt
    generalize upd H6 tt _ = J2
    intro G4 A2 htt
    refine ⟨_, rfl, .inr ⟨tt, _, rfl, .inr htt, bent_av G4.ov G4.ou, lb, mko_bad (ints_z sa1) vz (hd_size G4.ov fun a2' H8 s8 n8 h8 => ⟨l1, _, _, rfl, rfl, (A2.extn (ExtN.of s8)).at_, (by show 1 < sizeLine; decide), ?_⟩)⟩⟩
    have A1 : Acc (upd H8 l1 (.lst (List.map V.ref [a1'] ++ [V.ref a2']))) l1 [a1', a2'] _ := (A2.extn (ExtN.of s8)).push h8
    have G3 := (G4.same s8).put (ys := List.map V.ref [a1'] ++ [V.ref a2']) F1 (A2.extn (ExtN.of s8)).at_
    clear A2 G4 s8 n8 h8 htt
    revert A1 G3
    generalize upd H8 l1 _ = J1
    intro A1 G3
    dsimp only [tSeq]
    refine ⟨_, rfl, .inl ⟨rfl, _, SqL.of A1.at_⟩, G3.ht, fun H5 x5 t5 H6 s6 => ?_⟩
    have G4 := (G3.ext x5 t5).same s6
    have A2 := (A1.extn x5).extn (ExtN.of s6)
    clear G3 A1 x5 t5 s6
    refine ci_anyT (xs := [v]) (fun R r => ⟨_, rfl, r⟩) (fun y hy => by rw [List.mem_singleton.mp hy]; exact G4.ov.get.1) (show 1 ≤ 20000 by decide) (mko_bad (xs := []) (ys := []) (fun y hy => by cases hy) vz (hd_size G4.ov fun a3' H8 s8 n8 h8 => ⟨l1, _, _, rfl, rfl, (A2.extn (ExtN.of s8)).at_, (by show 2 < sizeLine; decide), ?_⟩))
    have A1 : Acc (upd H8 l1 (.lst (List.map V.ref [a1', a2'] ++ [V.ref a3']))) l1 [a1', a2', a3'] _ := (A2.extn (ExtN.of s8)).push h8
    have G3 := (G4.same s8).put (ys := List.map V.ref [a1', a2'] ++ [V.ref a3']) F1 (A2.extn (ExtN.of s8)).at_
    clear A2 G4 s8 n8 h8
    revert A1 G3
    generalize upd H8 l1 _ = J1
    intro A1 G3
    dsimp only [tSeq]
    refine ⟨_, rfl, .inl ⟨rfl, _, SqL.of A1.at_⟩, G3.ht, fun H5 x5 t5 H6 s6 => ?_⟩
    have G4 := (G3.ext x5 t5).same s6
    have A2 := (A1.extn x5).extn (ExtN.of s6)
    clear G3 A1 x5 t5 s6
    refine ci_anyT (xs := [V.int 3, v, V.non]) (fun R r => ⟨_, rfl, r⟩) (fun y hy => ?_) (show 3 ≤ 20000 by decide) (mko_bad (xs := [V.int 3]) (ys := [V.non]) (fun y hy => by rw [List.mem_singleton.mp hy]; decide +kernel) vz (hd_size G4.ov fun a4' H8 s8 n8 h8 => ⟨l1, _, _, rfl, rfl, (A2.extn (ExtN.of s8)).at_, (by show 3 < sizeLine; decide), ?_⟩))
    · simp only [List.mem_cons, List.not_mem_nil, or_false] at hy
      rcases hy with rfl | rfl | rfl
      · exact .int _
      · exact G4.ov.get.1
      · exact .non
    have A1 : Acc (upd H8 l1 (.lst (List.map V.ref [a1', a2', a3'] ++ [V.ref a4']))) l1 [a1', a2', a3', a4'] _ := (A2.extn (ExtN.of s8)).push h8
    have G3 := (G4.same s8).put (ys := List.map V.ref [a1', a2', a3'] ++ [V.ref a4']) F1 (A2.extn (ExtN.of s8)).at_
    clear A2 G4 s8 n8 h8
    revert A1 G3
    generalize upd H8 l1 _ = J1
    intro A1 G3
    dsimp only [tSeq]
    refine ⟨_, rfl, .inl ⟨rfl, _, SqL.of A1.at_⟩, G3.ht, fun H5 x5 t5 H6 s6 => ⟨rfl, _, rfl, ?_⟩⟩
    have G4 := (G3.ext x5 t5).same s6
    have A2 := (A1.extn x5).extn (ExtN.of s6)
    clear G3 A1 x5 t5 s6
    refine ⟨x, rfl, .inl ⟨G4.nx.get, hd_part fun a5' H8 s8 n8 h8 => ⟨l1, _, _, rfl, rfl, (A2.extn (ExtN.of s8)).at_, (by show 4 < sizeLine; decide), ?_⟩⟩⟩
    have A3 := A2.extn (ExtN.of s8)
    have G3 := (G4.same s8).put (ys := List.map V.ref [a1', a2', a3', a4'] ++ [V.ref a5']) F1 A3.at_
    have hA : ∀ t ∈ [a1', a2', a3', a4'], upd H8 l1 (HO.lst (List.map V.ref [a1', a2', a3', a4'] ++ [V.ref a5'])) t = some (.tup [.str (Str.ofString "size"), .str zv]) := fun t ht => by
      have h0 := A3.all t ht
      rw [upd_ne (fun z => by rw [z, A3.at_] at h0; cases h0)]
      exact h0
    have h5 : upd H8 l1 (HO.lst (List.map V.ref [a1', a2', a3', a4'] ++ [V.ref a5'])) a5' = some (.tup [.str (Str.ofString "chunks"), .str (Str.ofString "sizes")]) := by
      rw [upd_ne (fun z => by rw [z, A3.at_] at h8; cases h8)]
      exact h8
    have hl1 : upd H8 l1 (HO.lst (List.map V.ref [a1', a2', a3', a4'] ++ [V.ref a5'])) l1 = some (.lst [V.ref a1', V.ref a2', V.ref a3', V.ref a4', V.ref a5']) := upd_same
    clear A2 G4 s8 n8 h8 A3
    revert G3 hA h5 hl1
    generalize upd H8 l1 _ = J3
    intro G3 hA h5 hl1
    refine ⟨_, rfl, _, rfl, v, zv, rfl, G3.ov.get.2, (by show 2 ≤ sizeLine; decide), fun u1 f1 => ⟨(by show 1 ≤ sizeLine; decide), fun q1 g1 => ⟨q1, 4, _, rfl, rfl, upd_same, by decide, by decide, (by show 1 * 4 ≤ sizeLine; decide), fun q2 g2 => ⟨(by show 2 ≤ sizeLine; decide), fun u2 f2 => ⟨(by show 1 ≤ sizeLine; decide), fun q3 g3 => ?_⟩⟩⟩⟩⟩
    have c1 := same_new (o := HO.tup [V.str (Str.ofString "size"), V.str zv]) f1
    have c2 := same_new (o := HO.lst [V.ref u1]) g1
    have c3 := same_new (o := HO.lst (List.replicate (Int.toNat 4) [V.ref u1]).flatten) g2
    have c4 := same_new (o := HO.tup [V.str (Str.ofString "chunks"), V.str (Str.ofString "sizes")]) f2
    have c5 := same_new (o := HO.lst [V.ref u2]) g3
    have k1 := c5 _ _ (c4 _ _ (c3 _ _ (c2 _ _ (upd_same (H := J3) (a := u1) (o := HO.tup [V.str (Str.ofString "size"), V.str zv])))))
    have k2 := c5 _ _ (c4 _ _ (upd_same (H := upd (upd J3 u1 (HO.tup [V.str (Str.ofString "size"), V.str zv])) q1 (HO.lst [V.ref u1])) (a := q2) (o := HO.lst (List.replicate (Int.toNat 4) [V.ref u1]).flatten)))
    have k3 := c5 _ _ (upd_same (H := upd (upd (upd J3 u1 (HO.tup [V.str (Str.ofString "size"), V.str zv])) q1 (HO.lst [V.ref u1])) q2 (HO.lst (List.replicate (Int.toNat 4) [V.ref u1]).flatten)) (a := u2) (o := HO.tup [V.str (Str.ofString "chunks"), V.str (Str.ofString "sizes")]))
    have cc := (((c1.trans c2).trans c3).trans c4).trans c5
    refine ⟨q2, q3, _, _, rfl, rfl, k2, upd_same, (by show 5 ≤ sizeLine; decide), fun q4 g4 => ?_⟩
    have c6 := same_new (o := HO.lst ((List.replicate (Int.toNat 4) [V.ref u1]).flatten ++ [V.ref u2])) g4
    have c7 := cc.trans c6
    refine ⟨D5 zv, D5 zv, dp_D5 (c7 _ _ hl1) (c7 _ _ (hA _ (by simp))) (c7 _ _ (hA _ (by simp))) (c7 _ _ (hA _ (by simp))) (c7 _ _ (hA _ (by simp))) (c7 _ _ h5), dp_D5 upd_same (c6 _ _ k1) (c6 _ _ k1) (c6 _ _ k1) (c6 _ _ k1) (c6 _ _ k3), shaped_D5 zvL, shaped_D5 zvL, ?_⟩
    rw [eqv_D5]
    exact k _ ((G3.hp.keep c7).more (by omega)) (G3.ht.ext c7)
end
end Lw
namespace Lw
open PySem PySem.Spec PyProof.Rows L2
open SX PySem.NumText TL LamX ClX StX
set_option pp.maxSteps 900
abbrev sLaw : Stmt := top 38
/-- the law's def, its code object known -/
structure LawC (K : PySem.W.Frag) (x : Str) (st : Stmt) (f : Addr) (fd : FuncData) (c : Addr) : Prop where
  ex : ∃ (oc : Value) (od : Option Addr) (dV kV doc pm : Value) (an : Option Addr) (ct : Value) (osl : Array (Option Value)),
    fd = PySem.W.fnOf x x (C8.fnArgs st) (C8.fnBody st) (C8.fnScope st) dV kV doc pm an (.ref c) ct ∧ K.lookup f = some ⟨oc, od, .func fd, osl⟩ ∧ PySem.W.codeIn K (.ref c) x = true
theorem fnGC {P : Program} {w : World} {K : PySem.W.Frag} {mg : Str → Option Value} {base : Heap} {x : Str} {st : Stmt} {f c : Addr} {fd : FuncData} {N ps : List Str} {k : Nat} {sp : Sp} (F : LawC K x st f fd c) (S : FnScope N ps (C8.fnScope st)) (len : ∀ vs H Q E, sp vs H Q E → vs.length = ps.length)
    (body : ∀ (A : Around) (outer : List Env) (s : Shared) (H : Hp) (vs : List V) (Q : VK) (E : XK), (A.deeper (envOfC x (C8.fnScope st) s.heap.objs.size f (.ref c))).guards = some [] → Room k (A.deeper (envOfC x (C8.fnScope st) s.heap.objs.size f (.ref c))) → sp vs H Q E →
      ∃ t, PSs (cxOf C8.CX0 P w K mg base N x (C8.fnScope st) f (.ref c) A outer s H E).nox (C8.fnBody st) t ∧ t { nx := fun _ H' => Q .non H', rt := Q } (start N vs) H) : FnG P w K mg base (k + 1) f fd ps sp := by
  refine ⟨len, ?_⟩
  intro A outer s H args us vs Q E hg hr e0 hb r hs
  obtain ⟨oc, od, dV, kV, doc, pm, an, ct, osl, rfl, lk, hcd⟩ := F.ex
  refine LamX.run_ofS lk hcd S hr e0 hb r (len _ _ _ _ hs) fun hr' => ?_
  obtain ⟨t, h1, h2⟩ := body A outer s H vs Q E hg hr' hs
  exact ⟨t, h1.nox, h2⟩
theorem hd_many {K : PySem.W.Frag} {DC DS DT DN DM : Addr} {H : Hp} {Q : VK} (k : ∀ t H8, Same H H8 → H t = none → H8 t = some (.tup [.str (Str.ofString "many"), .str (Str.ofString "chunks"), .int 5000]) → Q (.ref t) H8) : Mf DM H (HeardX K DC DS DT DN DM Q) := fun d fs H7 s7 hd f1 f2 =>
  have s8 : Same H (upd H7 d (.xd fs)) := s7.trans (same_new hd)
  .inr (.inr (.inr (.inr ⟨rfl, d, fs, _, _, rfl, upd_same, f1, f2, fun t H8 s9 n9 h9 => k t H8 (s8.trans s9) (s8.free n9) h9⟩)))
theorem rep_map (x : Int) : ∀ n : Nat, (List.replicate n [V.int x]).flatten = (List.replicate n x).map V.int
  | 0 => rfl
  | n + 1 => by rw [List.replicate_succ, List.replicate_succ, List.flatten_cons, rep_map x n]; rfl
theorem sum_rep (v : Int) : ∀ n : Nat, (List.replicate n v).sum = (n : Int) * v
  | 0 => by simp
  | n + 1 => by
    rw [List.replicate_succ, List.sum_cons, sum_rep v n]
    rw [show (((n + 1 : Nat)) : Int) = (n : Int) + 1 from rfl, Int.add_mul, Int.one_mul]
    omega
/-- the last one's rest is itself -/
theorem rest_last (ms : List Int) (x : Int) : (restsL (ms ++ [x]))[ms.length]? = some x := by
  unfold restsL
  have e1 : (endsL 0 (ms ++ [x]))[ms.length]? = some (0 + ms.sum + x) := by
    rw [endsL_snoc, List.getElem?_append_right (by rw [endsL_len]; exact Nat.le_refl _), endsL_len, Nat.sub_self]; rfl
  have e2 : (ms ++ [x])[ms.length]? = some x := by rw [List.getElem?_append_right (Nat.le_refl _), Nat.sub_self]; rfl
  rw [List.getElem?_zipWith, e1, e2]
  show some ((ms ++ [x]).sum - (0 + ms.sum + x) + x) = some x
  rw [List.sum_append, List.sum_singleton]
  congr 1
  omega
theorem ChA.kpn {CC : Addr} {H H' : Hp} {c p pl : Addr} {n : Nat} {ns : List Int} (h : ChA CC H c ns) (hp : Pen H p pl n) (k : KpN p H H') : ChA CC H' c ns := by
  obtain ⟨xs, a, g, hh, _⟩ := hp
  exact h.move fun b o e nl nt => k b o (fun z => by rw [z, hh.at_] at e; exact nl _ (Option.some.inj e).symm) e nt
def pM : PyData := .tuple [.str (Str.ofString "many"), .str (Str.ofString "chunks"), .int 5000]
def dMS : PyData := .list [pM, pSt (Str.ofString "size") (Str.ofString "0")]
theorem ts0 : Str.ofString (toString (0 : Int)) = Str.ofString "0" := by decide +kernel
theorem dp_MS {K : PySem.W.Frag} {H : Hp} {l a b : Addr} (hl : H l = some (.lst [V.ref a, V.ref b])) (ha : H a = some (.tup [.str (Str.ofString "many"), .str (Str.ofString "chunks"), .int 5000])) (hb : H b = some (.tup [.str (Str.ofString "size"), .str (Str.ofString "0")])) : Dp K H (.ref l) dMS :=
  .lst (SqL.of hl) (.cons (.tup (SqT.of ha) (.cons (.str _) (.cons (.str _) (.cons (.int _) .nil)))) (.cons (dp_pSt hb) .nil))
def spLaw (K : PySem.W.Frag) (T : List (Addr × Str)) : Sp := fun vs H Q _ => ∃ (a : Addr) (ns : List Int), vs = [.ref a] ∧ SqL K H a (ns.map V.int) ∧ ns.length ≤ 63 ∧ Tabs T H ∧ ∀ H', Q (.bl true) H'
section
variable {P : Program} {w : World} {K : PySem.W.Frag} {mg : Str → Option Value} {base : Heap}
theorem scLaw : FnScope ["_law_script", "_law_pen_here", "_law_turn", "_law_heard_here", "_law_most", "_law_sizes_here", "_law_made_here"] ["_law_script"] (C8.fnScope sLaw) := C8.fnScope_by (by decide +kernel)
set_option maxHeartbeats 4000000 in
theorem fn_law {f c B CC DC DS DT DN DM L gH fI : Addr} {TS : List (Addr × Str)} {mc : Value} {fd fdH : FuncData} (F : LawC K "law" sLaw f fd c) (FH : C8.Def K mg "_law_heard" sHea gH fdH) (bH : Binds K fdH ["_law_ask"] []) (TB : TabB base mg c B) (TO : TabOf TS B "law")
    (R : Hrd K mg DC DS DT DN DM L) (T : TxtM mg) (O : ChK P w K mg base CC DM DS DC DN fI mc) (XO : StO1 P w K mg base CC DM DS DC)
    (D0 : C8.Cal P w K mg base 1 "_law_pen" (spPen K) []) (DZ : C8.Cal P w K mg base 3 "_law_sizes" spLsz []) (DMd : C8.Cal P w K mg base 12 "_law_made" (spLmd CC) []) (DPR : CalG P w K mg base 6 "_law_parts_right" (spLpr CC) []) (DAR : CalG P w K mg base 15 "_law_asked_right" (spLas CC TS) []) (DEQ : C8.Cal P w K mg base 12 "_law_equal_right" (spLeq CC) []) (DRR : CalG P w K mg base 15 "_law_refused_right" (spLrr TS) []) : FnG P w K mg base 18 f fd ["_law_script"] (spLaw K TS) := by
  have CM := O.CM
  have ML := O.ML
  have Z := CM.Z
  obtain ⟨ocH, odH, dVH, kVH, docH, pmH, anH, cdvH, ctH, oslH, rfl, lkH, cdH⟩ := FH.fn.ex
  obtain ⟨pO, gO, fdO, gUO, SO, FO, bO, KBO⟩ := XO.ex
  refine fnGC F scLaw (fun vs H Q E h => ?_) (fun A outer st H vs Q E hG hr h => ?_)
  · obtain ⟨a, ns, rfl, _⟩ := h
    rfl
  · obtain ⟨a, ns, rfl, hs, hl, ht, k⟩ := h
    obtain ⟨uM, hM⟩ := Z.m
    refine ⟨_, (pss_cons (ps_set (i := 1) scLaw.nd rfl (Or.inl rfl) (C8.pe_c D0 hr (by decide) (by rfl) (pa_cons (pv 0) pa_nil)))
  (pss_cons (ps_for PassesOwn.never rfl (pi_range1 (by rfl) T.n_range (pa_cons pe_int pa_nil)) (pg_name (i := 2) scLaw.nd rfl (Or.inl rfl)) (pss_cons (ps_set (i := 5) scLaw.nd rfl (Or.inl rfl) (C8.pe_c DZ hr (by decide) (by rfl) (pa_cons (pv 1) (pa_cons pe_int pa_nil))))
  (pss_cons (ps_set (i := 6) scLaw.nd rfl (Or.inl rfl) (C8.pe_c DMd hr (by decide) (by rfl) (pa_cons (pv 1) (pa_cons (pv 5) pa_nil))))
  (pss_cons (ps_if (PW.pt (pw_or (pt_not (pt_val (pe_g DPR hG hr (by decide) (by rfl) (pa_cons (pv 6) (pa_cons (pv 5) pa_nil))))) (pw_or1 (pt_not (pt_val (pe_g DAR hG hr (by decide) (by rfl) (pa_cons (pv 1) (pa_cons (pv 6) (pa_cons (pv 5) pa_nil))))))))) (pss_one (ps_ret pe_bl)) pss_nil)
  (pss_one (ps_if (PW.pt (pw_or (pt_not (pt_val (C8.pe_c DEQ hr (by decide) (by rfl) (pa_cons (pv 1) (pa_cons (pv 6) (pa_cons (pv 5) pa_nil)))))) (pw_or1 (pt_not (pt_val (pe_g DRR hG hr (by decide) (by rfl) (pa_cons (pv 1) (pa_cons (pv 5) pa_nil)))))))) (pss_one (ps_ret pe_bl)) pss_nil))))))
  (pss_cons (ps_set (i := 3) scLaw.nd rfl (Or.inl rfl) (pe_lst (pa_cons (pe_lamcall (k := 14) (T := TS) (TT := TTheard K DC DS DT DN DM) (by rfl) FH.mgf FH.kp lkH cdH bH scHea rfl (.inl rfl) (heard_gives R T.toTxt hG (hr.mono (by decide))) TB rfl TO.mem TO.own (hr.mono (by decide)) (lamS_by (by rfl)) rfl (fun _ _ _ _ _ => rfl)
      (fun A outer s H E f c2 hr2 => (by exact (pe_static (pe_glob (v := .ref CC) (by rfl) CM.Z.hm rfl) SO FO (hr2.mono (by decide)) bO .nil (passes_call (takes_of rfl rfl rfl rfl) (fun _ _ _ _ z => z)) (pa_cons (pe_op op_rep (pe_lst (pa_cons pe_int pa_nil)) pe_int) pa_nil))))) pa_nil)))
  (pss_cons (ps_expr (pe_bm PySem.F.plainAttrs_list PySem.F.slot_list_append PySem.F.type_list_append mt_append (pv 3) (pa_cons (pe_lamcall (k := 14) (T := TS) (TT := TTheard K DC DS DT DN DM) (by rfl) FH.mgf FH.kp lkH cdH bH scHea rfl (.inl rfl) (heard_gives R T.toTxt hG (hr.mono (by decide))) TB rfl TO.mem TO.own (hr.mono (by decide)) (lamS_by (by rfl)) rfl (fun _ _ _ _ _ => rfl)
      (fun A outer s H E f c2 hr2 => (by exact (pe_static (pe_glob (v := .ref CC) (by rfl) CM.Z.hm rfl) SO FO (hr2.mono (by decide)) bO .nil (passes_call (takes_of rfl rfl rfl rfl) (fun _ _ _ _ z => z)) (pa_cons (pe_op op_cat (pe_op op_rep (pe_lst (pa_cons pe_int pa_nil)) pe_int) (pe_lst (pa_cons pe_int pa_nil))) pa_nil))))) pa_nil)))
  (pss_cons (ps_if (PW.pt (pw_or (pt_cmpR (op_neD hr.units) (pv 3) (pe_lst (pa_cons (pe_tup (pa_cons pe_str (pa_cons pe_str (pa_cons pe_int pa_nil)))) (pa_cons (pe_tup (pa_cons pe_str (pa_cons pe_str pa_nil))) pa_nil))) (nomark _)) (pw_or1 (pt_cmpR op_ne (pe_cval (pe_glob (v := .ref CC) (by rfl) Z.hm rfl)) pe_int (nomark _))))) (pss_one (ps_ret pe_bl)) pss_nil)
  (pss_cons (ps_set (i := 4) scLaw.nd rfl (Or.inl rfl) (pe_static (E := C8.E0) (pe_glob (v := .ref CC) (by rfl) CM.Z.hm rfl) SO FO (hr.mono (by decide)) bO .nil (passes_call takes0 (fun _ _ _ _ z => z)) (pa_cons (pe_op op_rep (pe_lst (pa_cons (pe_op op_pow pe_int pe_int) pa_nil)) pe_int) pa_nil)))
  (pss_one (ps_ret (pe_and (pe_cmpR op_eq (pe_fld (pv 4) rfl) (pe_op op_mulW pe_int (pe_op op_pow pe_int pe_int)) (nomark _)) (pe_and (pe_cmpR op_eq (pe_ix ix_tup (pe_fld (pv 4) rfl) pe_int (fun _ _ => rfl)) (pe_op op_pow pe_int pe_int) (nomark _)) (pe_one (pe_cmpR op_eq (pe_callB (call_lenOwn (E := C8.E0) ML (passes_call takes0 (fun _ _ _ _ z => z)) hr (by decide)) (by rfl) T.n_len (by decide +kernel) (pa_cons (pv 4) pa_nil)) pe_int (nomark _))))))))))))), ?_⟩
    refine ⟨_, rfl, a, ns, rfl, hs, hl, fun p pl H1 hp1 s1 _ => ?_⟩
    have ht1 := ht.ext s1
    refine ⟨_, rfl, by decide, by decide, for_range (fun i σ' H' => ∃ x2 x3 x4 x5 x6, σ' = [some (V.ref a), some (V.ref p), x2, x3, x4, x5, x6] ∧ Pen H' p pl (386 * i) ∧ Tabs TS H') ⟨_, _, _, _, _, rfl, hp1, ht1⟩ ?_ ?_⟩
    · rintro i σ1 H2 hi ⟨x2, x3, x4, x5, x6, rfl, hp2, ht2⟩
      have hi6 : i < 6 := hi
      refine ⟨_, rfl, p, pl, _, 8, rfl, by decide, by decide, hp2, by omega, fun l ms H3 sb le hl3 fr hp3 k3 => ?_⟩
      have lp := hp2.ne_new fr
      have ht3 := Lw.Tabs.kp ht2 hp2 k3
      clear ht2 hp2 k3 fr
      refine ⟨_, rfl, _, rfl, p, pl, _, l, ms, rfl, hp3, by omega, hl3, lp, sb, by omega, fun c' H4 hp4 k4 hc4 => ?_⟩
      have ht4 := Lw.Tabs.kp ht3 hp3 k4
      have hl4 := k4 _ _ lp hl3
      clear ht3 hp3 k4 hl3
      refine ⟨_, rfl, _, rfl, c', l, ms, rfl, hc4, hl4, sb, by omega, fun H5 s5 => ⟨_, rfl, iteF ?_⟩⟩
      refine ⟨_, rfl, _, rfl, _, rfl, p, pl, _, c', l, ms, rfl, hp4.keep s5, by omega, hc4.same s5, s5 _ _ hl4, lp, sb, by omega, ht4.ext s5, fun H6 hp6 k6 ht6 => ⟨_, rfl, iteF ?_⟩⟩
      have hc6 := (hc4.same s5).kpn (hp4.keep s5) k6
      have hl6 := k6 _ _ lp (s5 _ _ hl4) (fun ps z => by cases z)
      clear hp4 hc4 hl4 ht4 s5 k6
      refine ⟨_, rfl, _, rfl, _, rfl, p, pl, _, c', l, ms, rfl, hp6, by omega, hc6, hl6, lp, sb, by omega, fun H7 hp7 k7 => ⟨_, rfl, iteF ?_⟩⟩
      refine ⟨_, rfl, _, rfl, p, pl, _, l, ms, rfl, hp7, by omega, k7 _ _ lp hl6, lp, sb, by omega, Lw.Tabs.kp ht6 hp6 k7, fun H8 hp8 ht8 => ⟨_, rfl, iteF ?_⟩⟩
      exact ⟨_, _, _, _, _, rfl, hp8.more (by omega), ht8⟩
    · rintro σ1 H2 ⟨x2, x3, x4, x5, x6, rfl, hp2, ht2⟩
      clear hp1 ht1 ht s1 hp2
      dsimp only [gName, tSeq]
      obtain ⟨on, hon⟩ : ∃ on : List Int, on = List.replicate 5001 1 := ⟨_, rfl⟩
      have lon : on.length = 5001 := by rw [hon, List.length_replicate]
      have son : SzB on := fun v hv => by rw [hon] at hv; rw [List.eq_of_mem_replicate hv]; decide
      have eon : (List.replicate (Int.toNat 5001) [V.int 1]).flatten = on.map V.int := by rw [rep_map, hon]; rfl
      clear hon
      refine ⟨ht2, fun H5 x5 t5 H6 s6 => ⟨rfl, (by show 1 ≤ sizeLine; decide), fun lq flq => ⟨lq, 5001, _, rfl, rfl, upd_same, by decide, by decide, (by show 1 * 5001 ≤ sizeLine; decide), fun q fq => ?_⟩⟩⟩
      have t7 := ((t5.ext s6).ext (same_new (o := HO.lst [V.int 1]) flq)).ext (same_new (o := HO.lst (List.replicate (Int.toNat 5001) [V.int 1]).flatten) fq)
      have hq : upd (upd H6 lq (HO.lst [V.int 1])) q (HO.lst (List.replicate (Int.toNat 5001) [V.int 1]).flatten) q = some (.lst (on.map V.int)) := by rw [upd_same, eon]
      clear x5 t5 s6 flq fq ht2
      revert hq t7
      generalize upd (upd H6 lq _) q _ = H7
      intro t7 hq
      have lmo : (on.map V.int).length = 5001 := by rw [List.length_map]; exact lon
      refine ⟨_, rfl, .inr ⟨q, _, rfl, .inl hq, any_ints K _ on, by omega, MkO.good son (fun z => absurd z (by omega)) (fun _ => hd_many fun a1 H8 s8 n8 h8 => ⟨(by show 1 ≤ sizeLine; decide), fun l1 fl1 => ?_⟩)⟩⟩
      have b1 := same_new (o := HO.lst [V.ref a1]) fl1
      have t9 := (t7.ext s8).ext b1
      have g1 := b1 _ _ h8
      have gl := upd_same (H := H8) (a := l1) (o := HO.lst [V.ref a1])
      clear t7 s8 n8 h8 fl1 b1 hq
      revert t9 g1 gl
      generalize upd H8 l1 _ = H9
      intro t9 g1 gl
      dsimp only [gName, tSeq]
      refine ⟨_, rfl, .inl ⟨rfl, _, SqL.of gl⟩, t9, fun H5 x5 t5 H6 s6 => ⟨rfl, (by show 1 ≤ sizeLine; decide), fun lq flq => ⟨lq, 5001, _, rfl, rfl, upd_same, by decide, by decide, (by show 1 * 5001 ≤ sizeLine; decide), fun q fq => ?_⟩⟩⟩
      have y1 := same_new (o := HO.lst [V.int 1]) flq
      have y2 := same_new (o := HO.lst (List.replicate (Int.toNat 5001) [V.int 1]).flatten) fq
      have hq : upd (upd H6 lq (HO.lst [V.int 1])) q (HO.lst (List.replicate (Int.toNat 5001) [V.int 1]).flatten) q = some (.lst (on.map V.int)) := by rw [upd_same, eon]
      have yy := (s6.trans y1).trans y2
      have g1' := yy _ _ (x5 _ _ g1 (fun ps z => by cases z))
      have gl' := yy _ _ (x5 _ _ gl (fun ps z => by cases z))
      clear y1 y2 yy x5 t5 s6 flq fq t9 g1 gl
      revert hq g1' gl'
      generalize upd (upd H6 lq _) q _ = H10
      intro hq g1 gl
      refine ⟨(by show 1 ≤ sizeLine; decide), fun zq fzq => ⟨q, zq, _, _, rfl, rfl, same_new fzq _ _ hq, upd_same, (by rw [lmo]; show 5001 + 1 ≤ sizeLine; decide), fun bq fbq => ?_⟩⟩
      have yy := (same_new (o := HO.lst [V.int 0]) fzq).trans (same_new (o := HO.lst (on.map V.int ++ [V.int 0])) fbq)
      have g1' := yy _ _ g1
      have gl' := yy _ _ gl
      have hb : upd (upd H10 zq (HO.lst [V.int 0])) bq (HO.lst (on.map V.int ++ [V.int 0])) bq = some (.lst (on.map V.int ++ V.int 0 :: [])) := upd_same
      clear yy fzq fbq g1 gl hq
      revert hb g1' gl'
      generalize upd (upd H10 zq _) bq _ = H11
      intro g1 gl hb
      refine ⟨_, rfl, .inr ⟨bq, _, rfl, .inl hb, fun y hy => ?_, by rw [List.length_append, lmo]; decide, mko_bad (ints_z son) (by decide +kernel) (hd_size (od_int (i := 0) (by decide)) fun a2 H8 s8 n8 h8 => ⟨l1, _, _, rfl, rfl, s8 _ _ gl, (by show 1 < sizeLine; decide), ?_⟩)⟩⟩
      · rcases List.mem_append.mp hy with hy | hy
        · exact any_ints K _ on y hy
        · rw [List.mem_singleton.mp hy]; exact .int _
      have ga : upd H8 l1 (HO.lst ([V.ref a1] ++ [V.ref a2])) a1 = some (.tup [.str (Str.ofString "many"), .str (Str.ofString "chunks"), .int 5000]) := by
        have h0 := s8 _ _ g1
        have hx := s8 _ _ gl
        rw [upd_ne (fun z => by rw [z, hx] at h0; cases h0)]; exact h0
      have gb : upd H8 l1 (HO.lst ([V.ref a1] ++ [V.ref a2])) a2 = some (.tup [.str (Str.ofString "size"), .str (Str.ofString (toString (0 : Int)))]) := by
        have hx := s8 _ _ gl
        rw [upd_ne (fun z => by rw [z, hx] at h8; cases h8)]; exact h8
      have gc : upd H8 l1 (HO.lst ([V.ref a1] ++ [V.ref a2])) l1 = some (.lst [V.ref a1, V.ref a2]) := upd_same
      clear g1 gl s8 n8 h8 hb
      revert ga gb gc
      generalize upd H8 l1 _ = H12
      intro ga gb gc
      rw [ts0] at gb
      dsimp only [tSeq]
      refine ⟨_, rfl, (by show 3 ≤ sizeLine; decide), fun u1 f1 => ⟨(by show 2 ≤ sizeLine; decide), fun u2 f2 => ⟨(by show 2 ≤ sizeLine; decide), fun q4 f4 => ?_⟩⟩⟩
      have c1 := same_new (o := HO.tup [V.str (Str.ofString "many"), V.str (Str.ofString "chunks"), V.int 5000]) f1
      have c2 := same_new (o := HO.tup [V.str (Str.ofString "size"), V.str (Str.ofString "0")]) f2
      have c3 := same_new (o := HO.lst [V.ref u1, V.ref u2]) f4
      have cc := (c1.trans c2).trans c3
      refine ⟨dMS, dMS, dp_MS (cc _ _ gc) (cc _ _ ga) (cc _ _ gb), dp_MS upd_same (c3 _ _ (c2 _ _ upd_same)) (c3 _ _ upd_same), by decide +kernel, by decide +kernel, _, rfl, iteF' (by decide +kernel) ?_⟩
      refine ⟨CC, mc, _, uM, rfl, Z.r, hM, rfl, _, rfl, iteF' (by rw [decide_eq_true rfl]; rfl) ?_⟩
      clear ga gb gc c1 c2 c3 cc
      generalize upd (upd (upd H12 u1 _) u2 _) q4 _ = H13
      clear f1 f2 f4
      dsimp only [tNext, tSeq]
      obtain ⟨mo, hmo⟩ : ∃ mo : List Int, mo = List.replicate 5000 ((10 : Int) ^ (30 : Int).toNat) := ⟨_, rfl⟩
      have lm5 : mo.length = 5000 := by rw [hmo, List.length_replicate]
      have sm5 : SzB mo := fun v hv => by rw [hmo] at hv; rw [List.eq_of_mem_replicate hv]; decide +kernel
      have em5 : (List.replicate (Int.toNat 5000) [V.int ((10 : Int) ^ (30 : Int).toNat)]).flatten = mo.map V.int := by rw [rep_map, hmo]; rfl
      have sum5 : mo.sum = 5000 * (10 : Int) ^ (30 : Int).toNat := by rw [hmo, sum_rep]; rfl
      have r5 : (restsL mo)[4999]? = some ((10 : Int) ^ (30 : Int).toNat) := by
        have := rest_last (List.replicate 4999 ((10 : Int) ^ (30 : Int).toNat)) ((10 : Int) ^ (30 : Int).toNat)
        rw [List.length_replicate, ← List.replicate_succ'] at this
        rw [hmo]; exact this
      clear hmo
      refine ⟨rfl, _, _, rfl, rfl, (by unfold CPow; decide), (by show 1 ≤ sizeLine; decide), fun lq2 fl2 => ⟨lq2, 5000, _, rfl, rfl, upd_same, by decide, by decide, (by show 1 * 5000 ≤ sizeLine; decide), fun q5 f5 => ?_⟩⟩
      have hq5 : upd (upd H13 lq2 (HO.lst [V.int ((10 : Int) ^ (30 : Int).toNat)])) q5 (HO.lst (List.replicate (Int.toNat 5000) [V.int ((10 : Int) ^ (30 : Int).toNat)]).flatten) q5 = some (.lst (mo.map V.int)) := by rw [upd_same, em5]
      revert hq5
      generalize upd (upd H13 lq2 _) q5 _ = H14
      intro hq5
      refine of_lst hq5 sm5 (by omega) fun cm H15 s15 fc hcm => ?_
      obtain ⟨dxm, pm', em, rm, him, _, _, hrm⟩ := id hcm
      dsimp only [gName, tSeq]
      refine ⟨_, rfl, cm, CC, dxm, _, _, rfl, him, Z.cl, Z.n2, chF_total _ _ _ _, _, _, rfl, rfl, (by unfold CPow; decide), _, _, rfl, rfl, (by unfold CMulW; decide +kernel), rfl, _, rfl, iteT' (decide_eq_true (by rw [sum5])) ?_⟩
      refine ⟨_, rfl, cm, CC, dxm, _, _, rfl, him, Z.cl, Z.n4, chF_rests _ _ _ _, rm, _, 4999, _, rfl, rfl, SqT.of hrm, atI_nat (j := 4999) (by rw [List.getElem?_map, r5]; rfl), _, _, rfl, rfl, (by unfold CPow; decide), rfl, _, rfl, iteT' (decide_eq_true rfl) ?_⟩
      refine ⟨_, rfl, cm, dxm, _, rfl, him, cm, mo, rfl, hcm, _, rfl, by omega, by omega, rfl, ?_⟩
      rw [lm5]
      exact k _
end
end Lw
namespace Lw
open PySem PySem.Spec PyProof.Rows L2
open LamX
/-! ### the call of the law where nothing is being shown, with tables of code objects -/
/-- what is tracked when the law is entered: the tables, and the script unless it is written -/
def Entry (K : PySem.W.Frag) (h : Heap) (a : Addr) (Bs : List Addr) (ns : List Int) (H : Hp) : Prop :=
  (∀ B ∈ Bs, H B = some (.tbl #[])) ∧ SqL K H a (ns.map V.int) ∧ (∀ b u, H b = some u → (b ∈ Bs ∧ u = .tbl #[]) ∨ (b = a ∧ K.lookup a = none ∧ ∃ o xs, u = .frz o (.lst xs) ∧ h.get? a = some o))
theorem entry {P : Program} {w : World} {K : PySem.W.Frag} {h : Heap} {a : Addr} {Bs : List Addr} {vs : List Value} {ns : List Int} (KX : K.In h) (hT : ∀ B ∈ Bs, h.get? B = some { cls := .none, data := .fields #[] }) (ha : h.get? a = some { cls := .type "list", data := .seq vs.toArray }) (hi : IntsAre vs ns) (hl : ns.length ≤ sizeLine) :
    a ∉ Bs ∧ ∃ H, Entry K h a Bs ns H ∧ HOk P w H h := by
  have rv := vals_ints hi
  have lv := hi.length
  have ne : a ∉ Bs := fun e => by
    have hT := hT a e
    rw [ha] at hT
    have z : Data.seq vs.toArray _ = Data.fields #[] := congrArg Obj.data (Option.some.inj hT)
    cases z
  refine ⟨ne, ?_⟩
  cases hk : K.lookup a with
  | some o =>
    have e := KX a o hk
    rw [ha] at e
    cases e
    refine ⟨fun b => if b ∈ Bs then some (.tbl #[]) else none, ⟨fun B hB => if_pos hB, .inr ⟨_, vs.toArray, _, hk, rfl, rfl, rfl, by rw [List.size_toArray, lv]; exact hl, by simpa using rv⟩, fun b u z => ?_⟩, fun b u z => ?_⟩
    · by_cases q : b ∈ Bs
      · exact .inl ⟨q, (Option.some.inj ((if_pos q).symm.trans z)).symm⟩
      · cases (if_neg q).symm.trans z
    · by_cases q : b ∈ Bs
      · cases (if_pos q).symm.trans z
        exact hT b q
      · cases (if_neg q).symm.trans z
  | none =>
    refine ⟨fun b => if b ∈ Bs then some (.tbl #[]) else if b = a then some (.frz { cls := .type "list", data := .seq vs.toArray } (.lst (ns.map V.int))) else none,
      ⟨fun B hB => if_pos hB, .inl (.inr ⟨_, (if_neg ne).trans (if_pos rfl)⟩), fun b u z => ?_⟩, fun b u z => ?_⟩
    · by_cases q : b ∈ Bs
      · exact .inl ⟨q, (Option.some.inj ((if_pos q).symm.trans z)).symm⟩
      · have z2 := (if_neg q).symm.trans z
        by_cases q2 : b = a
        · exact .inr ⟨q2, hk, _, _, (Option.some.inj ((if_pos q2).symm.trans z2)).symm, ha⟩
        · cases (if_neg q2).symm.trans z2
    · by_cases q : b ∈ Bs
      · cases (if_pos q).symm.trans z
        exact hT b q
      · have z2 := (if_neg q).symm.trans z
        by_cases q2 : b = a
        · cases (if_pos q2).symm.trans z2
          rw [q2]
          exact ⟨ha, by rw [List.length_map]; exact hl, vs, _, rv, ha⟩
        · cases (if_neg q2).symm.trans z2
theorem law_end {P : Program} {w : World} {K : PySem.W.Frag} {mg mb : Str → Option Value} {k : Nat} {fa a : Addr} {Bs : List Addr} {fd : FuncData} {x : Str} {sp : Sp} {s₁ : Shared} {vs : List Value} {ns : List Int}
    (KX : K.In s₁.heap) (hns : s₁.heap.Ns mainGlobals mg) (hb : s₁.heap.Ns builtinsNs mb) (hbb : ∀ x : Str, x ≠ "__name__" → mb x = bootBuiltins x) (hlim : s₁.heap.NoLimit) (hg : s₁.gens = #[])
    (hT : ∀ B ∈ Bs, s₁.heap.get? B = some { cls := .none, data := .fields #[] }) (nT : ∀ B ∈ Bs, K.lookup B = none) (C : ∀ B ∈ Bs, ∃ c, PySem.W.CodeHd s₁.heap c B)
    (hbm : ∃ (bm : Addr) (ob : Obj), mg "__builtins__" = some (.ref bm) ∧ bm ≠ builtinsNs ∧ s₁.heap.get? bm = some ob ∧ ob.cls = .type "module" ∧ ob.dict = some builtinsNs ∧ ob.data = .plain)
    (ha : s₁.heap.get? a = some { cls := .type "list", data := .seq vs.toArray }) (hi : IntsAre vs ns) (hl : ns.length ≤ sizeLine) (hr : Room k callerA)
    (F : ∀ base : Heap, K.In base → base.Ns mainGlobals mg → (∀ B ∈ Bs, ∀ c, PySem.W.CodeHd s₁.heap c B → TabB base mg c B) → FnG P w K mg base k fa fd [x] sp) (hbind : ∀ (s : Shared) (u : Value), BindsTo s fd ⟨[u], []⟩ [(x, u)])
    (hsp : ∀ H : Hp, (∀ B ∈ Bs, H B = some (.tbl #[])) → SqL K H a (ns.map V.int) → sp [.ref a] H (fun v _ => v = .bl true) C8.E0) :
    codeAny (model P w) callerA (.call (.ref fa) ⟨[.ref a], []⟩) (fun r s' => r = .ok (.ret (.bool true)) ∧ OldK s₁.heap s'.heap ∧ s'.os = s₁.os ∧ AllBare s'.gens) s₁ := by
  obtain ⟨ne, H, ⟨hB, hS, hA⟩, hok⟩ := entry (P := P) (w := w) KX hT ha hi hl
  -- what is neither a table nor the script is untracked
  have free : ∀ {b : Addr} {o : Obj}, s₁.heap.get? b = some o → (∀ vs n, o.data ≠ .seq vs n) → o.data ≠ .fields #[] → H b = none := fun {b o} e h1 h2 => by
    cases q : H b with
    | none => rfl
    | some u =>
      rcases hA b u q with ⟨e', _⟩ | ⟨e', _⟩
      · rw [hT b e'] at e
        cases e
        exact absurd rfl h2
      · rw [e', ha] at e
        cases e
        exact absurd rfl (h1 _ _)
  have through : ∀ {b : Addr} {o : Obj}, s₁.heap.get? b = some o → H b = none → (hidT s₁.heap H).get? b = some o := fun e n => hidT_get e n
  have nsT : ∀ {b : Addr} {m : Str → Option Value}, s₁.heap.Ns b m → (hidT s₁.heap H).Ns b m := fun {b m} ⟨o, es, ep, e, d, r⟩ => by
    refine ⟨o, es, ep, through e (free e (fun vs n z => ?_) fun z => ?_), d, r⟩ <;> · rw [d] at z; cases z
  have inT : K.In (hidT s₁.heap H) := fun b o e => by
    refine through (KX b o e) ?_
    cases q : H b with
    | none => rfl
    | some u =>
      rcases hA b u q with ⟨e', _⟩ | ⟨e', n, _⟩
      · rw [nT b e'] at e; cases e
      · rw [e', n] at e; cases e
  have modT : L2.Mod K mg (hidT s₁.heap H) := by
    obtain ⟨mc, h1, h2⟩ := hlim
    exact ⟨inT, nsT hns, ⟨mb, nsT hb, hbb⟩, ⟨mc, nsT h1, h2⟩⟩
  have tabT : ∀ B ∈ Bs, ∀ c, PySem.W.CodeHd s₁.heap c B → TabB (hidT s₁.heap H) mg c B := fun B hBs c C => by
    refine ⟨?_, ?_, fun z => ?_⟩
    · obtain ⟨o, us, file, tf, flags, tg, inF, text, tt, e1, r1, r2, r3, r4⟩ := C
      refine ⟨o, us, file, tf, flags, tg, inF, text, tt, through e1 (free e1 (fun vs n z => ?_) fun z => ?_), r1, r2, r3, r4⟩
      · rw [r2] at z; cases z
      · rw [r2] at z; cases z
        simp at r3
    · obtain ⟨bm, ob, b1, b2, b3, b4, b5, b6⟩ := hbm
      refine ⟨bm, ob, b1, b2, fun q => ?_, fun q => ?_, through b3 (free b3 (fun vs n z => ?_) fun z => ?_), b4, b5, b6⟩
      · obtain ⟨o, es, ep, e, d, _⟩ := hns
        rw [q, e] at b3
        cases b3
        rw [d] at b6
        cases b6
      · rw [q, hT B hBs] at b3
        cases b3
        cases b6
      · rw [b6] at z; cases z
      · rw [b6] at z; cases z
    · obtain ⟨o, es, ep, e, d, _⟩ := hns
      rw [z, hT B hBs] at e
      cases e
      cases d
  have e0 : Env0 P w K mg (hidT s₁.heap H) callerA [] s₁ H := ⟨rfl, modT, fun b o e => of_hidT e, Nat.le_of_eq (hidT_size _ _), trivial, fun b hb => absurd (show b ∈ ([] : List Addr) from hb) (by simp), hok, .of_eq hg⟩
  refine codeAny_mono ((F _ inT (nsT hns) tabT).run callerA [] s₁ H ⟨[.ref a], []⟩ [.ref a] [.ref a] _ _ rfl hr e0 (hbind s₁ (.ref a)) (.cons rfl .nil) (hsp H hB hS)) fun r s' q => ?_
  match r, q with
  | .error e, q => exact (show False from q).elim
  | .ok .next, q => exact (show False from q).elim
  | .ok .brk, q => exact (show False from q).elim
  | .ok .cont, q => exact (show False from q).elim
  | .ok (.ret u), q =>
    obtain ⟨v, H', os, bare, un, hok', r', qv⟩ := q
    have qv' : v = .bl true := qv
    subst qv'
    obtain rfl : u = Value.bool true := r'
    have same : ∀ b o, b ∉ Bs → s₁.heap.get? b = some o → s'.heap.get? b = some o := fun b o nb e => by
      cases q : H b with
      | none => exact un.keep b o e q (by intro z; exact absurd (show b ∈ ([] : List Addr) from z) (by simp)) (by simp)
      | some u =>
        rcases hA b u q with ⟨z, _⟩ | ⟨e', _, ob, xs, rfl, hob⟩
        · exact absurd z nb
        · obtain ⟨e2, _⟩ := hok' b _ (un.frzs b ob _ q)
          rw [e', hob] at e
          cases e
          exact e2
    refine ⟨rfl, ⟨fun b o e => ?_, fun b o e => ?_⟩, os, bare⟩
    · by_cases hb : b ∈ Bs
      · obtain ⟨more, hmore⟩ := un.tbls b #[] (hB b hb)
        have atB := hok' b _ hmore
        obtain ⟨c, C⟩ := C b hb
        have hT := hT b hb
        rw [hT] at e
        cases e
        exact .inr (.inl ⟨(C.tab hT).isCodeTable, rfl, #[], _, rfl, atB⟩)
      · exact .inl (same b o hb e)
    · by_cases hb : b ∈ Bs
      · obtain ⟨more, hmore⟩ := un.tbls b #[] (hB b hb)
        exact ⟨_, hok' b _ hmore⟩
      · exact ⟨o, same b o hb e⟩
theorem tabIn_of {K : PySem.W.Frag} {x : Str} {f c B : Addr} {oc occ : Value} {od odc : Option Addr} {fd : FuncData} {sl slc : Array (Option Value)} {us : Array Value} (h1 : PySem.W.nsIn K mainGlobals x = some (some (.ref f))) (h2 : K.lookup f = some ⟨oc, od, .func fd, sl⟩) (hc : fd.code = .ref c)
    (h3 : K.lookup c = some ⟨occ, odc, .fields us, slc⟩) (h4 : us[11]? = some (.ref B)) : PySem.W.tabIn K x = some (c, B) := by
  unfold PySem.W.tabIn
  rw [h1]
  dsimp only
  rw [h2]
  dsimp only
  rw [hc]
  dsimp only
  rw [h3]
  dsimp only
  rw [h4]
/-- the walk's end, with any number of tables of code objects (tb: the def's name, its code object, its table) -/
theorem walk_endL {l : PySem.W.OpenLaw} {n k : Nat} {q : Program} {loose : List Str} {XP : (Str → Option Value) → Heap → Prop} {YP : World → Heap → Prop} {d : DefRec} {K : Params → PySem.W.Frag} {x : Str} {xts : List Str}
    (hn : l.most = some n) (hn2 : n ≤ 63) (hdf : d.params.defaults = []) (hr : Room k callerA) (hY : ∀ (w : World) (h : Heap), YP w h → (K w.params).In h) (hrec : (xts.all fun xt => ((recsOf q).find? fun e => e.name == xt).isSome) = true)
    (F : ∀ (w : World) (mg : Str → Option Value) (fa : Addr) (h : Heap), (K w.params).In h → h.Ns mainGlobals mg → mg d.name = some (.ref fa) → ∃ (fd : FuncData) (tb : List (Str × Addr × Addr)) (sp : Sp), (∀ e ∈ tb, e.1 ∈ xts ∧ PySem.W.tabIn (K w.params) e.1 = some (e.2.1, e.2.2) ∧ (K w.params).lookup e.2.2 = none) ∧ (∀ (s : Shared) (u : Value), BindsTo s fd ⟨[u], []⟩ [(x, u)]) ∧
      (∀ base : Heap, (K w.params).In base → base.Ns mainGlobals mg → (∀ e ∈ tb, TabB base mg e.2.1 e.2.2) → FnG l.prog w (K w.params) mg base k fa fd [x] sp) ∧
      ∀ (H : Hp) (a : Addr) (ns : List Int), (∀ e ∈ tb, H e.2.2 = some (.tbl #[])) → SqL (K w.params) H a (ns.map V.int) → ns.length ≤ 63 → sp [.ref a] H (fun v _ => v = .bl true) C8.E0) :
    PySem.W.WalkO q loose XP YP l.row.toRowW d [] (fun f vs => PySem.call f vs) := by
  refine Att.attach_callB hn hdf fun w s₀ s₁ mg mb fa o pm cd doc a vs ns G Y ho hd hcd hmg hobj hints hlen hbits hg => ?_
  have KX := hY w _ Y
  obtain ⟨fd, tb, sp, ht, hb, hF, hsp⟩ := F w mg fa _ KX G.T.g hmg
  have tab : ∀ e ∈ tb, PySem.W.CodeHd s₁.heap e.2.1 e.2.2 ∧ s₁.heap.get? e.2.2 = some { cls := .none, data := .fields #[] } := fun e he => by
    obtain ⟨h1, h2, h3⟩ := ht e he
    obtain ⟨dr, hdr⟩ := Option.isSome_iff_exists.mp (List.all_eq_true.mp hrec _ h1)
    exact PySem.W.tab_of G.T KX hdr h2
  have mem : ∀ {p : Addr → Prop}, (∀ e ∈ tb, p e.2.2) → ∀ b ∈ tb.map (·.2.2), p b := fun {p} h b hb => by
    obtain ⟨e, he, rfl⟩ := List.mem_map.mp hb
    exact h e he
  exact law_end (Bs := tb.map (·.2.2)) KX G.T.g G.T.b G.T.builtins G.T.nolimit hg (mem fun e he => (tab e he).2) (mem fun e he => (ht e he).2.2) (mem fun e he => ⟨_, (tab e he).1⟩) G.T.bmain hobj hints (Nat.le_trans (Nat.le_trans hlen hn2) (by decide)) hr
    (fun base kin ns' tbb => hF base kin ns' fun e he => tbb e.2.2 (List.mem_map.mpr ⟨e, he, rfl⟩) e.2.1 (tab e he).1) hb fun H hB hS => hsp H a ns (fun e he => hB e.2.2 (List.mem_map.mpr ⟨e, he, rfl⟩)) hS (Nat.le_trans hlen hn2)
end Lw
namespace Lw
open PySem PySem.Spec PyProof.Rows L2

open LamX ClX StX
set_option pp.maxSteps 900
def tab3 (B0 B1 B2 : Addr) : List (Addr × Str) := [(B0, ((("_law_asked_right" : Str) ++ (".<locals>." : Str)) ++ ("<lambda>" : Str))), (B1, ((("_law_refused_right" : Str) ++ (".<locals>." : Str)) ++ ("<lambda>" : Str))), (B2, ((("law" : Str) ++ (".<locals>." : Str)) ++ ("<lambda>" : Str)))]
theorem tab3_0 {B0 B1 B2 : Addr} (h1 : B1 ≠ B0) (h2 : B2 ≠ B0) : TabOf (tab3 B0 B1 B2) B0 "_law_asked_right" := ⟨by simp [tab3], fun p hp e => by
  simp only [tab3, List.mem_cons, List.not_mem_nil, or_false] at hp
  rcases hp with rfl | rfl | rfl
  · rfl
  · exact absurd e h1
  · exact absurd e h2⟩
theorem tab3_1 {B0 B1 B2 : Addr} (h1 : B1 ≠ B0) (h3 : B2 ≠ B1) : TabOf (tab3 B0 B1 B2) B1 "_law_refused_right" := ⟨by simp [tab3], fun p hp e => by
  simp only [tab3, List.mem_cons, List.not_mem_nil, or_false] at hp
  rcases hp with rfl | rfl | rfl
  · exact absurd e h1.symm
  · rfl
  · exact absurd e h3⟩
theorem tab3_2 {B0 B1 B2 : Addr} (h2 : B2 ≠ B0) (h3 : B2 ≠ B1) : TabOf (tab3 B0 B1 B2) B2 "law" := ⟨by simp [tab3], fun p hp e => by
  simp only [tab3, List.mem_cons, List.not_mem_nil, or_false] at hp
  rcases hp with rfl | rfl | rfl
  · exact absurd e h2.symm
  · exact absurd e h3.symm
  · rfl⟩
theorem kb_same {K : PySem.W.Frag} {x q : Str} {st : Stmt} {f : Addr} {fd : FuncData} {ps ks : List Str} (F : C8.Fun K x q st f fd) (df : fd.defaults = .none) (h : ∀ (kV doc pm : Value) (an : Option Addr) (cdv ct : Value) (us ws : List Value), us.length = 0 → ws.length = ks.length → bindArgs (PySem.W.fnOf x q (C8.fnArgs st) (C8.fnBody st) (C8.fnScope st) .none kV doc pm an cdv ct) ⟨us, ks.zip ws⟩ = pure (ps.zip ws)) :
    KBn K fd ps 0 ks (fun _ ws => ws) gV1 := by
  obtain ⟨oc, od, dV, kV, doc, pm, an, cdv, ct, osl, rfl, lk, hcd⟩ := F.ex
  have e : dV = .none := df
  subst e
  exact ⟨fun s us ws X h1 h2 => .of_eq (h kV doc pm an cdv ct us ws h1 h2), fun r1 r2 => r2⟩

theorem all_known {l : PySem.W.OpenLaw} {w : World} {K : PySem.W.Frag} {h : Heap} {mg : Str → Option Value} {fa : Addr} (X : K.In h) (G : h.Ns mainGlobals mg) (hfa : mg "law" = some (.ref fa))
    {L : Addr}
    {fii : Addr} {ocii kVii dcii pmii ctii cdii : Value} {odii anii : Option Addr} {slii : Array (Option Value)}
    {fiw : Addr} {ociw kViw dciw pmiw ctiw cdiw : Value} {odiw aniw : Option Addr} {sliw : Array (Option Value)}
    {fis : Addr} {ocis kVis dcis pmis ctis cdis : Value} {odis anis : Option Addr} {slis : Array (Option Value)}
    {fcm : Addr} {occm kVcm dccm pmcm ctcm cdcm : Value} {odcm ancm : Option Addr} {slcm : Array (Option Value)}
    {flp : Addr} {oclp kVlp dclp pmlp ctlp cdlp : Value} {odlp anlp : Option Addr} {sllp : Array (Option Value)}
    {fld : Addr} {ocld kVld dcld pmld ctld cdld : Value} {odld anld : Option Addr} {slld : Array (Option Value)}
    {flk : Addr} {oclk kVlk dclk pmlk ctlk cdlk : Value} {odlk anlk : Option Addr} {sllk : Array (Option Value)}
    {flh : Addr} {oclh kVlh dclh pmlh ctlh cdlh : Value} {odlh anlh : Option Addr} {sllh : Array (Option Value)}
    {flz : Addr} {oclz kVlz dclz pmlz ctlz cdlz : Value} {odlz anlz : Option Addr} {sllz : Array (Option Value)}
    {flm : Addr} {oclm kVlm dclm pmlm ctlm cdlm : Value} {odlm anlm : Option Addr} {sllm : Array (Option Value)}
    {flr : Addr} {oclr kVlr dclr pmlr ctlr cdlr : Value} {odlr anlr : Option Addr} {sllr : Array (Option Value)}
    {flq : Addr} {oclq kVlq dclq pmlq ctlq cdlq : Value} {odlq anlq : Option Addr} {sllq : Array (Option Value)}
    {flx : Addr} {oclx kVlx dclx pmlx ctlx : Value} {odlx anlx : Option Addr} {sllx : Array (Option Value)}
    {flf : Addr} {oclf kVlf dclf pmlf ctlf : Value} {odlf anlf : Option Addr} {sllf : Array (Option Value)}
    {fla : Addr} {ocla kVla dcla pmla ctla : Value} {odla anla : Option Addr} {slla : Array (Option Value)}
    {c0 B0 : Addr} {oc_c0 : Value} {od_c0 : Option Addr} {us_c0 : Array Value} {sl_c0 : Array (Option Value)}
    {c1 B1 : Addr} {oc_c1 : Value} {od_c1 : Option Addr} {us_c1 : Array Value} {sl_c1 : Array (Option Value)}
    {c2 B2 : Addr} {oc_c2 : Value} {od_c2 : Option Addr} {us_c2 : Array Value} {sl_c2 : Array (Option Value)}
    {CC : Addr} {mcCC : Value}
    {tM : Tok} {vM : Int}
    {fci : Addr} {occi kVci dcci pmci ctci cdci : Value} {odci anci : Option Addr} {slci : Array (Option Value)}
    {fco : Addr} {occo kVco dcco pmco ctco cdco : Value} {odco anco : Option Addr} {slco : Array (Option Value)}
    {pco : Addr} {rsco : List Value}
    {fce : Addr} {occe kVce dcce pmce ctce cdce : Value} {odce ance : Option Addr} {slce : Array (Option Value)}
    {fcn : Addr} {occn kVcn dccn pmcn ctcn cdcn : Value} {odcn ancn : Option Addr} {slcn : Array (Option Value)}
    {fwt : Addr} {ocwt kVwt dcwt pmwt ctwt cdwt : Value} {odwt anwt : Option Addr} {slwt : Array (Option Value)}
    {fwo : Addr} {ocwo kVwo dcwo pmwo ctwo cdwo : Value} {odwo anwo : Option Addr} {slwo : Array (Option Value)}
    {fwg : Addr} {ocwg kVwg dcwg pmwg ctwg cdwg : Value} {odwg anwg : Option Addr} {slwg : Array (Option Value)}
    {fws : Addr} {ocws kVws dcws pmws ctws cdws : Value} {odws anws : Option Addr} {slws : Array (Option Value)}
    {DC fEc : Addr} {ocEc kVEc dcEc pmEc cdEc ctEc : Value} {odEc anEc : Option Addr} {slEc : Array (Option Value)} {nmDc qDc : Str} {NDc : Addr} {bsDc bmDc : List Value} {snDc : List Str} {subDc : List Value} {abDc : Bool} {colDc : Option Bool} {ddDc : Option Addr} {e0c e1c e2c e3c e5c : Option Value}
    {DS fEs : Addr} {ocEs kVEs dcEs pmEs cdEs ctEs : Value} {odEs anEs : Option Addr} {slEs : Array (Option Value)} {nmDs qDs : Str} {NDs : Addr} {bsDs bmDs : List Value} {snDs : List Str} {subDs : List Value} {abDs : Bool} {colDs : Option Bool} {ddDs : Option Addr} {e0s e1s e2s e3s e5s : Option Value}
    {DT fEt : Addr} {ocEt kVEt dcEt pmEt cdEt ctEt : Value} {odEt anEt : Option Addr} {slEt : Array (Option Value)} {nmDt qDt : Str} {NDt : Addr} {bsDt bmDt : List Value} {snDt : List Str} {subDt : List Value} {abDt : Bool} {colDt : Option Bool} {ddDt : Option Addr} {e0t e1t e2t e3t e5t : Option Value}
    {DN fEn : Addr} {ocEn kVEn dcEn pmEn cdEn ctEn : Value} {odEn anEn : Option Addr} {slEn : Array (Option Value)} {nmDn qDn : Str} {NDn : Addr} {bsDn bmDn : List Value} {snDn : List Str} {subDn : List Value} {abDn : Bool} {colDn : Option Bool} {ddDn : Option Addr} {e0n e1n e2n e3n e5n : Option Value}
    {DM fEm : Addr} {ocEm kVEm dcEm pmEm cdEm ctEm : Value} {odEm anEm : Option Addr} {slEm : Array (Option Value)} {nmDm qDm : Str} {NDm : Addr} {bsDm bmDm : List Value} {snDm : List Str} {subDm : List Value} {abDm : Bool} {colDm : Option Bool} {ddDm : Option Addr} {e0m e1m e2m e3m e5m : Option Value}
    {tGS : Tok} {vGS : Int}
    (aL : PySem.W.nsIn K mainGlobals "LateError" = some (some (.ref L)))
    (aii : PySem.W.nsIn K mainGlobals "is_integer" = some (some (.ref fii)))
    (lii : K.lookup fii = some ⟨ocii, odii, .func (PySem.W.fnOf "is_integer" "is_integer" (C8.fnArgs sIsInt) (C8.fnBody sIsInt) (C8.fnScope sIsInt) .none kVii dcii pmii anii cdii ctii), slii⟩)
    (cii : PySem.W.codeIn K cdii "is_integer" = true)
    (kii : PySem.W.keepIn K (.ref fii) = true)
    (aiw : PySem.W.nsIn K mainGlobals "is_within" = some (some (.ref fiw)))
    (liw : K.lookup fiw = some ⟨ociw, odiw, .func (PySem.W.fnOf "is_within" "is_within" (C8.fnArgs sWithin) (C8.fnBody sWithin) (C8.fnScope sWithin) .none kViw dciw pmiw aniw cdiw ctiw), sliw⟩)
    (ciw : PySem.W.codeIn K cdiw "is_within" = true)
    (kiw : PySem.W.keepIn K (.ref fiw) = true)
    (ais : PySem.W.nsIn K mainGlobals "is_size" = some (some (.ref fis)))
    (lis : K.lookup fis = some ⟨ocis, odis, .func (PySem.W.fnOf "is_size" "is_size" (C8.fnArgs sSize) (C8.fnBody sSize) (C8.fnScope sSize) .none kVis dcis pmis anis cdis ctis), slis⟩)
    (cis : PySem.W.codeIn K cdis "is_size" = true)
    (kis : PySem.W.keepIn K (.ref fis) = true)
    (acm : PySem.W.nsIn K mainGlobals "check_many" = some (some (.ref fcm)))
    (lcm : K.lookup fcm = some ⟨occm, odcm, .func (PySem.W.fnOf "check_many" "check_many" (C8.fnArgs sCM) (C8.fnBody sCM) (C8.fnScope sCM) .none kVcm dccm pmcm ancm cdcm ctcm), slcm⟩)
    (ccm : PySem.W.codeIn K cdcm "check_many" = true)
    (kcm : PySem.W.keepIn K (.ref fcm) = true)
    (alp : PySem.W.nsIn K mainGlobals "_law_pen" = some (some (.ref flp)))
    (llp : K.lookup flp = some ⟨oclp, odlp, .func (PySem.W.fnOf "_law_pen" "_law_pen" (C8.fnArgs sPen) (C8.fnBody sPen) (C8.fnScope sPen) .none kVlp dclp pmlp anlp cdlp ctlp), sllp⟩)
    (clp : PySem.W.codeIn K cdlp "_law_pen" = true)
    (klp : PySem.W.keepIn K (.ref flp) = true)
    (ald : PySem.W.nsIn K mainGlobals "_law_draw" = some (some (.ref fld)))
    (lld : K.lookup fld = some ⟨ocld, odld, .func (PySem.W.fnOf "_law_draw" "_law_draw" (C8.fnArgs sDraw) (C8.fnBody sDraw) (C8.fnScope sDraw) .none kVld dcld pmld anld cdld ctld), slld⟩)
    (cld : PySem.W.codeIn K cdld "_law_draw" = true)
    (kld : PySem.W.keepIn K (.ref fld) = true)
    (alk : PySem.W.nsIn K mainGlobals "_law_pick" = some (some (.ref flk)))
    (llk : K.lookup flk = some ⟨oclk, odlk, .func (PySem.W.fnOf "_law_pick" "_law_pick" (C8.fnArgs sPick) (C8.fnBody sPick) (C8.fnScope sPick) .none kVlk dclk pmlk anlk cdlk ctlk), sllk⟩)
    (clk : PySem.W.codeIn K cdlk "_law_pick" = true)
    (klk : PySem.W.keepIn K (.ref flk) = true)
    (alh : PySem.W.nsIn K mainGlobals "_law_heard" = some (some (.ref flh)))
    (llh : K.lookup flh = some ⟨oclh, odlh, .func (PySem.W.fnOf "_law_heard" "_law_heard" (C8.fnArgs sHea) (C8.fnBody sHea) (C8.fnScope sHea) .none kVlh dclh pmlh anlh cdlh ctlh), sllh⟩)
    (clh : PySem.W.codeIn K cdlh "_law_heard" = true)
    (klh : PySem.W.keepIn K (.ref flh) = true)
    (alz : PySem.W.nsIn K mainGlobals "_law_sizes" = some (some (.ref flz)))
    (llz : K.lookup flz = some ⟨oclz, odlz, .func (PySem.W.fnOf "_law_sizes" "_law_sizes" (C8.fnArgs sLsz) (C8.fnBody sLsz) (C8.fnScope sLsz) .none kVlz dclz pmlz anlz cdlz ctlz), sllz⟩)
    (clz : PySem.W.codeIn K cdlz "_law_sizes" = true)
    (klz : PySem.W.keepIn K (.ref flz) = true)
    (alm : PySem.W.nsIn K mainGlobals "_law_made" = some (some (.ref flm)))
    (llm : K.lookup flm = some ⟨oclm, odlm, .func (PySem.W.fnOf "_law_made" "_law_made" (C8.fnArgs sLmd) (C8.fnBody sLmd) (C8.fnScope sLmd) .none kVlm dclm pmlm anlm cdlm ctlm), sllm⟩)
    (clm : PySem.W.codeIn K cdlm "_law_made" = true)
    (klm : PySem.W.keepIn K (.ref flm) = true)
    (alr : PySem.W.nsIn K mainGlobals "_law_parts_right" = some (some (.ref flr)))
    (llr : K.lookup flr = some ⟨oclr, odlr, .func (PySem.W.fnOf "_law_parts_right" "_law_parts_right" (C8.fnArgs sLpr) (C8.fnBody sLpr) (C8.fnScope sLpr) .none kVlr dclr pmlr anlr cdlr ctlr), sllr⟩)
    (clr : PySem.W.codeIn K cdlr "_law_parts_right" = true)
    (klr : PySem.W.keepIn K (.ref flr) = true)
    (alq : PySem.W.nsIn K mainGlobals "_law_equal_right" = some (some (.ref flq)))
    (llq : K.lookup flq = some ⟨oclq, odlq, .func (PySem.W.fnOf "_law_equal_right" "_law_equal_right" (C8.fnArgs sLeq) (C8.fnBody sLeq) (C8.fnScope sLeq) .none kVlq dclq pmlq anlq cdlq ctlq), sllq⟩)
    (clq : PySem.W.codeIn K cdlq "_law_equal_right" = true)
    (klq : PySem.W.keepIn K (.ref flq) = true)
    (alx : PySem.W.nsIn K mainGlobals "_law_asked_right" = some (some (.ref flx)))
    (llx : K.lookup flx = some ⟨oclx, odlx, .func (PySem.W.fnOf "_law_asked_right" "_law_asked_right" (C8.fnArgs sLas) (C8.fnBody sLas) (C8.fnScope sLas) .none kVlx dclx pmlx anlx (.ref c0) ctlx), sllx⟩)
    (clx : PySem.W.codeIn K (.ref c0) "_law_asked_right" = true)
    (klx : PySem.W.keepIn K (.ref flx) = true)
    (alf : PySem.W.nsIn K mainGlobals "_law_refused_right" = some (some (.ref flf)))
    (llf : K.lookup flf = some ⟨oclf, odlf, .func (PySem.W.fnOf "_law_refused_right" "_law_refused_right" (C8.fnArgs sLrr) (C8.fnBody sLrr) (C8.fnScope sLrr) .none kVlf dclf pmlf anlf (.ref c1) ctlf), sllf⟩)
    (clf : PySem.W.codeIn K (.ref c1) "_law_refused_right" = true)
    (klf : PySem.W.keepIn K (.ref flf) = true)
    (ala : PySem.W.nsIn K mainGlobals "law" = some (some (.ref fla)))
    (lla : K.lookup fla = some ⟨ocla, odla, .func (PySem.W.fnOf "law" "law" (C8.fnArgs sLaw) (C8.fnBody sLaw) (C8.fnScope sLaw) .none kVla dcla pmla anla (.ref c2) ctla), slla⟩)
    (cla : PySem.W.codeIn K (.ref c2) "law" = true)
    (kla : PySem.W.keepIn K (.ref fla) = true)
    (ltlx : K.lookup c0 = some ⟨oc_c0, od_c0, .fields us_c0, sl_c0⟩)
    (vtlx : us_c0[11]? = some (.ref B0))
    (ntlx : K.lookup B0 = none)
    (ltlf : K.lookup c1 = some ⟨oc_c1, od_c1, .fields us_c1, sl_c1⟩)
    (vtlf : us_c1[11]? = some (.ref B1))
    (ntlf : K.lookup B1 = none)
    (ltla : K.lookup c2 = some ⟨oc_c2, od_c2, .fields us_c2, sl_c2⟩)
    (vtla : us_c2[11]? = some (.ref B2))
    (ntla : K.lookup B2 = none)
    (nB1 : B1 ≠ B0)
    (nB2 : B2 ≠ B0)
    (nB3 : B2 ≠ B1)
    (aCC : PySem.W.nsIn K mainGlobals "Chunks" = some (some (.ref CC)))
    (sTCC : PySem.W.typeIn K (.ref CC) = some mcCC)
    (sRCC : PySem.W.readsIn K CC mcCC = true)
    (sGCC : PySem.W.specialIn K (.ref CC) "__getattribute__" = some (some (.builtin "type.__getattribute__")))
    (pgCC : PySem.W.plainGet K CC Str.empty = true)
    (hdCC : PySem.W.hasDictIn K CC = true)
    (poCC : PySem.W.plainOver K CC = true)
    (saCC : PySem.W.findIn K (.ref CC) "__setattr__" = some (some (.builtin "object.__setattr__")))
    (mkCC : PySem.W.makesIn K CC = true)
    (kCCC : PySem.W.keepIn K (.ref CC) = true)
    (noCC_sizes : PySem.W.findIn K (.ref CC) "sizes" = some none)
    (noCC_total : PySem.W.findIn K (.ref CC) "total" = some none)
    (noCC_ends : PySem.W.findIn K (.ref CC) "ends" = some none)
    (noCC_rests : PySem.W.findIn K (.ref CC) "rests" = some none)
    (hCCC : PySem.W.findIn K (.ref CC) "__class__" = some (some (.builtin "object.__class__")))
    (hMCC : PySem.W.mroIn K CC (.type "object") = some true)
    (hG : PySem.W.specialIn K (.builtin "object.__class__") "__get__" = some (some (.builtin "getset_descriptor.__get__")))
    (hK : PySem.W.takesIn K (.builtin "object.__class__") = some true)
    (nECC : PySem.W.findIn K (.ref CC) "__ne__" = some (some (.builtin "object.__ne__")))
    (cM : PySem.W.findCls K (.ref CC) mcCC "MOST" = some (.val (.int vM tM)))
    (eM : vM = 5000)
    (aci : PySem.W.findIn K (.ref CC) "__init__" = some (some (.ref fci)))
    (ici : PySem.W.isFn K (.ref fci) = true)
    (lci : K.lookup fci = some ⟨occi, odci, .func (PySem.W.fnOf "__init__" "Chunks.__init__" (C8.fnArgs sCI) (C8.fnBody sCI) (C8.fnScope sCI) .none kVci dcci pmci anci cdci ctci), slci⟩)
    (cci : PySem.W.codeIn K cdci "Chunks.__init__" = true)
    (kci : PySem.W.keepIn K (.ref fci) = true)
    (lco : K.lookup fco = some ⟨occo, odco, .func (PySem.W.fnOf "of" "Chunks.of" (C8.fnArgs sCof) (C8.fnBody sCof) (C8.fnScope sCof) .none kVco dcco pmco anco cdco ctco), slco⟩)
    (cco : PySem.W.codeIn K cdco "Chunks.of" = true)
    (kco : PySem.W.keepIn K (.ref fco) = true)
    (sco : PySem.W.findCls K (.ref CC) mcCC "of" = some (.get (.builtin "staticmethod.__get__") (.ref pco) .none (.ref CC)))
    (rco : PySem.W.recIn K pco "staticmethod" = some (.ref fco :: rsco))
    (ace : PySem.W.findIn K (.ref CC) "__eq__" = some (some (.ref fce)))
    (ice : PySem.W.isFn K (.ref fce) = true)
    (lce : K.lookup fce = some ⟨occe, odce, .func (PySem.W.fnOf "__eq__" "Chunks.__eq__" (C8.fnArgs sCeq) (C8.fnBody sCeq) (C8.fnScope sCeq) .none kVce dcce pmce ance cdce ctce), slce⟩)
    (cce : PySem.W.codeIn K cdce "Chunks.__eq__" = true)
    (kce : PySem.W.keepIn K (.ref fce) = true)
    (acn : PySem.W.findIn K (.ref CC) "__len__" = some (some (.ref fcn)))
    (icn : PySem.W.isFn K (.ref fcn) = true)
    (lcn : K.lookup fcn = some ⟨occn, odcn, .func (PySem.W.fnOf "__len__" "Chunks.__len__" (C8.fnArgs sCln) (C8.fnBody sCln) (C8.fnScope sCln) .none kVcn dccn pmcn ancn cdcn ctcn), slcn⟩)
    (ccn : PySem.W.codeIn K cdcn "Chunks.__len__" = true)
    (kcn : PySem.W.keepIn K (.ref fcn) = true)
    (awt : PySem.W.findIn K (.ref CC) "__iter__" = some (some (.ref fwt)))
    (iwt : PySem.W.isFn K (.ref fwt) = true)
    (lwt : K.lookup fwt = some ⟨ocwt, odwt, .func (PySem.W.fnOf "__iter__" "Chunks.__iter__" (C8.fnArgs sCit) (C8.fnBody sCit) (C8.fnScope sCit) .none kVwt dcwt pmwt anwt cdwt ctwt), slwt⟩)
    (cwt : PySem.W.codeIn K cdwt "Chunks.__iter__" = true)
    (kwt : PySem.W.keepIn K (.ref fwt) = true)
    (awo : PySem.W.findIn K (.ref CC) "__contains__" = some (some (.ref fwo)))
    (iwo : PySem.W.isFn K (.ref fwo) = true)
    (lwo : K.lookup fwo = some ⟨ocwo, odwo, .func (PySem.W.fnOf "__contains__" "Chunks.__contains__" (C8.fnArgs sCco) (C8.fnBody sCco) (C8.fnScope sCco) .none kVwo dcwo pmwo anwo cdwo ctwo), slwo⟩)
    (cwo : PySem.W.codeIn K cdwo "Chunks.__contains__" = true)
    (kwo : PySem.W.keepIn K (.ref fwo) = true)
    (awg : PySem.W.findIn K (.ref CC) "__getitem__" = some (some (.ref fwg)))
    (iwg : PySem.W.isFn K (.ref fwg) = true)
    (lwg : K.lookup fwg = some ⟨ocwg, odwg, .func (PySem.W.fnOf "__getitem__" "Chunks.__getitem__" (C8.fnArgs sCgi) (C8.fnBody sCgi) (C8.fnScope sCgi) .none kVwg dcwg pmwg anwg cdwg ctwg), slwg⟩)
    (cwg : PySem.W.codeIn K cdwg "Chunks.__getitem__" = true)
    (kwg : PySem.W.keepIn K (.ref fwg) = true)
    (aws : PySem.W.findIn K (.ref CC) "__str__" = some (some (.ref fws)))
    (iws : PySem.W.isFn K (.ref fws) = true)
    (lws : K.lookup fws = some ⟨ocws, odws, .func (PySem.W.fnOf "__str__" "Chunks.__str__" (C8.fnArgs sCst) (C8.fnBody sCst) (C8.fnScope sCst) .none kVws dcws pmws anws cdws ctws), slws⟩)
    (cws : PySem.W.codeIn K cdws "Chunks.__str__" = true)
    (kws : PySem.W.keepIn K (.ref fws) = true)
    (nb : PySem.W.findIn K (.ref CC) "__bool__" = some none)
    (fng : PySem.W.fnIn K fwg = true)
    (sqc : PySem.W.noSeq K CC = true)
    (eqn : (nfN.all fun n => PySem.W.subIn K (.type n) (.ref CC) == some false && PySem.W.kitOne K (.type n) (.ref CC) == some false) = true)
    (nsq : PySem.W.kitAny K (.ref CC) [.type "list", .type "tuple"] = some false)
    (aDc : PySem.W.nsIn K mainGlobals "BadChunks" = some (some (.ref DC)))
    (xDc : K.lookup DC = some (excClassObj nmDc qDc DC NDc bsDc bmDc true snDc subDc abDc colDc ddDc e0c e1c e2c e3c e5c "ValueError.__new__"))
    (xBc : PySem.HandSPX.refsVE bmDc = true)
    (xsc : PySem.W.findIn K (.ref DC) "__setattr__" = some (some (.builtin "object.__setattr__")))
    (xec : PySem.W.subIn K (.ref DC) (.type "BaseException") = some true)
    (xtc : PySem.W.typeIn K (.ref DC) = some (.type "type"))
    (xkc : PySem.W.keepIn K (.ref DC) = true)
    (xic : PySem.W.findIn K (.ref DC) "__init__" = some (some (.ref fEc)))
    (xfc : PySem.W.typeIn K (.ref fEc) = some (.type "function"))
    (lEc : K.lookup fEc = some ⟨ocEc, odEc, .func (PySem.W.fnOf "__init__" "BadChunks.__init__" (C8.fnArgs sBchE) (C8.fnBody sBchE) (C8.fnScope sBchE) .none kVEc dcEc pmEc anEc cdEc ctEc), slEc⟩)
    (cEc : PySem.W.codeIn K cdEc "BadChunks.__init__" = true)
    (xvc0 : PySem.W.findIn K (.ref DC) "part" = some none)
    (xgc : PySem.W.findIn K (.ref DC) "__getattribute__" = some (some (.builtin "BaseException.__getattribute__")))
    (xnc : PySem.W.findIn K (.ref DC) "__getattr__" = some none)
    (xdc : PySem.W.hasDictIn K DC = true)
    (xcc : PySem.W.findIn K (.ref DC) "__class__" = some (some (.builtin "object.__class__")))
    (xmc : PySem.W.mroIn K DC (.type "object") = some true)
    (xoc : PySem.W.kitOne K (.ref DC) (.ref DC) = some true)
    (xLc : PySem.W.exmOne K (.ref DC) (.ref L) = some true)
    (xVc : PySem.W.kitOne K (.ref DC) (.type "ValueError") = some true)
    (aDs : PySem.W.nsIn K mainGlobals "BadSize" = some (some (.ref DS)))
    (xDs : K.lookup DS = some (excClassObj nmDs qDs DS NDs bsDs bmDs true snDs subDs abDs colDs ddDs e0s e1s e2s e3s e5s "ValueError.__new__"))
    (xBs : PySem.HandSPX.refsVE bmDs = true)
    (xss : PySem.W.findIn K (.ref DS) "__setattr__" = some (some (.builtin "object.__setattr__")))
    (xes : PySem.W.subIn K (.ref DS) (.type "BaseException") = some true)
    (xts : PySem.W.typeIn K (.ref DS) = some (.type "type"))
    (xks : PySem.W.keepIn K (.ref DS) = true)
    (xis : PySem.W.findIn K (.ref DS) "__init__" = some (some (.ref fEs)))
    (xfs : PySem.W.typeIn K (.ref fEs) = some (.type "function"))
    (lEs : K.lookup fEs = some ⟨ocEs, odEs, .func (PySem.W.fnOf "__init__" "BadSize.__init__" (C8.fnArgs sBszE) (C8.fnBody sBszE) (C8.fnScope sBszE) .none kVEs dcEs pmEs anEs cdEs ctEs), slEs⟩)
    (cEs : PySem.W.codeIn K cdEs "BadSize.__init__" = true)
    (xvs0 : PySem.W.findIn K (.ref DS) "value" = some none)
    (xgs : PySem.W.findIn K (.ref DS) "__getattribute__" = some (some (.builtin "BaseException.__getattribute__")))
    (xns : PySem.W.findIn K (.ref DS) "__getattr__" = some none)
    (xds : PySem.W.hasDictIn K DS = true)
    (xcs : PySem.W.findIn K (.ref DS) "__class__" = some (some (.builtin "object.__class__")))
    (xms : PySem.W.mroIn K DS (.type "object") = some true)
    (xos : PySem.W.kitOne K (.ref DS) (.ref DS) = some true)
    (xLs : PySem.W.exmOne K (.ref DS) (.ref L) = some true)
    (xVs : PySem.W.kitOne K (.ref DS) (.type "ValueError") = some true)
    (aDt : PySem.W.nsIn K mainGlobals "BadTotal" = some (some (.ref DT)))
    (xDt : K.lookup DT = some (excClassObj nmDt qDt DT NDt bsDt bmDt true snDt subDt abDt colDt ddDt e0t e1t e2t e3t e5t "ValueError.__new__"))
    (xBt : PySem.HandSPX.refsVE bmDt = true)
    (xst : PySem.W.findIn K (.ref DT) "__setattr__" = some (some (.builtin "object.__setattr__")))
    (xet : PySem.W.subIn K (.ref DT) (.type "BaseException") = some true)
    (xtt : PySem.W.typeIn K (.ref DT) = some (.type "type"))
    (xkt : PySem.W.keepIn K (.ref DT) = true)
    (xit : PySem.W.findIn K (.ref DT) "__init__" = some (some (.ref fEt)))
    (xft : PySem.W.typeIn K (.ref fEt) = some (.type "function"))
    (lEt : K.lookup fEt = some ⟨ocEt, odEt, .func (PySem.W.fnOf "__init__" "BadTotal.__init__" (C8.fnArgs sBtoE) (C8.fnBody sBtoE) (C8.fnScope sBtoE) .none kVEt dcEt pmEt anEt cdEt ctEt), slEt⟩)
    (cEt : PySem.W.codeIn K cdEt "BadTotal.__init__" = true)
    (xvt0 : PySem.W.findIn K (.ref DT) "value" = some none)
    (xgt : PySem.W.findIn K (.ref DT) "__getattribute__" = some (some (.builtin "BaseException.__getattribute__")))
    (xnt : PySem.W.findIn K (.ref DT) "__getattr__" = some none)
    (xdt : PySem.W.hasDictIn K DT = true)
    (xct : PySem.W.findIn K (.ref DT) "__class__" = some (some (.builtin "object.__class__")))
    (xmt : PySem.W.mroIn K DT (.type "object") = some true)
    (xot : PySem.W.kitOne K (.ref DT) (.ref DT) = some true)
    (xLt : PySem.W.exmOne K (.ref DT) (.ref L) = some true)
    (xVt : PySem.W.kitOne K (.ref DT) (.type "ValueError") = some true)
    (aDn : PySem.W.nsIn K mainGlobals "NoChunk" = some (some (.ref DN)))
    (xDn : K.lookup DN = some (excClassObj nmDn qDn DN NDn bsDn bmDn true snDn subDn abDn colDn ddDn e0n e1n e2n e3n e5n "ValueError.__new__"))
    (xBn : PySem.HandSPX.refsVE bmDn = true)
    (xsn : PySem.W.findIn K (.ref DN) "__setattr__" = some (some (.builtin "object.__setattr__")))
    (xen : PySem.W.subIn K (.ref DN) (.type "BaseException") = some true)
    (xtn : PySem.W.typeIn K (.ref DN) = some (.type "type"))
    (xkn : PySem.W.keepIn K (.ref DN) = true)
    (xin : PySem.W.findIn K (.ref DN) "__init__" = some (some (.ref fEn)))
    (xfn : PySem.W.typeIn K (.ref fEn) = some (.type "function"))
    (lEn : K.lookup fEn = some ⟨ocEn, odEn, .func (PySem.W.fnOf "__init__" "NoChunk.__init__" (C8.fnArgs sNchE) (C8.fnBody sNchE) (C8.fnScope sNchE) .none kVEn dcEn pmEn anEn cdEn ctEn), slEn⟩)
    (cEn : PySem.W.codeIn K cdEn "NoChunk.__init__" = true)
    (xvn0 : PySem.W.findIn K (.ref DN) "at" = some none)
    (xgn : PySem.W.findIn K (.ref DN) "__getattribute__" = some (some (.builtin "BaseException.__getattribute__")))
    (xnn : PySem.W.findIn K (.ref DN) "__getattr__" = some none)
    (xdn : PySem.W.hasDictIn K DN = true)
    (xcn : PySem.W.findIn K (.ref DN) "__class__" = some (some (.builtin "object.__class__")))
    (xmn : PySem.W.mroIn K DN (.type "object") = some true)
    (xon : PySem.W.kitOne K (.ref DN) (.ref DN) = some true)
    (xLn : PySem.W.exmOne K (.ref DN) (.ref L) = some true)
    (xVn : PySem.W.kitOne K (.ref DN) (.type "ValueError") = some true)
    (aDm : PySem.W.nsIn K mainGlobals "TooMany" = some (some (.ref DM)))
    (xDm : K.lookup DM = some (excClassObj nmDm qDm DM NDm bsDm bmDm true snDm subDm abDm colDm ddDm e0m e1m e2m e3m e5m "ValueError.__new__"))
    (xBm : PySem.HandSPX.refsVE bmDm = true)
    (xsm : PySem.W.findIn K (.ref DM) "__setattr__" = some (some (.builtin "object.__setattr__")))
    (xem : PySem.W.subIn K (.ref DM) (.type "BaseException") = some true)
    (xtm : PySem.W.typeIn K (.ref DM) = some (.type "type"))
    (xkm : PySem.W.keepIn K (.ref DM) = true)
    (xim : PySem.W.findIn K (.ref DM) "__init__" = some (some (.ref fEm)))
    (xfm : PySem.W.typeIn K (.ref fEm) = some (.type "function"))
    (lEm : K.lookup fEm = some ⟨ocEm, odEm, .func (PySem.W.fnOf "__init__" "TooMany.__init__" (C8.fnArgs sMnE) (C8.fnBody sMnE) (C8.fnScope sMnE) .none kVEm dcEm pmEm anEm cdEm ctEm), slEm⟩)
    (cEm : PySem.W.codeIn K cdEm "TooMany.__init__" = true)
    (xvm0 : PySem.W.findIn K (.ref DM) "what" = some none)
    (xvm1 : PySem.W.findIn K (.ref DM) "most" = some none)
    (xgm : PySem.W.findIn K (.ref DM) "__getattribute__" = some (some (.builtin "BaseException.__getattribute__")))
    (xnm : PySem.W.findIn K (.ref DM) "__getattr__" = some none)
    (xdm : PySem.W.hasDictIn K DM = true)
    (xcm : PySem.W.findIn K (.ref DM) "__class__" = some (some (.builtin "object.__class__")))
    (xmm : PySem.W.mroIn K DM (.type "object") = some true)
    (xom : PySem.W.kitOne K (.ref DM) (.ref DM) = some true)
    (xLm : PySem.W.exmOne K (.ref DM) (.ref L) = some true)
    (xVm : PySem.W.kitOne K (.ref DM) (.type "ValueError") = some true)
    (xNcs : PySem.W.kitOne K (.ref DC) (.ref DS) = some false)
    (xNct : PySem.W.kitOne K (.ref DC) (.ref DT) = some false)
    (xNcn : PySem.W.kitOne K (.ref DC) (.ref DN) = some false)
    (xNcm : PySem.W.kitOne K (.ref DC) (.ref DM) = some false)
    (xNsc : PySem.W.kitOne K (.ref DS) (.ref DC) = some false)
    (xNst : PySem.W.kitOne K (.ref DS) (.ref DT) = some false)
    (xNsn : PySem.W.kitOne K (.ref DS) (.ref DN) = some false)
    (xNsm : PySem.W.kitOne K (.ref DS) (.ref DM) = some false)
    (xNtc : PySem.W.kitOne K (.ref DT) (.ref DC) = some false)
    (xNts : PySem.W.kitOne K (.ref DT) (.ref DS) = some false)
    (xNtn : PySem.W.kitOne K (.ref DT) (.ref DN) = some false)
    (xNtm : PySem.W.kitOne K (.ref DT) (.ref DM) = some false)
    (xNnc : PySem.W.kitOne K (.ref DN) (.ref DC) = some false)
    (xNns : PySem.W.kitOne K (.ref DN) (.ref DS) = some false)
    (xNnt : PySem.W.kitOne K (.ref DN) (.ref DT) = some false)
    (xNnm : PySem.W.kitOne K (.ref DN) (.ref DM) = some false)
    (xNmc : PySem.W.kitOne K (.ref DM) (.ref DC) = some false)
    (xNms : PySem.W.kitOne K (.ref DM) (.ref DS) = some false)
    (xNmt : PySem.W.kitOne K (.ref DM) (.ref DT) = some false)
    (xNmn : PySem.W.kitOne K (.ref DM) (.ref DN) = some false)
    (gGS : PySem.W.nsIn K mainGlobals "GREATEST_SIZE" = some (some (.int vGS tGS)))
    (eGS : vGS = 10 ^ 30)
    (z_int : PySem.W.nsIn K mainGlobals "int" = some none)
    (z_list : PySem.W.nsIn K mainGlobals "list" = some none)
    (z_len : PySem.W.nsIn K mainGlobals "len" = some none)
    (z_abs : PySem.W.nsIn K mainGlobals "abs" = some none)
    (z_bool : PySem.W.nsIn K mainGlobals "bool" = some none)
    (z_str : PySem.W.nsIn K mainGlobals "str" = some none)
    (z_isinstance : PySem.W.nsIn K mainGlobals "isinstance" = some none)
    (z_range : PySem.W.nsIn K mainGlobals "range" = some none)
    (z_repr : PySem.W.nsIn K mainGlobals "repr" = some none)
    (z_all : PySem.W.nsIn K mainGlobals "all" = some none)
    (z_zip : PySem.W.nsIn K mainGlobals "zip" = some none)
    (z_tuple : PySem.W.nsIn K mainGlobals "tuple" = some none)
    (z_min : PySem.W.nsIn K mainGlobals "min" = some none)
    (z_max : PySem.W.nsIn K mainGlobals "max" = some none)
    (z_iter : PySem.W.nsIn K mainGlobals "iter" = some none)
    (z_ValueError : PySem.W.nsIn K mainGlobals "ValueError" = some none) :
    ∃ (fd : FuncData) (tb : List (Str × Addr × Addr)) (sp : Sp), (∀ e ∈ tb, e.1 ∈ (["_law_asked_right", "_law_refused_right", "law"] : List Str) ∧ PySem.W.tabIn K e.1 = some (e.2.1, e.2.2) ∧ K.lookup e.2.2 = none) ∧ (∀ (s : Shared) (u : Value), BindsTo s fd ⟨[u], []⟩ [("_law_script", u)]) ∧
      (∀ base : Heap, K.In base → base.Ns mainGlobals mg → (∀ e ∈ tb, TabB base mg e.2.1 e.2.2) → FnG l.prog w K mg base 18 fa fd ["_law_script"] sp) ∧
      ∀ (H : Hp) (a : Addr) (ns : List Int), (∀ e ∈ tb, H e.2.2 = some (.tbl #[])) → SqL K H a (ns.map V.int) → ns.length ≤ 63 → sp [.ref a] H (fun v _ => v = .bl true) C8.E0 := by
  have e := hfa.symm.trans (PySem.W.mg_of X G ala)
  cases e
  subst eM eGS
  have Fii : C8.Def K mg "is_integer" sIsInt fii _ := ⟨⟨_, _, _, _, _, _, _, _, _, _, rfl, lii, cii⟩, PySem.W.mg_of X G aii, kii⟩
  have bii : Binds K _ ["value"] [] := Fii.fn.binds rfl fun _ _ _ _ _ _ us hl => match us, hl with | [_], _ => rfl
  have Fiw : C8.Def K mg "is_within" sWithin fiw _ := ⟨⟨_, _, _, _, _, _, _, _, _, _, rfl, liw, ciw⟩, PySem.W.mg_of X G aiw, kiw⟩
  have biw : Binds K _ ["value", "least", "most"] [] := Fiw.fn.binds rfl fun _ _ _ _ _ _ us hl => match us, hl with | [_, _, _], _ => rfl
  have Fis : C8.Def K mg "is_size" sSize fis _ := ⟨⟨_, _, _, _, _, _, _, _, _, _, rfl, lis, cis⟩, PySem.W.mg_of X G ais, kis⟩
  have bis : Binds K _ ["value"] [] := Fis.fn.binds rfl fun _ _ _ _ _ _ us hl => match us, hl with | [_], _ => rfl
  have Fcm : C8.Def K mg "check_many" sCM fcm _ := ⟨⟨_, _, _, _, _, _, _, _, _, _, rfl, lcm, ccm⟩, PySem.W.mg_of X G acm, kcm⟩
  have bcm : Binds K _ ["many"] [] := Fcm.fn.binds rfl fun _ _ _ _ _ _ us hl => match us, hl with | [_], _ => rfl
  have Flp : C8.Def K mg "_law_pen" sPen flp _ := ⟨⟨_, _, _, _, _, _, _, _, _, _, rfl, llp, clp⟩, PySem.W.mg_of X G alp, klp⟩
  have blp : Binds K _ ["_law_script"] [] := Flp.fn.binds rfl fun _ _ _ _ _ _ us hl => match us, hl with | [_], _ => rfl
  have Fld : C8.Def K mg "_law_draw" sDraw fld _ := ⟨⟨_, _, _, _, _, _, _, _, _, _, rfl, lld, cld⟩, PySem.W.mg_of X G ald, kld⟩
  have bld : Binds K _ ["_law_pen_here", "_law_many"] [] := Fld.fn.binds rfl fun _ _ _ _ _ _ us hl => match us, hl with | [_, _], _ => rfl
  have Flk : C8.Def K mg "_law_pick" sPick flk _ := ⟨⟨_, _, _, _, _, _, _, _, _, _, rfl, llk, clk⟩, PySem.W.mg_of X G alk, klk⟩
  have blk : Binds K _ ["_law_pen_here", "_law_some"] [] := Flk.fn.binds rfl fun _ _ _ _ _ _ us hl => match us, hl with | [_, _], _ => rfl
  have Flh : C8.Def K mg "_law_heard" sHea flh _ := ⟨⟨_, _, _, _, _, _, _, _, _, _, rfl, llh, clh⟩, PySem.W.mg_of X G alh, klh⟩
  have blh : Binds K _ ["_law_ask"] [] := Flh.fn.binds rfl fun _ _ _ _ _ _ us hl => match us, hl with | [_], _ => rfl
  have Flz : C8.Def K mg "_law_sizes" sLsz flz _ := ⟨⟨_, _, _, _, _, _, _, _, _, _, rfl, llz, clz⟩, PySem.W.mg_of X G alz, klz⟩
  have blz : Binds K _ ["_law_pen_here", "_law_most"] [] := Flz.fn.binds rfl fun _ _ _ _ _ _ us hl => match us, hl with | [_, _], _ => rfl
  have Flm : C8.Def K mg "_law_made" sLmd flm _ := ⟨⟨_, _, _, _, _, _, _, _, _, _, rfl, llm, clm⟩, PySem.W.mg_of X G alm, klm⟩
  have blm : Binds K _ ["_law_pen_here", "_law_sizes_here"] [] := Flm.fn.binds rfl fun _ _ _ _ _ _ us hl => match us, hl with | [_, _], _ => rfl
  have Flr : C8.Def K mg "_law_parts_right" sLpr flr _ := ⟨⟨_, _, _, _, _, _, _, _, _, _, rfl, llr, clr⟩, PySem.W.mg_of X G alr, klr⟩
  have blr : Binds K _ ["_law_made_here", "_law_sizes_here"] [] := Flr.fn.binds rfl fun _ _ _ _ _ _ us hl => match us, hl with | [_, _], _ => rfl
  have Flq : C8.Def K mg "_law_equal_right" sLeq flq _ := ⟨⟨_, _, _, _, _, _, _, _, _, _, rfl, llq, clq⟩, PySem.W.mg_of X G alq, klq⟩
  have blq : Binds K _ ["_law_pen_here", "_law_made_here", "_law_sizes_here"] [] := Flq.fn.binds rfl fun _ _ _ _ _ _ us hl => match us, hl with | [_, _, _], _ => rfl
  have Flx : DefC K mg "_law_asked_right" sLas flx _ c0 := ⟨⟨_, _, _, _, _, _, _, _, _, rfl, llx, clx⟩, PySem.W.mg_of X G alx, klx⟩
  have blx : Binds K _ ["_law_pen_here", "_law_made_here", "_law_sizes_here"] [] := C8.Fun.binds (st := sLas) (x := "_law_asked_right") (qual := "_law_asked_right") (f := flx) ⟨_, _, _, _, _, _, _, _, _, _, rfl, llx, clx⟩ rfl fun _ _ _ _ _ _ us hl => match us, hl with | [_, _, _], _ => rfl
  have Flf : DefC K mg "_law_refused_right" sLrr flf _ c1 := ⟨⟨_, _, _, _, _, _, _, _, _, rfl, llf, clf⟩, PySem.W.mg_of X G alf, klf⟩
  have blf : Binds K _ ["_law_pen_here", "_law_sizes_here"] [] := C8.Fun.binds (st := sLrr) (x := "_law_refused_right") (qual := "_law_refused_right") (f := flf) ⟨_, _, _, _, _, _, _, _, _, _, rfl, llf, clf⟩ rfl fun _ _ _ _ _ _ us hl => match us, hl with | [_, _], _ => rfl
  have Fla : LawC K "law" sLaw fa _ c2 := ⟨⟨_, _, _, _, _, _, _, _, _, rfl, lla, cla⟩⟩
  have rCC : CRead K CC mcCC := ⟨sRCC, sGCC⟩
  have clCC : Cls K CC := ⟨pgCC, hdCC, poCC, saCC⟩
  have ICC : C8.InsC K CC := ⟨clCC, hCCC, hG, hK, hMCC, by unfold PySem.W.kitOne; rw [if_pos (by simp)]⟩
  have Fci : C8.Fun K "__init__" "Chunks.__init__" sCI fci _ := ⟨_, _, _, _, _, _, _, _, _, _, rfl, lci, cci⟩
  have tci : Meth K CC "__init__" fci := ⟨aci, ici, kci⟩
  have Fco : C8.Fun K "of" "Chunks.of" sCof fco _ := ⟨_, _, _, _, _, _, _, _, _, _, rfl, lco, cco⟩
  have bco : Binds K _ ["sizes"] [] := Fco.binds rfl fun _ _ _ _ _ _ us hl => match us, hl with | [_], _ => rfl
  have Sco : SMet K CC "of" pco fco := ⟨⟨_, sTCC, sRCC, sco⟩, sGCC, ⟨_, rco⟩, kco⟩
  have Fce : C8.Fun K "__eq__" "Chunks.__eq__" sCeq fce _ := ⟨_, _, _, _, _, _, _, _, _, _, rfl, lce, cce⟩
  have bce : Binds K _ ["self", "other"] [] := Fce.binds rfl fun _ _ _ _ _ _ us hl => match us, hl with | [_, _], _ => rfl
  have tce : Meth K CC "__eq__" fce := ⟨ace, ice, kce⟩
  have Fcn : C8.Fun K "__len__" "Chunks.__len__" sCln fcn _ := ⟨_, _, _, _, _, _, _, _, _, _, rfl, lcn, ccn⟩
  have bcn : Binds K _ ["self"] [] := Fcn.binds rfl fun _ _ _ _ _ _ us hl => match us, hl with | [_], _ => rfl
  have tcn : Meth K CC "__len__" fcn := ⟨acn, icn, kcn⟩
  have Fwt : C8.Fun K "__iter__" "Chunks.__iter__" sCit fwt _ := ⟨_, _, _, _, _, _, _, _, _, _, rfl, lwt, cwt⟩
  have bwt : Binds K _ ["self"] [] := Fwt.binds rfl fun _ _ _ _ _ _ us hl => match us, hl with | [_], _ => rfl
  have twt : Meth K CC "__iter__" fwt := ⟨awt, iwt, kwt⟩
  have Fwo : C8.Fun K "__contains__" "Chunks.__contains__" sCco fwo _ := ⟨_, _, _, _, _, _, _, _, _, _, rfl, lwo, cwo⟩
  have bwo : Binds K _ ["self", "x"] [] := Fwo.binds rfl fun _ _ _ _ _ _ us hl => match us, hl with | [_, _], _ => rfl
  have two : Meth K CC "__contains__" fwo := ⟨awo, iwo, kwo⟩
  have Fwg : C8.Fun K "__getitem__" "Chunks.__getitem__" sCgi fwg _ := ⟨_, _, _, _, _, _, _, _, _, _, rfl, lwg, cwg⟩
  have bwg : Binds K _ ["self", "at"] [] := Fwg.binds rfl fun _ _ _ _ _ _ us hl => match us, hl with | [_, _], _ => rfl
  have twg : Meth K CC "__getitem__" fwg := ⟨awg, iwg, kwg⟩
  have Fws : C8.Fun K "__str__" "Chunks.__str__" sCst fws _ := ⟨_, _, _, _, _, _, _, _, _, _, rfl, lws, cws⟩
  have bws : Binds K _ ["self"] [] := Fws.binds rfl fun _ _ _ _ _ _ us hl => match us, hl with | [_], _ => rfl
  have tws : Meth K CC "__str__" fws := ⟨aws, iws, kws⟩
  have FEc : C8.Fun K "__init__" "BadChunks.__init__" sBchE fEc _ := ⟨_, _, _, _, _, _, _, _, _, _, rfl, lEc, cEc⟩
  have bEc : Binds K _ ["self", "part"] [] := FEc.binds rfl fun _ _ _ _ _ _ us hl => match us, hl with | [_, _], _ => rfl
  have OXc : OexC K DC := ⟨⟨_, _, _, _, _, _, _, _, _, _, _, _, _, _, _, xDc, xBc⟩, xsc, xec, xtc, xkc⟩
  have XFc : XfC K DC := ⟨xgc, xnc, xec, xdc⟩
  have XCc : Hx.XCls K DC := ⟨xgc, xnc, xec, xdc, xcc, hG, hK, xmc⟩
  have FEs : C8.Fun K "__init__" "BadSize.__init__" sBszE fEs _ := ⟨_, _, _, _, _, _, _, _, _, _, rfl, lEs, cEs⟩
  have bEs : Binds K _ ["self", "value"] [] := FEs.binds rfl fun _ _ _ _ _ _ us hl => match us, hl with | [_, _], _ => rfl
  have OXs : OexC K DS := ⟨⟨_, _, _, _, _, _, _, _, _, _, _, _, _, _, _, xDs, xBs⟩, xss, xes, xts, xks⟩
  have XFs : XfC K DS := ⟨xgs, xns, xes, xds⟩
  have XCs : Hx.XCls K DS := ⟨xgs, xns, xes, xds, xcs, hG, hK, xms⟩
  have FEt : C8.Fun K "__init__" "BadTotal.__init__" sBtoE fEt _ := ⟨_, _, _, _, _, _, _, _, _, _, rfl, lEt, cEt⟩
  have bEt : Binds K _ ["self", "value"] [] := FEt.binds rfl fun _ _ _ _ _ _ us hl => match us, hl with | [_, _], _ => rfl
  have OXt : OexC K DT := ⟨⟨_, _, _, _, _, _, _, _, _, _, _, _, _, _, _, xDt, xBt⟩, xst, xet, xtt, xkt⟩
  have XFt : XfC K DT := ⟨xgt, xnt, xet, xdt⟩
  have XCt : Hx.XCls K DT := ⟨xgt, xnt, xet, xdt, xct, hG, hK, xmt⟩
  have FEn : C8.Fun K "__init__" "NoChunk.__init__" sNchE fEn _ := ⟨_, _, _, _, _, _, _, _, _, _, rfl, lEn, cEn⟩
  have bEn : Binds K _ ["self", "at"] [] := FEn.binds rfl fun _ _ _ _ _ _ us hl => match us, hl with | [_, _], _ => rfl
  have OXn : OexC K DN := ⟨⟨_, _, _, _, _, _, _, _, _, _, _, _, _, _, _, xDn, xBn⟩, xsn, xen, xtn, xkn⟩
  have XFn : XfC K DN := ⟨xgn, xnn, xen, xdn⟩
  have XCn : Hx.XCls K DN := ⟨xgn, xnn, xen, xdn, xcn, hG, hK, xmn⟩
  have FEm : C8.Fun K "__init__" "TooMany.__init__" sMnE fEm _ := ⟨_, _, _, _, _, _, _, _, _, _, rfl, lEm, cEm⟩
  have bEm : Binds K _ ["self", "what", "most"] [] := FEm.binds rfl fun _ _ _ _ _ _ us hl => match us, hl with | [_, _, _], _ => rfl
  have OXm : OexC K DM := ⟨⟨_, _, _, _, _, _, _, _, _, _, _, _, _, _, _, xDm, xBm⟩, xsm, xem, xtm, xkm⟩
  have XFm : XfC K DM := ⟨xgm, xnm, xem, xdm⟩
  have XCm : Hx.XCls K DM := ⟨xgm, xnm, xem, xdm, xcm, hG, hK, xmm⟩
  have T0 : Txt mg := { n_int := PySem.W.mg_none_of X G z_int, n_list := PySem.W.mg_none_of X G z_list, n_len := PySem.W.mg_none_of X G z_len, n_abs := PySem.W.mg_none_of X G z_abs, n_bool := PySem.W.mg_none_of X G z_bool, n_str := PySem.W.mg_none_of X G z_str, n_isinstance := PySem.W.mg_none_of X G z_isinstance, n_range := PySem.W.mg_none_of X G z_range, n_repr := PySem.W.mg_none_of X G z_repr, n_all := PySem.W.mg_none_of X G z_all, c_GS := ⟨_, PySem.W.mg_of X G gGS⟩ }
  have T : TxtM mg := { toTxt := T0, n_min := PySem.W.mg_none_of X G z_min, n_max := PySem.W.mg_none_of X G z_max, n_tuple := PySem.W.mg_none_of X G z_tuple, n_iter := PySem.W.mg_none_of X G z_iter }
  have hz := PySem.W.mg_none_of X G z_zip
  have htu := PySem.W.mg_none_of X G z_tuple
  have hit := PySem.W.mg_none_of X G z_iter
  have TO0 : TabOf (tab3 B0 B1 B2) B0 "_law_asked_right" := tab3_0 nB1 nB2
  have TO1 : TabOf (tab3 B0 B1 B2) B1 "_law_refused_right" := tab3_1 nB1 nB3
  have TO2 : TabOf (tab3 B0 B1 B2) B2 "law" := tab3_2 nB2 nB3
  have R2 : Hrd K mg DC DS DT DN DM L := { ml := PySem.W.mg_of X G aL, mv := PySem.W.mg_none_of X G z_ValueError, cDC := ⟨XFc, XCc, xoc, xVc, xLc⟩, mDC := PySem.W.mg_of X G aDc, nDC_part := xvc0, kDC_DS := xNcs, kDC_DT := xNct, kDC_DN := xNcn, kDC_DM := xNcm, cDS := ⟨XFs, XCs, xos, xVs, xLs⟩, mDS := PySem.W.mg_of X G aDs, nDS_value := xvs0, kDS_DC := xNsc, kDS_DT := xNst, kDS_DN := xNsn, kDS_DM := xNsm, cDT := ⟨XFt, XCt, xot, xVt, xLt⟩, mDT := PySem.W.mg_of X G aDt, nDT_value := xvt0, kDT_DC := xNtc, kDT_DS := xNts, kDT_DN := xNtn, kDT_DM := xNtm, cDN := ⟨XFn, XCn, xon, xVn, xLn⟩, mDN := PySem.W.mg_of X G aDn, nDN_at := xvn0, kDN_DC := xNnc, kDN_DS := xNns, kDN_DT := xNnt, kDN_DM := xNnm, cDM := ⟨XFm, XCm, xom, xVm, xLm⟩, mDM := PySem.W.mg_of X G aDm, nDM_what := xvm0, nDM_most := xvm1, kDM_DC := xNmc, kDM_DS := xNms, kDM_DT := xNmt, kDM_DN := xNmn }
  have KBco : KBn K _ ["sizes"] 0 ["sizes"] (fun _ ws => ws) gV1 := kb_same Fco rfl fun _ _ _ _ _ _ us ws h1 h2 => match us, ws, h1, h2 with | [], [_], _, _ => rfl
  refine ⟨PySem.W.fnOf "law" "law" (C8.fnArgs sLaw) (C8.fnBody sLaw) (C8.fnScope sLaw) .none kVla dcla pmla anla (.ref c2) ctla, [("_law_asked_right", c0, B0), ("_law_refused_right", c1, B1), ("law", c2, B2)], spLaw K (tab3 B0 B1 B2), ?tbs, fun s u => .of_eq rfl, fun base KB GB TBS => ?_, ?hsp⟩
  case tbs =>
    exact fun e he => by
      simp only [List.mem_cons, List.not_mem_nil, or_false] at he
      rcases he with rfl | rfl | rfl
      · exact ⟨by simp, tabIn_of alx llx rfl ltlx vtlx, ntlx⟩
      · exact ⟨by simp, tabIn_of alf llf rfl ltlf vtlf, ntlf⟩
      · exact ⟨by simp, tabIn_of ala lla rfl ltla vtla, ntla⟩
  case hsp =>
    exact fun H a ns hB hS hl => ⟨a, ns, rfl, hS, hl, fun p hp => by
      simp only [tab3, List.mem_cons, List.not_mem_nil, or_false] at hp
      rcases hp with rfl | rfl | rfl
      · exact TabS.nil (hB _ (List.Mem.head _))
      · exact TabS.nil (hB _ (List.Mem.tail _ (List.Mem.head _)))
      · exact TabS.nil (hB _ (List.Mem.tail _ (List.Mem.tail _ (List.Mem.head _)))), fun _ => rfl⟩
  have TBlx : TabB base mg c0 B0 := TBS ("_law_asked_right", c0, B0) (by simp)
  have TBlf : TabB base mg c1 B1 := TBS ("_law_refused_right", c1, B1) (by simp)
  have TBla : TabB base mg c2 B2 := TBS ("law", c2, B2) (by simp)
  have ERc : Err1 "BadChunks" "part" l.prog w K mg base DC fEc _ := ⟨OXc, xic, xfc, fn_BchE FEc OXc xvc0, bEc, PySem.W.mg_of X G aDc⟩
  have ERs : Err1 "BadSize" "value" l.prog w K mg base DS fEs _ := ⟨OXs, xis, xfs, fn_BszE FEs OXs xvs0, bEs, PySem.W.mg_of X G aDs⟩
  have ERn : Err1 "NoChunk" "at" l.prog w K mg base DN fEn _ := ⟨OXn, xin, xfn, fn_NchE FEn OXn xvn0, bEn, PySem.W.mg_of X G aDn⟩
  have ERm : Err2 "TooMany" "what" "most" l.prog w K mg base DM fEm _ := ⟨OXm, xim, xfm, fn_mnE FEm OXm xvm0 xvm1, bEm, PySem.W.mg_of X G aDm⟩
  have Dii := cal_isint (P := l.prog) (w := w) (base := base) Fii bii T0
  have Diw := cal_within Fiw biw T0 Dii
  have Dis := cal_size Fis bis T0 Diw
  have Z : ChC l.prog w K mg base CC DM mcCC := ⟨rCC, ⟨_, ⟨cM, ⟨_, rfl⟩⟩⟩, PySem.W.mg_of X G aCC, clCC, noCC_sizes, noCC_total, noCC_ends, noCC_rests⟩
  have FCM := fn_cm (P := l.prog) (w := w) (base := base) Fcm Z ERm
  have CM : ChM2 l.prog w K mg base CC DM DS fci mcCC := ⟨Z, ⟨mkCC, aci, ici, kCCC⟩, fn_ci2 Fci rfl T0 hz htu Z ERs Dis Fcm bcm FCM⟩
  have FO := fn_cof2 (P := l.prog) (w := w) (base := base) Fco T0 htu ERc CM
  have OF : OfK l.prog w K mg base CC DM DS DC pco fco _ := ⟨PySem.W.mg_of X G aCC, Sco, FO, bco⟩
  have ME : MetX l.prog w K mg base 2 CC "__eq__" (spCeqA K CC) := ⟨_, _, _, tce, fn_ceqA Fce T0 Z ICC, bce⟩
  have ML : MetX l.prog w K mg base 1 CC "__len__" (spCln CC) := ⟨_, _, _, tcn, fn_cln Fcn T0 Z, bcn⟩
  have MT : MetX l.prog w K mg base 1 CC "__iter__" (spCit CC) := ⟨_, _, _, twt, fn_cit Fwt hit Z, bwt⟩
  have MO : MetX l.prog w K mg base 2 CC "__contains__" (spCco K CC) := ⟨_, _, _, two, fn_cco Fwo T0 Z Dii, bwo⟩
  have MG : MetG l.prog w K mg base 8 CC (spCgi CC DN) := ⟨⟨_, _, _, twg, fng, fn_cgi Fwg T0 CM OF ERn Diw, bwg⟩, sqc⟩
  have MS : MetX l.prog w K mg base 2 CC "__str__" (spCst CC) := ⟨_, _, _, tws, fn_cst Fws T0 Z, bws⟩
  have NC : NeC K CC := ⟨hMCC, nECC⟩
  have O : ChK l.prog w K mg base CC DM DS DC DN fci mcCC := ⟨CM, ME, ML, MT, MO, MG, nb, NC⟩
  have XO : StO1 l.prog w K mg base CC DM DS DC := ⟨_, _, _, _, Sco, FO, bco, KBco⟩
  have EN : EqNo K CC := ⟨eqn⟩
  have D1 := cal_draw (P := l.prog) (w := w) (K := K) (base := base) Fld bld T.toTxt0
  have D2 := cal_pick Flk blk T.toTxt0 D1
  have D0 := cal_pen (P := l.prog) (w := w) (base := base) Flp blp T.toTxt0
  have DZ := cal_lsz Flz blz T0 D1 D2
  have DMd := cal_lmd Flm blm T O XO D1
  have DPR := cal_lpr Flr blr T O
  have DAR := cal_las Flx blx Flh blh TBlx TO0 R2 T O ICC D1 D2
  have DEQ := cal_leq Flq blq T O XO ICC EN MS D2
  have DRR := cal_lrr Flf blf Flh blh TBlf TO1 R2 T O XO ICC nsq D1 D2
  exact fn_law Fla Flh blh TBla TO2 R2 T O XO D0 DZ DMd DPR DAR DEQ DRR
end Lw
open PySem PySem.W PyProof.Rows
set_option maxRecDepth 100000 in
set_option maxHeartbeats 0 in
theorem PySem.Challenge.cw_latechunks_k09_chunks_made_and_refused_holds : PySem.Challenge.rw_latechunks_k09_chunks_made_and_refused.Holds := by
  w_on; o_law; k_head; (case hw => w_witness2)
  k_fill
  refine Lw.walk_endL (l := PySem.Challenge.rw_latechunks_k09_chunks_made_and_refused) (x := "_law_script") (xts := (["_law_asked_right", "_law_refused_right", "law"] : List Str)) (k := 18) rfl (by decide) rfl ⟨rfl, by decide, by decide⟩ (fun w h Y => PySem.W.km_in_of Y) ?hrec ?F
  case hrec => first | rfl | decide +kernel
  case F =>
    intro w mg fa h KX G hmg
    refine' Lw.all_known KX G hmg ?aL ?aii ?lii ?cii ?kii ?aiw ?liw ?ciw ?kiw ?ais ?lis ?cis ?kis ?acm ?lcm ?ccm ?kcm ?alp ?llp ?clp ?klp ?ald ?lld ?cld ?kld ?alk ?llk ?clk ?klk ?alh ?llh ?clh ?klh ?alz ?llz ?clz ?klz ?alm ?llm ?clm ?klm ?alr ?llr ?clr ?klr ?alq ?llq ?clq ?klq ?alx ?llx ?clx ?klx ?alf ?llf ?clf ?klf ?ala ?lla ?cla ?kla ?ltlx ?vtlx ?ntlx ?ltlf ?vtlf ?ntlf ?ltla ?vtla ?ntla ?nB1 ?nB2 ?nB3 ?aCC ?sTCC ?sRCC ?sGCC ?pgCC ?hdCC ?poCC ?saCC ?mkCC ?kCCC ?noCC_sizes ?noCC_total ?noCC_ends ?noCC_rests ?hCCC ?hMCC ?hG ?hK ?nECC ?cM ?eM ?aci ?ici ?lci ?cci ?kci ?lco ?cco ?kco ?sco ?rco ?ace ?ice ?lce ?cce ?kce ?acn ?icn ?lcn ?ccn ?kcn ?awt ?iwt ?lwt ?cwt ?kwt ?awo ?iwo ?lwo ?cwo ?kwo ?awg ?iwg ?lwg ?cwg ?kwg ?aws ?iws ?lws ?cws ?kws ?nb ?fng ?sqc ?eqn ?nsq ?aDc ?xDc ?xBc ?xsc ?xec ?xtc ?xkc ?xic ?xfc ?lEc ?cEc ?xvc0 ?xgc ?xnc ?xdc ?xcc ?xmc ?xoc ?xLc ?xVc ?aDs ?xDs ?xBs ?xss ?xes ?xts ?xks ?xis ?xfs ?lEs ?cEs ?xvs0 ?xgs ?xns ?xds ?xcs ?xms ?xos ?xLs ?xVs ?aDt ?xDt ?xBt ?xst ?xet ?xtt ?xkt ?xit ?xft ?lEt ?cEt ?xvt0 ?xgt ?xnt ?xdt ?xct ?xmt ?xot ?xLt ?xVt ?aDn ?xDn ?xBn ?xsn ?xen ?xtn ?xkn ?xin ?xfn ?lEn ?cEn ?xvn0 ?xgn ?xnn ?xdn ?xcn ?xmn ?xon ?xLn ?xVn ?aDm ?xDm ?xBm ?xsm ?xem ?xtm ?xkm ?xim ?xfm ?lEm ?cEm ?xvm0 ?xvm1 ?xgm ?xnm ?xdm ?xcm ?xmm ?xom ?xLm ?xVm ?xNcs ?xNct ?xNcn ?xNcm ?xNsc ?xNst ?xNsn ?xNsm ?xNtc ?xNts ?xNtn ?xNtm ?xNnc ?xNns ?xNnt ?xNnm ?xNmc ?xNms ?xNmt ?xNmn ?gGS ?eGS ?z_int ?z_list ?z_len ?z_abs ?z_bool ?z_str ?z_isinstance ?z_range ?z_repr ?z_all ?z_zip ?z_tuple ?z_min ?z_max ?z_iter ?z_ValueError
    (case aL => k_is); (case aCC => k_is); (case sTCC => k_is); (case sRCC => k_is)
    (case sGCC => k_is); (case cM => k_is); (case sco => k_is); (case rco => k_is)
    (case aDc => k_is); (case aDs => k_is); (case aDt => k_is); (case aDn => k_is)
    (case aDm => k_is); (case aii => k_is); (case lii => k_is); (case cii => k_is)
    (case kii => k_is); (case aiw => k_is); (case liw => k_is); (case ciw => k_is)
    (case kiw => k_is); (case ais => k_is); (case lis => k_is); (case cis => k_is)
    (case kis => k_is); (case acm => k_is); (case lcm => k_is); (case ccm => k_is)
    (case kcm => k_is); (case alp => k_is); (case llp => k_is); (case clp => k_is)
    (case klp => k_is); (case ald => k_is); (case lld => k_is); (case cld => k_is)
    (case kld => k_is); (case alk => k_is); (case llk => k_is); (case clk => k_is)
    (case klk => k_is); (case alh => k_is); (case llh => k_is); (case clh => k_is)
    (case klh => k_is); (case alz => k_is); (case llz => k_is); (case clz => k_is)
    (case klz => k_is); (case alm => k_is); (case llm => k_is); (case clm => k_is)
    (case klm => k_is); (case alr => k_is); (case llr => k_is); (case clr => k_is)
    (case klr => k_is); (case alq => k_is); (case llq => k_is); (case clq => k_is)
    (case klq => k_is); (case alx => k_is); (case llx => k_is); (case clx => k_is)
    (case klx => k_is); (case alf => k_is); (case llf => k_is); (case clf => k_is)
    (case klf => k_is); (case ala => k_is); (case lla => k_is); (case cla => k_is)
    (case kla => k_is); (case ltlx => k_is); (case vtlx => first | rfl | decide +kernel); (case ntlx => first | kernel_rfl | rfl)
    (case ltlf => k_is); (case vtlf => first | rfl | decide +kernel); (case ntlf => first | kernel_rfl | rfl); (case ltla => k_is)
    (case vtla => first | rfl | decide +kernel); (case ntla => first | kernel_rfl | rfl); (case nB1 => decide); (case nB2 => decide)
    (case nB3 => decide); (case pgCC => k_is); (case hdCC => k_is); (case poCC => k_is)
    (case saCC => k_is); (case mkCC => k_is); (case kCCC => k_is); (case noCC_sizes => k_is)
    (case noCC_total => k_is); (case noCC_ends => k_is); (case noCC_rests => k_is); (case hCCC => k_is)
    (case hMCC => k_is); (case hG => k_is); (case hK => k_is); (case nECC => k_is)
    (case eM => first | rfl | decide +kernel); (case aci => k_is); (case ici => k_is); (case lci => k_is)
    (case cci => k_is); (case kci => k_is); (case lco => k_is); (case cco => k_is)
    (case kco => k_is); (case ace => k_is); (case ice => k_is); (case lce => k_is)
    (case cce => k_is); (case kce => k_is); (case acn => k_is); (case icn => k_is)
    (case lcn => k_is); (case ccn => k_is); (case kcn => k_is); (case awt => k_is)
    (case iwt => k_is); (case lwt => k_is); (case cwt => k_is); (case kwt => k_is)
    (case awo => k_is); (case iwo => k_is); (case lwo => k_is); (case cwo => k_is)
    (case kwo => k_is); (case awg => k_is); (case iwg => k_is); (case lwg => k_is)
    (case cwg => k_is); (case kwg => k_is); (case aws => k_is); (case iws => k_is)
    (case lws => k_is); (case cws => k_is); (case kws => k_is); (case nb => k_is)
    (case fng => first | kernel_rfl | rfl | decide +kernel); (case sqc => k_is); (case eqn => first | kernel_rfl | rfl | decide +kernel); (case nsq => first | kernel_rfl | rfl | decide +kernel)
    (case xDc => k_is); (case xBc => first | rfl | decide +kernel); (case xsc => k_is); (case xec => k_is)
    (case xtc => k_is); (case xkc => k_is); (case xic => k_is); (case xfc => k_is)
    (case lEc => k_is); (case cEc => k_is); (case xvc0 => k_is); (case xgc => k_is)
    (case xnc => k_is); (case xdc => k_is); (case xcc => k_is); (case xmc => k_is)
    (case xoc => first | kernel_rfl | rfl | decide +kernel); (case xLc => first | kernel_rfl | rfl | decide +kernel); (case xVc => first | kernel_rfl | rfl | decide +kernel); (case xDs => k_is)
    (case xBs => first | rfl | decide +kernel); (case xss => k_is); (case xes => k_is); (case xts => k_is)
    (case xks => k_is); (case xis => k_is); (case xfs => k_is); (case lEs => k_is)
    (case cEs => k_is); (case xvs0 => k_is); (case xgs => k_is); (case xns => k_is)
    (case xds => k_is); (case xcs => k_is); (case xms => k_is); (case xos => first | kernel_rfl | rfl | decide +kernel)
    (case xLs => first | kernel_rfl | rfl | decide +kernel); (case xVs => first | kernel_rfl | rfl | decide +kernel); (case xDt => k_is); (case xBt => first | rfl | decide +kernel)
    (case xst => k_is); (case xet => k_is); (case xtt => k_is); (case xkt => k_is)
    (case xit => k_is); (case xft => k_is); (case lEt => k_is); (case cEt => k_is)
    (case xvt0 => k_is); (case xgt => k_is); (case xnt => k_is); (case xdt => k_is)
    (case xct => k_is); (case xmt => k_is); (case xot => first | kernel_rfl | rfl | decide +kernel); (case xLt => first | kernel_rfl | rfl | decide +kernel)
    (case xVt => first | kernel_rfl | rfl | decide +kernel); (case xDn => k_is); (case xBn => first | rfl | decide +kernel); (case xsn => k_is)
    (case xen => k_is); (case xtn => k_is); (case xkn => k_is); (case xin => k_is)
    (case xfn => k_is); (case lEn => k_is); (case cEn => k_is); (case xvn0 => k_is)
    (case xgn => k_is); (case xnn => k_is); (case xdn => k_is); (case xcn => k_is)
    (case xmn => k_is); (case xon => first | kernel_rfl | rfl | decide +kernel); (case xLn => first | kernel_rfl | rfl | decide +kernel); (case xVn => first | kernel_rfl | rfl | decide +kernel)
    (case xDm => k_is); (case xBm => first | rfl | decide +kernel); (case xsm => k_is); (case xem => k_is)
    (case xtm => k_is); (case xkm => k_is); (case xim => k_is); (case xfm => k_is)
    (case lEm => k_is); (case cEm => k_is); (case xvm0 => k_is); (case xvm1 => k_is)
    (case xgm => k_is); (case xnm => k_is); (case xdm => k_is); (case xcm => k_is)
    (case xmm => k_is); (case xom => first | kernel_rfl | rfl | decide +kernel); (case xLm => first | kernel_rfl | rfl | decide +kernel); (case xVm => first | kernel_rfl | rfl | decide +kernel)
    (case xNcs => first | kernel_rfl | rfl | decide +kernel); (case xNct => first | kernel_rfl | rfl | decide +kernel); (case xNcn => first | kernel_rfl | rfl | decide +kernel); (case xNcm => first | kernel_rfl | rfl | decide +kernel)
    (case xNsc => first | kernel_rfl | rfl | decide +kernel); (case xNst => first | kernel_rfl | rfl | decide +kernel); (case xNsn => first | kernel_rfl | rfl | decide +kernel); (case xNsm => first | kernel_rfl | rfl | decide +kernel)
    (case xNtc => first | kernel_rfl | rfl | decide +kernel); (case xNts => first | kernel_rfl | rfl | decide +kernel); (case xNtn => first | kernel_rfl | rfl | decide +kernel); (case xNtm => first | kernel_rfl | rfl | decide +kernel)
    (case xNnc => first | kernel_rfl | rfl | decide +kernel); (case xNns => first | kernel_rfl | rfl | decide +kernel); (case xNnt => first | kernel_rfl | rfl | decide +kernel); (case xNnm => first | kernel_rfl | rfl | decide +kernel)
    (case xNmc => first | kernel_rfl | rfl | decide +kernel); (case xNms => first | kernel_rfl | rfl | decide +kernel); (case xNmt => first | kernel_rfl | rfl | decide +kernel); (case xNmn => first | kernel_rfl | rfl | decide +kernel)
    (case gGS => k_is); (case eGS => first | rfl | decide +kernel); (case z_int => k_is); (case z_list => k_is)
    (case z_len => k_is); (case z_abs => k_is); (case z_bool => k_is); (case z_str => k_is)
    (case z_isinstance => k_is); (case z_range => k_is); (case z_repr => k_is); (case z_all => k_is)
    (case z_zip => k_is); (case z_tuple => k_is); (case z_min => k_is); (case z_max => k_is)
    (case z_iter => k_is); (case z_ValueError => k_is)
