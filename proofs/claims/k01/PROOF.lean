import PyProof.Rows.All
import Wide.All
import OpenK.AllK
import Wide.FinOn
import HandS.ForMost
import HandS.Wide
import HandS.Codes
import HandS.EndBits
import HandS.Lambda
import HandS.IsInst
import PyProof.IsiBase
import KE.KIsAll
import HandS.Walk
import HandS.Words
import HandS.Exc
import HandS.ExcField
import HandS.ExcIs
import HandS.Dict
import HandS.ExcInit
import HandS.ExcValue
import HandS.Style
import HandS.Defaults
import HandS.MakeKwOnly
import PyProof.ReprLen
import HandS.EndTab
import PySem.Challenge.RW_latechunks_k01_errors_and_their_fields
set_option Elab.async false
set_option linter.all false
set_option maxRecDepth 100000
set_option maxHeartbeats 4000000
namespace Lw
open PySem PySem.Spec PyProof.Rows L2
def top (i : Nat) : Stmt := PySem.Challenge.pw_latechunks_k01_errors_and_their_fields.main.body.getD i (.Pass ⟨0, 0, 0, 0⟩)

theorem stir {x s : Int} (hx0 : 0 ≤ x) (hx : x < 2147483648) (hs0 : 0 ≤ s) (hs : s ≤ 1000000) (e f g : Int) (he0 : 0 ≤ e) (he : e ≤ 1000) (hf0 : 0 ≤ f) (hf : f ≤ 1000000) (hg0 : 0 ≤ g) (hg : g ≤ 1000000) :
    (x * (2 * s + e) + f * s * s + g).natAbs < 2 ^ 64 := by
  have a0 : 0 ≤ x * (2 * s + e) := Int.mul_nonneg hx0 (by omega)
  have a1 : x * (2 * s + e) ≤ 2147483648 * 2001000 := Int.mul_le_mul (by omega) (by omega) (by omega) (by omega)
  have b0 : 0 ≤ f * s := Int.mul_nonneg hf0 hs0
  have b1 : f * s ≤ 1000000 * 1000000 := Int.mul_le_mul hf hs hs0 (by omega)
  have c0 : 0 ≤ f * s * s := Int.mul_nonneg b0 hs0
  have c1 : f * s * s ≤ 1000000 * 1000000 * 1000000 := Int.mul_le_mul b1 hs hs0 (by omega)
  omega
theorem fsmall {f s : Int} (hf0 : 0 ≤ f) (hf : f ≤ 1000000) (hs0 : 0 ≤ s) (hs : s ≤ 1000000) : -(2 ^ 64) < f * s ∧ f * s < 2 ^ 64 := by
  have b0 : 0 ≤ f * s := Int.mul_nonneg hf0 hs0
  have b1 : f * s ≤ 1000000 * 1000000 := Int.mul_le_mul hf hs hs0 (by omega)
  omega
theorem fm0 {a d : Int} (hd : 0 < d) : 0 ≤ Int.fmod a d := Int.fmod_nonneg_of_pos _ hd
theorem fm1 {a d : Int} (hd : 0 < d) (h : d ≤ 2147483648) : Int.fmod a d < 2147483648 := Int.lt_of_lt_of_le (Int.fmod_lt_of_pos _ hd) h
theorem fm64 {a d : Int} (hd : 0 < d) (h : d ≤ 2147483648) : -(2 ^ 64) < Int.fmod a d ∧ Int.fmod a d < 2 ^ 64 := by
  have h0 := fm0 (a := a) hd
  have h1 := fm1 (a := a) hd h
  omega
theorem ite_false_of {c : Bool} {A B : Prop} (h : ¬ c = true) (hb : B) : if c = true then A else B := by rw [if_neg h]; exact hb
/-- behind an if: what both ways end in -/
theorem join_if {t u : TS} {D : Ends} {b : Bool} {σ : L2.St} {H : Hp} (Pj : L2.St → Hp → Prop) (hr : ∀ σ' H', Pj σ' H' → D.nx σ' H') (h : (∀ σ' H', Pj σ' H' → D.nx σ' H') → if b = true then t D σ H else u D σ H) : if b = true then t D σ H else u D σ H := h hr
theorem lay_ints : ∀ xs : List Int, PyData.canLayAll0 (xs.map PyData.int) = true
  | [] => rfl
  | x :: r => by
    show (PyData.canLay0 (.int x) && PyData.canLayAll0 (r.map PyData.int)) = true
    rw [lay_ints r]; rfl
theorem depth_ints : ∀ xs : List Int, PyData.depthAll (xs.map PyData.int) = 0
  | [] => rfl
  | x :: r => by
    show max (PyData.depth (.int x)) (PyData.depthAll (r.map PyData.int)) = 0
    rw [depth_ints r]; rfl
theorem shaped_ints (xs : List Int) : SeqAt.shaped (.list (xs.map PyData.int)) = true := by
  unfold SeqAt.shaped
  have h1 : PyData.canLay0 (.list (xs.map PyData.int)) = true := lay_ints xs
  have h2 : PyData.depth (.list (xs.map PyData.int)) = 1 := by
    show PyData.depthAll (xs.map PyData.int) + 1 = 1
    rw [depth_ints]
  rw [h1, h2]; rfl
theorem dp_ints {K : PySem.W.Frag} {H : Hp} : ∀ xs : List Int, DpAll K H (xs.map V.int) (xs.map PyData.int)
  | [] => .nil
  | x :: r => .cons (.int x) (dp_ints r)
theorem eqv_nil (xs : List Int) : PyData.eqv (.list (xs.map PyData.int)) (.list []) = decide (xs = []) := by
  cases xs <;> rfl
abbrev sPen : Stmt := top 29
abbrev sDraw : Stmt := top 30
abbrev sPick : Stmt := top 31
/-- all but what stands at p is as it was -/
def Kp (p : Addr) (H H' : Hp) : Prop := ∀ b o, b ≠ p → H b = some o → H' b = some o
/-- a pen at p: its numbers at l, its place, its rest -/
structure PenAt (H : Hp) (p l : Addr) (xs : List Int) (s g : Int) : Prop where
  at_ : H p = some (.lst [.ref l, .int s, .int g])
  ls : H l = some (.lst (xs.map V.int))
  ne : p ≠ l
  s0 : 0 ≤ s
  g0 : 0 ≤ g
def Pen (H : Hp) (p l : Addr) (n : Nat) : Prop := ∃ xs s g, PenAt H p l xs s g ∧ s ≤ n
def spDraw : Sp := fun vs H Q _ => ∃ (p l : Addr) (n : Nat) (m : Int), vs = [.ref p, .int m] ∧ 0 < m ∧ m < 2 ^ 200 ∧ Pen H p l n ∧ n ≤ 1000000 ∧
  ∀ (r : Int) (H' : Hp), 0 ≤ r → r < m → Pen H' p l (n + 1) → Kp p H H' → Q (.int r) H'
structure Txt0 (mg : Str → Option Value) : Prop where
  n_int : mg "int" = none
  n_list : mg "list" = none
  n_len : mg "len" = none
  n_abs : mg "abs" = none
section
variable {P : Program} {w : World} {K : PySem.W.Frag} {mg : Str → Option Value} {base : Heap}
theorem scDraw : FnScope ["_law_pen_here", "_law_many", "_law_digit", "_law_spot", "_law_cell", "_law_great", "_law_stirred"] ["_law_pen_here", "_law_many"] (C8.fnScope sDraw) := C8.fnScope_by (by decide +kernel)
theorem cal_draw {f : Addr} {fd : FuncData} (F : C8.Def K mg "_law_draw" sDraw f fd) (b : Binds K fd ["_law_pen_here", "_law_many"] []) (T : Txt0 mg) : C8.Cal P w K mg base 1 "_law_draw" spDraw [] := by
  refine C8.cal0 F b .nil scDraw (fun vs H Q E h => ?_) (fun cdv A outer st H vs Q E hr h => ?_)
  · obtain ⟨p, l, n, m, rfl, _⟩ := h
    rfl
  · obtain ⟨p, l, n, m, rfl, hm, hm2, ⟨xs, s, g, ⟨hp, hl, ne, s0, g0⟩, hs⟩, hn, k⟩ := h
    refine ⟨_, (pss_cons (ps_if (pt_cmpR op_gt (pe_ix ix_list (pv 0) pe_int (fun _ _ => rfl)) pe_int (nomark _)) (pss_cons (ps_set (i := 2) scDraw.nd rfl (Or.inl rfl) (pe_op op_modN (pe_callTy call_int1 (by rfl) T.n_int (by decide +kernel) (pa_cons (pe_ix ix_list (pv 0) pe_int (fun _ _ => rfl)) pa_nil)) (pv 1)))
  (pss_cons (ps_asg (pe_op op_fdivW (pe_callTy call_int1 (by rfl) T.n_int (by decide +kernel) (pa_cons (pe_ix ix_list (pv 0) pe_int (fun _ _ => rfl)) pa_nil)) (pv 1)) (pg_sub (pv 0) pe_int set_list))
  (pss_one (ps_ret (pv 2))))) pss_nil)
  (pss_cons (ps_set (i := 3) scDraw.nd rfl (Or.inl rfl) (pe_ix ix_list (pv 0) pe_int (fun _ _ => rfl)))
  (pss_cons (ps_asg (pe_op op_add (pv 3) pe_int) (pg_sub (pv 0) pe_int set_list))
  (pss_cons (ps_set (i := 4) scDraw.nd rfl (Or.inl rfl) (pe_op op_add (pe_op op_mul pe_int (pv 3)) pe_int))
  (pss_cons (ps_if (pt_cmpR (op_neD hr.units) (pe_ix ix_list (pv 0) pe_int (fun _ _ => rfl)) (pe_lst pa_nil) (nomark _)) (pss_one (ps_set (i := 4) scDraw.nd rfl (Or.inl rfl) (pe_ix ix_list (pe_ix ix_list (pv 0) pe_int (fun _ _ => rfl)) (pe_op op_modN (pe_callTy call_int1 (by rfl) T.n_int (by decide +kernel) (pa_cons (pv 3) pa_nil)) (pe_callB call_len_seq (by rfl) T.n_len (by decide +kernel) (pa_cons (pe_ix ix_list (pv 0) pe_int (fun _ _ => rfl)) pa_nil))) (fun _ _ => rfl)))) pss_nil)
  (pss_cons (ps_if (PW.pt (pw_and (pt_cmpR op_lt (pv 3) (pe_callB call_len_seq (by rfl) T.n_len (by decide +kernel) (pa_cons (pe_ix ix_list (pv 0) pe_int (fun _ _ => rfl)) pa_nil)) (nomark _)) (pw_and1 (pt_cmpR op_ge (pe_callB call_abs (by rfl) T.n_abs (by decide +kernel) (pa_cons (pv 4) pa_nil)) (pe_op op_pow pe_int pe_int) (nomark _))))) (pss_cons (ps_set (i := 5) scDraw.nd rfl (Or.inl rfl) (pe_op op_add (pe_op op_mul pe_int (pe_op op_sub (pe_callB call_abs (by rfl) T.n_abs (by decide +kernel) (pa_cons (pv 4) pa_nil)) (pe_op op_pow pe_int pe_int))) (pe_callTy call_int1 (by rfl) T.n_int (by decide +kernel) (pa_cons (pe_cmpR op_lt (pv 4) pe_int (nomark _)) pa_nil))))
  (pss_cons (ps_asg (pe_op op_fdivW (pe_callTy call_int1 (by rfl) T.n_int (by decide +kernel) (pa_cons (pv 5) pa_nil)) (pv 1)) (pg_sub (pv 0) pe_int set_list))
  (pss_one (ps_ret (pe_op op_modN (pe_callTy call_int1 (by rfl) T.n_int (by decide +kernel) (pa_cons (pv 5) pa_nil)) (pv 1)))))) pss_nil)
  (pss_cons (ps_set (i := 6) scDraw.nd rfl (Or.inl rfl) (pe_op op_modN (pe_callTy call_int1 (by rfl) T.n_int (by decide +kernel) (pa_cons (pe_op op_pow (pe_op op_add (pe_op op_add (pe_op op_modN (pe_callTy call_int1 (by rfl) T.n_int (by decide +kernel) (pa_cons (pv 4) pa_nil)) pe_int) (pe_op op_mul pe_int (pv 3))) pe_int) pe_int) pa_nil)) pe_int))
  (pss_cons (ps_set (i := 6) scDraw.nd rfl (Or.inl rfl) (pe_op op_modN (pe_callTy call_int1 (by rfl) T.n_int (by decide +kernel) (pa_cons (pe_op op_pow (pe_op op_add (pe_op op_add (pe_op op_mul (pv 6) (pe_op op_add (pe_op op_mul pe_int (pv 3)) pe_int)) (pe_op op_mul (pe_op op_mul pe_int (pv 3)) (pv 3))) pe_int) pe_int) pa_nil)) pe_int))
  (pss_one (ps_ret (pe_op op_modN (pe_callTy call_int1 (by rfl) T.n_int (by decide +kernel) (pa_cons (pe_op op_fdivW (pv 6) pe_int) pa_nil)) (pv 1)))))))))))), ?_⟩
    have hmb : CDivW 0 m := wide_div (b := 200) hm (by omega) (by decide) (by decide)
    refine ⟨_, rfl, p, _, _, _, rfl, rfl, SqL.of hp, rfl, _, _, rfl, rfl, _, rfl, ite2 (fun c => ?_) (fun c => ?_)⟩
    · -- the rest is above 0: a digit of it
      refine ⟨_, rfl, p, _, _, _, rfl, rfl, SqL.of hp, rfl, Or.inl ⟨_, rfl, ?_⟩⟩
      refine ⟨_, rfl, _, _, rfl, rfl, (by omega), ?_⟩
      refine ⟨_, rfl, p, _, _, _, rfl, rfl, SqL.of hp, rfl, Or.inl ⟨_, rfl, ?_⟩⟩
      refine ⟨_, rfl, _, _, rfl, rfl, hmb, ?_⟩
      refine ⟨_, rfl, p, _, _, _, rfl, rfl, hp, rfl, ?_⟩
      refine ⟨_, rfl, ?_⟩
      refine k _ _ (Int.fmod_nonneg_of_pos _ hm) (Int.fmod_lt_of_pos _ hm) ⟨xs, s, g / m, ⟨?_, ?_, ne, s0, Int.ediv_nonneg g0 (Int.le_of_lt hm)⟩, by omega⟩ fun b o hb e => ?_
      · rw [upd_same]; rfl
      · rw [upd_ne (Ne.symm ne)]; exact hl
      · rw [upd_ne hb]; exact e
    · -- the next place
      refine ⟨_, rfl, p, _, _, _, rfl, rfl, SqL.of hp, rfl, ?_⟩
      refine ⟨_, rfl, _, _, rfl, rfl, _, rfl, p, _, _, _, rfl, rfl, hp, rfl, ?_⟩
      have hp1 : upd H p (.lst [V.ref l, V.int (s + 1), V.int g]) p = some (.lst [V.ref l, V.int (s + 1), V.int g]) := upd_same
      have hl1 : upd H p (.lst [V.ref l, V.int (s + 1), V.int g]) l = some (.lst (xs.map V.int)) := by rw [upd_ne (Ne.symm ne)]; exact hl
      have k1 : Kp p H (upd H p (.lst [V.ref l, V.int (s + 1), V.int g])) := fun b o hb e => by rw [upd_ne hb]; exact e
      show tSeq _ _ _ _ (upd H p (.lst [V.ref l, V.int (s + 1), V.int g]))
      generalize upd H p (.lst [V.ref l, V.int (s + 1), V.int g]) = H1 at hp1 hl1 k1 ⊢
      have fin : ∀ (r g' : Int) (H' : Hp), 0 ≤ r → r < m → 0 ≤ g' → H' p = some (.lst [V.ref l, V.int (s + 1), V.int g']) → Kp p H1 H' → Q (.int r) H' := fun r g' H' h0 h1 h2 h3 h4 =>
        k r H' h0 h1 ⟨xs, s + 1, g', ⟨h3, h4 _ _ (Ne.symm ne) hl1, ne, by omega, h2⟩, by omega⟩ fun b o hb e => h4 b o hb (k1 b o hb e)
      refine ⟨_, rfl, _, _, rfl, rfl, Or.inl (by decide), _, _, rfl, rfl, ?_⟩
      refine ⟨_, rfl, p, _, _, _, rfl, rfl, SqL.of hp1, rfl, (by show 0 ≤ sizeLine; decide), fun q hq => ?_⟩
      have lq : l ≠ q := ne_of_none hl1 hq
      have pq : p ≠ q := ne_of_none hp1 hq
      have hl2 : upd H1 q (.lst []) l = some (.lst (xs.map V.int)) := by rw [upd_ne lq]; exact hl1
      have hp2 : upd H1 q (.lst []) p = some (.lst [V.ref l, V.int (s + 1), V.int g]) := by rw [upd_ne pq]; exact hp1
      have k2 : Kp p H1 (upd H1 q (.lst [])) := fun b o hb e => by rw [upd_ne (ne_of_none e hq)]; exact e
      refine ⟨.list (xs.map PyData.int), .list [], .lst (SqL.of hl2) (dp_ints xs), .lst (SqL.of upd_same) .nil, shaped_ints xs, rfl, _, rfl, ?_⟩
      generalize upd H1 q (.lst []) = H2 at hl2 hp2 k2 ⊢
      refine join_if (fun σ' H' => ∃ cell : Int, σ' = [some (V.ref p), some (V.int m), none, some (V.int s), some (V.int cell), none, none] ∧ H' = H2) ?rest (fun go => ?_)
      case rest =>
        rintro σ' H' ⟨cell, rfl, rfl⟩
        refine ⟨_, rfl, _, rfl, p, _, _, _, rfl, rfl, SqL.of hp2, rfl, l, xs.map V.int, rfl, .inl (SqL.of hl2), _, _, rfl, rfl, _, rfl, ?_⟩
        refine ite2 (fun c2 => ?_) (fun c2 => ?_)
        · refine ⟨_, rfl, _, rfl, _, _, rfl, rfl, ⟨by decide, by decide, by decide⟩, _, _, rfl, rfl, _, rfl, ?_⟩
          refine ite2 (fun c3 => ?_) (fun c3 => ?_)
          · refine ⟨_, rfl, _, rfl, _, _, rfl, rfl, ⟨by decide, by decide, by decide⟩, _, _, rfl, rfl, _, _, rfl, rfl, Or.inl (by decide), _, rfl, _, _, rfl, rfl, Or.inr ⟨_, rfl, _, _, rfl, rfl, ?_⟩⟩
            have hge : (10 : Int) ^ (18 : Int).toNat ≤ (if cell < 0 then -cell else cell) := of_decide_eq_true c3
            generalize hG : 2 * ((if cell < 0 then -cell else cell) - 10 ^ (18 : Int).toNat) + (if decide (cell < 0) = true then (1 : Int) else 0) = G
            have hG0 : 0 ≤ G := by
              rw [← hG]
              have h1 : 0 ≤ (if decide (cell < 0) = true then (1 : Int) else 0) := by split <;> decide
              omega
            refine ⟨_, rfl, Or.inl ⟨_, rfl, _, rfl, _, _, rfl, rfl, (by exact hmb), _, rfl, p, _, _, _, rfl, rfl, hp2, rfl, ?_⟩⟩
            refine ⟨_, rfl, Or.inl ⟨_, rfl, _, rfl, _, _, rfl, rfl, (by show ¬ (_ = _); omega), ?_⟩⟩
            refine fin _ (G / m) _ (fm0 hm) (Int.fmod_lt_of_pos _ hm) (Int.ediv_nonneg hG0 (Int.le_of_lt hm)) ?_ fun b o hb e => ?_
            · rw [upd_same, ← hG]; rfl
            · rw [upd_ne hb]; exact k2 b o hb e
          · refine ⟨_, rfl, Or.inl ⟨_, rfl, ?_⟩⟩
            refine ⟨_, _, rfl, rfl, (by show ¬ (_ = _); decide), _, rfl, _, _, rfl, rfl, Or.inl (by decide), _, _, rfl, rfl, _, _, rfl, rfl, ?_⟩
            generalize hz : Int.fmod cell _ = z
            have hz0 : 0 ≤ z := by rw [← hz]; exact fm0 (by decide)
            have hz1 : z < 2147483648 := by rw [← hz]; exact fm1 (by decide) (by decide)
            refine ⟨_, _, rfl, rfl, ⟨by decide, by decide, by omega⟩, Or.inl ⟨_, rfl, ?_⟩⟩
            refine ⟨_, _, rfl, rfl, (by show ¬ (_ = _); decide), ?_⟩
            refine ⟨_, rfl, _, rfl, _, _, rfl, rfl, Or.inl (by decide), _, _, rfl, rfl, _, _, rfl, rfl, Or.inl (by exact fm64 (by decide) (by decide)), ?_⟩
            refine ⟨_, rfl, _, _, rfl, rfl, Or.inl (by decide), _, rfl, _, _, rfl, rfl, Or.inl (by exact fsmall (by decide) (by decide) s0 (by omega)), _, _, rfl, rfl, _, _, rfl, rfl, ?_⟩
            refine ⟨_, _, rfl, rfl, ⟨by decide, by decide, by exact stir (fm0 (by decide)) (fm1 (by decide) (by decide)) s0 (by omega) _ _ _ (by decide) (by decide) (by decide) (by decide) (by decide) (by decide)⟩, Or.inl ⟨_, rfl, ?_⟩⟩
            refine ⟨_, _, rfl, rfl, (by show ¬ (_ = _); decide), ?_⟩
            refine ⟨_, rfl, _, _, rfl, rfl, ⟨by decide, by decide⟩, Or.inl ⟨_, rfl, _, rfl, _, _, rfl, rfl, (by show ¬ (_ = _); omega), ?_⟩⟩
            exact fin _ g _ (fm0 hm) (Int.fmod_lt_of_pos _ hm) g0 hp2 k2
        · refine iteF ?_
          refine ⟨_, rfl, Or.inl ⟨_, rfl, ?_⟩⟩
          refine ⟨_, _, rfl, rfl, (by show ¬ (_ = _); decide), _, rfl, _, _, rfl, rfl, Or.inl (by decide), _, _, rfl, rfl, _, _, rfl, rfl, ?_⟩
          generalize hz : Int.fmod cell _ = z
          have hz0 : 0 ≤ z := by rw [← hz]; exact fm0 (by decide)
          have hz1 : z < 2147483648 := by rw [← hz]; exact fm1 (by decide) (by decide)
          refine ⟨_, _, rfl, rfl, ⟨by decide, by decide, by omega⟩, Or.inl ⟨_, rfl, ?_⟩⟩
          refine ⟨_, _, rfl, rfl, (by show ¬ (_ = _); decide), ?_⟩
          refine ⟨_, rfl, _, rfl, _, _, rfl, rfl, Or.inl (by decide), _, _, rfl, rfl, _, _, rfl, rfl, Or.inl (by exact fm64 (by decide) (by decide)), ?_⟩
          refine ⟨_, rfl, _, _, rfl, rfl, Or.inl (by decide), _, rfl, _, _, rfl, rfl, Or.inl (by exact fsmall (by decide) (by decide) s0 (by omega)), _, _, rfl, rfl, _, _, rfl, rfl, ?_⟩
          refine ⟨_, _, rfl, rfl, ⟨by decide, by decide, by exact stir (fm0 (by decide)) (fm1 (by decide) (by decide)) s0 (by omega) _ _ _ (by decide) (by decide) (by decide) (by decide) (by decide) (by decide)⟩, Or.inl ⟨_, rfl, ?_⟩⟩
          refine ⟨_, _, rfl, rfl, (by show ¬ (_ = _); decide), ?_⟩
          refine ⟨_, rfl, _, _, rfl, rfl, ⟨by decide, by decide⟩, Or.inl ⟨_, rfl, _, rfl, _, _, rfl, rfl, (by show ¬ (_ = _); omega), ?_⟩⟩
          exact fin _ g _ (fm0 hm) (Int.fmod_lt_of_pos _ hm) g0 hp2 k2
      refine ite2 (fun c1 => ?_) (fun c1 => ?_)
      · rw [eqv_nil] at c1
        have hx : xs ≠ [] := by simpa using c1
        have hlen : 0 < xs.length := List.length_pos_iff.mpr hx
        refine ⟨_, rfl, p, _, _, _, rfl, rfl, SqL.of hp2, rfl, ?_⟩
        refine ⟨_, rfl, Or.inl ⟨_, rfl, ?_⟩⟩
        refine ⟨_, rfl, p, _, _, _, rfl, rfl, SqL.of hp2, rfl, l, xs.map V.int, rfl, .inl (SqL.of hl2), ?_⟩
        have hL : ((xs.map V.int).length : Int) = (xs.length : Int) := by rw [List.length_map]
        have hb1 : 0 ≤ s.fmod ((xs.map V.int).length : Int) := Int.fmod_nonneg_of_pos _ (by omega)
        have hb2 : s.fmod ((xs.map V.int).length : Int) < ((xs.map V.int).length : Int) := Int.fmod_lt_of_pos _ (by omega)
        obtain ⟨j, hj⟩ : ∃ j : Nat, s.fmod ((xs.map V.int).length : Int) = (j : Int) := ⟨(s.fmod ((xs.map V.int).length : Int)).toNat, by omega⟩
        have hjl : j < xs.length := by omega
        have hat : atI (xs.map V.int) (s.fmod ((xs.map V.int).length : Int)) = some (V.int xs[j]) := by
          rw [hj]; exact atI_nat (by simp [hjl])
        refine ⟨_, _, rfl, rfl, (by omega), ?_⟩
        refine ⟨l, _, _, V.int xs[j], rfl, rfl, SqL.of hl2, hat, ?_⟩
        exact go _ _ ⟨xs[j], rfl, rfl⟩
      · exact go _ _ ⟨_, rfl, rfl⟩
end
end Lw
namespace Lw
open PySem PySem.Spec PyProof.Rows L2

theorem Kp.refl (p : Addr) (H : Hp) : Kp p H H := fun _ _ _ e => e
theorem Kp.trans {p : Addr} {H H1 H2 : Hp} (a : Kp p H H1) (b : Kp p H1 H2) : Kp p H H2 := fun c o hc e => b c o hc (a c o hc e)
theorem Kp.of {p : Addr} {H H' : Hp} (s : Same H H') : Kp p H H' := fun b o _ e => s b o e
theorem Kp.seq {K : PySem.W.Frag} {p a : Addr} {H H' : Hp} {ys : List V} (k : Kp p H H') (ne : a ≠ p) (h : SqL K H a ys) : SqL K H' a ys := by
  rcases h with (h | ⟨o, h⟩) | h
  · exact .inl (.inl (k _ _ ne h))
  · exact .inl (.inr ⟨o, k _ _ ne h⟩)
  · exact .inr h
theorem same_new {H : Hp} {q : Addr} {o : HO} (hq : H q = none) : Same H (upd H q o) := fun b u e => by rw [upd_ne (ne_of_none e hq)]; exact e
theorem Pen.keep {H H' : Hp} {p l : Addr} {n : Nat} (h : Pen H p l n) (s : Same H H') : Pen H' p l n := by
  obtain ⟨xs, a, g, ⟨h1, h2, h3, h4, h5⟩, h6⟩ := h
  exact ⟨xs, a, g, ⟨s _ _ h1, s _ _ h2, h3, h4, h5⟩, h6⟩
theorem Pen.at {H : Hp} {p l : Addr} {n : Nat} (h : Pen H p l n) : ∃ o, H p = some o := by
  obtain ⟨xs, a, g, h, _⟩ := h
  exact ⟨_, h.at_⟩
theorem Pen.ne_new {H : Hp} {p l q : Addr} {n : Nat} (h : Pen H p l n) (hq : H q = none) : q ≠ p := by
  obtain ⟨o, h1⟩ := h.at
  exact (ne_of_none h1 hq).symm
theorem Pen.more {H : Hp} {p l : Addr} {n m : Nat} (h : Pen H p l n) (hm : n ≤ m) : Pen H p l m := by
  obtain ⟨xs, a, g, h1, h2⟩ := h
  exact ⟨xs, a, g, h1, by omega⟩
def spPick (K : PySem.W.Frag) : Sp := fun vs H Q _ => ∃ (p l a : Addr) (n : Nat) (ys : List V), vs = [.ref p, .ref a] ∧ Pen H p l n ∧ n ≤ 1000000 ∧ SqL K H a ys ∧ a ≠ p ∧ 0 < ys.length ∧ ys.length < 1000000 ∧
  ∀ (j : Nat) (v : V) (H' : Hp), ys[j]? = some v → Pen H' p l (n + 1) → Kp p H H' → Q v H'
def spPen (K : PySem.W.Frag) : Sp := fun vs H Q _ => ∃ (a : Addr) (ns : List Int), vs = [.ref a] ∧ SqL K H a (ns.map V.int) ∧ ns.length ≤ 63 ∧ ∀ (p l : Addr) (H' : Hp), Pen H' p l 0 → Same H H' → H p = none → Q (.ref p) H'
theorem Pen.over {H : Hp} {p l q : Addr} {n : Nat} {o : HO} (h : Pen H p l n) (h1 : q ≠ p) (h2 : q ≠ l) : Pen (upd H q o) p l n := by
  obtain ⟨xs, a, g, ⟨e1, e2, e3, e4, e5⟩, h6⟩ := h
  exact ⟨xs, a, g, ⟨by rw [upd_ne h1.symm]; exact e1, by rw [upd_ne h2.symm]; exact e2, e3, e4, e5⟩, h6⟩
theorem Pen.ne_new2 {H : Hp} {p l q : Addr} {n : Nat} (h : Pen H p l n) (hq : H q = none) : q ≠ l := by
  obtain ⟨xs, a, g, h, _⟩ := h
  exact (ne_of_none h.ls hq).symm
section
variable {P : Program} {w : World} {K : PySem.W.Frag} {mg : Str → Option Value} {base : Heap}
theorem scPick : FnScope ["_law_pen_here", "_law_some"] ["_law_pen_here", "_law_some"] (C8.fnScope sPick) := C8.fnScope_by (by decide +kernel)
theorem cal_pick {f : Addr} {fd : FuncData} (F : C8.Def K mg "_law_pick" sPick f fd) (b : Binds K fd ["_law_pen_here", "_law_some"] []) (T : Txt0 mg) (D : C8.Cal P w K mg base 1 "_law_draw" spDraw []) : C8.Cal P w K mg base 2 "_law_pick" (spPick K) [] := by
  refine C8.cal0 F b .nil scPick (fun vs H Q E h => ?_) (fun cdv A outer st H vs Q E hr h => ?_)
  · obtain ⟨p, l, a, n, ys, rfl, _⟩ := h
    rfl
  · obtain ⟨p, l, a, n, ys, rfl, hp, hn, hs, ne, h0, h1, k⟩ := h
    refine ⟨_, (pss_one (ps_ret (pe_ix ix_list (pv 1) (C8.pe_c D hr (by decide) (by rfl) (pa_cons (pv 0) (pa_cons (pe_callB call_len_seq (by rfl) T.n_len (by decide +kernel) (pa_cons (pv 1) pa_nil)) pa_nil))) (fun _ _ => rfl)))), ?_⟩
    refine ⟨_, rfl, _, rfl, _, rfl, a, ys, rfl, .inl hs, ?_⟩
    refine ⟨p, l, n, _, rfl, (by omega), (by omega), hp, hn, fun r H' r0 r1 hp' k' => ?_⟩
    obtain ⟨j, hj⟩ : ∃ j : Nat, r = (j : Int) := ⟨r.toNat, by omega⟩
    subst hj
    have hjl : j < ys.length := by omega
    refine ⟨a, ys, _, ys[j], rfl, rfl, k'.seq ne hs, atI_nat (by simp [hjl]), ?_⟩
    exact k j _ H' (by simp [hjl]) hp' k'
theorem scPen : FnScope ["_law_script"] ["_law_script"] (C8.fnScope sPen) := C8.fnScope_by (by decide +kernel)
theorem cut_ints (xs : List Int) (lo hi : Option Int) : cutV (xs.map V.int) lo hi = ((xs.drop (HT.sIx xs.length 0 lo)).take (HT.sIx xs.length xs.length hi - HT.sIx xs.length 0 lo)).map V.int := by
  unfold cutV
  rw [List.length_map, List.map_take, List.map_drop]
theorem cal_pen {f : Addr} {fd : FuncData} (F : C8.Def K mg "_law_pen" sPen f fd) (b : Binds K fd ["_law_script"] []) (T : Txt0 mg) : C8.Cal P w K mg base 1 "_law_pen" (spPen K) [] := by
  refine C8.cal0 F b .nil scPen (fun vs H Q E h => ?_) (fun cdv A outer st H vs Q E hr h => ?_)
  · obtain ⟨a, ns, rfl, _⟩ := h
    rfl
  · obtain ⟨a, ns, rfl, hs, hl, k⟩ := h
    refine ⟨_, (pss_one (ps_ret (pe_lst (pa_cons (pe_callTy call_list_of (by rfl) T.n_list (by decide +kernel) (pa_cons (pe_slice sl_list (pv 0) po_none (po_some pe_int)) pa_nil)) (pa_cons pe_int (pa_cons pe_int pa_nil)))))), ?_⟩
    refine ⟨_, rfl, _, rfl, a, _, rfl, hs, fun c hc => ?_⟩
    refine ⟨c, _, rfl, .inl (SqL.of upd_same), fun l hl2 => ?_⟩
    refine ⟨(by show 3 ≤ sizeLine; decide), fun p hp => ?_⟩
    have s1 := same_new (o := HO.lst (cutV (ns.map V.int) none (some 63))) hc
    have s2 := same_new (o := HO.lst (cutV (ns.map V.int) none (some 63))) hl2
    have s3 := same_new (o := HO.lst [V.ref l, V.int 0, V.int 0]) hp
    have pl : p ≠ l := fun e => by rw [e, upd_same] at hp; cases hp
    refine k p l _ ⟨((ns.drop (HT.sIx ns.length 0 none)).take (HT.sIx ns.length ns.length (some 63) - HT.sIx ns.length 0 none)), 0, 0, ⟨upd_same, ?_, pl, by omega, by omega⟩, by omega⟩ ((s1.trans s2).trans s3) ((s1.trans s2).free hp)
    rw [upd_ne pl.symm, upd_same, cut_ints]
end
end Lw
namespace Lw
open PySem PySem.Spec PyProof.Rows L2

/-! ### defs that are called where no repr runs -/
/-- a def's promise where nothing is being shown -/
structure FnG (P : Program) (w : World) (K : PySem.W.Frag) (mg : Str → Option Value) (base : Heap) (k : Nat) (f : Addr) (fd : FuncData) (ps : List Str) (sp : Sp) : Prop where
  len : ∀ vs H Q E, sp vs H Q E → vs.length = ps.length
  run : ∀ (A : Around) (outer : List Env) (s : Shared) (H : Hp) (args : Args) (us : List Value) (vs : List V) (Q : VK) (E : XK), A.guards = some [] → Room k A → Env0 P w K mg base A outer s H →
    BindsTo s fd args (ps.zip us) → Vals vs us → sp vs H Q E → codeAny (model P w) A (.call (.ref f) args) (CR C8.CX0 outer P w H s Q E) s
structure CalG (P : Program) (w : World) (K : PySem.W.Frag) (mg : Str → Option Value) (base : Heap) (k : Nat) (x : Str) (sp : Sp) (dvs : List V) : Prop where
  ex : ∃ (f : Addr) (fd : FuncData) (ps : List Str) (ds : List Value), FnG P w K mg base k f fd ps sp ∧ mg x = some (.ref f) ∧ PySem.W.keepIn K (.ref f) = true ∧ Binds K fd ps ds ∧ Vals dvs ds
section
variable {P : Program} {w : World} {K : PySem.W.Frag} {mg : Str → Option Value} {base : Heap}
theorem calG {x : Str} {st : Stmt} {f : Addr} {fd : FuncData} {N ps : List Str} {ds : List Value} {dvs : List V} {k : Nat} {sp : Sp} (F : C8.Def K mg x st f fd) (b : Binds K fd ps ds) (d : Vals dvs ds) (S : FnScope N ps (C8.fnScope st))
    (len : ∀ vs H Q E, sp vs H Q E → vs.length = ps.length)
    (body : ∀ (cdv : Value) (A : Around) (outer : List Env) (s : Shared) (H : Hp) (vs : List V) (Q : VK) (E : XK), (A.deeper (envOfC x (C8.fnScope st) s.heap.objs.size f cdv)).guards = some [] → Room k (A.deeper (envOfC x (C8.fnScope st) s.heap.objs.size f cdv)) → sp vs H Q E →
      ∃ t, PSs (cxOf C8.CX0 P w K mg base N x (C8.fnScope st) f cdv A outer s H E).nox (C8.fnBody st) t ∧ t { nx := fun _ H' => Q .non H', rt := Q } (start N vs) H) : CalG P w K mg base (k + 1) x sp dvs := by
  refine ⟨f, fd, ps, ds, ⟨len, ?_⟩, F.mgf, F.kp, b, d⟩
  intro A outer s H args us vs Q E hg hr e0 hb r hs
  obtain ⟨oc, od, dV, kV, doc, pm, an, cdv, ct, osl, rfl, lk, hcd⟩ := F.fn.ex
  refine LamX.run_ofS lk hcd S hr e0 hb r (len _ _ _ _ hs) fun hr' => ?_
  obtain ⟨t, h1, h2⟩ := body cdv A outer s H vs Q E hg hr' hs
  exact ⟨t, h1.nox, h2⟩
end
section
variable {X : Cx} {k j : Nat} {x : Str} {sp : Sp} {dvs : List V} {p pos : Pos} {e : Expr} {es : List Expr} {t : TA}
theorem pe_g (c : CalG X.prog X.w X.K X.mg X.base k x sp dvs) (hG : X.A.guards = some []) (hr : Room j X.A) (hk : k ≤ j) (hg : Gl X x) (ha : PA X (e :: es) t)
    (hdb : (x == ("__debug__" : Str)) = false := by decide) (he : starEach (e :: es) X.env = (false, eval e X.env) :: starEach es X.env := by rfl) (hpl : (backTo pos (starEach es X.env)).any (·.1) = false := by rfl) :
    PE X (.Call (.Name x p) (e :: es) [] pos) (tCall sp dvs C8.E0 t) := by
  obtain ⟨f, fd, ps, ds, F, hm, kp, b, d⟩ := c.ex
  refine ⟨fun pins s σ H Q I h => ?_⟩
  refine wpAny_Call_Name_kw (ld_glob I hg hm ?_ hdb)
  refine PySem.W.callWith_K (h₀ := X.base) I.ok.mod.kin kp (thn (ha.run pos pins s σ H _ I h) fun us s1 g => ?_) he hpl
  obtain ⟨vs, H1, I1, r, q⟩ := g
  refine ⟨I1.kIn, ?_⟩
  have r2 := r.append d
  have hl : (us ++ ds).length = ps.length := r2.length.symm.trans (F.len _ _ _ _ q)
  refine wpAny_call (codeAny_mono (F.run X.A X.stack s1 H1 ⟨us, []⟩ (us ++ ds) (vs ++ dvs) Q C8.E0 hG (hr.mono hk) I1.env0 (b s1 us I1.kIn hl) r2 q) fun r s' hq => ?_)
  match r, hq with
  | .error e, hq => exact hq.elim
  | .ok (.ret u), hq => exact I1.after hq
  | .ok .next, hq => exact hq.elim
  | .ok .brk, hq => exact hq.elim
  | .ok .cont, hq => exact hq.elim
/-! ### repr of data -/
def rRepr (K : PySem.W.Frag) : List V → Hp → VK → Prop := fun xs H Q => ∃ (a : Addr) (d : PyData), xs = [.ref a] ∧ Dp K H (.ref a) d ∧ d.showable = true ∧ d.hasDict = false ∧ d.depth ≤ 100 ∧ d.shown.length ≤ sizeLine ∧ Q (.str d.shown) H
theorem call_reprD (hG : X.A.guards = some []) (hr : Room 0 X.A) : CallR X (.builtin "repr") (rRepr X.K) := by
  intro pins s σ H xs us Q I r h
  obtain ⟨a, d, rfl, hd, h1, h2, h3, h4, q⟩ := h
  obtain ⟨u, rfl, ru⟩ := vals1 r
  have e : u = Value.ref a := ru
  subst e
  obtain ⟨as, rd⟩ := Dp.reads I d _ _ hd rfl
  have hun := hr.un
  exact repr_of_reads' rd h1 (fun z => by rw [h2] at z; cases z) hG (by omega) (fun _ _ e => e) (fun h' u' tk kp => ⟨.str d.shown, H, I.kept kp, ⟨u', rfl⟩, q⟩) h4
end
end Lw
namespace Lw
open PySem PySem.Spec PyProof.Rows L2

open LamX
/-! ### a lambda as a value -/
def FnO (f : Addr) : HO := .ext fun h => ∃ o : Obj, h.get? f = some o ∧ o.cls = .type "function"
section
variable {X : Cx} {pins : List (Addr × Obj)} {σ : L2.St} {H : Hp} {s : Shared}
theorem lay_fn {h' : Heap} {t' : Nat} {o : Obj} (I : Inv X pins σ H { s with heap := h', toks := t' }) (ho : o.cls = .type "function") (hs : o.isFreed = false) :
    Inv X pins σ (upd H h'.objs.size (FnO h'.objs.size)) { s with heap := h'.push o, toks := t' } := by
  refine I.laid (h' := h'.push o) (t' := t') (fun b u e => Heap.get?_push_of_some _ e) (Nat.le_refl _) ?_
  have g : (h'.push o).get? h'.objs.size = some o := Heap.get?_push_size _ hs
  refine ⟨⟨o, g, ho⟩, ⟨o, g⟩, ?_⟩
  rintro h1 h2 ⟨u, e1, e2⟩ st
  exact ⟨u, st u e1, e2⟩
theorem lam_val {T : List (Addr × Str)} {c B : Addr} {params : Arguments} {body : Expr} {scope : Scope} {pos : Pos} {E Q : Value → Shared → Prop} (I : Inv X pins σ H s) (TB : TabB X.base X.mg c B) (hcode : X.env.code = .ref c)
    (hm : (B, X.env.qual ++ "<lambda>") ∈ T) (hu : ∀ p ∈ T, p.1 = B → p.2 = X.env.qual ++ "<lambda>") (hT : Tabs T H) (hdef : defaultsOf params X.env = ([], []))
    (hfree : ∀ y ∈ scope.names, y.2 = .free → ∃ c, X.env.cells.lookup y.1 = some c)
    (h : ∀ (f : Addr) (H1 : Hp) (s' : Shared), Inv X pins σ (upd H1 f (FnO f)) s' → ExtN H H1 → Tabs T H1 → H1 f = none → Q (.ref f) s') :
    wpAny (model X.prog X.w) X.A (eval (.Lambda params body scope pos) X.env) Q E s := by
  have known := hT _ hm
  obtain ⟨ps, hB, trip, amg⟩ := known
  refine PySem.W.kla_eval hdef ?_
  have hat : s.heap.get? B = some { cls := .none, data := .fields ps } := I.hok B _ hB
  have blt := TB.bm.keeps I.bk
  have hdc := TB.code.keeps I.bk
  have glb := I.mod.glob.keeps I.bk
  rcases hc : codeAmong pos ps.toList with _ | cv
  · refine PySem.W.kla_makeFunction (mg := X.mg) (c := c) (P := B) (ps := ps) (closure_ok hfree) I.ok.glob glb hcode hdc hat trip hc TB.gP blt ?_
    intro c2 ctv h' tk hx hge hlt hrec htb
    obtain ⟨c3, oc, vs, t, e3, g1, g2, g3⟩ := hrec
    cases e3
    have nC : H c2 = none := I.hok.fresh hge
    have I0 := inv_table (t' := tk) (more := #[rawInt pos.line, rawInt pos.col, .ref c2]) (h' := h') I hB hx htb hge ⟨oc, vs, t, g1, g2, g3⟩
    have stays : ExtN H (upd (upd H B (.tbl (ps ++ #[rawInt pos.line, rawInt pos.col, .ref c2]))) c2 (CodeO c2 (X.env.qual ++ "<lambda>"))) := by
      intro b o e n
      rw [upd_ne (ne_of_none e nC)]
      by_cases hb : b = B
      · subst hb
        rw [hB] at e
        exact absurd (Option.some.inj e).symm (n ps)
      · rw [upd_ne hb]; exact e
    refine h h'.objs.size _ _ (lay_fn (t' := tk) I0 rfl rfl) stays ?_ ?_
    · intro p hp
      by_cases hb : p.1 = B
      · rw [hu p hp hb, hb]
        refine ⟨ps ++ #[rawInt pos.line, rawInt pos.col, .ref c2], ?_, ?_, ?_⟩
        · rw [upd_ne (ne_of_none hB nC), upd_same]
        · rw [show (ps ++ #[rawInt pos.line, rawInt pos.col, .ref c2]).toList = ps.toList ++ [rawInt pos.line, rawInt pos.col, .ref c2] by simp]
          exact PySem.TriplesOk_snoc _ _ _ _ trip
        · intro p' cv' hcv
          rw [show (ps ++ #[rawInt pos.line, rawInt pos.col, .ref c2]).toList = ps.toList ++ [rawInt pos.line, rawInt pos.col, .ref c2] by simp] at hcv
          rcases among_app _ trip hcv with z | z
          · obtain ⟨c0, a1, a2⟩ := amg p' cv' z
            exact ⟨c0, a1, stays _ _ a2 codeO_ne⟩
          · exact ⟨c2, z, upd_same⟩
      · obtain ⟨qs, a1, a2, a3⟩ := hT p hp
        refine ⟨qs, ?_, a2, ?_⟩
        · rw [upd_ne (ne_of_none a1 nC), upd_ne hb]; exact a1
        · intro p' cv' hcv
          obtain ⟨c0, b1, b2⟩ := a3 p' cv' hcv
          exact ⟨c0, b1, stays _ _ b2 codeO_ne⟩
    · have n1 : h'.objs.size ≠ c2 := Nat.ne_of_gt hlt
      have n2 : h'.objs.size ≠ B := Nat.ne_of_gt (Nat.lt_of_lt_of_le (Heap.lt_size hat) (Nat.le_trans hge (Nat.le_of_lt hlt)))
      rw [upd_ne n1, upd_ne n2]
      exact I.hok.fresh (Nat.le_trans hge (Nat.le_of_lt hlt))
  · obtain ⟨c2, e, hco⟩ := amg pos cv hc
    subst e
    refine PySem.W.kla_makeFunctionHit (mg := X.mg) (c := c) (P := B) (ps := ps) (closure_ok hfree) I.ok.glob glb hcode hdc hat trip hc blt ?_
    intro ctv h' tk hx hsz
    have I0 : Inv X pins σ H { s with heap := h', toks := tk } := I.kept hx
    exact h h'.objs.size H _ (lay_fn (t' := tk) I0 rfl rfl) (ExtN.refl H) hT (I.hok.fresh hsz)
end
def tLamV (T : List (Addr × Str)) : TE := fun _ H Q => Tabs T H ∧ ∀ (f : Addr) (H1 : Hp), ExtN H H1 → Tabs T H1 → H1 f = none → Q (.ref f) (upd H1 f (FnO f))
section
variable {X : Cx}
theorem pe_lamV {T : List (Addr × Str)} {c B : Addr} {params : Arguments} {body : Expr} {scope : Scope} {pos : Pos} (TB : TabB X.base X.mg c B) (hcode : X.env.code = .ref c)
    (hm : (B, X.env.qual ++ "<lambda>") ∈ T) (hu : ∀ p ∈ T, p.1 = B → p.2 = X.env.qual ++ "<lambda>") (hdef : defaultsOf params X.env = ([], [])) (L : ∀ y ∈ scope.names, y.2 ≠ .free) :
    PE X (.Lambda params body scope pos) (tLamV T) := by
  refine ⟨fun pins s σ H Q I h => ?_⟩
  refine lam_val I TB hcode hm hu h.1 hdef (fun y hy e => absurd e (L y hy)) fun f H1 s' I1 eN T1 nf => ?_
  exact ⟨.ref f, _, I1, rfl, h.2 f H1 eN T1 nf⟩
end
end Lw
namespace Lf
open PySem
open Sem (wp)

theorem ga : Slot "function" "__getattribute__" "object.__getattribute__" := by
  refine .of (owner := "object") (n := "__getattribute__") ?_ (by decide +kernel) (by decide +kernel) (by decide +kernel) ?_ ?_
  · rw [typeLookup_type, builtinLookup_eq_fast]
    kernel_rfl
  · first
      | exact .inl (by decide +kernel)
      | exact .inr (by decide +kernel)
  · rw [isSubtype_type]
    kernel_rfl
theorem lkc : typeLookup (.type "function") "__class__" = pure (some (.builtin "object.__class__")) := by
  rw [typeLookup_type, builtinLookup_eq_fast]
  kernel_rfl
theorem sub_own : isSubtype (.type "function") (.type (".".intercalate ("object.__class__".cutAt '.').dropLast)) = pure true := by
  rw [F.owner_object_class]
  rw [isSubtype_type]
  kernel_rfl
section
variable {prog : Program} {w : World} {A : Around} {E : Value → Shared → Prop} {h : Heap} {g : Array GenState} {d : Drawn} {t : Nat} {os : OsState} {a : Addr} {o : Obj}
theorem fn_get {R : Result → Shared → Prop} (hx : h.get? a = some o) (hc : o.cls = .type "function")
    (hq : R (.ok (.ret (.type "function"))) ⟨h, g, d, t, os⟩) :
    codeAny (model prog w) A (.call (.builtin "getset_descriptor.__get__") ⟨[.builtin "object.__class__", .ref a, .type "function"], []⟩) R ⟨h, g, d, t, os⟩ := by
  have i1 : (⟨h, g, d, t, os⟩ : Shared).TypeIs (.ref a) "function" := ⟨o, hx, hc⟩
  have i2 : (⟨h, g, d, t, os⟩ : Shared).TypeIs (.builtin "object.__class__") "getset_descriptor" := F.typeOf_object_class
  have i3 := sub_own
  refine codeAny_call_builtin F.slot_gs_get.plain F.entry_gs_get ?_
  refine F.slot_gs_get.check _ _ _ _ _ _ _ _ i2 (F.args_gs_get _ _ _) ?_
  repeat (any_goals (first | assumption | wp_step))
  refine ⟨Code.quiet_builtin _ (by decide +kernel), ?_⟩
  refine codeAny_builtin F.entry_object_class ?_
  repeat (any_goals (first | assumption | wp_step))
theorem fn_ga {tk : Tok} {Q : Fin → Shared → Prop} (hx : h.get? a = some o) (hc : o.cls = .type "function")
    (hq : Q (.done (.ret (.type "function"))) ⟨h, g, d, t, os⟩) :
    wpAny (model prog w) A (Builtin.«object.__getattribute__» ⟨[.ref a, .str "__class__" tk], []⟩) Q E ⟨h, g, d, t, os⟩ := by
  have i1 : (⟨h, g, d, t, os⟩ : Shared).TypeIs (.ref a) "function" := ⟨o, hx, hc⟩
  have i2 : (⟨h, g, d, t, os⟩ : Shared).TypeIs (.builtin "object.__class__") "getset_descriptor" := F.typeOf_object_class
  have i3 := lkc
  have i4 := F.typeOf_object_class
  have i5 := F.slot_gs_get.lookup
  have i6 := F.slot_gs_set.lookup
  repeat (any_goals (first | assumption | wp_step))
  refine fn_get hx hc ?_
  repeat (any_goals (first | assumption | wp_step))
theorem fn_call {tk : Tok} {R : Result → Shared → Prop} (hx : h.get? a = some o) (hc : o.cls = .type "function")
    (hq : R (.ok (.ret (.type "function"))) ⟨h, g, d, t, os⟩) :
    codeAny (model prog w) A (.call (.builtin "object.__getattribute__") ⟨[.ref a, .str "__class__" tk], []⟩) R ⟨h, g, d, t, os⟩ := by
  refine codeAny_call_builtin ga.plain F.entry_object_getattribute ?_
  exact ga.check _ _ _ _ _ _ _ _ (show (⟨h, g, d, t, os⟩ : Shared).TypeIs (.ref a) "function" from ⟨o, hx, hc⟩) (F.args_object_getattribute_2 _ _) (fn_ga hx hc hq)
theorem fn_by {tk : Tok} {Q : Value → Shared → Prop} (hx : h.get? a = some o) (hc : o.cls = .type "function") (hq : Q (.type "function") ⟨h, g, d, t, os⟩) :
    wpAny (model prog w) A (getAttrBy (.ref a) (.str "__class__" tk) false) Q E ⟨h, g, d, t, os⟩ := by
  have i1 : (⟨h, g, d, t, os⟩ : Shared).TypeIs (.ref a) "function" := ⟨o, hx, hc⟩
  have i2 := ga.lookup
  have i3 := ga.bind (.ref a)
  repeat (any_goals (first | assumption | wp_step))
  refine fn_call hx hc ?_
  repeat (any_goals (first | assumption | wp_step))
theorem fn_attr {Q : Option Value → Shared → Prop} (hx : h.get? a = some o) (hc : o.cls = .type "function") (hq : Q (some (.type "function")) ⟨h, g, d, t + 1, os⟩) :
    wpAny (model prog w) A (getAttr? (.ref a) "__class__") Q E ⟨h, g, d, t, os⟩ := by
  unfold getAttr? getAttrBy?
  repeat (any_goals (first | assumption | with_reducible apply fn_by hx hc | wp_step))
end
end Lf
namespace Lw
open PySem PySem.Spec PyProof.Rows L2

open LamX
theorem kitx_fn {K : PySem.W.Frag} {a : Addr} : PySem.W.KitX K (.ref a) (.type "function") (PySem.W.KitAt a "function") := PySem.W.kitx_of PySem.W.kitAt_ty (fun {_ _ _ _ _ s} p k => by
  obtain ⟨h, g, d, t, os⟩ := s
  obtain ⟨o, h1, h2⟩ := p
  exact Lf.fn_attr h1 h2 k)
/-- a value's type: a def's, too -/
inductive TyZ (K : PySem.W.Frag) (H : Hp) : V → Value → Prop where
  | x {v : V} {t : Value} (h : TyX K H v t) : TyZ K H v t
  | fn {a : Addr} (e : H a = some (FnO a)) : TyZ K H (.ref a) (.type "function")
def rIsz (K : PySem.W.Frag) : List V → Hp → VK → Prop := fun xs H Q => ∃ (x c : V) (t u : Value) (b : Bool), xs = [x, c] ∧ ClsV c u ∧ TyZ K H x t ∧ PySem.W.kitOne K t u = some b ∧ Q (.bl b) H
theorem call_isz {X : Cx} : CallR X (.builtin "isinstance") (rIsz X.K) := by
  intro pins s σ H xs us Q I r h
  obtain ⟨x, c, t, u, b, rfl, k, ty, e, q⟩ := h
  obtain ⟨u1, u2, rfl, r1, r2⟩ := vals2 r
  have e2 := k.eq r2
  subst e2
  cases ty with
  | x ty =>
    obtain ⟨W, Z, p, hx⟩ := kit_of I r1 ty
    exact PySem.W.kia_one Z I.kIn p e hx fun tk => ⟨.bl b, H, I.tok tk, rfl, q⟩
  | @fn a ea =>
    have e3 : u1 = Value.ref a := r1
    subst e3
    obtain ⟨⟨o, h1, h2⟩, _⟩ := I.hok a _ ea
    exact PySem.W.kia_one kitx_fn I.kIn ⟨o, h1, h2⟩ e (fun z => by cases z) fun tk => ⟨.bl b, H, I.tok tk, rfl, q⟩
end Lw
namespace Lw
open PySem PySem.Spec PyProof.Rows L2

/-! ### try: body / except X as n: suite, the caught exception held behind the suite -/
/-- an exception's object: its class, its dict -/
def ExO (a : Addr) (cls : Value) (d : Option Addr) : HO := .ext fun h => ∃ o, h.get? a = some o ∧ Zc cls d o ∧ ∃ vs, o.data = .fields vs
section
variable {X : Cx} {pins : List (Addr × Obj)} {σ : L2.St} {H : Hp} {s : Shared}
/-- a pinned object is tracked from now on -/
theorem promote {a : Addr} {o : Obj} {cls : Value} {d : Option Addr} (I : Inv X ((a, o) :: pins) σ H s) (hz : Zc cls d o) (hf : ∃ vs, o.data = .fields vs) (new : X.s_0.heap.get? a = none) (apart : ∀ p ∈ X.pn ++ pins, p.1 ≠ a) : Inv X pins σ (upd H a (ExO a cls d)) s := by
  obtain ⟨ha, na, nL, nF, nC⟩ := I.pin (a, o) (List.mem_append_right _ List.mem_cons_self)
  have here : ∀ b, b ≠ a → upd H a (ExO a cls d) b = H b := fun b n => upd_ne n
  have known : ∀ b u, H b = some u → b ≠ a := fun b u e z => by rw [z, na] at e; cases e
  have old : ∀ b u, X.s_0.heap.get? b = some u → b ≠ a := fun b u e z => by rw [z, new] at e; cases e
  refine ⟨I.ok, I.os, I.bare, ⟨I.base.keep, I.base.slot, fun b u e n hx => ?_, I.base.there, fun b xs e => ?_, fun b u v e => ?_, fun b ps e => ?_⟩, I.loc, I.cell, ?_, fun y c e => ?_, fun p hp => ?_, fun b u e => ?_, I.len⟩
  · rw [here b (old b u e)]
    exact I.base.free b u e n hx
  · have z := I.base.tups b xs e
    rw [here b (known b _ z)]
    exact z
  · have z := I.base.frzs b u v e
    rw [here b (known b _ z)]
    exact z
  · obtain ⟨more, z⟩ := I.base.tbls b ps e
    exact ⟨more, by rw [here b (known b _ z)]; exact z⟩
  · rw [here _ nL.symm]
    exact I.free
  · have ne : c ≠ a := fun z => by
      obtain ⟨v, oc, hoc, hdc⟩ := I.cell y c e
      rw [z, ha] at hoc
      cases hoc
      exact nC v hdc
    rw [here c ne]
    exact I.freeC y c e
  · have hp2 : p ∈ X.pn ++ ((a, o) :: pins) := by
      rcases List.mem_append.mp hp with h | h
      · exact List.mem_append_left _ h
      · exact List.mem_append_right _ (List.mem_cons_of_mem _ h)
    obtain ⟨e1, e2, e3⟩ := I.pin p hp2
    exact ⟨e1, by rw [here _ (apart p hp)]; exact e2, e3⟩
  · by_cases q : b = a
    · subst q
      rw [upd_same] at e
      cases e
      refine ⟨⟨o, ha, hz, hf⟩, ⟨o, ha⟩, ?_⟩
      rintro h1 h2 ⟨u, e1, e2⟩ st
      exact ⟨u, st u e1, e2⟩
    · rw [here b q] at e
      exact (I.hok b u e).stay (fun _ _ _ z => z) (fun c z => by rw [here c (known c _ z)]; exact z) fun c xs z => by rw [here c (known c _ z)]; exact z
end
end Lw
namespace Lw
open PySem PySem.Spec PyProof.Rows L2

/-- what the body's exceptions must be: of the class that is named; the suite ends plainly, and the exception stays known behind it -/
def wHeld (K : PySem.W.Frag) (c : Value) (i n : Nat) (ts : Addr → Value → Option Addr → TS) (D : Ends) : WX := fun cls d σ H => σ.length = n →
  PySem.W.exmOne K cls c = some true ∧ ∀ a, H a = none → ts a cls d { nx := fun σ' H' => H' a = none → D.nx (σ'.set i none) (upd H' a (ExO a cls d)), rt := fun _ _ => False, bk := fun _ _ => False, ct := fun _ _ => False } (σ.set i (some (.ref a))) H
section
variable {X : Cx} {x n : Str} {c : Value} {i : Nat} {body suite : List Stmt} {b₀ : Stmt} {np pos pos' : Pos} {tb : WX → TS} {ts : Addr → Value → Option Addr → TS}
theorem ps_try_held (stk : X.stack = X.env :: X.outer) (frm : X.env.frame = some X.env.locals) (hN : X.N.Nodup) (hi : X.N[i]? = some n) (loc : X.env.kindOf n = some .local) (nm : Names X x c) (noex : X.ex = [])
    (hb : ∀ (W : WX) (pn : List (Addr × Obj)) (xe : Value → Shared → Prop), Takes (X.tr pn xe) W → PassesOwn (model X.prog X.w) X.A X.env xe → PSs (X.tr pn xe) body (tb W))
    (hsu : ∀ (a : Addr) (oe : Obj) (cls : Value) (d : Option Addr) (pn : List (Addr × Obj)), Zc cls d oe → (∃ vs, oe.data = .fields vs) → PSs (X.suite a ((a, oe) :: pn)) (b₀ :: suite) (ts a cls d)) :
    PS X (.Try body [.ExceptHandler (some (.Name x np)) (some n) (b₀ :: suite) pos'] [] [] pos) (fun D σ H => tb (wHeld X.K c i X.N.length ts D) D σ H) := by
  refine ⟨fun pins s σ H D I h => ?_⟩
  have ok := I.ok
  have frames : X.A.frames = some (X.env :: X.outer) := by rw [ok.frames, stk]
  refine wpAny_Try_except ?_
  refine wpAny_mono ((hb (wHeld X.K c i X.N.length ts D) (X.pn ++ pins) (fun e s₁ => wpAny (model X.prog X.w) X.A (noteFrame e X.env) (fun _ s₂ => wpAny (model X.prog X.w) X.A (setFlight e none) (fun _ s₃ =>
    wpAny (model X.prog X.w) X.A (handleBy e X.env [.ExceptHandler (some (.Name x np)) (some n) (b₀ :: suite) pos']) (SP X pins D) X.xe s₃) X.xe s₂) X.xe s₁) (fun u s' air => ?_) PassesOwn.looking).run [] s σ H D (I.toTry _) h) (fun f s1 q => ?_) (fun e s1 q => q)
  · obtain ⟨a, B, sI, pins', σ', H', cls, d, rfl, JT, nb, up, sky, na, os, ag, hw⟩ := air
    have J : Inv X pins σ' H' sI := JT.ofTry ok
    obtain ⟨ours, go⟩ := hw J.len
    rw [stk] at sky
    show wpAny (model X.prog X.w) X.A (noteFrame (.ref a) X.env) _ _ _
    refine Sky.land Zc.steady frames frm sky fun hA flA upA => ?_
    have JA : Inv X pins σ' H' { s' with heap := hA } := J.landed nb flA.1 (up.trans upA) os ag
    obtain ⟨oA, vsA, eA, zA, dA⟩ := flA.there
    -- the exception's object is no frame, and it is new
    have noFrame : a ∉ frs (X.env :: X.outer) := fun hm => by
      obtain ⟨_, o', e', hnf⟩ := flA.2.2.1.mem hm
      rw [eA] at e'
      cases e'
      exact hnf _ dA
    have nL : a ≠ X.env.locals := fun z => noFrame (List.mem_filterMap.mpr ⟨X.env, List.mem_cons_self, by rw [frm, z]⟩)
    have nF : a ∉ X.fs := fun hm => by
      obtain ⟨e, he, q⟩ := List.mem_filterMap.mp hm
      exact noFrame (List.mem_filterMap.mpr ⟨e, List.mem_cons_of_mem _ he, q⟩)
    have nB : B.get? a = none := flA.2.1
    have ground : ∀ b o, sI.heap.get? b = some o → b ≠ a := fun b o e z => by
      rw [z] at e
      have k := nb a o e (by rw [stk]; exact noFrame)
      rw [nB] at k
      cases k
    have fresh : X.s_0.heap.get? a = none := by
      cases e : X.s_0.heap.get? a with
      | none => rfl
      | some o =>
        obtain ⟨o', e'⟩ := J.base.there a o e (by rw [noex]; simp)
        exact absurd rfl (ground a o' e')
    have apart : ∀ p ∈ X.pn ++ pins, p.1 ≠ a := fun p hp => ground p.1 p.2 (J.pin p hp).1
    refine wpAny_handleBy_cons (codeAny_handlers_test ?_) (by intro q; cases q)
    have LT : PySem.W.Looks (model X.prog X.w) hA (typeOf (.ref a)) cls := fun A Q E s k q => wpAny_typeOf_ref (k _ _ eA) (by rw [zA.1]; exact q)
    have LM := PySem.W.exm_one (M := model X.prog X.w) JA.kIn LT ours
    have SA := JA.suite eA dA na nL nF
    have look : ∀ {Q : Value → Shared → Prop} {E : Value → Shared → Prop}, Q c { s' with heap := hA } → wpAny (model X.prog X.w) (X.A.mark (some (.ref a))) (eval (.Name x np) X.env) Q E { s' with heap := hA } := fun {Q E} q => by
      rcases nm with ⟨g1, g2, g3 | ⟨g3, g4, g5⟩⟩
      · exact ld_glob (X := X.suite a ((a, oA) :: (X.pn ++ pins))) SA g1 g3 q g2
      · exact ld_blt (X := X.suite a ((a, oA) :: (X.pn ++ pins))) SA g1 g3 g4 q g5 g2
    refine look (LM.here ?_)
    refine codeAny_handlers_suite_as ?_
    refine HandSPX.lands_againZ flA fun hB flB upB => ?_
    have JB : Inv X pins σ' H' { s' with heap := hB } := J.landed nb flB.1 ((up.trans upA).trans upB) os ag
    obtain ⟨oB, vsB, eB, zB, dB⟩ := flB.there
    refine store_ok (X := X.suite a ((a, oB) :: (X.pn ++ pins))) (v := .ref a) (JB.suite eB dB na nL nF) hN hi (.inl loc) rfl (fun s5 S5 => ?_) (.inr loc)
    refine wpAny_mono ((hsu a oB cls d (X.pn ++ pins) zB ⟨_, dB⟩).run [] s5 _ H' _ S5 (go a na)) (fun f s6 q => ?_) (fun _ _ z => False.elim z)
    cases f with
    | next =>
      obtain ⟨σ6, H6, S6, q6⟩ := q
      have held : Inv X ((a, oB) :: pins) σ6 H6 s6 := ⟨ok, S6.os, S6.bare, S6.base, S6.loc, S6.cell, S6.free, S6.freeC, fun p hp => by
        refine S6.pin p (List.mem_append_left _ ?_)
        show p ∈ (a, oB) :: (X.pn ++ pins)
        rcases List.mem_append.mp hp with h | h
        · exact List.mem_cons_of_mem _ (List.mem_append_left _ h)
        · rcases List.mem_cons.mp h with h | h
          · rw [h]; exact List.mem_cons_self
          · exact List.mem_cons_of_mem _ (List.mem_append_right _ h), S6.hok, S6.len⟩
      refine gone_ok held hN hi loc fun s7 I7 => ?_
      exact ⟨_, _, promote I7 zB ⟨_, dB⟩ fresh apart, q6 (I7.pin (a, oB) (List.mem_append_right _ List.mem_cons_self)).2.1⟩
    | brk =>
      obtain ⟨_, _, _, z⟩ := q
      exact z.elim
    | cont =>
      obtain ⟨_, _, _, z⟩ := q
      exact z.elim
    | ret u =>
      obtain ⟨_, _, _, _, _, z⟩ := q
      exact z.elim
  · cases f with
    | next =>
      obtain ⟨σ1, H1, I1, q1⟩ := q
      exact wpAny_execs_nil ⟨σ1, H1, I1.ofTry ok, q1⟩
    | brk =>
      obtain ⟨σ1, H1, I1, q1⟩ := q
      exact ⟨σ1, H1, I1.ofTry ok, q1⟩
    | cont =>
      obtain ⟨σ1, H1, I1, q1⟩ := q
      exact ⟨σ1, H1, I1.ofTry ok, q1⟩
    | ret u =>
      obtain ⟨v1, σ1, H1, I1, r1, q1⟩ := q
      exact ⟨v1, σ1, H1, I1.ofTry ok, r1, q1⟩
end
end Lw
namespace Lw
open PySem PySem.Spec PyProof.Rows L2

section
variable {X : Cx} {pins : List (Addr × Obj)} {σ : L2.St} {H : Hp} {s : Shared}
theorem held_at {a : Addr} {cls : Value} {d : Option Addr} (I : Inv X pins σ H s) (h : H a = some (ExO a cls d)) : ∃ o vs, s.heap.get? a = some o ∧ o.cls = cls ∧ o.dict = d ∧ o.data = .fields vs := by
  obtain ⟨⟨o, h1, h2, vs, h3⟩, _⟩ := (show ObjOk X.prog X.w H s.heap a (ExO a cls d) from I.hok a _ h)
  exact ⟨o, vs, h1, h2.1, h2.2, h3⟩
/-- the exception as an instance, its attributes known -/
theorem held_inst {a C dd : Addr} {fs : List (Str × V)} (I : Inv X pins σ H s) (h : H a = some (ExO a (.ref C) (some dd))) (hd : H dd = some (.xd fs)) : ∃ o od, PySem.W.InstAt s.heap a o C (some od) ∧ ∀ f v, fs.lookup f = some v → ∃ u, PySem.W.lookIn f od = some (some u) ∧ RelV v u := by
  obtain ⟨o, vs, h1, h2, h3, h4⟩ := held_at I h
  obtain ⟨mA, hns, hr⟩ := (show ObjOk X.prog X.w H s.heap dd (.xd fs) from I.hok dd _ hd)
  obtain ⟨od, ho, hl⟩ := lookIn_ns hns
  refine ⟨o, od, ⟨h1, h2, by unfold PySem.W.notCls; rw [h4] <;> rfl, by rw [h3]; exact ho⟩, fun f v e => ?_⟩
  obtain ⟨u, hu, ru⟩ := RelO.some_of (v := v) (o := mA f) (by rw [← e]; exact hr f)
  exact ⟨u, by rw [hl, hu], ru⟩
/-- e.f of an exception that is held -/
def tHeld (C : Addr) (f : Str) (te : TE) : TE := fun σ H Q => te σ H fun x H1 => ∃ (a dd : Addr) (fs : List (Str × V)) (v : V), x = .ref a ∧ H1 a = some (ExO a (.ref C) (some dd)) ∧ H1 dd = some (.xd fs) ∧ fs.lookup f = some v ∧ Q v H1
theorem pe_held {C : Addr} {e : Expr} {te : TE} {pos : Pos} {f : Str} (T : XfC X.K C) (hno : PySem.W.findIn X.K (.ref C) f = some none) (he : PE X e te) (hb : attributeBase e f X.env (eval e X.env) = eval e X.env := by rfl) : PE X (.Attribute e f pos) (tHeld C f te) := by
  refine ⟨fun pins s σ H Q I q => attr_of hb (thn (he.run pins s σ H _ I q) fun u s1 got => ?_)⟩
  obtain ⟨x, H1, I1, rx, a, dd, fs, v, rfl, ha, hd, hl, q⟩ := got
  obtain rfl : u = Value.ref a := rx
  obtain ⟨o, od, J, fld⟩ := held_inst I1 ha hd
  obtain ⟨u, hu, ru⟩ := fld f v hl
  exact HandSPX.exc_get I1.kIn J T.ga T.gg T.exC (PySem.W.findObj_own T.hdC hno rfl hu) (handed_of ru) ⟨v, H1, I1.tok _, ru, q⟩
end
end Lw
namespace Lw.Hx
open PySem PySem.Spec PySem.Calls PyProof.Rows PySem.W

/-! ### isinstance of an exception that has attributes -/
/-- what isinstance asks of the exception's class -/
structure XCls (K : Frag) (D : Addr) : Prop where
  ga : findIn K (.ref D) "__getattribute__" = some (some (.builtin "BaseException.__getattribute__"))
  gt : findIn K (.ref D) "__getattr__" = some none
  sub : subIn K (.ref D) (.type "BaseException") = some true
  dct : hasDictIn K D = true
  ca : findIn K (.ref D) "__class__" = some (some (.builtin "object.__class__"))
  cn : specialIn K (.builtin "object.__class__") "__get__" = some (some (.builtin "getset_descriptor.__get__"))
  ct : takesIn K (.builtin "object.__class__") = some true
  cm : mroIn K D (.type "object") = some true
section
variable {prog : Program} {w : World} {A : Around} {E : Value → Shared → Prop} {s : Shared} {K : Frag} {x D : Addr} {ox : Obj} {od : Option Obj}
theorem finds (c : XCls K D) : findObj K D od "__class__" = some (.bind (.builtin "getset_descriptor.__get__") (.builtin "object.__class__")) := by
  obtain ⟨cd, hc, _⟩ := any_some c.dct
  unfold findObj
  rw [hc, Option.bind_some, c.ca, Option.bind_some]
  simp only [c.cn, c.ct, Option.bind_some]
theorem class_of (c : XCls K D) {Q : Option Value → Shared → Prop} (X : K.In s.heap) (I : InstAt s.heap x ox D od) (h : Q (some (.ref D)) { s with toks := s.toks + 1 }) : wpAny (model prog w) A (getAttr? (.ref x) "__class__") Q E s := by
  have found := finds (od := od) c
  obtain ⟨hp, gs, dr, tk, os⟩ := s
  have kind := I.type (M := model prog w)
  have asks := looks_findIn (M := model prog w) X c.ga
  have more := looks_findIn (M := model prog w) X c.gt
  have seen := looks_find (M := model prog w) X I found
  have under : Looks (model prog w) hp (isInstance (.ref x) (.type "BaseException")) true := kind.andThen (looks_subIn X c.sub)
  have n2 : (Value.builtin "BaseException.__getattribute__" == Value.builtin "object.__getattribute__") = false := by decide +kernel
  have n1 : (onTheHeap (Value.ref D) && Value.builtin "BaseException.__getattribute__" == Value.builtin "object.__getattribute__") = false := by rw [n2]; rfl
  unfold getAttr? getAttrBy? getAttrBy
  refine wpAny_bind (wpAny_mkText (wpAny_bind (wpAny_attempt (wpAny_holding (wpAny_bind (kind.at (wpAny_bind (asks.at ?_))))))))
  show wpAny _ _ (ite ((onTheHeap (Value.ref D) && Value.builtin "BaseException.__getattribute__" == Value.builtin "object.__getattribute__") = true) _ _) _ _ _
  rw [n1, if_neg (by decide)]
  unfold getAttrByItsOwn hookBefore
  refine wpAny_bind ?_
  rw [if_pos (show onTheHeap (.ref D) = true from rfl)]
  refine more.at (wpAny_bind (wpAny_attempt (wpAny_holding ?_)))
  unfold callGetattribute
  rw [if_neg (show ¬ (false && onTheHeap (Value.builtin "BaseException.__getattribute__")) = true from by decide)]
  unfold boundAndCalled
  rw [PySem.F.excAttr_ValueError.ga.bind (.ref x)]
  refine wpAny_bind (wpAny_pure ?_)
  show wpAny _ _ (call (.builtin "BaseException.__getattribute__") [.ref x, .str "__class__" tk]) _ _ _
  refine wpAny_call (codeAny_call_builtin PySem.F.excAttr_ValueError.ga.plain PySem.F.entry_bexc_ga ?_)
  refine @check_slot (model prog w) _ _ ⟨hp, gs, dr, tk + 1, os⟩ "BaseException.__getattribute__" "BaseException" "__getattribute__" (.ref x) [.str "__class__" tk] [] _ (by decide +kernel) (by decide +kernel) under (PySem.F.args_bexc_ga (.ref x) (.str "__class__" tk)) ?_
  unfold Builtin.«object.__getattribute__»
  refine wpAny_bind (wpAny_of_eq (a := ((Value.ref x : Value), [Value.str "__class__" tk])) (by first | rfl | (simp only [slotArgs] <;> rfl)) ?_)
  refine wpAny_bind (wpAny_pure (wpAny_bind (kind.at (wpAny_bind (seen.at ?_)))))
  show wpAny _ _ (holding [Value.builtin "object.__class__"] (call (.builtin "getset_descriptor.__get__") [.builtin "object.__class__", .ref x, .ref D]) >>= ret) _ _ _
  refine wpAny_bind (wpAny_holding (wpAny_call (class_get (s := ⟨hp, gs, dr, tk + 1, os⟩) X I c.cm ?_)))
  refine wpAny_pure ?_
  show wpAny _ _ (handedOut (.ref D)) _ _ _
  rw [handedOut_of (v := .ref D) rfl]
  first
    | exact wpAny_pure (wpAny_pure h)
    | exact wpAny_pure h
    | exact wpAny_pure (wpAny_bind (wpAny_pure (wpAny_pure h)))
theorem no_list (c : XCls K D) : ∃ o cd, K.lookup D = some o ∧ o.data = .cls cd := by
  obtain ⟨cd, hc, _⟩ := any_some c.dct
  unfold clsIn at hc
  split at hc
  · rename_i c' d' cd' sl' ho
    exact ⟨_, _, ho, rfl⟩
  · cases hc
theorem kitx_held (c : XCls K D) : KitX K (.ref x) (.ref D) (fun h => InstAt h x ox D od) where
  ty := fun _ _ _ I => I.type
  it := fun _ _ X _ => by
    obtain ⟨o, cd, ho, hd⟩ := no_list c
    intro A' Q' E' s' k q
    unfold isType loadHead
    refine wpAny_bind (wpAny_loadPart (k _ _ (X _ _ ho)) ?_)
    rw [hd]
    exact wpAny_pure q
  ne := fun h tp dd its n sl X htp => by
    refine Bool.eq_false_iff.mpr fun q => ?_
    have e : D = tp := Value.ref.inj (beq_iff_eq.mp q)
    obtain ⟨o, cd, ho, hd⟩ := no_list c
    have z := X _ _ ho
    rw [e, htp] at z
    cases z
    cases hd
  ca := fun X I k => class_of c X I k
end
end Lw.Hx
namespace Lw
open PySem PySem.Spec PyProof.Rows L2

/-- a value's kind: an exception's that is held, too -/
inductive TyW (K : PySem.W.Frag) (H : Hp) : V → Value → Prop where
  | z {v : V} {t : Value} (h : TyZ K H v t) : TyW K H v t
  | held {a D dd : Addr} {fs : List (Str × V)} (e : H a = some (ExO a (.ref D) (some dd))) (hd : H dd = some (.xd fs)) (c : Hx.XCls K D) : TyW K H (.ref a) (.ref D)
def rIsw (K : PySem.W.Frag) : List V → Hp → VK → Prop := fun xs H Q => ∃ (x c : V) (t u : Value) (b : Bool), xs = [x, c] ∧ ClsV c u ∧ TyW K H x t ∧ PySem.W.kitOne K t u = some b ∧ Q (.bl b) H
theorem call_isw {X : Cx} : CallR X (.builtin "isinstance") (rIsw X.K) := by
  intro pins s σ H xs us Q I r h
  obtain ⟨x, c, t, u, b, rfl, k, ty, e, q⟩ := h
  cases ty with
  | z ty => exact call_isz pins s σ H _ us Q I r ⟨x, c, t, u, b, rfl, k, ty, e, q⟩
  | @held a D dd fs ea hd cl =>
    obtain ⟨w1, w2, rfl, r1, r2⟩ := vals2 r
    obtain rfl := k.eq r2
    obtain rfl : w1 = Value.ref a := r1
    obtain ⟨o, od, J, _⟩ := held_inst I ea hd
    exact PySem.W.kia_one (Hx.kitx_held cl) I.kIn J e (fun z => by cases z) fun tk => ⟨.bl b, H, I.tok tk, rfl, q⟩
end Lw
namespace Lw
open PySem PySem.Spec PyProof.Rows L2
end Lw
namespace Lw.Xk
open PySem PySem.HandSPX PySem.Builtin
/-! ### own exceptions made by keywords -/
section
variable {prog : Program} {w : World} {A : Around} {E : Value → Shared → Prop} {R : Result → Shared → Prop} {h : Heap} {g : Array GenState} {d : Drawn} {t : Nat} {os : OsState}
variable {nm q : Str} {C N : Addr} {bs bm bmB : List Value} {hdct : Bool} {sn : List Str} {sub : List Value} {ab : Bool} {col : Option Bool} {dd : Option Addr} {k0 k1 k2 k3 k5 : Option Value} {B newId initId : String}
theorem check_new_kw (F : ExcBaseFacts B newId initId bmB) (hT : ∀ X : String, bm.contains (.type X) = bmB.contains (.type X)) {kw : List (Str × Value)} {Q : Unit → Shared → Prop}
    (hC : h.get? C = some (excClassObj nm q C N bs bm hdct sn sub ab col dd k0 k1 k2 k3 k5 newId)) (hq : Q () ⟨h, g, d, t, os⟩) : wpAny (model prog w) A (checkBuiltinCall newId ⟨[.ref C], kw⟩) Q E ⟨h, g, d, t, os⟩ := by
  have has : (Value.ref C :: bm).contains (.type B) = true := by rw [List.contains_cons, hT, F.hasB, Bool.or_true]
  have star := F.noStar
  simp only [checkBuiltinCall, F.newKind, F.newSplit, F.newRow]
  repeat (first | refine wpAny_loadPart_at hC ?_ | (refine wpAny_isSubtype_exc hC ?_; rw [has]) | refine wpAny_staticBase_exc hC ?_ | refine wpAny_madeBy_exc hC ?_ | simp only [bne_self_eq_false, Bool.false_eq_true, if_false] | wp_step)
  exact hq
theorem new_kw (F : ExcBaseFacts B newId initId bmB) (hT : ∀ X : String, bm.contains (.type X) = bmB.contains (.type X)) {kw : List (Str × Value)}
    (hC : h.get? C = some (excClassObj nm q C N bs bm hdct sn sub ab col dd k0 k1 k2 k3 k5 newId))
    (hq : R (.ok (.ret (.ref (h.objs.size + 1)))) ⟨(h.push (W.kdv_tup [])).push (HandSPX.excO C h.objs.size), g, d, t, os⟩) :
    codeAny (model prog w) A (.builtin newId ⟨[.ref C], kw⟩) R ⟨h, g, d, t, os⟩ := by
  have ends := F.ends
  have c1 : (Value.ref C :: bm).contains (.type B) = true := by rw [List.contains_cons, hT, F.hasB, Bool.or_true]
  have c2 : (Value.ref C :: bm).contains (.type "AttributeError") = false := by rw [List.contains_cons, hT, F.noAttr]; rfl
  have c3 : (Value.ref C :: bm).contains (.type "NameError") = false := by rw [List.contains_cons, hT, F.noName]; rfl
  refine codeAny_builtinAt F.entry ?_
  unfold Builtin.«BaseException.__new__»
  refine wpAt_bind ?_
  show wpAt _ _ _ (stack >>= _) _ _ _
  refine wpAt_bind (wpAt_stack fun p below => wpAt_of_wpAny ?_)
  wp_walk
  refine wpAt_of_wpAny ?_
  rw [F.owner]
  repeat (first | with_reducible refine wpAny_madeHere_exc F.canon hC ?_ | with_reducible refine wpAny_loadPart_at hC ?_ | (with_reducible refine wpAny_isSubtype_exc hC ?_; first | rw [c1] | rw [c2] | rw [c3]) | wp_step)
  show R _ _
  rw [Heap.size_push]
  exact hq
theorem type_call_kw (F : ExcBaseFacts B newId initId bmB) (hT : ∀ X : String, bm.contains (.type X) = bmB.contains (.type X)) {kw : List (Str × Value)} {fI : Addr} {Q : Fin → Shared → Prop}
    (hC : h.get? C = some (excClassObj nm q C N bs bm hdct sn sub ab col dd k0 k1 k2 k3 k5 newId))
    (hi : W.Looks (model prog w) h (typeLookup (.ref C) "__init__") (some (.ref fI))) (hb : ∀ self, W.Looks (model prog w) h (bindSpecial (.ref fI) self) (.ref fI, [self]))
    (hq : codeAny (model prog w) A (.call (.ref fI) ⟨[.ref (h.objs.size + 1)], kw⟩)
      (fun r s' => match r with | .ok (.ret v) => v = .none ∧ Q (.done (.ret (.ref (h.objs.size + 1)))) s' | .ok _ => False | .error e => E e s')
      ⟨(h.push (W.kdv_tup [])).push (HandSPX.excO C h.objs.size), g, d, t, os⟩) :
    wpAny (model prog w) A (Builtin.«type.__call__» ⟨[.ref C], kw⟩) Q E ⟨h, g, d, t, os⟩ := by
  repeat (first | with_reducible refine wpAny_loadPart_at hC ?_ | with_reducible refine wpAny_madeBy_exc hC ?_ | wp_step)
  refine codeAny_call_builtin_code (Code.quiet_builtin _ F.quiet) (check_new_kw F hT hC ?_)
  refine new_kw F hT hC ?_
  show wpAny _ _ _ _ _ _
  have k : ∀ b o, h.get? b = some o → ((h.push (W.kdv_tup [])).push (HandSPX.excO C h.objs.size)).get? b = some o := fun b o e => Heap.get?_push_of_some _ (Heap.get?_push_of_some _ e)
  have hC2 := k _ _ hC
  have got : ((h.push (W.kdv_tup [])).push (HandSPX.excO C h.objs.size)).get? (h.objs.size + 1) = some (HandSPX.excO C h.objs.size) := by heap_get
  have own : (Value.ref C :: bm).contains (.ref C) = true := by simp
  have i1 := hi.keeps k
  have b1 := (hb (.ref (h.objs.size + 1))).keeps k
  unfold isInstance
  repeat (first | with_reducible refine wpAny_loadPart_at got ?_ | (with_reducible refine wpAny_isSubtype_exc hC2 ?_; rw [own]) | wp_step)
  show wpAny _ _ (typeLookup (.ref C) _) _ _ _
  refine i1.at ?_
  refine wpAny_holding (wpAny_bind (b1.at ?_))
  refine wpAny_bind (wpAny_call (codeAny_mono hq fun r s' z => ?_))
  rcases r with e | (v | _ | _ | _) <;> first | exact z | exact z.elim | skip
  obtain ⟨rfl, z⟩ := z
  first
    | exact wpAny_pure (wpAny_pure z)
    | (wp_walk; exact z)
theorem call_kw (F : ExcBaseFacts B newId initId bmB) (hT : ∀ X : String, bm.contains (.type X) = bmB.contains (.type X)) {kw : List (Str × Value)} {fI : Addr}
    (hC : h.get? C = some (excClassObj nm q C N bs bm hdct sn sub ab col dd k0 k1 k2 k3 k5 newId))
    (hi : W.Looks (model prog w) h (typeLookup (.ref C) "__init__") (some (.ref fI))) (hb : ∀ self, W.Looks (model prog w) h (bindSpecial (.ref fI) self) (.ref fI, [self]))
    (hq : codeAny (model prog w) (A.under (.builtin "type.__call__" ⟨[.ref C], kw⟩)) (.call (.ref fI) ⟨[.ref (h.objs.size + 1)], kw⟩) (W.InitBack (h.objs.size + 1) R)
      ⟨(h.push (W.kdv_tup [])).push (excO C h.objs.size), g, d, t, os⟩) :
    codeAny (model prog w) A (.call (.ref C) ⟨[], kw⟩) R ⟨h, g, d, t, os⟩ := by
  have f1 := tc_lookup
  have f2 := tc_bind (.ref C)
  have ty : (⟨h, g, d, t, os⟩ : Shared).TypeIs (.ref C) "type" := ⟨_, hC, rfl⟩
  refine codeAny_of_tree ?_
  show wpAny _ _ (callAny (.ref C) _) _ _ _
  repeat (any_goals (first | assumption | with_reducible refine wpAny_loadPart_at hC ?_ | wp_step))
  refine ⟨rfl, ?_⟩
  refine codeAny_call_builtin_at (Code.quiet_builtin _ (by decide +kernel)) entry_typeCall (wpAny_check_type_call_sub hC (type_call_kw F hT hC hi hb ?_))
  refine codeAny_mono hq fun r s' z => ?_
  rcases r with e | (v | _ | _ | _) <;> exact z
end
end Lw.Xk
namespace Lw
open PySem PySem.Spec PyProof.Rows L2
open LamX
section
variable {X : Cx} {CX : CXT} {k : Nat} {fI C : Addr} {fd : FuncData} {ps ks : List Str} {sp : Sp} {ds : List Value} {dvs : List V} {x : Str} {p pos : Pos} {e : Expr} {es : List Expr} {kws : List Keyword} {ta tkw : TA} {gU : List Value → List Value → List Value} {gV : List V → List V → List V}
/-- an own exception as a value: what __init__ promises of the new object -/
def tExV (C : Addr) (sp : Sp) (dvs : List V) (ta : TA) : TE := fun σ H Q => ta σ H fun vs H1 => vs.length ≤ 1000 ∧ ∀ a, H1 a = none → sp (.ref a :: (vs ++ dvs)) (upd H1 a (exo a C none)) (fun v H2 => v = .non ∧ Q (.ref a) H2) (fun _ _ _ => False)
theorem pe_oexV (T : OexC X.K C) (iC : PySem.W.findIn X.K (.ref C) "__init__" = some (some (.ref fI))) (tI : PySem.W.typeIn X.K (.ref fI) = some (.type "function"))
    (F1 : FnOk X.prog X.w X.K X.mg X.base CX k fI fd ps sp) (hr : Room (k + 1) X.A) (hb : Binds X.K fd ps ds) (hd : Vals dvs ds) (hx : Passes CX X (fun _ _ _ => False)) (hg : Gl X x) (hm : X.mg x = some (.ref C)) (ha : PA X (e :: es) ta)
    (hdb : (x == ("__debug__" : Str)) = false := by decide) (he : starEach (e :: es) X.env = (false, eval e X.env) :: starEach es X.env := by rfl) (hpl : (backTo pos (starEach es X.env)).any (·.1) = false := by rfl) :
    PE X (.Call (.Name x p) (e :: es) [] pos) (tExV C sp dvs ta) := by
  refine ⟨fun pins s σ H Q I h => ?_⟩
  obtain ⟨nm, q, N, bs, bm, sn, sub, ab, col, dd, k0, k1, k2, k3, k5, hC, hbm⟩ := T.cls
  refine wpAny_Call_Name_kw (ld_glob I hg hm ?_ hdb)
  refine PySem.W.callWith_K (h₀ := X.base) I.ok.mod.kin T.kC (thn (ha.run pos pins s σ H _ I h) fun us s1 ⟨vs, H1, I1, r1, hz, q1⟩ => ⟨I1.kIn, ?_⟩) he hpl
  show wpAny _ _ (call (.ref C) us) _ _ _
  obtain ⟨hp, g, dr, tk, os⟩ := s1
  have lo : hp.objs.size ≤ hp.objs.size + 1 := Nat.le_succ _
  have hq := q1 (hp.objs.size + 1) (I1.hok.fresh lo)
  have kk : ∀ b o, hp.get? b = some o → ((hp.push (PySem.W.kdv_tup us)).push (PySem.HandSPX.excO C hp.objs.size)).get? b = some o := fun b o e => Heap.get?_push_of_some _ (Heap.get?_push_of_some _ e)
  have at_ : ((hp.push (PySem.W.kdv_tup us)).push (PySem.HandSPX.excO C hp.objs.size)).get? (hp.objs.size + 1) = some (PySem.HandSPX.excO C hp.objs.size) := by heap_get
  have I2 := I1.laid (t' := tk) (a := hp.objs.size + 1) (o := exo (hp.objs.size + 1) C none) (h' := (hp.push (PySem.W.kdv_tup us)).push (PySem.HandSPX.excO C hp.objs.size)) kk lo (exo_ok at_)
  have r2 : Vals (V.ref (hp.objs.size + 1) :: (vs ++ dvs)) (Value.ref (hp.objs.size + 1) :: (us ++ ds)) := .cons rfl (r1.append hd)
  have hl : (Value.ref (hp.objs.size + 1) :: us ++ ds).length = ps.length := (r2.length.symm.trans (F1.len _ _ _ _ hq))
  have hus : us.length ≤ sizeLine := by
    rw [← Paired.length r1, sizeLine_eq]
    omega
  refine wpAny_call (PySem.HandSPX.call_own F.excBase_ValueError (fun Y => PySem.HandSPX.refsVE_contains Y bm hbm) (I1.kIn _ _ hC) (PySem.W.looks_findIn I1.kIn iC) (fun self => PySem.W.bind_fn I1.kIn self tI) hus
    (codeAny_mono (F1.run _ X.stack _ _ ⟨Value.ref (hp.objs.size + 1) :: us, []⟩ (Value.ref (hp.objs.size + 1) :: (us ++ ds)) _ _ (fun _ _ _ => False) (hr.make C us []) (I2.env0.make C us []) (hb _ (Value.ref (hp.objs.size + 1) :: us) I2.kIn hl) r2 hq) fun r s' hq' => ?_))
  match r, hq' with
  | .error er, hq' => exact hx pins σ _ _ er s' I2 hq'
  | .ok (.ret u), hq' =>
    obtain ⟨v, H', I3, rv, ev, q3⟩ := I2.after hq'
    subst ev
    exact ⟨rv, ⟨V.ref (hp.objs.size + 1), H', I3, rfl, q3⟩⟩
  | .ok .next, hq' => exact hq'.elim
  | .ok .brk, hq' => exact hq'.elim
  | .ok .cont, hq' => exact hq'.elim
/-- .. by keywords alone -/
def tExK (C : Addr) (n : Nat) (sp : Sp) (gV : List V → List V → List V) (tkw : TA) : TE := fun σ H Q => tkw σ H fun zs H1 => zs.length = n ∧ ∀ a, H1 a = none → sp (gV [.ref a] zs) (upd H1 a (exo a C none)) (fun v H2 => v = .non ∧ Q (.ref a) H2) (fun _ _ _ => False)
theorem pe_oexK (T : OexC X.K C) (iC : PySem.W.findIn X.K (.ref C) "__init__" = some (some (.ref fI))) (tI : PySem.W.typeIn X.K (.ref fI) = some (.type "function"))
    (F1 : FnOk X.prog X.w X.K X.mg X.base CX k fI fd ps sp) (hr : Room (k + 1) X.A) (hb : KBn X.K fd ps 1 ks gU gV) (hx : Passes CX X (fun _ _ _ => False)) (hg : Gl X x) (hm : X.mg x = some (.ref C)) (hkw : PK X kws tkw)
    (hall : (backToKw pos (keywordEach kws X.env)).all (·.1.isSome) = true := by rfl) (hks : (backToKw pos (keywordEach kws X.env)).filterMap (·.1) = ks := by rfl) (hdb : (x == ("__debug__" : Str)) = false := by decide)
    (hpl : ((backTo pos (starEach [] X.env)).any (·.1) || (backToKw pos (keywordEach kws X.env)).any (·.1.isNone)) = false := by rfl) :
    PE X (.Call (.Name x p) [] kws pos) (tExK C ks.length sp gV tkw) := by
  refine ⟨fun pins s σ H Q I h => ?_⟩
  obtain ⟨nm, q, N, bs, bm, sn, sub, ab, col, dd, k0, k1, k2, k3, k5, hC, hbm⟩ := T.cls
  refine wpAny_Call_Name_kw (ld_glob I hg hm ?_ hdb)
  refine PySem.W.callWith_KW0 (h₀ := X.base) I.ok.mod.kin T.kC hall ?_ hpl
  refine thn (hkw.run pos pins s σ H _ I h) fun ws s1 ⟨zs, H1, I1, rz, hz, q1⟩ => ⟨I1.kIn, ?_⟩
  rw [hks]
  obtain ⟨hp, g, dr, tk, os⟩ := s1
  have lo : hp.objs.size ≤ hp.objs.size + 1 := Nat.le_succ _
  have hq := q1 (hp.objs.size + 1) (I1.hok.fresh lo)
  have kk : ∀ b o, hp.get? b = some o → ((hp.push (PySem.W.kdv_tup [])).push (PySem.HandSPX.excO C hp.objs.size)).get? b = some o := fun b o e => Heap.get?_push_of_some _ (Heap.get?_push_of_some _ e)
  have at_ : ((hp.push (PySem.W.kdv_tup [])).push (PySem.HandSPX.excO C hp.objs.size)).get? (hp.objs.size + 1) = some (PySem.HandSPX.excO C hp.objs.size) := by heap_get
  have I2 := I1.laid (t' := tk) (a := hp.objs.size + 1) (o := exo (hp.objs.size + 1) C none) (h' := (hp.push (PySem.W.kdv_tup [])).push (PySem.HandSPX.excO C hp.objs.size)) kk lo (exo_ok at_)
  have r2 := hb.rel (vs := [V.ref (hp.objs.size + 1)]) (us := [Value.ref (hp.objs.size + 1)]) (.cons rfl .nil) rz
  refine wpAny_call (Xk.call_kw F.excBase_ValueError (fun Y => PySem.HandSPX.refsVE_contains Y bm hbm) (I1.kIn _ _ hC) (PySem.W.looks_findIn I1.kIn iC) (fun self => PySem.W.bind_fn I1.kIn self tI)
    (codeAny_mono (F1.run _ X.stack _ _ ⟨[Value.ref (hp.objs.size + 1)], ks.zip ws⟩ (gU [Value.ref (hp.objs.size + 1)] ws) _ _ (fun _ _ _ => False) (hr.make C [] (ks.zip ws)) (I2.env0.make C [] (ks.zip ws)) (hb.to _ [Value.ref (hp.objs.size + 1)] ws I2.kIn rfl (rz.length.symm.trans hz)) r2 hq) fun r s' hq' => ?_))
  match r, hq' with
  | .error er, hq' => exact hx pins σ _ _ er s' I2 hq'
  | .ok (.ret u), hq' =>
    obtain ⟨v, H', I3, rv, ev, q3⟩ := I2.after hq'
    subst ev
    exact ⟨rv, ⟨V.ref (hp.objs.size + 1), H', I3, rfl, q3⟩⟩
  | .ok .next, hq' => exact hq'.elim
  | .ok .brk, hq' => exact hq'.elim
  | .ok .cont, hq' => exact hq'.elim
end
end Lw
namespace Lw
open PySem PySem.Spec PyProof.Rows L2

open LamX
/-! ### lambdas without captured names, with parameters: made here, called anywhere -/
/-- the object at f is the lambda of this text -/
def LamN (q : Str) (params : Arguments) (body : Expr) (scope : Scope) (f c' : Addr) : HO := .ext fun h => ∃ pm ctv : Value, h.get? f = some (PySem.W.kla_obj "<lambda>" q params body scope [] pm c' ctv)
theorem lamN_ne {q : Str} {params : Arguments} {body : Expr} {scope : Scope} {f c' : Addr} (ps : Array Value) : LamN q params body scope f c' ≠ .tbl ps := fun z => by
  unfold LamN at z
  cases z
/-- what its call does -/
structure LamF (P : Program) (w : World) (K : PySem.W.Frag) (mg : Str → Option Value) (base : Heap) (k : Nat) (ps : List Str) (sp : Sp) (q : Str) (params : Arguments) (body : Expr) (scope : Scope) (f c' : Addr) : Prop where
  S : FnScope ps ps scope
  bind : ∀ (pm cv ctv : Value) (us : List Value), us.length = ps.length → bindArgs (PySem.W.kla_fn "<lambda>" q params body scope [] pm cv ctv) ⟨us, []⟩ = pure (ps.zip us)
  len : ∀ vs H Q E, sp vs H Q E → vs.length = ps.length
  run : ∀ (A : Around) (out : List Env) (s : Shared) (H : Hp) (vs : List V) (Q : VK), Room k (A.deeper (envOfC q scope s.heap.objs.size f (.ref c'))) → sp vs H Q C8.E0 →
    ∃ te, PE (cxOf C8.CX0 P w K mg base ps q scope f (.ref c') A out s H C8.E0) body te ∧ te (start ps vs) H Q
def LamAt (P : Program) (w : World) (K : PySem.W.Frag) (mg : Str → Option Value) (base : Heap) (k : Nat) (ps : List Str) (sp : Sp) (H : Hp) (f : Addr) : Prop := ∃ (q : Str) (params : Arguments) (body : Expr) (scope : Scope) (c' : Addr),
  H f = some (LamN q params body scope f c') ∧ H c' = some (CodeO c' q) ∧ LamF P w K mg base k ps sp q params body scope f c'
theorem LamAt.extn {P : Program} {w : World} {K : PySem.W.Frag} {mg : Str → Option Value} {base : Heap} {k : Nat} {ps : List Str} {sp : Sp} {H H' : Hp} {f : Addr} (h : LamAt P w K mg base k ps sp H f) (e : ExtN H H') : LamAt P w K mg base k ps sp H' f := by
  obtain ⟨q, params, body, scope, c', h1, h2, a⟩ := h
  exact ⟨q, params, body, scope, c', e _ _ h1 lamN_ne, e _ _ h2 codeO_ne, a⟩
section
variable {X : Cx} {pins : List (Addr × Obj)} {σ : L2.St} {H : Hp} {s : Shared} {k : Nat} {ps : List Str} {sp : Sp}
theorem run_lam {f : Addr} {us : List Value} {vs : List V} {Q : VK} (L : LamAt X.prog X.w X.K X.mg X.base k ps sp H f) (hr : Room (k + 1) X.A) (I : Inv X pins σ H s) (r : Vals vs us) (q : sp vs H Q C8.E0) :
    wpAny (model X.prog X.w) X.A (call (.ref f) us) (EP X pins σ Q) X.xe s := by
  obtain ⟨qn, params, body, scope, c', hf, hc, F⟩ := L
  obtain ⟨⟨pm, ctv, of1⟩, _, _⟩ := I.hok f _ hf
  obtain ⟨⟨oc, vc, t', hoc, hdc, hvc⟩, _, _⟩ := I.hok c' _ hc
  have hl : us.length = ps.length := r.length.symm.trans (F.len _ _ _ _ q)
  have kinds : ∀ y ∈ ps.zip us, scope.names.lookup y.1 = some .local ∨ (scope.names.lookup y.1 = some .cell ∧ ((cellsFrom (s.heap.objs.size + 1) scope.names []).lookup y.1).isSome = true) := fun ⟨m, v⟩ hy => by
    rcases F.S.par m (List.of_mem_zip hy).1 with z | z
    · exact .inl z
    · exact .inr ⟨z, PySem.W.cellsFrom_some _ _ _ (.inl z)⟩
  have rc : codeAny (model X.prog X.w) X.A (.call (.ref f) ⟨us, []⟩) (CR C8.CX0 X.stack X.prog X.w H s Q C8.E0) s := by
    refine PySem.W.kla_callFunE hr.depth of1 rfl F.S.co F.S.gen rfl ⟨c', oc, vc, t', rfl, hoc, hdc, hvc⟩ ?_
    rw [F.bind _ _ _ us hl]
    refine wpAny_pure (wpAny_newFunctionEnv_cells F.S.kind kinds fun env he s1 cll => ?_)
    subst he
    refine ⟨I.nolimit.keeps cll.toInCall.keep, ?_⟩
    obtain ⟨te, ht, hq⟩ := F.run X.A X.stack s H vs Q (hr.deeper _) q
    have I0 := inv_start (CX := C8.CX0) (A := X.A) (E := C8.E0) F.S hr.hd I.env0 (F.len _ _ _ _ q) r cll
    refine PySem.W.kla_codeExpr (wpAny_mono (ht.run [] s1 (start ps vs) H _ I0 hq) (fun v s' hs => ?_) fun e s' hs => hs)
    obtain ⟨v', H', J, rv, z⟩ := hs
    exact ⟨v', H', J.os, J.bare, J.base, J.hok, rv, z⟩
  refine wpAny_call (codeAny_mono rc fun r s' hq => ?_)
  match r, hq with
  | .error e, hq => exact hq.elim
  | .ok (.ret u), hq => exact I.after hq
  | .ok .next, hq => exact hq.elim
  | .ok .brk, hq => exact hq.elim
  | .ok .cont, hq => exact hq.elim
/-- e(a, ..), e any expression that gives such a lambda -/
theorem pe_lamcallN {fe a : Expr} {es : List Expr} {pos : Pos} {tf : TE} {ta : TA} (hr : Room (k + 1) X.A) (hf : PE X fe tf) (ha : PA X (a :: es) ta)
    (ht : eval (.Call fe (a :: es) [] pos) X.env = (do callWith pos (← eval fe X.env) [] (backTo pos (starEach (a :: es) X.env)) (backToKw pos (keywordEach [] X.env))) := by rfl)
    (he : starEach (a :: es) X.env = (false, eval a X.env) :: starEach es X.env := by rfl) (hpl : (backTo pos (starEach es X.env)).any (·.1) = false := by rfl) :
    PE X (.Call fe (a :: es) [] pos) (fun σ H Q => tf σ H fun x H1 => ∃ (f : Addr) (ps : List Str) (sp : Sp), x = .ref f ∧ LamAt X.prog X.w X.K X.mg X.base k ps sp H1 f ∧ ta σ H1 fun vs H2 => LamAt X.prog X.w X.K X.mg X.base k ps sp H2 f ∧ sp vs H2 Q C8.E0) := by
  refine ⟨fun pins s σ H Q I h => ?_⟩
  refine Call_ (thn (hf.run pins s σ H _ I h) fun u s1 ⟨x, H1, I1, r1, f, ps, sp, ex, l1, q⟩ => ?_) ht
  subst ex
  obtain rfl : u = Value.ref f := r1
  have fnAt : ∀ {H' : Hp} {t : Shared}, Inv X pins σ H' t → LamAt X.prog X.w X.K X.mg X.base k ps sp H' f → PySem.W.FnAt f t.heap := fun {H' t} J L => by
    obtain ⟨qn, params, body, scope, c', hf, _, _⟩ := L
    obtain ⟨⟨pm, ctv, e⟩, _, _⟩ := J.hok f _ hf
    exact ⟨_, _, _, _, e⟩
  refine PySem.W.callWith_F (fnAt I1 l1) (thn (ha.run pos pins s1 σ H1 _ I1 q) fun us s2 ⟨vs, H2, I2, r2, l2, q2⟩ => ⟨fnAt I2 l2, ?_⟩) he hpl
  exact run_lam l2 hr I2 r2 q2
def tLamN (P : Program) (w : World) (K : PySem.W.Frag) (mg : Str → Option Value) (base : Heap) (k : Nat) (ps : List Str) (sp : Sp) (T : List (Addr × Str)) : TE := fun _ H Q => Tabs T H ∧ ∀ (f : Addr) (H1 : Hp), ExtN H H1 → Tabs T H1 → H f = none → LamAt P w K mg base k ps sp H1 f → Q (.ref f) H1
theorem lay_lamN {h' : Heap} {t' : Nat} {q : Str} {params : Arguments} {body : Expr} {scope : Scope} {c' : Addr} {pm ctv : Value} (I : Inv X pins σ H { s with heap := h', toks := t' }) :
    Inv X pins σ (upd H h'.objs.size (LamN q params body scope h'.objs.size c')) { s with heap := h'.push (PySem.W.kla_obj "<lambda>" q params body scope [] pm c' ctv), toks := t' } := by
  refine I.laid (h' := h'.push _) (t' := t') (fun b u e => Heap.get?_push_of_some _ e) (Nat.le_refl _) ?_
  have g : (h'.push (PySem.W.kla_obj "<lambda>" q params body scope [] pm c' ctv)).get? h'.objs.size = some (PySem.W.kla_obj "<lambda>" q params body scope [] pm c' ctv) := Heap.get?_push_size _ rfl
  refine ⟨⟨pm, ctv, g⟩, ⟨_, g⟩, ?_⟩
  rintro h1 h2 ⟨pm, ctv, e⟩ st
  exact ⟨pm, ctv, st _ e⟩
theorem pe_lamN {T : List (Addr × Str)} {c B : Addr} {params : Arguments} {body : Expr} {scope : Scope} {pos : Pos} (TB : TabB X.base X.mg c B) (hcode : X.env.code = .ref c)
    (hm : (B, X.env.qual ++ "<lambda>") ∈ T) (hu : ∀ p ∈ T, p.1 = B → p.2 = X.env.qual ++ "<lambda>") (hdef : defaultsOf params X.env = ([], [])) (nofree : ∀ y ∈ scope.names, y.2 ≠ .free) (nocl : cloFrom X.env.cells scope.names [] = [])
    (act : ∀ f c', LamF X.prog X.w X.K X.mg X.base k ps sp (X.env.qual ++ "<lambda>") params body scope f c') : PE X (.Lambda params body scope pos) (tLamN X.prog X.w X.K X.mg X.base k ps sp T) := by
  refine ⟨fun pins s σ H Q I h => ?_⟩
  obtain ⟨hT, h⟩ := h
  obtain ⟨pt, hB, trip, amg⟩ := hT _ hm
  refine PySem.W.kla_eval hdef ?_
  have hat : s.heap.get? B = some { cls := .none, data := .fields pt } := I.hok B _ hB
  have blt := TB.bm.keeps I.bk
  have hdc := TB.code.keeps I.bk
  have glb := I.mod.glob.keeps I.bk
  have cl := closure_ok (scope := scope) (env := X.env) (fun y hy e => absurd e (nofree y hy))
  rw [nocl] at cl
  have tell : ∀ {H1 : Hp} {f c' : Addr} {s' : Shared}, Inv X pins σ (upd H1 f (LamN (X.env.qual ++ "<lambda>") params body scope f c')) s' → ExtN H H1 → Tabs T H1 → H1 f = none → H f = none → H1 c' = some (CodeO c' (X.env.qual ++ "<lambda>")) →
      EP X pins σ Q (.ref f) s' := fun {H1 f c' s'} I1 eN T1 n1 n0 hc => by
    have sm := same_new (o := LamN (X.env.qual ++ "<lambda>") params body scope f c') n1
    exact ⟨.ref f, _, I1, rfl, h f _ (fun b o e n => sm _ _ (eN b o e n)) (T1.ext sm) n0 ⟨_, params, body, scope, c', upd_same, sm _ _ hc, act f c'⟩⟩
  rcases hc : codeAmong pos pt.toList with _ | cv
  · refine PySem.W.kla_makeFunction (mg := X.mg) (c := c) (P := B) (ps := pt) cl I.ok.glob glb hcode hdc hat trip hc TB.gP blt ?_
    intro c2 ctv h' tk hx hge hlt hrec htb
    obtain ⟨c3, oc, vs, t', e3, g1, g2, g3⟩ := hrec
    cases e3
    have nC : H c2 = none := I.hok.fresh hge
    have I0 := inv_table (t' := tk) (more := #[rawInt pos.line, rawInt pos.col, .ref c2]) (h' := h') I hB hx htb hge ⟨oc, vs, t', g1, g2, g3⟩
    have stays : ExtN H (upd (upd H B (.tbl (pt ++ #[rawInt pos.line, rawInt pos.col, .ref c2]))) c2 (CodeO c2 (X.env.qual ++ "<lambda>"))) := by
      intro b o e n
      rw [upd_ne (ne_of_none e nC)]
      by_cases hb : b = B
      · subst hb
        rw [hB] at e
        exact absurd (Option.some.inj e).symm (n pt)
      · rw [upd_ne hb]; exact e
    have fresh : H h'.objs.size = none := I.hok.fresh (Nat.le_trans hge (Nat.le_of_lt hlt))
    refine tell (lay_lamN (t' := tk) (c' := c2) (ctv := ctv) I0) stays ?_ ?_ fresh upd_same
    · intro p hp
      by_cases hb : p.1 = B
      · rw [hu p hp hb, hb]
        refine ⟨pt ++ #[rawInt pos.line, rawInt pos.col, .ref c2], ?_, ?_, ?_⟩
        · rw [upd_ne (ne_of_none hB nC), upd_same]
        · rw [show (pt ++ #[rawInt pos.line, rawInt pos.col, .ref c2]).toList = pt.toList ++ [rawInt pos.line, rawInt pos.col, .ref c2] by simp]
          exact PySem.TriplesOk_snoc _ _ _ _ trip
        · intro p' cv' hcv
          rw [show (pt ++ #[rawInt pos.line, rawInt pos.col, .ref c2]).toList = pt.toList ++ [rawInt pos.line, rawInt pos.col, .ref c2] by simp] at hcv
          rcases among_app _ trip hcv with z | z
          · obtain ⟨c0, a1, a2⟩ := amg p' cv' z
            exact ⟨c0, a1, stays _ _ a2 codeO_ne⟩
          · exact ⟨c2, z, upd_same⟩
      · obtain ⟨qs, a1, a2, a3⟩ := hT p hp
        refine ⟨qs, ?_, a2, ?_⟩
        · rw [upd_ne (ne_of_none a1 nC), upd_ne hb]; exact a1
        · intro p' cv' hcv
          obtain ⟨c0, b1, b2⟩ := a3 p' cv' hcv
          exact ⟨c0, b1, stays _ _ b2 codeO_ne⟩
    · have n1 : h'.objs.size ≠ c2 := Nat.ne_of_gt hlt
      have n2 : h'.objs.size ≠ B := Nat.ne_of_gt (Nat.lt_of_lt_of_le (Heap.lt_size hat) (Nat.le_trans hge (Nat.le_of_lt hlt)))
      rw [upd_ne n1, upd_ne n2]
      exact fresh
  · obtain ⟨c2, e, hco⟩ := amg pos cv hc
    subst e
    refine PySem.W.kla_makeFunctionHit (mg := X.mg) (c := c) (P := B) (ps := pt) cl I.ok.glob glb hcode hdc hat trip hc blt ?_
    intro ctv h' tk hx hsz
    have I0 : Inv X pins σ H { s with heap := h', toks := tk } := I.kept hx
    exact tell (lay_lamN (t' := tk) (c' := c2) (ctv := ctv) I0) (ExtN.refl H) hT (I.hok.fresh hsz) (I.hok.fresh hsz) hco
end
end Lw
namespace Lw
open PySem PySem.Spec PyProof.Rows L2

open LamX
/-! ### exceptions that are held as values -/
/-- an exception of the class D at e, its attributes -/
def ExAt (e D : Addr) (fs : List (Str × V)) (H : Hp) : Prop := (∃ dx, H e = some (exo e D (some dx)) ∧ H dx = some (exd dx fs)) ∨ (fs = [] ∧ H e = some (exo e D none))
theorem exd_tbl {e : Addr} {fs : List (Str × V)} {ps : Array Value} : exd e fs ≠ .tbl ps := fun z => by
  unfold exd at z
  cases z
theorem ExAt.extn {e D : Addr} {fs : List (Str × V)} {H H' : Hp} (h : ExAt e D fs H) (x : ExtN H H') : ExAt e D fs H' := by
  rcases h with ⟨dx, h1, h2⟩ | ⟨h0, h1⟩
  · exact .inl ⟨dx, x _ _ h1 fun _ => exo_tbl, x _ _ h2 fun _ => exd_tbl⟩
  · exact .inr ⟨h0, x _ _ h1 fun _ => exo_tbl⟩
section
variable {X : Cx} {pins : List (Addr × Obj)} {σ : L2.St} {H : Hp} {s : Shared}
theorem exat_inst {a C : Addr} {fs : List (Str × V)} (I : Inv X pins σ H s) (h : ExAt a C fs H) : ∃ o od, PySem.W.InstAt s.heap a o C od ∧ ∀ f v, fs.lookup f = some v → ∃ ob u, od = some ob ∧ PySem.W.lookIn f ob = some (some u) ∧ RelV v u := by
  rcases h with ⟨dx, h1, h2⟩ | ⟨h0, h1⟩
  · obtain ⟨t1, e1⟩ := exo_at I.hok h1
    obtain ⟨mA, hns, hr⟩ := exd_at I.hok h2
    obtain ⟨od, ho, hl⟩ := lookIn_ns hns
    refine ⟨_, some od, ⟨e1, rfl, rfl, ho⟩, fun f v e => ?_⟩
    obtain ⟨u, hu, ru⟩ := RelO.some_of (v := v) (o := mA f) (by rw [← e]; exact hr f)
    exact ⟨od, u, rfl, by rw [hl, hu], ru⟩
  · obtain ⟨t1, e1⟩ := exo_at I.hok h1
    refine ⟨_, none, ⟨e1, rfl, rfl, trivial⟩, fun f v e => ?_⟩
    rw [h0] at e
    cases e
/-- e.f of a held exception -/
def tXat (C : Addr) (f : Str) (te : TE) : TE := fun σ H Q => te σ H fun x H1 => ∃ (a : Addr) (fs : List (Str × V)) (v : V), x = .ref a ∧ ExAt a C fs H1 ∧ fs.lookup f = some v ∧ Q v H1
theorem pe_xat {C : Addr} {e : Expr} {te : TE} {pos : Pos} {f : Str} (T : XfC X.K C) (hno : PySem.W.findIn X.K (.ref C) f = some none) (he : PE X e te) (hb : attributeBase e f X.env (eval e X.env) = eval e X.env := by rfl) : PE X (.Attribute e f pos) (tXat C f te) := by
  refine ⟨fun pins s σ H Q I q => attr_of hb (thn (he.run pins s σ H _ I q) fun u s1 got => ?_)⟩
  obtain ⟨x, H1, I1, rx, a, fs, v, rfl, ha, hl, q⟩ := got
  obtain rfl : u = Value.ref a := rx
  obtain ⟨o, od, J, fld⟩ := exat_inst I1 ha
  obtain ⟨ob, u, rfl, hu, ru⟩ := fld f v hl
  exact HandSPX.exc_get I1.kIn J T.ga T.gg T.exC (PySem.W.findObj_own T.hdC hno rfl hu) (handed_of ru) ⟨v, H1, I1.tok _, ru, q⟩
/-- isinstance of a held exception -/
def rIsX (K : PySem.W.Frag) : List V → Hp → VK → Prop := fun xs H Q => ∃ (a D : Addr) (fs : List (Str × V)) (c : V) (cv : Value) (b : Bool), xs = [.ref a, c] ∧ ClsV c cv ∧ ExAt a D fs H ∧ Hx.XCls K D ∧ PySem.W.kitOne K (.ref D) cv = some b ∧ Q (.bl b) H
theorem call_isX : CallR X (.builtin "isinstance") (rIsX X.K) := by
  intro pins s σ H xs us Q I r h
  obtain ⟨a, D, fs, c, cv, b, rfl, k, ha, cl, e, q⟩ := h
  obtain ⟨w1, w2, rfl, r1, r2⟩ := vals2 r
  obtain rfl := k.eq r2
  obtain rfl : w1 = Value.ref a := r1
  obtain ⟨o, od, J, _⟩ := exat_inst I ha
  exact PySem.W.kia_one (Hx.kitx_held cl) I.kIn J e (fun z => by cases z) fun tk => ⟨.bl b, H, I.tok tk, rfl, q⟩
end
/-- what an __init__ that keeps its one argument promises -/
def spE1 (C : Addr) (f : Str) : Sp := fun vs H Q _ => ∃ (a : Addr) (v : V), vs = [.ref a, v] ∧ H a = some (exo a C none) ∧ ∀ dx, H dx = none → dx ≠ a → Q .non (upd (upd H dx (exd dx [(f, v)])) a (exo a C (some dx)))
/-- .. its two arguments -/
def spE2 (C : Addr) (f1 f2 : Str) : Sp := fun vs H Q _ => ∃ (a : Addr) (v1 v2 : V), vs = [.ref a, v1, v2] ∧ H a = some (exo a C none) ∧ ∀ dx, H dx = none → dx ≠ a → ∀ fs, fs.lookup f1 = some v1 → fs.lookup f2 = some v2 → Q .non (upd (upd H dx (exd dx fs)) a (exo a C (some dx)))
theorem mk1 {C : Addr} {f : Str} {v : V} {H : Hp} {Q : VK} {E : XK} (k : ∀ a H', Same H H' → H a = none → ExAt a C [(f, v)] H' → Q (.ref a) H') (a : Addr) (na : H a = none) : spE1 C f [.ref a, v] (upd H a (exo a C none)) (fun z H2 => z = .non ∧ Q (.ref a) H2) E := by
  refine ⟨a, v, rfl, upd_same, fun dx h1 h2 => ⟨rfl, k a _ (fun b o hb => ?_) na (.inl ⟨dx, upd_same, ?_⟩)⟩⟩
  · have n1 : b ≠ a := fun z => by rw [z, na] at hb; cases hb
    have n2 : b ≠ dx := fun z => by
      rw [z] at hb
      rw [upd_ne h2] at h1
      rw [h1] at hb
      cases hb
    rw [upd_ne n1, upd_ne n2, upd_ne n1]
    exact hb
  · rw [upd_ne h2]
    exact upd_same
theorem mk2 {C : Addr} {f1 f2 : Str} {v1 v2 : V} {H : Hp} {Q : VK} {E : XK} (k : ∀ a fs H', Same H H' → H a = none → fs.lookup f1 = some v1 → fs.lookup f2 = some v2 → ExAt a C fs H' → Q (.ref a) H') (a : Addr) (na : H a = none) : spE2 C f1 f2 [.ref a, v1, v2] (upd H a (exo a C none)) (fun z H2 => z = .non ∧ Q (.ref a) H2) E := by
  refine ⟨a, v1, v2, rfl, upd_same, fun dx h1 h2 fs e1 e2 => ⟨rfl, k a fs _ (fun b o hb => ?_) na e1 e2 (.inl ⟨dx, upd_same, ?_⟩)⟩⟩
  · have n1 : b ≠ a := fun z => by rw [z, na] at hb; cases hb
    have n2 : b ≠ dx := fun z => by
      rw [z] at hb
      rw [upd_ne h2] at h1
      rw [h1] at hb
      cases hb
    rw [upd_ne n1, upd_ne n2, upd_ne n1]
    exact hb
  · rw [upd_ne h2]
    exact upd_same
end Lw
namespace Lw
open PySem PySem.Spec PyProof.Rows L2

open LamX
section
variable {X : Cx} {es : List Expr} {t : TA} {pos : Pos}
/-- [..], the new list is not sys.modules -/
def tLstS (t : TA) : TE := fun σ H Q => t σ H fun xs H1 => xs.length ≤ sizeLine ∧ ∀ p, H1 p = none → p ≠ sysModules → Q (.ref p) (upd H1 p (.lst xs))
theorem pe_lstS (h : PA X es t) : PE X (.List es pos) (tLstS t) := by
  refine ⟨fun pins s σ H Q I hq => wpAny_List_spliced (thn (h.run pos pins s σ H _ I hq) fun us s1 ⟨xs, H1, I1, r, z, q⟩ => ⟨by rw [← r.length]; exact z, ?_⟩)⟩
  refine ⟨.ref s1.heap.objs.size, upd H1 s1.heap.objs.size (.lst xs), I1.laid (t' := s1.toks) (fun b u e => Heap.get?_push_of_some _ e) (Nat.le_refl _) ⟨z, us, 0, r, Heap.get?_push_size _ rfl⟩, rfl, q _ (I1.hok.fresh (Nat.le_refl _)) ?_⟩
  exact Nat.ne_of_gt I1.big
/-- an own exception class without an __init__, no argument -/
theorem pe_exc0 {C : Addr} {bmB : List Value} {B newId initId : String} {x : Str} {p pos : Pos} (F : ExcBaseFacts B newId initId bmB) (q : PySem.W.excIn X.K C bmB newId = true) (gC : X.mg x = some (.ref C)) (kC : PySem.W.keepIn X.K (.ref C) = true) (hg : Gl X x) (hdb : (x == ("__debug__" : Str)) = false := by decide) :
    PE X (.Call (.Name x p) [] [] pos) (fun _ H Q => ∀ a, H a = none → Q (.ref a) (upd H a (exo a C none))) := by
  refine ⟨fun pins s σ H Q I h => ?_⟩
  refine wpAny_Call_Name_kw (ld_glob I hg gC ?_ hdb)
  refine PySem.W.callWith_K0 I.kIn kC ?_
  obtain ⟨bm, N, nm, qn, bs, hdct, sn, sub, ab, col, dd, k0, k1, k2, k3, k5, mN, hC, hN, hni, T⟩ := exc_obj I.kIn q
  refine wpAny_call_exc_subT F T hC hN hni (fun h' a hm => ?_) (by show 0 ≤ sizeLine; exact Nat.zero_le _)
  have hn : H a = none := I.hok.gone hm.new
  obtain ⟨t, ht, _, _⟩ := hm.there
  exact ⟨.ref a, upd H a (exo a C none), I.laidN hm.keeps hm.new hn (exo_ok ht), rfl, h a hn⟩
end
/-! ### the drawn values, as data -/
inductive Fl : V → PyData → Prop where
  | non : Fl .non .none
  | bl (b : Bool) : Fl (.bl b) (.bool b)
  | int (i : Int) : Fl (.int i) (.int i)
  | str (z : Str) : Fl (.str z) (.str z)
inductive FlAll : List V → List PyData → Prop where
  | nil : FlAll [] []
  | cons {v : V} {vs : List V} {d : PyData} {ds : List PyData} : Fl v d → FlAll vs ds → FlAll (v :: vs) (d :: ds)
inductive Vr (H : Hp) : V → PyData → Prop where
  | fl {v : V} {d : PyData} (h : Fl v d) : Vr H v d
  | tup {a : Addr} {vs : List V} {ds : List PyData} (h : H a = some (.tup vs)) (f : FlAll vs ds) : Vr H (.ref a) (.tuple ds)
  | lst {a : Addr} {vs : List V} {ds : List PyData} (h : H a = some (.lst vs)) (n : a ≠ sysModules) (f : FlAll vs ds) : Vr H (.ref a) (.list ds)
  | d0 {a : Addr} (h : H a = some (.dK [])) : Vr H (.ref a) (.dict [])
  | d1 {a : Addr} (h : H a = some (.dK [(.inr "a", .str "b")])) : Vr H (.ref a) (.dict [(.str "a", .str "b")])
inductive VrAll (H : Hp) : List V → List PyData → Prop where
  | nil : VrAll H [] []
  | cons {v : V} {vs : List V} {d : PyData} {ds : List PyData} : Vr H v d → VrAll H vs ds → VrAll H (v :: vs) (d :: ds)
theorem Vr.move {H H' : Hp} {v : V} {d : PyData} (h : Vr H v d) (k : ∀ a o, v = .ref a → H a = some o → (∀ ps, o ≠ .tbl ps) → H' a = some o) : Vr H' v d := by
  cases h with
  | fl h => exact .fl h
  | tup h f => exact .tup (k _ _ rfl h fun ps z => by cases z) f
  | lst h n f => exact .lst (k _ _ rfl h fun ps z => by cases z) n f
  | d0 h => exact .d0 (k _ _ rfl h fun ps z => by cases z)
  | d1 h => exact .d1 (k _ _ rfl h fun ps z => by cases z)
theorem Vr.extn {H H' : Hp} {v : V} {d : PyData} (h : Vr H v d) (e : ExtN H H') : Vr H' v d := h.move fun a o _ ha n => e a o ha n
theorem VrAll.extn {H H' : Hp} (e : ExtN H H') : ∀ {vs : List V} {ds : List PyData}, VrAll H vs ds → VrAll H' vs ds
  | _, _, .nil => .nil
  | _, _, .cons a r => .cons (a.extn e) (r.extn e)
theorem strOf {x : Str} {v : Value} (h : Value.isStrOf x v = true) : ∃ t, v = .str x t := by
  rcases keyIs_shape (k := .inr x) (v := v) h with ⟨i, t, e, _⟩ | ⟨y, t, e, ev⟩
  · cases e
  · cases e
    exact ⟨t, ev⟩
section
variable {X : Cx} {pins : List (Addr × Obj)} {σ : L2.St} {H : Hp} {s : Shared}
theorem Fl.reads {v : V} {d : PyData} {u : Value} (h : Fl v d) (r : RelV v u) : Reads s.heap u d [] := by
  cases h with
  | non => cases (show u = Value.none from r); exact .none
  | bl b => cases (show u = Value.bool b from r); exact .bool b
  | int i => obtain ⟨t, rfl⟩ := (show ∃ t, u = Value.int i t from r); exact .int i t
  | str z => obtain ⟨t, rfl⟩ := (show ∃ t, u = Value.str z t from r); exact .str z t
theorem FlAll.reads : ∀ {vs : List V} {ds : List PyData} {us : List Value}, FlAll vs ds → Vals vs us → ReadsAll s.heap us ds []
  | _, _, _, .nil, .nil => .nil
  | _, _, _, .cons h t, .cons r rs => .cons (h.reads r) (t.reads rs)
theorem Vr.reads {v : V} {d : PyData} {u : Value} (I : Inv X pins σ H s) (h : Vr H v d) (r : RelV v u) : ∃ as, Reads s.heap u d as ∧ sysModules ∉ as := by
  cases h with
  | fl h => exact ⟨[], h.reads r, by simp⟩
  | @tup a vs ds h f =>
    cases (show u = Value.ref a from r)
    obtain ⟨_, its, rv, o, h1, h2, n, h3⟩ := (show ObjOk X.prog X.w H s.heap a (.tup vs) from I.hok a _ h)
    exact ⟨[], .tuple h1 h2 h3 (by simpa using f.reads rv), by simp⟩
  | @lst a vs ds h n f =>
    cases (show u = Value.ref a from r)
    obtain ⟨_, its, m, rv, h1⟩ := (show ObjOk X.prog X.w H s.heap a (.lst vs) from I.hok a _ h)
    exact ⟨[a], .list (as := []) h1 rfl rfl (by simpa using f.reads rv), by simpa using Ne.symm n⟩
  | @d0 a h =>
    cases (show u = Value.ref a from r)
    obtain ⟨_, hm, vs, kv, o, es, ep, ho, hx, hd, _, pr, _⟩ := dk_of I.hok h
    have e0 : vs = [] := by cases kv; rfl
    subst e0
    have e1 : es.toList = [] := by
      generalize es.toList = l at pr
      cases pr
      rfl
    refine ⟨[a], Reads.dict (as := []) (bs := []) ho hx.1 hd (by rw [e1]; exact .nil) (by rw [e1]; exact .nil), fun z => ?_⟩
    rw [List.mem_singleton] at z
    rw [← z] at hm
    simp at hm
  | @d1 a h =>
    cases (show u = Value.ref a from r)
    obtain ⟨_, hm, vs, kv, o, es, ep, ho, hx, hd, _, pr, _⟩ := dk_of I.hok h
    cases kv with
    | @cons q1 q2 _ _ hq r0 =>
      cases r0
      obtain ⟨k2, v2⟩ := q2
      obtain ⟨e1, e2⟩ := hq
      have e1 : (.inr "a" : Key) = k2 := e1
      subst e1
      obtain ⟨tv, rfl⟩ := (show ∃ t, v2 = Value.str "b" t from e2)
      have keys : ReadsAll s.heap (es.toList.map (·.key)) [.str "a"] [] ∧ ReadsAll s.heap (es.toList.map (·.val)) [.str "b"] [] := by
        generalize es.toList = l at pr
        generalize hv2 : Value.str "b" tv = v2 at pr
        cases pr with
        | cons he hr =>
          cases hr
          rename_i e0 _ nil0
          cases nil0
          have he : keyIs (.inr "a") e0.key = true := he
          obtain ⟨t, ek⟩ := strOf he
          refine ⟨?_, ?_⟩
          · show ReadsAll s.heap [e0.key] [.str "a"] []
            rw [ek]
            exact .cons (.str _ t) .nil
          · show ReadsAll s.heap [e0.val] [.str "b"] []
            rw [show e0.val = _ from hv2.symm]
            exact .cons (.str _ tv) .nil
      refine ⟨[a], Reads.dict (as := []) (bs := []) ho hx.1 hd keys.1 keys.2, fun z => ?_⟩
      rw [List.mem_singleton] at z
      rw [← z] at hm
      simp at hm
theorem VrAll.reads (I : Inv X pins σ H s) : ∀ {vs : List V} {ds : List PyData} {us : List Value}, VrAll H vs ds → Vals vs us → ∃ as, ReadsAll s.heap us ds as ∧ sysModules ∉ as
  | _, _, _, .nil, .nil => ⟨[], .nil, by simp⟩
  | _, _, _, .cons h t, .cons r rs => by
    obtain ⟨as, h1, h2⟩ := Vr.reads I h r
    obtain ⟨bs, h3, h4⟩ := VrAll.reads I t rs
    exact ⟨as ++ bs, .cons h1 h3, fun z => (List.mem_append.mp z).elim h2 h4⟩
/-- repr of a list of such values -/
def rRpV (_ : PySem.W.Frag) : List V → Hp → VK → Prop := fun xs H Q => ∃ (l : Addr) (vs : List V) (ds : List PyData), xs = [.ref l] ∧ l ≠ sysModules ∧ H l = some (.lst vs) ∧ VrAll H vs ds ∧ (PyData.list ds).showable = true ∧ (PyData.list ds).depth ≤ 100 ∧ (PyData.list ds).shown.length ≤ sizeLine ∧ Q (.str (PyData.list ds).shown) H
theorem call_reprV (hG : X.A.guards = some []) (hr : Room 0 X.A) : CallR X (.builtin "repr") (rRpV X.K) := by
  intro pins s σ H xs us Q I r h
  obtain ⟨l, vs, ds, rfl, nl, hl, hv, h1, h2, h3, q⟩ := h
  obtain ⟨u, rfl, ru⟩ := vals1 r
  cases (show u = Value.ref l from ru)
  obtain ⟨_, its, m, rv, e1⟩ := (show ObjOk X.prog X.w H s.heap l (.lst vs) from I.hok l _ hl)
  obtain ⟨as, ra, na⟩ := VrAll.reads I hv rv
  have rd : Reads s.heap (.ref l) (.list ds) (l :: as) := .list e1 rfl rfl (by simpa using ra)
  have hun := hr.un
  exact repr_of_reads' rd h1 (fun _ z => (List.mem_cons.mp z).elim (fun w => nl w.symm) na) hG (by omega) (fun _ _ e => e) (fun h' u' tk kp => ⟨.str (PyData.list ds).shown, H, I.kept kp, ⟨u', rfl⟩, q⟩) h3
end
/-- a drawn value is short and may be shown -/
def Gd (d : PyData) : Prop := d.showable = true ∧ d.depth ≤ 3 ∧ d.shown.length ≤ 100
theorem gd_list : ∀ {ds : List PyData}, (∀ d ∈ ds, Gd d) → ds.length ≤ 2 → (PyData.list ds).showable = true ∧ (PyData.list ds).depth ≤ 100 ∧ (PyData.list ds).shown.length ≤ sizeLine := by
  intro ds h hl
  match ds, h, hl with
  | [], _, _ => exact ⟨by decide +kernel, by decide +kernel, by decide +kernel⟩
  | [a], h, _ =>
    obtain ⟨a1, a2, a3⟩ := h a (by simp)
    refine ⟨by simp [PyData.showable, PyData.showableAll, a1], by simp only [PyData.depth, PyData.depthAll]; omega, Nat.le_trans (listText_len_le [a.shown]) ?_⟩
    simp only [List.map_cons, List.map_nil, List.sum_cons, List.sum_nil, List.length_cons, List.length_nil]
    rw [sizeLine_eq]
    omega
  | [a, b], h, _ =>
    obtain ⟨a1, a2, a3⟩ := h a (by simp)
    obtain ⟨b1, b2, b3⟩ := h b (by simp)
    refine ⟨by simp [PyData.showable, PyData.showableAll, a1, b1], by simp only [PyData.depth, PyData.depthAll]; omega, Nat.le_trans (listText_len_le [a.shown, b.shown]) ?_⟩
    simp only [List.map_cons, List.map_nil, List.sum_cons, List.sum_nil, List.length_cons, List.length_nil]
    rw [sizeLine_eq]
    omega
end Lw
namespace Lw
open PySem PySem.Spec PyProof.Rows L2

open LamX
abbrev sVal : Stmt := top 32
def spVal : Sp := fun vs H Q _ => ∃ (p pl : Addr) (n : Nat), vs = [.ref p] ∧ Pen H p pl n ∧ n ≤ 900000 ∧ ∀ (v : V) (d : PyData) (H' : Hp), Vr H' v d → Gd d → v ≠ .ref p → Pen H' p pl (n + 1) → Kp p H H' → Q v H'
section
variable {P : Program} {w : World} {K : PySem.W.Frag} {mg : Str → Option Value} {base : Heap}
theorem scVal : FnScope ["_law_pen_here", "_law_some"] ["_law_pen_here"] (C8.fnScope sVal) := C8.fnScope_by (by decide +kernel)
theorem cal_val {f : Addr} {fd : FuncData} (F : C8.Def K mg "_law_value" sVal f fd) (b : Binds K fd ["_law_pen_here"] []) (D2 : C8.Cal P w K mg base 2 "_law_pick" (spPick K) []) : C8.Cal P w K mg base 3 "_law_value" spVal [] := by
  refine C8.cal0 F b .nil scVal (fun vs H Q E h => ?_) (fun cdv A outer st H vs Q E hr h => ?_)
  · obtain ⟨p, pl, n, rfl, _⟩ := h
    rfl
  · obtain ⟨p, pl, n, rfl, hp, hn, k⟩ := h
    refine ⟨_, (pss_cons (ps_set (i := 1) scVal.nd rfl (Or.inl rfl) (pe_lstS (pa_cons pe_non (pa_cons pe_bl (pa_cons pe_bl (pa_cons pe_int (pa_cons pe_int (pa_cons (pe_un un_neg pe_int) (pa_cons (pe_op op_pow pe_int pe_int) (pa_cons pe_str (pa_cons pe_str (pa_cons pe_str (pa_cons (pe_tup pa_nil) (pa_cons (pe_tup (pa_cons pe_str (pa_cons pe_int pa_nil))) (pa_cons (pe_lstS pa_nil) (pa_cons (pe_lstS (pa_cons pe_str pa_nil)) (pa_cons pe_dnewK (pa_cons (pe_disp (pps_cons pe_str pe_str pps_nil) (by rfl) (by rfl) (fun z => by cases z) (by decide)) (pa_cons pe_str pa_nil)))))))))))))))))))
  (pss_one (ps_ret (C8.pe_c D2 hr (by decide) (by rfl) (pa_cons (pv 0) (pa_cons (pv 1) pa_nil)))))), ?_⟩
    refine ⟨7, rfl, 10, 31, rfl, rfl, ⟨by decide, by decide, by decide⟩, (by show 0 ≤ sizeLine; decide), fun q1 f1 => ?_⟩
    have s1 := same_new (o := HO.tup []) f1
    have a1 : upd H q1 (HO.tup []) q1 = some (.tup []) := upd_same
    have n1 : q1 ≠ p := hp.ne_new f1
    generalize upd H q1 _ = H1 at s1 a1 ⊢
    have hp1 := hp.keep s1
    refine ⟨(by show 2 ≤ sizeLine; decide), fun q2 f2 => ?_⟩
    have s2 := same_new (o := HO.tup [V.str "a", V.int 1]) f2
    have a2 : upd H1 q2 (HO.tup [V.str "a", V.int 1]) q2 = some (.tup [V.str "a", V.int 1]) := upd_same
    have n2 : q2 ≠ p := hp1.ne_new f2
    generalize upd H1 q2 _ = H2 at s2 a2 ⊢
    have hp2 := hp1.keep s2
    refine ⟨(by show 0 ≤ sizeLine; decide), fun q3 f3 m3 => ?_⟩
    have s3 := same_new (o := HO.lst []) f3
    have a3 : upd H2 q3 (HO.lst []) q3 = some (.lst []) := upd_same
    have n3 : q3 ≠ p := hp2.ne_new f3
    generalize upd H2 q3 _ = H3 at s3 a3 ⊢
    have hp3 := hp2.keep s3
    refine ⟨(by show 1 ≤ sizeLine; decide), fun q4 f4 m4 => ?_⟩
    have s4 := same_new (o := HO.lst [V.str "e"]) f4
    have a4 : upd H3 q4 (HO.lst [V.str "e"]) q4 = some (.lst [V.str "e"]) := upd_same
    have n4 : q4 ≠ p := hp3.ne_new f4
    generalize upd H3 q4 _ = H4 at s4 a4 ⊢
    have hp4 := hp3.keep s4
    refine fun q5 f5 => ?_
    have s5 := same_new (o := HO.dK []) f5
    have a5 : upd H4 q5 (HO.dK []) q5 = some (.dK []) := upd_same
    have n5 : q5 ≠ p := hp4.ne_new f5
    generalize upd H4 q5 _ = H5 at s5 a5 ⊢
    have hp5 := hp4.keep s5
    refine fun q6 f6 => ⟨upd_same, [(.inr "a", .str "b")], rfl, (by decide), ?_⟩
    rw [upd_upd]
    have s6 := same_new (o := HO.dK (mergeK [] [(.inr "a", V.str "b")])) f6
    have a6 : upd H5 q6 (HO.dK (mergeK [] [(.inr "a", V.str "b")])) q6 = some (.dK [(.inr "a", V.str "b")]) := upd_same
    have n6 : q6 ≠ p := hp5.ne_new f6
    generalize upd H5 q6 _ = H6 at s6 a6 ⊢
    have hp6 := hp5.keep s6
    refine ⟨(by show 17 ≤ sizeLine; decide), fun l f7 _ => ?_⟩
    have s7 := same_new (o := HO.lst [V.non, V.bl true, V.bl false, V.int 0, V.int 1, V.int (-7), V.int (10 ^ Int.toNat 31), V.str "", V.str "a", V.str "late", V.ref q1, V.ref q2, V.ref q3, V.ref q4, V.ref q5, V.ref q6, V.str "two"]) f7
    have a7 : upd H6 l (HO.lst [V.non, V.bl true, V.bl false, V.int 0, V.int 1, V.int (-7), V.int (10 ^ Int.toNat 31), V.str "", V.str "a", V.str "late", V.ref q1, V.ref q2, V.ref q3, V.ref q4, V.ref q5, V.ref q6, V.str "two"]) l = some (.lst [V.non, V.bl true, V.bl false, V.int 0, V.int 1, V.int (-7), V.int (10 ^ Int.toNat 31), V.str "", V.str "a", V.str "late", V.ref q1, V.ref q2, V.ref q3, V.ref q4, V.ref q5, V.ref q6, V.str "two"]) := upd_same
    have nl := hp6.ne_new f7
    change gName 1 (V.ref l) _ (upd H6 l (HO.lst [V.non, V.bl true, V.bl false, V.int 0, V.int 1, V.int (-7), V.int (10 ^ Int.toNat 31), V.str "", V.str "a", V.str "late", V.ref q1, V.ref q2, V.ref q3, V.ref q4, V.ref q5, V.ref q6, V.str "two"])) _
    generalize upd H6 l _ = H7 at s7 a7 ⊢
    have hp7 := hp6.keep s7
    dsimp only [gName, tRet]
    refine ⟨_, rfl, _, rfl, p, pl, l, n, _, rfl, hp7, by omega, SqL.of a7, nl, (by show 0 < 17; decide), (by show 17 < 1000000; decide), fun j v H8 hj hp8 k8 => ?_⟩
    have far : ∀ b o, b ≠ p → H6 b = some o → H8 b = some o := fun b o hb e => k8 b o hb (s7 b o e)
    have kk : Kp p H H8 := fun b o hb e => far b o hb (s6 _ _ (s5 _ _ (s4 _ _ (s3 _ _ (s2 _ _ (s1 _ _ e))))))
    have hv := List.mem_of_getElem? hj
    simp only [List.mem_cons, List.not_mem_nil, or_false] at hv
    rcases hv with rfl | rfl | rfl | rfl | rfl | rfl | rfl | rfl | rfl | rfl | rfl | rfl | rfl | rfl | rfl | rfl | rfl
    · exact k _ .none H8 (.fl .non) ⟨by decide +kernel, by decide +kernel, by decide +kernel⟩ (by simp) hp8 kk
    · exact k _ (.bool true) H8 (.fl (.bl true)) ⟨by decide +kernel, by decide +kernel, by decide +kernel⟩ (by simp) hp8 kk
    · exact k _ (.bool false) H8 (.fl (.bl false)) ⟨by decide +kernel, by decide +kernel, by decide +kernel⟩ (by simp) hp8 kk
    · exact k _ (.int 0) H8 (.fl (.int 0)) ⟨by decide +kernel, by decide +kernel, by decide +kernel⟩ (by simp) hp8 kk
    · exact k _ (.int 1) H8 (.fl (.int 1)) ⟨by decide +kernel, by decide +kernel, by decide +kernel⟩ (by simp) hp8 kk
    · exact k _ (.int (-7)) H8 (.fl (.int (-7))) ⟨by decide +kernel, by decide +kernel, by decide +kernel⟩ (by simp) hp8 kk
    · exact k _ (.int (10 ^ Int.toNat 31)) H8 (.fl (.int _)) ⟨by decide +kernel, by decide +kernel, by decide +kernel⟩ (by simp) hp8 kk
    · exact k _ (.str "") H8 (.fl (.str _)) ⟨by decide +kernel, by decide +kernel, by decide +kernel⟩ (by simp) hp8 kk
    · exact k _ (.str "a") H8 (.fl (.str _)) ⟨by decide +kernel, by decide +kernel, by decide +kernel⟩ (by simp) hp8 kk
    · exact k _ (.str "late") H8 (.fl (.str _)) ⟨by decide +kernel, by decide +kernel, by decide +kernel⟩ (by simp) hp8 kk
    · exact k _ (.tuple []) H8 (.tup (far _ _ n1 (s6 _ _ (s5 _ _ (s4 _ _ (s3 _ _ (s2 _ _ a1)))))) .nil) ⟨by decide +kernel, by decide +kernel, by decide +kernel⟩ (fun e => n1 (V.ref.inj e)) hp8 kk
    · exact k _ (.tuple [.str "a", .int 1]) H8 (.tup (far _ _ n2 (s6 _ _ (s5 _ _ (s4 _ _ (s3 _ _ a2))))) (.cons (.str _) (.cons (.int _) .nil))) ⟨by decide +kernel, by decide +kernel, by decide +kernel⟩ (fun e => n2 (V.ref.inj e)) hp8 kk
    · exact k _ (.list []) H8 (.lst (far _ _ n3 (s6 _ _ (s5 _ _ (s4 _ _ a3)))) m3 .nil) ⟨by decide +kernel, by decide +kernel, by decide +kernel⟩ (fun e => n3 (V.ref.inj e)) hp8 kk
    · exact k _ (.list [.str "e"]) H8 (.lst (far _ _ n4 (s6 _ _ (s5 _ _ a4))) m4 (.cons (.str _) .nil)) ⟨by decide +kernel, by decide +kernel, by decide +kernel⟩ (fun e => n4 (V.ref.inj e)) hp8 kk
    · exact k _ (.dict []) H8 (.d0 (far _ _ n5 (s6 _ _ a5))) ⟨by decide +kernel, by decide +kernel, by decide +kernel⟩ (fun e => n5 (V.ref.inj e)) hp8 kk
    · exact k _ (.dict [(.str "a", .str "b")]) H8 (.d1 (far _ _ n6 a6)) ⟨by decide +kernel, by decide +kernel, by decide +kernel⟩ (fun e => n6 (V.ref.inj e)) hp8 kk
    · exact k _ (.str "two") H8 (.fl (.str _)) ⟨by decide +kernel, by decide +kernel, by decide +kernel⟩ (by simp) hp8 kk
end
end Lw
namespace Lw
open PySem PySem.Spec PyProof.Rows L2

open LamX
theorem two_fields {H : Hp} {a C dx : Addr} {f1 f2 : Str} {v1 v2 : V} (ne : dx ≠ a) : upd (upd (upd H dx (exd dx [(f1, v1)])) a (exo a C (some dx))) dx (exd dx [(f2, v2), (f1, v1)]) = upd (upd H dx (exd dx [(f2, v2), (f1, v1)])) a (exo a C (some dx)) := by
  funext b
  by_cases h1 : b = a
  · rw [h1, upd_ne ne.symm, upd_same, upd_same]
  · by_cases h2 : b = dx
    · rw [h2, upd_same, upd_ne ne, upd_same]
    · rw [upd_ne h2, upd_ne h1, upd_ne h2, upd_ne h1, upd_ne h2]
section
variable {P : Program} {w : World} {K : PySem.W.Frag} {mg : Str → Option Value} {base : Heap}
abbrev sIBadName : Stmt := inClass (top 2) 0
theorem scBadName : FnScope ["self", "value"] ["self", "value"] (C8.fnScope sIBadName) := C8.fnScope_by (by decide +kernel)
theorem fn_BadName {C f : Addr} {fd : FuncData} (F : C8.Fun K "__init__" "BadName.__init__" sIBadName f fd) (T : OexC K C) (no : PySem.W.findIn K (.ref C) "value" = some none) : FnOk P w K mg base C8.CX0 1 f fd ["self", "value"] (spE1 C "value") := by
  refine C8.fn0 F scBadName (fun vs H Q E h => ?_) (fun cdv A outer st H vs Q E hr h => ?_)
  · obtain ⟨a, v, rfl, _⟩ := h
    rfl
  · obtain ⟨a, v, rfl, ha, k⟩ := h
    exact ⟨_, pss_one (ps_ost (pv 0) (pv 1)), _, rfl, _, rfl, a, C, rfl, T, no, .inl ⟨ha, fun dx h1 h2 => k dx h1 h2⟩⟩
abbrev sIBadSize : Stmt := inClass (top 3) 0
theorem scBadSize : FnScope ["self", "value"] ["self", "value"] (C8.fnScope sIBadSize) := C8.fnScope_by (by decide +kernel)
theorem fn_BadSize {C f : Addr} {fd : FuncData} (F : C8.Fun K "__init__" "BadSize.__init__" sIBadSize f fd) (T : OexC K C) (no : PySem.W.findIn K (.ref C) "value" = some none) : FnOk P w K mg base C8.CX0 1 f fd ["self", "value"] (spE1 C "value") := by
  refine C8.fn0 F scBadSize (fun vs H Q E h => ?_) (fun cdv A outer st H vs Q E hr h => ?_)
  · obtain ⟨a, v, rfl, _⟩ := h
    rfl
  · obtain ⟨a, v, rfl, ha, k⟩ := h
    exact ⟨_, pss_one (ps_ost (pv 0) (pv 1)), _, rfl, _, rfl, a, C, rfl, T, no, .inl ⟨ha, fun dx h1 h2 => k dx h1 h2⟩⟩
abbrev sIBadSpeed : Stmt := inClass (top 4) 0
theorem scBadSpeed : FnScope ["self", "value"] ["self", "value"] (C8.fnScope sIBadSpeed) := C8.fnScope_by (by decide +kernel)
theorem fn_BadSpeed {C f : Addr} {fd : FuncData} (F : C8.Fun K "__init__" "BadSpeed.__init__" sIBadSpeed f fd) (T : OexC K C) (no : PySem.W.findIn K (.ref C) "value" = some none) : FnOk P w K mg base C8.CX0 1 f fd ["self", "value"] (spE1 C "value") := by
  refine C8.fn0 F scBadSpeed (fun vs H Q E h => ?_) (fun cdv A outer st H vs Q E hr h => ?_)
  · obtain ⟨a, v, rfl, _⟩ := h
    rfl
  · obtain ⟨a, v, rfl, ha, k⟩ := h
    exact ⟨_, pss_one (ps_ost (pv 0) (pv 1)), _, rfl, _, rfl, a, C, rfl, T, no, .inl ⟨ha, fun dx h1 h2 => k dx h1 h2⟩⟩
abbrev sIBadCost : Stmt := inClass (top 5) 0
theorem scBadCost : FnScope ["self", "value"] ["self", "value"] (C8.fnScope sIBadCost) := C8.fnScope_by (by decide +kernel)
theorem fn_BadCost {C f : Addr} {fd : FuncData} (F : C8.Fun K "__init__" "BadCost.__init__" sIBadCost f fd) (T : OexC K C) (no : PySem.W.findIn K (.ref C) "value" = some none) : FnOk P w K mg base C8.CX0 1 f fd ["self", "value"] (spE1 C "value") := by
  refine C8.fn0 F scBadCost (fun vs H Q E h => ?_) (fun cdv A outer st H vs Q E hr h => ?_)
  · obtain ⟨a, v, rfl, _⟩ := h
    rfl
  · obtain ⟨a, v, rfl, ha, k⟩ := h
    exact ⟨_, pss_one (ps_ost (pv 0) (pv 1)), _, rfl, _, rfl, a, C, rfl, T, no, .inl ⟨ha, fun dx h1 h2 => k dx h1 h2⟩⟩
abbrev sIBadFee : Stmt := inClass (top 6) 0
theorem scBadFee : FnScope ["self", "value"] ["self", "value"] (C8.fnScope sIBadFee) := C8.fnScope_by (by decide +kernel)
theorem fn_BadFee {C f : Addr} {fd : FuncData} (F : C8.Fun K "__init__" "BadFee.__init__" sIBadFee f fd) (T : OexC K C) (no : PySem.W.findIn K (.ref C) "value" = some none) : FnOk P w K mg base C8.CX0 1 f fd ["self", "value"] (spE1 C "value") := by
  refine C8.fn0 F scBadFee (fun vs H Q E h => ?_) (fun cdv A outer st H vs Q E hr h => ?_)
  · obtain ⟨a, v, rfl, _⟩ := h
    rfl
  · obtain ⟨a, v, rfl, ha, k⟩ := h
    exact ⟨_, pss_one (ps_ost (pv 0) (pv 1)), _, rfl, _, rfl, a, C, rfl, T, no, .inl ⟨ha, fun dx h1 h2 => k dx h1 h2⟩⟩
abbrev sIBadTotal : Stmt := inClass (top 7) 0
theorem scBadTotal : FnScope ["self", "value"] ["self", "value"] (C8.fnScope sIBadTotal) := C8.fnScope_by (by decide +kernel)
theorem fn_BadTotal {C f : Addr} {fd : FuncData} (F : C8.Fun K "__init__" "BadTotal.__init__" sIBadTotal f fd) (T : OexC K C) (no : PySem.W.findIn K (.ref C) "value" = some none) : FnOk P w K mg base C8.CX0 1 f fd ["self", "value"] (spE1 C "value") := by
  refine C8.fn0 F scBadTotal (fun vs H Q E h => ?_) (fun cdv A outer st H vs Q E hr h => ?_)
  · obtain ⟨a, v, rfl, _⟩ := h
    rfl
  · obtain ⟨a, v, rfl, ha, k⟩ := h
    exact ⟨_, pss_one (ps_ost (pv 0) (pv 1)), _, rfl, _, rfl, a, C, rfl, T, no, .inl ⟨ha, fun dx h1 h2 => k dx h1 h2⟩⟩
abbrev sIBadLimit : Stmt := inClass (top 8) 0
theorem scBadLimit : FnScope ["self", "value"] ["self", "value"] (C8.fnScope sIBadLimit) := C8.fnScope_by (by decide +kernel)
theorem fn_BadLimit {C f : Addr} {fd : FuncData} (F : C8.Fun K "__init__" "BadLimit.__init__" sIBadLimit f fd) (T : OexC K C) (no : PySem.W.findIn K (.ref C) "value" = some none) : FnOk P w K mg base C8.CX0 1 f fd ["self", "value"] (spE1 C "value") := by
  refine C8.fn0 F scBadLimit (fun vs H Q E h => ?_) (fun cdv A outer st H vs Q E hr h => ?_)
  · obtain ⟨a, v, rfl, _⟩ := h
    rfl
  · obtain ⟨a, v, rfl, ha, k⟩ := h
    exact ⟨_, pss_one (ps_ost (pv 0) (pv 1)), _, rfl, _, rfl, a, C, rfl, T, no, .inl ⟨ha, fun dx h1 h2 => k dx h1 h2⟩⟩
abbrev sIBadRatio : Stmt := inClass (top 9) 0
theorem scBadRatio : FnScope ["self", "value"] ["self", "value"] (C8.fnScope sIBadRatio) := C8.fnScope_by (by decide +kernel)
theorem fn_BadRatio {C f : Addr} {fd : FuncData} (F : C8.Fun K "__init__" "BadRatio.__init__" sIBadRatio f fd) (T : OexC K C) (no : PySem.W.findIn K (.ref C) "value" = some none) : FnOk P w K mg base C8.CX0 1 f fd ["self", "value"] (spE1 C "value") := by
  refine C8.fn0 F scBadRatio (fun vs H Q E h => ?_) (fun cdv A outer st H vs Q E hr h => ?_)
  · obtain ⟨a, v, rfl, _⟩ := h
    rfl
  · obtain ⟨a, v, rfl, ha, k⟩ := h
    exact ⟨_, pss_one (ps_ost (pv 0) (pv 1)), _, rfl, _, rfl, a, C, rfl, T, no, .inl ⟨ha, fun dx h1 h2 => k dx h1 h2⟩⟩
abbrev sIBadRest : Stmt := inClass (top 10) 0
theorem scBadRest : FnScope ["self", "value"] ["self", "value"] (C8.fnScope sIBadRest) := C8.fnScope_by (by decide +kernel)
theorem fn_BadRest {C f : Addr} {fd : FuncData} (F : C8.Fun K "__init__" "BadRest.__init__" sIBadRest f fd) (T : OexC K C) (no : PySem.W.findIn K (.ref C) "value" = some none) : FnOk P w K mg base C8.CX0 1 f fd ["self", "value"] (spE1 C "value") := by
  refine C8.fn0 F scBadRest (fun vs H Q E h => ?_) (fun cdv A outer st H vs Q E hr h => ?_)
  · obtain ⟨a, v, rfl, _⟩ := h
    rfl
  · obtain ⟨a, v, rfl, ha, k⟩ := h
    exact ⟨_, pss_one (ps_ost (pv 0) (pv 1)), _, rfl, _, rfl, a, C, rfl, T, no, .inl ⟨ha, fun dx h1 h2 => k dx h1 h2⟩⟩
abbrev sIBadChunks : Stmt := inClass (top 11) 0
theorem scBadChunks : FnScope ["self", "part"] ["self", "part"] (C8.fnScope sIBadChunks) := C8.fnScope_by (by decide +kernel)
theorem fn_BadChunks {C f : Addr} {fd : FuncData} (F : C8.Fun K "__init__" "BadChunks.__init__" sIBadChunks f fd) (T : OexC K C) (no : PySem.W.findIn K (.ref C) "part" = some none) : FnOk P w K mg base C8.CX0 1 f fd ["self", "part"] (spE1 C "part") := by
  refine C8.fn0 F scBadChunks (fun vs H Q E h => ?_) (fun cdv A outer st H vs Q E hr h => ?_)
  · obtain ⟨a, v, rfl, _⟩ := h
    rfl
  · obtain ⟨a, v, rfl, ha, k⟩ := h
    exact ⟨_, pss_one (ps_ost (pv 0) (pv 1)), _, rfl, _, rfl, a, C, rfl, T, no, .inl ⟨ha, fun dx h1 h2 => k dx h1 h2⟩⟩
abbrev sIBadCrew : Stmt := inClass (top 12) 0
theorem scBadCrew : FnScope ["self", "part"] ["self", "part"] (C8.fnScope sIBadCrew) := C8.fnScope_by (by decide +kernel)
theorem fn_BadCrew {C f : Addr} {fd : FuncData} (F : C8.Fun K "__init__" "BadCrew.__init__" sIBadCrew f fd) (T : OexC K C) (no : PySem.W.findIn K (.ref C) "part" = some none) : FnOk P w K mg base C8.CX0 1 f fd ["self", "part"] (spE1 C "part") := by
  refine C8.fn0 F scBadCrew (fun vs H Q E h => ?_) (fun cdv A outer st H vs Q E hr h => ?_)
  · obtain ⟨a, v, rfl, _⟩ := h
    rfl
  · obtain ⟨a, v, rfl, ha, k⟩ := h
    exact ⟨_, pss_one (ps_ost (pv 0) (pv 1)), _, rfl, _, rfl, a, C, rfl, T, no, .inl ⟨ha, fun dx h1 h2 => k dx h1 h2⟩⟩
abbrev sIBadSetting : Stmt := inClass (top 13) 0
theorem scBadSetting : FnScope ["self", "part"] ["self", "part"] (C8.fnScope sIBadSetting) := C8.fnScope_by (by decide +kernel)
theorem fn_BadSetting {C f : Addr} {fd : FuncData} (F : C8.Fun K "__init__" "BadSetting.__init__" sIBadSetting f fd) (T : OexC K C) (no : PySem.W.findIn K (.ref C) "part" = some none) : FnOk P w K mg base C8.CX0 1 f fd ["self", "part"] (spE1 C "part") := by
  refine C8.fn0 F scBadSetting (fun vs H Q E h => ?_) (fun cdv A outer st H vs Q E hr h => ?_)
  · obtain ⟨a, v, rfl, _⟩ := h
    rfl
  · obtain ⟨a, v, rfl, ha, k⟩ := h
    exact ⟨_, pss_one (ps_ost (pv 0) (pv 1)), _, rfl, _, rfl, a, C, rfl, T, no, .inl ⟨ha, fun dx h1 h2 => k dx h1 h2⟩⟩
abbrev sIBadWorld : Stmt := inClass (top 14) 0
theorem scBadWorld : FnScope ["self", "part"] ["self", "part"] (C8.fnScope sIBadWorld) := C8.fnScope_by (by decide +kernel)
theorem fn_BadWorld {C f : Addr} {fd : FuncData} (F : C8.Fun K "__init__" "BadWorld.__init__" sIBadWorld f fd) (T : OexC K C) (no : PySem.W.findIn K (.ref C) "part" = some none) : FnOk P w K mg base C8.CX0 1 f fd ["self", "part"] (spE1 C "part") := by
  refine C8.fn0 F scBadWorld (fun vs H Q E h => ?_) (fun cdv A outer st H vs Q E hr h => ?_)
  · obtain ⟨a, v, rfl, _⟩ := h
    rfl
  · obtain ⟨a, v, rfl, ha, k⟩ := h
    exact ⟨_, pss_one (ps_ost (pv 0) (pv 1)), _, rfl, _, rfl, a, C, rfl, T, no, .inl ⟨ha, fun dx h1 h2 => k dx h1 h2⟩⟩
abbrev sIBadRule : Stmt := inClass (top 15) 0
theorem scBadRule : FnScope ["self", "part"] ["self", "part"] (C8.fnScope sIBadRule) := C8.fnScope_by (by decide +kernel)
theorem fn_BadRule {C f : Addr} {fd : FuncData} (F : C8.Fun K "__init__" "BadRule.__init__" sIBadRule f fd) (T : OexC K C) (no : PySem.W.findIn K (.ref C) "part" = some none) : FnOk P w K mg base C8.CX0 1 f fd ["self", "part"] (spE1 C "part") := by
  refine C8.fn0 F scBadRule (fun vs H Q E h => ?_) (fun cdv A outer st H vs Q E hr h => ?_)
  · obtain ⟨a, v, rfl, _⟩ := h
    rfl
  · obtain ⟨a, v, rfl, ha, k⟩ := h
    exact ⟨_, pss_one (ps_ost (pv 0) (pv 1)), _, rfl, _, rfl, a, C, rfl, T, no, .inl ⟨ha, fun dx h1 h2 => k dx h1 h2⟩⟩
abbrev sIBadLog : Stmt := inClass (top 16) 0
theorem scBadLog : FnScope ["self", "part"] ["self", "part"] (C8.fnScope sIBadLog) := C8.fnScope_by (by decide +kernel)
theorem fn_BadLog {C f : Addr} {fd : FuncData} (F : C8.Fun K "__init__" "BadLog.__init__" sIBadLog f fd) (T : OexC K C) (no : PySem.W.findIn K (.ref C) "part" = some none) : FnOk P w K mg base C8.CX0 1 f fd ["self", "part"] (spE1 C "part") := by
  refine C8.fn0 F scBadLog (fun vs H Q E h => ?_) (fun cdv A outer st H vs Q E hr h => ?_)
  · obtain ⟨a, v, rfl, _⟩ := h
    rfl
  · obtain ⟨a, v, rfl, ha, k⟩ := h
    exact ⟨_, pss_one (ps_ost (pv 0) (pv 1)), _, rfl, _, rfl, a, C, rfl, T, no, .inl ⟨ha, fun dx h1 h2 => k dx h1 h2⟩⟩
abbrev sIBadLoop : Stmt := inClass (top 17) 0
theorem scBadLoop : FnScope ["self", "part"] ["self", "part"] (C8.fnScope sIBadLoop) := C8.fnScope_by (by decide +kernel)
theorem fn_BadLoop {C f : Addr} {fd : FuncData} (F : C8.Fun K "__init__" "BadLoop.__init__" sIBadLoop f fd) (T : OexC K C) (no : PySem.W.findIn K (.ref C) "part" = some none) : FnOk P w K mg base C8.CX0 1 f fd ["self", "part"] (spE1 C "part") := by
  refine C8.fn0 F scBadLoop (fun vs H Q E h => ?_) (fun cdv A outer st H vs Q E hr h => ?_)
  · obtain ⟨a, v, rfl, _⟩ := h
    rfl
  · obtain ⟨a, v, rfl, ha, k⟩ := h
    exact ⟨_, pss_one (ps_ost (pv 0) (pv 1)), _, rfl, _, rfl, a, C, rfl, T, no, .inl ⟨ha, fun dx h1 h2 => k dx h1 h2⟩⟩
abbrev sIBadPool : Stmt := inClass (top 18) 0
theorem scBadPool : FnScope ["self", "part"] ["self", "part"] (C8.fnScope sIBadPool) := C8.fnScope_by (by decide +kernel)
theorem fn_BadPool {C f : Addr} {fd : FuncData} (F : C8.Fun K "__init__" "BadPool.__init__" sIBadPool f fd) (T : OexC K C) (no : PySem.W.findIn K (.ref C) "part" = some none) : FnOk P w K mg base C8.CX0 1 f fd ["self", "part"] (spE1 C "part") := by
  refine C8.fn0 F scBadPool (fun vs H Q E h => ?_) (fun cdv A outer st H vs Q E hr h => ?_)
  · obtain ⟨a, v, rfl, _⟩ := h
    rfl
  · obtain ⟨a, v, rfl, ha, k⟩ := h
    exact ⟨_, pss_one (ps_ost (pv 0) (pv 1)), _, rfl, _, rfl, a, C, rfl, T, no, .inl ⟨ha, fun dx h1 h2 => k dx h1 h2⟩⟩
abbrev sIBadPaper : Stmt := inClass (top 19) 0
theorem scBadPaper : FnScope ["self", "part"] ["self", "part"] (C8.fnScope sIBadPaper) := C8.fnScope_by (by decide +kernel)
theorem fn_BadPaper {C f : Addr} {fd : FuncData} (F : C8.Fun K "__init__" "BadPaper.__init__" sIBadPaper f fd) (T : OexC K C) (no : PySem.W.findIn K (.ref C) "part" = some none) : FnOk P w K mg base C8.CX0 1 f fd ["self", "part"] (spE1 C "part") := by
  refine C8.fn0 F scBadPaper (fun vs H Q E h => ?_) (fun cdv A outer st H vs Q E hr h => ?_)
  · obtain ⟨a, v, rfl, _⟩ := h
    rfl
  · obtain ⟨a, v, rfl, ha, k⟩ := h
    exact ⟨_, pss_one (ps_ost (pv 0) (pv 1)), _, rfl, _, rfl, a, C, rfl, T, no, .inl ⟨ha, fun dx h1 h2 => k dx h1 h2⟩⟩
abbrev sIBadText : Stmt := inClass (top 20) 0
theorem scBadText : FnScope ["self", "line", "word"] ["self", "line", "word"] (C8.fnScope sIBadText) := C8.fnScope_by (by decide +kernel)
theorem fn_BadText {C f : Addr} {fd : FuncData} (F : C8.Fun K "__init__" "BadText.__init__" sIBadText f fd) (T : OexC K C) (no1 : PySem.W.findIn K (.ref C) "line" = some none) (no2 : PySem.W.findIn K (.ref C) "word" = some none) : FnOk P w K mg base C8.CX0 1 f fd ["self", "line", "word"] (spE2 C "line" "word") := by
  refine C8.fn0 F scBadText (fun vs H Q E h => ?_) (fun cdv A outer st H vs Q E hr h => ?_)
  · obtain ⟨a, v1, v2, rfl, _⟩ := h
    rfl
  · obtain ⟨a, v1, v2, rfl, ha, k⟩ := h
    refine ⟨_, pss_cons (ps_ost (pv 0) (pv 1)) (pss_one (ps_ost (pv 0) (pv 2))), ?_⟩
    refine ⟨_, rfl, _, rfl, a, C, rfl, T, no1, .inl ⟨ha, fun dx h1 h2 => ?_⟩⟩
    refine ⟨_, rfl, _, rfl, a, C, rfl, T, no2, .inr ⟨dx, [("line", v1)], upd_same, (by rw [upd_ne h2]; exact upd_same), (by show 1 ≤ 900; decide), ?_⟩⟩
    rw [two_fields h2]
    exact k dx h1 h2 _ (by rw [lookup_put, if_neg (by decide +kernel), lookup_put, if_pos rfl]) (by rw [lookup_put, if_pos rfl])
abbrev sIBadLine : Stmt := inClass (top 21) 0
theorem scBadLine : FnScope ["self", "word"] ["self", "word"] (C8.fnScope sIBadLine) := C8.fnScope_by (by decide +kernel)
theorem fn_BadLine {C f : Addr} {fd : FuncData} (F : C8.Fun K "__init__" "BadLine.__init__" sIBadLine f fd) (T : OexC K C) (no : PySem.W.findIn K (.ref C) "word" = some none) : FnOk P w K mg base C8.CX0 1 f fd ["self", "word"] (spE1 C "word") := by
  refine C8.fn0 F scBadLine (fun vs H Q E h => ?_) (fun cdv A outer st H vs Q E hr h => ?_)
  · obtain ⟨a, v, rfl, _⟩ := h
    rfl
  · obtain ⟨a, v, rfl, ha, k⟩ := h
    exact ⟨_, pss_one (ps_ost (pv 0) (pv 1)), _, rfl, _, rfl, a, C, rfl, T, no, .inl ⟨ha, fun dx h1 h2 => k dx h1 h2⟩⟩
abbrev sINoWorker : Stmt := inClass (top 22) 0
theorem scNoWorker : FnScope ["self", "name"] ["self", "name"] (C8.fnScope sINoWorker) := C8.fnScope_by (by decide +kernel)
theorem fn_NoWorker {C f : Addr} {fd : FuncData} (F : C8.Fun K "__init__" "NoWorker.__init__" sINoWorker f fd) (T : OexC K C) (no : PySem.W.findIn K (.ref C) "name" = some none) : FnOk P w K mg base C8.CX0 1 f fd ["self", "name"] (spE1 C "name") := by
  refine C8.fn0 F scNoWorker (fun vs H Q E h => ?_) (fun cdv A outer st H vs Q E hr h => ?_)
  · obtain ⟨a, v, rfl, _⟩ := h
    rfl
  · obtain ⟨a, v, rfl, ha, k⟩ := h
    exact ⟨_, pss_one (ps_ost (pv 0) (pv 1)), _, rfl, _, rfl, a, C, rfl, T, no, .inl ⟨ha, fun dx h1 h2 => k dx h1 h2⟩⟩
abbrev sINoChunk : Stmt := inClass (top 23) 0
theorem scNoChunk : FnScope ["self", "at"] ["self", "at"] (C8.fnScope sINoChunk) := C8.fnScope_by (by decide +kernel)
theorem fn_NoChunk {C f : Addr} {fd : FuncData} (F : C8.Fun K "__init__" "NoChunk.__init__" sINoChunk f fd) (T : OexC K C) (no : PySem.W.findIn K (.ref C) "at" = some none) : FnOk P w K mg base C8.CX0 1 f fd ["self", "at"] (spE1 C "at") := by
  refine C8.fn0 F scNoChunk (fun vs H Q E h => ?_) (fun cdv A outer st H vs Q E hr h => ?_)
  · obtain ⟨a, v, rfl, _⟩ := h
    rfl
  · obtain ⟨a, v, rfl, ha, k⟩ := h
    exact ⟨_, pss_one (ps_ost (pv 0) (pv 1)), _, rfl, _, rfl, a, C, rfl, T, no, .inl ⟨ha, fun dx h1 h2 => k dx h1 h2⟩⟩
abbrev sINoLoop : Stmt := inClass (top 24) 0
theorem scNoLoop : FnScope ["self", "name"] ["self", "name"] (C8.fnScope sINoLoop) := C8.fnScope_by (by decide +kernel)
theorem fn_NoLoop {C f : Addr} {fd : FuncData} (F : C8.Fun K "__init__" "NoLoop.__init__" sINoLoop f fd) (T : OexC K C) (no : PySem.W.findIn K (.ref C) "name" = some none) : FnOk P w K mg base C8.CX0 1 f fd ["self", "name"] (spE1 C "name") := by
  refine C8.fn0 F scNoLoop (fun vs H Q E h => ?_) (fun cdv A outer st H vs Q E hr h => ?_)
  · obtain ⟨a, v, rfl, _⟩ := h
    rfl
  · obtain ⟨a, v, rfl, ha, k⟩ := h
    exact ⟨_, pss_one (ps_ost (pv 0) (pv 1)), _, rfl, _, rfl, a, C, rfl, T, no, .inl ⟨ha, fun dx h1 h2 => k dx h1 h2⟩⟩
abbrev sITooMany : Stmt := inClass (top 25) 0
theorem scTooMany : FnScope ["self", "what", "most"] ["self", "what", "most"] (C8.fnScope sITooMany) := C8.fnScope_by (by decide +kernel)
theorem fn_TooMany {C f : Addr} {fd : FuncData} (F : C8.Fun K "__init__" "TooMany.__init__" sITooMany f fd) (T : OexC K C) (no1 : PySem.W.findIn K (.ref C) "what" = some none) (no2 : PySem.W.findIn K (.ref C) "most" = some none) : FnOk P w K mg base C8.CX0 1 f fd ["self", "what", "most"] (spE2 C "what" "most") := by
  refine C8.fn0 F scTooMany (fun vs H Q E h => ?_) (fun cdv A outer st H vs Q E hr h => ?_)
  · obtain ⟨a, v1, v2, rfl, _⟩ := h
    rfl
  · obtain ⟨a, v1, v2, rfl, ha, k⟩ := h
    refine ⟨_, pss_cons (ps_ost (pv 0) (pv 1)) (pss_one (ps_ost (pv 0) (pv 2))), ?_⟩
    refine ⟨_, rfl, _, rfl, a, C, rfl, T, no1, .inl ⟨ha, fun dx h1 h2 => ?_⟩⟩
    refine ⟨_, rfl, _, rfl, a, C, rfl, T, no2, .inr ⟨dx, [("what", v1)], upd_same, (by rw [upd_ne h2]; exact upd_same), (by show 1 ≤ 900; decide), ?_⟩⟩
    rw [two_fields h2]
    exact k dx h1 h2 _ (by rw [lookup_put, if_neg (by decide +kernel), lookup_put, if_pos rfl]) (by rw [lookup_put, if_pos rfl])
abbrev sITooStrict : Stmt := inClass (top 26) 0
theorem scTooStrict : FnScope ["self", "limit"] ["self", "limit"] (C8.fnScope sITooStrict) := C8.fnScope_by (by decide +kernel)
theorem fn_TooStrict {C f : Addr} {fd : FuncData} (F : C8.Fun K "__init__" "TooStrict.__init__" sITooStrict f fd) (T : OexC K C) (no : PySem.W.findIn K (.ref C) "limit" = some none) : FnOk P w K mg base C8.CX0 1 f fd ["self", "limit"] (spE1 C "limit") := by
  refine C8.fn0 F scTooStrict (fun vs H Q E h => ?_) (fun cdv A outer st H vs Q E hr h => ?_)
  · obtain ⟨a, v, rfl, _⟩ := h
    rfl
  · obtain ⟨a, v, rfl, ha, k⟩ := h
    exact ⟨_, pss_one (ps_ost (pv 0) (pv 1)), _, rfl, _, rfl, a, C, rfl, T, no, .inl ⟨ha, fun dx h1 h2 => k dx h1 h2⟩⟩
end
end Lw
namespace Lw
open PySem PySem.Spec PyProof.Rows L2

open LamX
/-! ### the classes, their fields -/
/-- the second, then the first, as the keywords stand -/
def swG {α : Type} (us ws : List α) : List α := match ws with
  | [b, a] => us ++ [a, b]
  | _ => us
structure XC1 (P : Program) (w : World) (K : PySem.W.Frag) (mg : Str → Option Value) (base : Heap) (n : Str) (C : Addr) (f : Str) : Prop where
  T : OexC K C
  hm : mg n = some (.ref C)
  ini : ∃ (fI : Addr) (fd : FuncData), PySem.W.findIn K (.ref C) "__init__" = some (some (.ref fI)) ∧ PySem.W.typeIn K (.ref fI) = some (.type "function") ∧ FnOk P w K mg base C8.CX0 1 fI fd ["self", f] (spE1 C f) ∧ Binds K fd ["self", f] [] ∧ ∃ gU : List Value → List Value → List Value, KBn K fd ["self", f] 1 [f] gU (fun vs zs => vs ++ zs)
  xf : XfC K C
  no : PySem.W.findIn K (.ref C) f = some none
structure XC2 (P : Program) (w : World) (K : PySem.W.Frag) (mg : Str → Option Value) (base : Heap) (n : Str) (C : Addr) (f1 f2 : Str) : Prop where
  T : OexC K C
  hm : mg n = some (.ref C)
  ini : ∃ (fI : Addr) (fd : FuncData), PySem.W.findIn K (.ref C) "__init__" = some (some (.ref fI)) ∧ PySem.W.typeIn K (.ref fI) = some (.type "function") ∧ FnOk P w K mg base C8.CX0 1 fI fd ["self", f1, f2] (spE2 C f1 f2) ∧ Binds K fd ["self", f1, f2] [] ∧ ∃ gU : List Value → List Value → List Value, KBn K fd ["self", f1, f2] 1 [f2, f1] gU swG
  xf : XfC K C
  no1 : PySem.W.findIn K (.ref C) f1 = some none
  no2 : PySem.W.findIn K (.ref C) f2 = some none
abbrev bmVE : List Value := [.type "ValueError", .type "Exception", .type "BaseException", .type "object"]
/-- .. without an __init__ -/
structure XC0 (K : PySem.W.Frag) (mg : Str → Option Value) (n : Str) (C : Addr) : Prop where
  ex : PySem.W.excIn K C bmVE "ValueError.__new__" = true
  hm : mg n = some (.ref C)
  kp : PySem.W.keepIn K (.ref C) = true
/-- an expression, its reading made monotone -/
def mono (te : TE) : TE := fun σ H Q => ∃ Q' : VK, te σ H Q' ∧ ∀ v H', Q' v H' → Q v H'
section
variable {X : Cx} {n : Str} {C : Addr} {f f1 f2 : Str} {p pos kp kp2 : Pos} {e e2 : Expr} {te te2 : TE} {j : Nat}
theorem PE.mono (h : PE X e te) : PE X e (mono te) := ⟨fun pins s σ H Q I ⟨Q', q, k⟩ => thn (h.run pins s σ H Q' I q) fun u s1 ⟨v, H1, I1, r, z⟩ => ⟨v, H1, I1, r, k v H1 z⟩⟩
def tX0 : TE := fun _ H Q => ∀ a C' H', Same H H' → H a = none → H' a = some (exo a C' none) → Q (.ref a) H'
def tX1 (C : Addr) (f : Str) (te : TE) : TE := fun σ H Q => te σ H fun v H1 => ∀ a H', Same H1 H' → H1 a = none → ExAt a C [(f, v)] H' → Q (.ref a) H'
def tX2 (C : Addr) (f1 f2 : Str) (te te2 : TE) : TE := fun σ H Q => te σ H fun v H1 => te2 σ H1 fun v2 H2 => ∀ a fs H', Same H2 H' → H2 a = none → fs.lookup f1 = some v → fs.lookup f2 = some v2 → ExAt a C fs H' → Q (.ref a) H'
/-- .. the second field's value stands first -/
def tX2k (C : Addr) (f1 f2 : Str) (te te2 : TE) : TE := fun σ H Q => te σ H fun v H1 => te2 σ H1 fun v2 H2 => ∀ a fs H', Same H2 H' → H2 a = none → fs.lookup f1 = some v2 → fs.lookup f2 = some v → ExAt a C fs H' → Q (.ref a) H'
theorem pe_x1 (Z : XC1 X.prog X.w X.K X.mg X.base n C f) (hr : Room (j + 2) X.A) (hg : Gl X n) (he : PE X e te) (hdb : (n == ("__debug__" : Str)) = false := by decide) (hst : starEach [e] X.env = (false, eval e X.env) :: starEach [] X.env := by rfl) (hpl : (backTo pos (starEach [] X.env)).any (·.1) = false := by rfl) : PE X (.Call (.Name n p) [e] [] pos) (tX1 C f te) := by
  obtain ⟨fI, fd, i1, i2, F, b, _⟩ := Z.ini
  refine ⟨fun pins s σ H Q I h => (pe_oexV Z.T i1 i2 F (hr.mono (by omega)) b .nil C8.pass0 hg Z.hm (pa_cons (Lw.PE.mono he) pa_nil hst) hdb hst hpl).run pins s σ H Q I ?_⟩
  exact ⟨_, h, fun v H1 k => ⟨(by show 1 ≤ 1000; decide), fun a na => mk1 k a na⟩⟩
theorem pe_x1k (Z : XC1 X.prog X.w X.K X.mg X.base n C f) (hr : Room (j + 2) X.A) (hg : Gl X n) (he : PE X e te)
    (hall : (backToKw pos (keywordEach [⟨some f, e, kp⟩] X.env)).all (·.1.isSome) = true := by rfl) (hks : (backToKw pos (keywordEach [⟨some f, e, kp⟩] X.env)).filterMap (·.1) = [f] := by rfl) (hdb : (n == ("__debug__" : Str)) = false := by decide)
    (hpl : ((backTo pos (starEach [] X.env)).any (·.1) || (backToKw pos (keywordEach [⟨some f, e, kp⟩] X.env)).any (·.1.isNone)) = false := by rfl) : PE X (.Call (.Name n p) [] [⟨some f, e, kp⟩] pos) (tX1 C f te) := by
  obtain ⟨fI, fd, i1, i2, F, _, gU, b⟩ := Z.ini
  refine ⟨fun pins s σ H Q I h => (pe_oexK Z.T i1 i2 F (hr.mono (by omega)) b C8.pass0 hg Z.hm (pk_cons (Lw.PE.mono he) pk_nil) hall hks hdb hpl).run pins s σ H Q I ?_⟩
  exact ⟨_, h, fun v H1 k => ⟨rfl, fun a na => mk1 k a na⟩⟩
theorem pe_x2 (Z : XC2 X.prog X.w X.K X.mg X.base n C f1 f2) (hr : Room (j + 2) X.A) (hg : Gl X n) (he : PE X e te) (he2 : PE X e2 te2) (hdb : (n == ("__debug__" : Str)) = false := by decide) (hst : starEach [e, e2] X.env = (false, eval e X.env) :: starEach [e2] X.env := by rfl) (hst2 : starEach [e2] X.env = (false, eval e2 X.env) :: starEach [] X.env := by rfl) (hpl : (backTo pos (starEach [e2] X.env)).any (·.1) = false := by rfl) : PE X (.Call (.Name n p) [e, e2] [] pos) (tX2 C f1 f2 te te2) := by
  obtain ⟨fI, fd, i1, i2, F, b, _⟩ := Z.ini
  refine ⟨fun pins s σ H Q I h => (pe_oexV Z.T i1 i2 F (hr.mono (by omega)) b .nil C8.pass0 hg Z.hm (pa_cons (Lw.PE.mono he) (pa_cons (Lw.PE.mono he2) pa_nil hst2) hst) hdb hst hpl).run pins s σ H Q I ?_⟩
  exact ⟨_, h, fun v H1 k => ⟨_, k, fun v2 H2 k => ⟨(by show 2 ≤ 1000; decide), fun a na => mk2 k a na⟩⟩⟩
theorem pe_x2k (Z : XC2 X.prog X.w X.K X.mg X.base n C f1 f2) (hr : Room (j + 2) X.A) (hg : Gl X n) (he : PE X e te) (he2 : PE X e2 te2)
    (hall : (backToKw pos (keywordEach [⟨some f2, e, kp⟩, ⟨some f1, e2, kp2⟩] X.env)).all (·.1.isSome) = true := by rfl) (hks : (backToKw pos (keywordEach [⟨some f2, e, kp⟩, ⟨some f1, e2, kp2⟩] X.env)).filterMap (·.1) = [f2, f1] := by rfl) (hdb : (n == ("__debug__" : Str)) = false := by decide)
    (hpl : ((backTo pos (starEach [] X.env)).any (·.1) || (backToKw pos (keywordEach [⟨some f2, e, kp⟩, ⟨some f1, e2, kp2⟩] X.env)).any (·.1.isNone)) = false := by rfl) : PE X (.Call (.Name n p) [] [⟨some f2, e, kp⟩, ⟨some f1, e2, kp2⟩] pos) (tX2k C f1 f2 te te2) := by
  obtain ⟨fI, fd, i1, i2, F, _, gU, b⟩ := Z.ini
  refine ⟨fun pins s σ H Q I h => (pe_oexK Z.T i1 i2 F (hr.mono (by omega)) b C8.pass0 hg Z.hm (pk_cons (Lw.PE.mono he) (pk_cons (Lw.PE.mono he2) pk_nil)) hall hks hdb hpl).run pins s σ H Q I ?_⟩
  exact ⟨_, h, fun v H1 k => ⟨_, k, fun v2 H2 k => ⟨rfl, fun a na => mk2 k a na⟩⟩⟩
end
/-! ### the lambdas that tell -/
abbrev lamSc (x : Str) : Scope := { kind := .function, names := [(x, .local)], isGenerator := false, isCoroutine := false, more := [] }
abbrev lamPa (x : Str) (p : Pos) : Arguments := { posonlyargs := [], args := [{ arg := x, annotation := none, pos := p }], vararg := none, kwonlyargs := [], kw_defaults := [], kwarg := none, defaults := [] }
abbrev xE : Str := "_law_error"
abbrev xM : Str := "_law_mistake"
theorem scE : FnScope [xE] [xE] (lamSc xE) := C8.fnScope_by (by decide +kernel)
theorem scM : FnScope [xM] [xM] (lamSc xM) := C8.fnScope_by (by decide +kernel)
def spT0 : Sp := fun vs H Q _ => ∃ v : V, vs = [v] ∧ ∀ l H', Same H H' → l ≠ sysModules → H' l = some (.lst []) → Q (.ref l) H'
def spT1 (C : Addr) (f : Str) : Sp := fun vs H Q _ => ∃ (a : Addr) (fs : List (Str × V)) (v : V), vs = [.ref a] ∧ ExAt a C fs H ∧ fs.lookup f = some v ∧ ∀ l H', Same H H' → l ≠ sysModules → H' l = some (.lst [v]) → Q (.ref l) H'
def spT2 (C : Addr) (f1 f2 : Str) : Sp := fun vs H Q _ => ∃ (a : Addr) (fs : List (Str × V)) (v1 v2 : V), vs = [.ref a] ∧ ExAt a C fs H ∧ fs.lookup f1 = some v1 ∧ fs.lookup f2 = some v2 ∧ ∀ l H', Same H H' → l ≠ sysModules → H' l = some (.lst [v1, v2]) → Q (.ref l) H'
section
variable {P : Program} {w : World} {K : PySem.W.Frag} {mg : Str → Option Value} {base : Heap} {q : Str} {p0 p1 p2 p3 p4 p5 : Pos} {C fa c' : Addr} {f f1 f2 : Str}
theorem lf_T0 : LamF P w K mg base 0 [xE] spT0 q (lamPa xE p0) (.List [] p3) (lamSc xE) fa c' := by
  refine ⟨scE, fun pm cv ctv us hl => ?_, fun vs H Q E h => ?_, fun A out s H vs Q hr h => ?_⟩
  · match us, hl with | [_], _ => rfl
  · obtain ⟨v, rfl, _⟩ := h; rfl
  · obtain ⟨v, rfl, k⟩ := h
    exact ⟨_, pe_lstS pa_nil, (by show 0 ≤ sizeLine; decide), fun l nl ne => k l _ (same_new nl) ne upd_same⟩
theorem lf_T1 (T : XfC K C) (no : PySem.W.findIn K (.ref C) f = some none) : LamF P w K mg base 0 [xE] (spT1 C f) q (lamPa xE p0) (.List [.Attribute (.Name xE p1) f p2] p3) (lamSc xE) fa c' := by
  refine ⟨scE, fun pm cv ctv us hl => ?_, fun vs H Q E h => ?_, fun A out s H vs Q hr h => ?_⟩
  · match us, hl with | [_], _ => rfl
  · obtain ⟨a, fs, v, rfl, _⟩ := h; rfl
  · obtain ⟨a, fs, v, rfl, h1, h2, k⟩ := h
    exact ⟨_, pe_lstS (pa_cons (pe_xat T no (pv 0) (by rfl)) pa_nil), _, rfl, a, fs, v, rfl, h1, h2, (by show 1 ≤ sizeLine; decide), fun l nl ne => k l _ (same_new nl) ne upd_same⟩
theorem lf_T2 (T : XfC K C) (no1 : PySem.W.findIn K (.ref C) f1 = some none) (no2 : PySem.W.findIn K (.ref C) f2 = some none) : LamF P w K mg base 0 [xE] (spT2 C f1 f2) q (lamPa xE p0) (.List [.Attribute (.Name xE p1) f1 p2, .Attribute (.Name xE p4) f2 p5] p3) (lamSc xE) fa c' := by
  refine ⟨scE, fun pm cv ctv us hl => ?_, fun vs H Q E h => ?_, fun A out s H vs Q hr h => ?_⟩
  · match us, hl with | [_], _ => rfl
  · obtain ⟨a, fs, v1, v2, rfl, _⟩ := h; rfl
  · obtain ⟨a, fs, v1, v2, rfl, h1, h2, h3, k⟩ := h
    exact ⟨_, pe_lstS (pa_cons (pe_xat T no1 (pv 0) (by rfl)) (pa_cons (pe_xat T no2 (pv 0) (by rfl)) pa_nil)), _, rfl, a, fs, v1, rfl, h1, h2, _, rfl, a, fs, v2, rfl, h1, h3, (by show 2 ≤ sizeLine; decide), fun l nl ne => k l _ (same_new nl) ne upd_same⟩
end
end Lw
namespace Lw
open PySem PySem.Spec PyProof.Rows L2

open LamX
structure Clss (P : Program) (w : World) (K : PySem.W.Frag) (mg : Str → Option Value) (base : Heap) (D : Nat → Addr) (L : Addr) : Prop where
  c0 : XC1 P w K mg base "BadName" (D 0) "value"
  c1 : XC1 P w K mg base "BadSize" (D 1) "value"
  c2 : XC1 P w K mg base "BadSpeed" (D 2) "value"
  c3 : XC1 P w K mg base "BadCost" (D 3) "value"
  c4 : XC1 P w K mg base "BadFee" (D 4) "value"
  c5 : XC1 P w K mg base "BadTotal" (D 5) "value"
  c6 : XC1 P w K mg base "BadLimit" (D 6) "value"
  c7 : XC1 P w K mg base "BadRatio" (D 7) "value"
  c8 : XC1 P w K mg base "BadRest" (D 8) "value"
  c9 : XC1 P w K mg base "BadChunks" (D 9) "part"
  c10 : XC1 P w K mg base "BadCrew" (D 10) "part"
  c11 : XC1 P w K mg base "BadSetting" (D 11) "part"
  c12 : XC1 P w K mg base "BadWorld" (D 12) "part"
  c13 : XC1 P w K mg base "BadRule" (D 13) "part"
  c14 : XC1 P w K mg base "BadLog" (D 14) "part"
  c15 : XC1 P w K mg base "BadLoop" (D 15) "part"
  c16 : XC1 P w K mg base "BadPool" (D 16) "part"
  c17 : XC1 P w K mg base "BadPaper" (D 17) "part"
  c18 : XC2 P w K mg base "BadText" (D 18) "line" "word"
  c19 : XC1 P w K mg base "BadLine" (D 19) "word"
  c20 : XC1 P w K mg base "NoWorker" (D 20) "name"
  c21 : XC1 P w K mg base "NoChunk" (D 21) "at"
  c22 : XC1 P w K mg base "NoLoop" (D 22) "name"
  c23 : XC2 P w K mg base "TooMany" (D 23) "what" "most"
  c24 : XC1 P w K mg base "TooStrict" (D 24) "limit"
  c25 : XC0 K mg "Nothing" (D 25)
  kit : ∀ i j, i < 26 → j < 26 → PySem.W.kitOne K (.ref (D i)) (.ref (D j)) = some (decide (i = j))
  kitL : ∀ i, i < 26 → PySem.W.kitOne K (.ref (D i)) (.ref L) = some true
  kitV : ∀ i, i < 26 → PySem.W.kitOne K (.ref (D i)) (.type "ValueError") = some true
  xc : ∀ i, i < 26 → Hx.XCls K (D i)
  mgL : mg "LateError" = some (.ref L)

/-! ### the items that are made -/
def TellAt (P : Program) (w : World) (K : PySem.W.Frag) (mg : Str → Option Value) (base : Heap) (H : Hp) (tf e : Addr) (vs : List V) : Prop := ∃ (ps : List Str) (sp : Sp), LamAt P w K mg base 0 ps sp H tf ∧
  ∀ (H1 : Hp) (Q : VK), ExtN H H1 → (∀ l H2, Same H1 H2 → l ≠ sysModules → H2 l = some (.lst vs) → Q (.ref l) H2) → sp [.ref e] H1 Q C8.E0
structure ItAt (P : Program) (w : World) (K : PySem.W.Frag) (mg : Str → Option Value) (base : Heap) (D : Nat → Addr) (H : Hp) (v : V) (n : Nat) : Prop where
  ex : ∃ (t e tf dl : Addr) (fs : List (Str × V)) (vs : List V) (ds : List PyData), v = .ref t ∧ H t = some (.tup [.ref e, .ref tf, .ref dl, .int n]) ∧ n < 26 ∧ ExAt e (D n) fs H ∧ TellAt P w K mg base H tf e vs ∧
    H dl = some (.lst vs) ∧ dl ≠ sysModules ∧ VrAll H vs ds ∧ (∀ d ∈ ds, Gd d) ∧ ds.length ≤ 2
inductive ItAll (P : Program) (w : World) (K : PySem.W.Frag) (mg : Str → Option Value) (base : Heap) (D : Nat → Addr) (H : Hp) : List V → List Nat → Prop where
  | nil : ItAll P w K mg base D H [] []
  | cons {v : V} {vs : List V} {n : Nat} {ns : List Nat} : ItAt P w K mg base D H v n → ItAll P w K mg base D H vs ns → ItAll P w K mg base D H (v :: vs) (n :: ns)
theorem exo_tblN {e C : Addr} {d : Option Addr} (ps : Array Value) : exo e C d ≠ .tbl ps := exo_tbl
section
variable {P : Program} {w : World} {K : PySem.W.Frag} {mg : Str → Option Value} {base : Heap} {D : Nat → Addr}
theorem Same.extn {H H' : Hp} (s : Same H H') : ExtN H H' := fun b o e _ => s b o e
theorem ItAt.extn {H H' : Hp} {v : V} {n : Nat} (h : ItAt P w K mg base D H v n) (x : ExtN H H') : ItAt P w K mg base D H' v n := by
  obtain ⟨t, e, tf, dl, fs, vs, ds, h1, h2, h3, h4, ⟨ps, sp, h5, h5'⟩, h6, h7, h8, h9, h10⟩ := h.ex
  exact ⟨t, e, tf, dl, fs, vs, ds, h1, x _ _ h2 (fun _ z => by cases z), h3, h4.extn x, ⟨ps, sp, h5.extn x, fun H1 Q y k => h5' H1 Q (x.trans y) k⟩, x _ _ h6 (fun _ z => by cases z), h7, h8.extn x, h9, h10⟩
theorem ItAll.extn {H H' : Hp} (x : ExtN H H') : ∀ {vs : List V} {ns : List Nat}, ItAll P w K mg base D H vs ns → ItAll P w K mg base D H' vs ns
  | _, _, .nil => .nil
  | _, _, .cons a r => .cons (a.extn x) (r.extn x)
theorem ItAll.at_ {H : Hp} : ∀ {vs : List V} {ns : List Nat} {i : Nat} {v : V}, ItAll P w K mg base D H vs ns → vs[i]? = some v → ∃ n, ItAt P w K mg base D H v n
  | _, _, 0, _, .cons a _, e => by cases e; exact ⟨_, a⟩
  | _, _, i + 1, _, .cons _ r, e => r.at_ (i := i) e
abbrev tabM (B B2 : Addr) : List (Addr × Str) := [(B, (("_law_made" : Str) ++ (".<locals>." : Str)) ++ ("<lambda>" : Str)), (B2, (("_law_kinds" : Str) ++ (".<locals>." : Str)) ++ ("<lambda>" : Str))]
/-- what an expression of the list gives: an item -/
def VI (P : Program) (w : World) (K : PySem.W.Frag) (mg : Str → Option Value) (base : Heap) (D : Nat → Addr) (T : List (Addr × Str)) (v1 v2 : V) (d1 d2 : PyData) (te : TE) (n : Nat) : Prop :=
  ∀ (H1 : Hp) (Q : VK), Tabs T H1 → Vr H1 v1 d1 → Vr H1 v2 d2 → (∀ v H', ExtN H1 H' → Tabs T H' → ItAt P w K mg base D H' v n → Q v H') → te [some v1, some v2] H1 Q
def VIA (P : Program) (w : World) (K : PySem.W.Frag) (mg : Str → Option Value) (base : Heap) (D : Nat → Addr) (T : List (Addr × Str)) (v1 v2 : V) (d1 d2 : PyData) (ta : TA) (ns : List Nat) : Prop :=
  ∀ (H1 : Hp) (Q : List V → Hp → Prop), Tabs T H1 → Vr H1 v1 d1 → Vr H1 v2 d2 → (∀ vs H', ExtN H1 H' → Tabs T H' → ItAll P w K mg base D H' vs ns → vs.length = ns.length → Q vs H') → ta [some v1, some v2] H1 Q
variable {T : List (Addr × Str)} {v1 v2 : V} {d1 d2 : PyData}
theorem VIA.nil : VIA P w K mg base D T v1 v2 d1 d2 tNil [] := fun H1 Q t _ _ k => k _ H1 (ExtN.refl _) t .nil rfl
theorem VIA.cons {te : TE} {ta : TA} {n : Nat} {ns : List Nat} (h : VI P w K mg base D T v1 v2 d1 d2 te n) (r : VIA P w K mg base D T v1 v2 d1 d2 ta ns) : VIA P w K mg base D T v1 v2 d1 d2 (tCons te ta) (n :: ns) := fun H1 Q t a b k =>
  h H1 _ t a b fun v H2 x t2 it => r H2 _ t2 (a.extn x) (b.extn x) fun vs H3 x3 t3 its hl => k _ H3 (x.trans x3) t3 (.cons (it.extn x3) its) (by rw [List.length_cons, List.length_cons, hl])
/-- the tuple's end: the lambda, the list, the number -/
theorem vi_end {H1 H2 : Hp} {Q : VK} {e : Addr} {n : Nat} {sp : Sp} {ta : TA} {vs : List V} {ds : List PyData} {fs : List (Str × V)} (hn : n < 26) (t : Tabs T H2) (x1 : ExtN H1 H2) (ea : ExAt e (D n) fs H2)
    (hta : ∀ (H : Hp) (R : List V → Hp → Prop), R vs H → ta [some v1, some v2] H R) (hvs : vs.length ≤ 2) (vr : ∀ H3, ExtN H1 H3 → VrAll H3 vs ds) (gd : ∀ d ∈ ds, Gd d) (hds : ds.length ≤ 2)
    (tell : ∀ (H4 : Hp) (R : VK), ExAt e (D n) fs H4 → (∀ l H5, Same H4 H5 → l ≠ sysModules → H5 l = some (.lst vs) → R (.ref l) H5) → sp [.ref e] H4 R C8.E0) (k : ∀ v H', ExtN H1 H' → Tabs T H' → ItAt P w K mg base D H' v n → Q v H') :
    tCons (tLamN P w K mg base 0 [xE] sp T) (tCons (tLstS ta) (tCons (tC (.int n)) tNil)) [some v1, some v2] H2 fun us H3 => us.length + 1 ≤ sizeLine ∧ ∀ p, H3 p = none → Q (.ref p) (upd H3 p (.tup (.ref e :: us))) := by
  refine ⟨t, fun tf H3 x3 t3 n3 la => hta _ _ ⟨(by rw [sizeLine_eq]; omega), fun l nl ne => ⟨(by show 4 ≤ sizeLine; decide), fun p np => ?_⟩⟩⟩
  have s4 := same_new (o := HO.lst vs) nl
  have a4 : upd H3 l (HO.lst vs) l = some (.lst vs) := upd_same
  generalize upd H3 l (HO.lst vs) = H4 at s4 a4 np ⊢
  have s5 := same_new (o := HO.tup [.ref e, .ref tf, .ref l, .int n]) np
  have a5 : upd H4 p (HO.tup [.ref e, .ref tf, .ref l, .int n]) p = some (.tup [.ref e, .ref tf, .ref l, .int n]) := upd_same
  show Q (.ref p) (upd H4 p (HO.tup [.ref e, .ref tf, .ref l, .int n]))
  generalize upd H4 p (HO.tup [.ref e, .ref tf, .ref l, .int n]) = H5 at s5 a5 ⊢
  have x5 : ExtN H3 H5 := (Same.extn s4).trans (Same.extn s5)
  exact k _ _ ((x1.trans x3).trans x5) ((t3.ext s4).ext s5) ⟨p, e, tf, l, fs, vs, ds, rfl, a5, hn, (ea.extn x3).extn x5, ⟨[xE], sp, la.extn x5, fun H6 R x6 kk => tell H6 R (((ea.extn x3).extn x5).extn x6) kk⟩, s5 _ _ a4, ne, vr _ ((x1.trans x3).trans x5), gd, hds⟩
theorem vi_0 {n : Nat} (hn : n < 26) : VI P w K mg base D T v1 v2 d1 d2 (tTup (tCons (fun _ H Q => ∀ a, H a = none → Q (.ref a) (upd H a (exo a (D n) none))) (tCons (tLamN P w K mg base 0 [xE] spT0 T) (tCons (tLstS tNil) (tCons (tC (.int n)) tNil))))) n := by
  intro H1 Q t r1 r2 k a na
  have s1 := same_new (o := exo a (D n) none) na
  exact vi_end (ds := []) hn (t.ext s1) (Same.extn s1) (.inr ⟨rfl, upd_same⟩) (fun H R h => h) (Nat.zero_le _) (fun _ _ => .nil) (fun d hd => by cases hd) (Nat.zero_le _) (fun H4 R ea kk => ⟨_, rfl, kk⟩) k
theorem vi_1 {n : Nat} {f : Str} (hn : n < 26) (g1 : Gd d1 := by assumption) : VI P w K mg base D T v1 v2 d1 d2 (tTup (tCons (tX1 (D n) f (tVar 0)) (tCons (tLamN P w K mg base 0 [xE] (spT1 (D n) f) T) (tCons (tLstS (tCons (tVar 0) tNil)) (tCons (tC (.int n)) tNil))))) n := by
  intro H1 Q t r1 r2 k
  refine ⟨v1, rfl, fun a H2 s2 _ ea => ?_⟩
  exact vi_end (vs := [v1]) (ds := [d1]) hn (t.ext s2) (Same.extn s2) ea (fun H R h => ⟨v1, rfl, h⟩) (by decide : 1 ≤ 2) (fun H3 x => .cons (r1.extn x) .nil) (fun d hd => by rw [List.mem_singleton.mp hd]; exact g1) (by decide : 1 ≤ 2) (fun H4 R ea kk => ⟨a, _, v1, rfl, ea, by rw [List.lookup_cons_self], kk⟩) k
theorem vi_2 {n : Nat} {f1 f2 : Str} (hn : n < 26) (g1 : Gd d1 := by assumption) (g2 : Gd d2 := by assumption) : VI P w K mg base D T v1 v2 d1 d2 (tTup (tCons (tX2 (D n) f1 f2 (tVar 0) (tVar 1)) (tCons (tLamN P w K mg base 0 [xE] (spT2 (D n) f1 f2) T) (tCons (tLstS (tCons (tVar 0) (tCons (tVar 1) tNil))) (tCons (tC (.int n)) tNil))))) n := by
  intro H1 Q t r1 r2 k
  refine ⟨v1, rfl, v2, rfl, fun a fs H2 s2 _ e1 e2 ea => ?_⟩
  exact vi_end (vs := [v1, v2]) (ds := [d1, d2]) hn (t.ext s2) (Same.extn s2) ea (fun H R h => ⟨v1, rfl, v2, rfl, h⟩) (by decide : 2 ≤ 2) (fun H3 x => .cons (r1.extn x) (.cons (r2.extn x) .nil)) (fun d hd => by simp only [List.mem_cons, List.not_mem_nil, or_false] at hd; rcases hd with rfl | rfl <;> assumption) (by decide : 2 ≤ 2) (fun H4 R ea kk => ⟨a, fs, v1, v2, rfl, ea, e1, e2, kk⟩) k
theorem vi_2k {n : Nat} {f1 f2 : Str} (hn : n < 26) (g1 : Gd d1 := by assumption) (g2 : Gd d2 := by assumption) : VI P w K mg base D T v1 v2 d1 d2 (tTup (tCons (tX2k (D n) f1 f2 (tVar 0) (tVar 1)) (tCons (tLamN P w K mg base 0 [xE] (spT2 (D n) f1 f2) T) (tCons (tLstS (tCons (tVar 1) (tCons (tVar 0) tNil))) (tCons (tC (.int n)) tNil))))) n := by
  intro H1 Q t r1 r2 k
  refine ⟨v1, rfl, v2, rfl, fun a fs H2 s2 _ e1 e2 ea => ?_⟩
  exact vi_end (vs := [v2, v1]) (ds := [d2, d1]) hn (t.ext s2) (Same.extn s2) ea (fun H R h => ⟨v2, rfl, v1, rfl, h⟩) (by decide : 2 ≤ 2) (fun H3 x => .cons (r2.extn x) (.cons (r1.extn x) .nil)) (fun d hd => by simp only [List.mem_cons, List.not_mem_nil, or_false] at hd; rcases hd with rfl | rfl <;> assumption) (by decide : 2 ≤ 2) (fun H4 R ea kk => ⟨a, fs, v2, v1, rfl, ea, e1, e2, kk⟩) k
end
end Lw
namespace Lw
open PySem PySem.Spec PyProof.Rows L2

open LamX
structure DefC (K : PySem.W.Frag) (mg : Str → Option Value) (x : Str) (st : Stmt) (f : Addr) (fd : FuncData) (c : Addr) : Prop where
  ex : ∃ (oc : Value) (od : Option Addr) (dV kV doc pm : Value) (an : Option Addr) (ct : Value) (osl : Array (Option Value)),
    fd = PySem.W.fnOf x x (C8.fnArgs st) (C8.fnBody st) (C8.fnScope st) dV kV doc pm an (.ref c) ct ∧ K.lookup f = some ⟨oc, od, .func fd, osl⟩ ∧ PySem.W.codeIn K (.ref c) x = true
  mgf : mg x = some (.ref f)
  kp : PySem.W.keepIn K (.ref f) = true
theorem calGC {P : Program} {w : World} {K : PySem.W.Frag} {mg : Str → Option Value} {base : Heap} {x : Str} {st : Stmt} {f c : Addr} {fd : FuncData} {N ps : List Str} {ds : List Value} {dvs : List V} {k : Nat} {sp : Sp} (F : DefC K mg x st f fd c) (b : Binds K fd ps ds) (d : Vals dvs ds) (S : FnScope N ps (C8.fnScope st)) (len : ∀ vs H Q E, sp vs H Q E → vs.length = ps.length)
    (body : ∀ (A : Around) (outer : List Env) (s : Shared) (H : Hp) (vs : List V) (Q : VK) (E : XK), (A.deeper (envOfC x (C8.fnScope st) s.heap.objs.size f (.ref c))).guards = some [] → Room k (A.deeper (envOfC x (C8.fnScope st) s.heap.objs.size f (.ref c))) → sp vs H Q E →
      ∃ t, PSs (cxOf C8.CX0 P w K mg base N x (C8.fnScope st) f (.ref c) A outer s H E).nox (C8.fnBody st) t ∧ t { nx := fun _ H' => Q .non H', rt := Q } (start N vs) H) : CalG P w K mg base (k + 1) x sp dvs := by
  refine ⟨f, fd, ps, ds, ⟨len, ?_⟩, F.mgf, F.kp, b, d⟩
  intro A outer s H args us vs Q E hg hr e0 hb r hs
  obtain ⟨oc, od, dV, kV, doc, pm, an, ct, osl, rfl, lk, hcd⟩ := F.ex
  refine LamX.run_ofS lk hcd S hr e0 hb r (len _ _ _ _ hs) fun hr' => ?_
  obtain ⟨t, h1, h2⟩ := body A outer s H vs Q E hg hr' hs
  exact ⟨t, h1.nox, h2⟩
theorem Tabs.put {T : List (Addr × Str)} {H : Hp} {l : Addr} {o : HO} {xs : List V} (t : Tabs T H) (hl : H l = some (.lst xs)) : Tabs T (upd H l o) := by
  intro q hq
  obtain ⟨ps, h1, h2, h3⟩ := t q hq
  refine ⟨ps, ?_, h2, fun pos cv hc => ?_⟩
  · rw [upd_ne (fun e => by rw [e, hl] at h1; cases h1)]; exact h1
  · obtain ⟨c, e1, e2⟩ := h3 pos cv hc
    refine ⟨c, e1, ?_⟩
    rw [upd_ne (fun e => by rw [e, hl] at e2; unfold CodeO at e2; cases e2)]; exact e2
theorem Tabs.kp {T : List (Addr × Str)} {p pl : Addr} {n : Nat} {H H' : Hp} (t : Tabs T H) (hp : Pen H p pl n) (k : Kp p H H') : Tabs T H' := by
  intro q hq
  obtain ⟨ps, h1, h2, h3⟩ := t q hq
  obtain ⟨xs, a, g, hh, _⟩ := hp
  refine ⟨ps, k _ _ (fun e => ?_) h1, h2, fun pos cv hc => ?_⟩
  · rw [e, hh.at_] at h1; cases h1
  · obtain ⟨c, e1, e2⟩ := h3 pos cv hc
    refine ⟨c, e1, k _ _ (fun e => ?_) e2⟩
    rw [e, hh.at_] at e2
    unfold CodeO at e2
    cases e2
theorem Pen.extn {H H' : Hp} {p l : Addr} {n : Nat} (h : Pen H p l n) (e : ExtN H H') : Pen H' p l n := by
  obtain ⟨xs, a, g, ⟨h1, h2, h3, h4, h5⟩, h6⟩ := h
  have nl : ∀ (ys : List V) ps, HO.lst ys ≠ .tbl ps := fun ys ps z => by cases z
  exact ⟨xs, a, g, ⟨e _ _ h1 (nl _), e _ _ h2 (nl _), h3, h4, h5⟩, h6⟩

abbrev sMade : Stmt := top 33
abbrev nums : List Nat := [0, 1, 2, 3, 4, 5, 6, 7, 8, 9, 10, 11, 12, 13, 14, 15, 16, 17, 18, 18, 19, 20, 21, 22, 23, 23, 24, 25]
def spMade (P : Program) (w : World) (K : PySem.W.Frag) (mg : Str → Option Value) (base : Heap) (D : Nat → Addr) (T : List (Addr × Str)) : Sp := fun vs H Q _ => ∃ (v1 v2 : V) (d1 d2 : PyData), vs = [v1, v2] ∧ Vr H v1 d1 ∧ Vr H v2 d2 ∧ Gd d1 ∧ Gd d2 ∧ Tabs T H ∧
  ∀ (l : Addr) (xs : List V) (H' : Hp), ExtN H H' → Tabs T H' → H' l = some (.lst xs) → ItAll P w K mg base D H' xs nums → xs.length = nums.length → Q (.ref l) H'
section
variable {P : Program} {w : World} {K : PySem.W.Frag} {mg : Str → Option Value} {base : Heap}
theorem lst_via {D : Nat → Addr} {T : List (Addr × Str)} {v1 v2 : V} {d1 d2 : PyData} {ta : TA} {ns : List Nat} {H : Hp} {Q : VK} (h : VIA P w K mg base D T v1 v2 d1 d2 ta ns) (t : Tabs T H) (r1 : Vr H v1 d1) (r2 : Vr H v2 d2) (hl : ns.length ≤ 1000)
    (k : ∀ (l : Addr) (xs : List V) (H' : Hp), ExtN H H' → Tabs T H' → H' l = some (.lst xs) → ItAll P w K mg base D H' xs ns → xs.length = ns.length → Q (.ref l) H') : tLst ta [some v1, some v2] H Q :=
  h H _ t r1 r2 fun vs H' x t' its hl' => ⟨by rw [hl']; exact Nat.le_trans hl (by decide), fun l nl => k l vs _ (x.trans (Same.extn (same_new nl))) (t'.ext (same_new nl)) upd_same (its.extn (Same.extn (same_new nl))) hl'⟩
theorem scMade : FnScope ["_law_first", "_law_second"] ["_law_first", "_law_second"] (C8.fnScope sMade) := C8.fnScope_by (by decide +kernel)
theorem cal_made {f c B B2 L : Addr} {D : Nat → Addr} {fd : FuncData} (F : DefC K mg "_law_made" sMade f fd c) (b : Binds K fd ["_law_first", "_law_second"] []) (TB : TabB base mg c B) (nB : B2 ≠ B) (Z : Clss P w K mg base D L) :
    CalG P w K mg base 4 "_law_made" (spMade P w K mg base D (tabM B B2)) [] := by
  have hu : ∀ p ∈ tabM B B2, p.1 = B → p.2 = (("_law_made" : Str) ++ (".<locals>." : Str)) ++ ("<lambda>" : Str) := by
    intro p hp e
    simp only [List.mem_cons, List.not_mem_nil, or_false] at hp
    rcases hp with rfl | rfl
    · rfl
    · exact absurd e nB
  refine calGC F b .nil scMade (fun vs H Q E h => ?_) (fun A outer st H vs Q E hG hr h => ?_)
  · obtain ⟨v1, v2, d1, d2, rfl, _⟩ := h
    rfl
  · obtain ⟨v1, v2, d1, d2, rfl, r1, r2, g1, g2, t, k⟩ := h
    refine ⟨_, (pss_one (ps_ret (pe_lst (pa_cons (pe_tup (pa_cons (pe_x1 (j := 1) Z.c0 hr (by rfl) (pv 0)) (pa_cons (pe_lamN (k := 0) (ps := [xE]) (sp := (spT1 (D 0) "value")) (T := tabM B B2) TB rfl (List.Mem.head _) hu rfl (by decide) rfl (fun _ _ => lf_T1 Z.c0.xf Z.c0.no)) (pa_cons (pe_lstS (pa_cons (pv 0) pa_nil)) (pa_cons pe_int pa_nil)))))
 (pa_cons (pe_tup (pa_cons (pe_x1k (j := 1) Z.c1 hr (by rfl) (pv 0)) (pa_cons (pe_lamN (k := 0) (ps := [xE]) (sp := (spT1 (D 1) "value")) (T := tabM B B2) TB rfl (List.Mem.head _) hu rfl (by decide) rfl (fun _ _ => lf_T1 Z.c1.xf Z.c1.no)) (pa_cons (pe_lstS (pa_cons (pv 0) pa_nil)) (pa_cons pe_int pa_nil)))))
 (pa_cons (pe_tup (pa_cons (pe_x1 (j := 1) Z.c2 hr (by rfl) (pv 0)) (pa_cons (pe_lamN (k := 0) (ps := [xE]) (sp := (spT1 (D 2) "value")) (T := tabM B B2) TB rfl (List.Mem.head _) hu rfl (by decide) rfl (fun _ _ => lf_T1 Z.c2.xf Z.c2.no)) (pa_cons (pe_lstS (pa_cons (pv 0) pa_nil)) (pa_cons pe_int pa_nil)))))
 (pa_cons (pe_tup (pa_cons (pe_x1k (j := 1) Z.c3 hr (by rfl) (pv 0)) (pa_cons (pe_lamN (k := 0) (ps := [xE]) (sp := (spT1 (D 3) "value")) (T := tabM B B2) TB rfl (List.Mem.head _) hu rfl (by decide) rfl (fun _ _ => lf_T1 Z.c3.xf Z.c3.no)) (pa_cons (pe_lstS (pa_cons (pv 0) pa_nil)) (pa_cons pe_int pa_nil)))))
 (pa_cons (pe_tup (pa_cons (pe_x1 (j := 1) Z.c4 hr (by rfl) (pv 0)) (pa_cons (pe_lamN (k := 0) (ps := [xE]) (sp := (spT1 (D 4) "value")) (T := tabM B B2) TB rfl (List.Mem.head _) hu rfl (by decide) rfl (fun _ _ => lf_T1 Z.c4.xf Z.c4.no)) (pa_cons (pe_lstS (pa_cons (pv 0) pa_nil)) (pa_cons pe_int pa_nil)))))
 (pa_cons (pe_tup (pa_cons (pe_x1k (j := 1) Z.c5 hr (by rfl) (pv 0)) (pa_cons (pe_lamN (k := 0) (ps := [xE]) (sp := (spT1 (D 5) "value")) (T := tabM B B2) TB rfl (List.Mem.head _) hu rfl (by decide) rfl (fun _ _ => lf_T1 Z.c5.xf Z.c5.no)) (pa_cons (pe_lstS (pa_cons (pv 0) pa_nil)) (pa_cons pe_int pa_nil)))))
 (pa_cons (pe_tup (pa_cons (pe_x1 (j := 1) Z.c6 hr (by rfl) (pv 0)) (pa_cons (pe_lamN (k := 0) (ps := [xE]) (sp := (spT1 (D 6) "value")) (T := tabM B B2) TB rfl (List.Mem.head _) hu rfl (by decide) rfl (fun _ _ => lf_T1 Z.c6.xf Z.c6.no)) (pa_cons (pe_lstS (pa_cons (pv 0) pa_nil)) (pa_cons pe_int pa_nil)))))
 (pa_cons (pe_tup (pa_cons (pe_x1k (j := 1) Z.c7 hr (by rfl) (pv 0)) (pa_cons (pe_lamN (k := 0) (ps := [xE]) (sp := (spT1 (D 7) "value")) (T := tabM B B2) TB rfl (List.Mem.head _) hu rfl (by decide) rfl (fun _ _ => lf_T1 Z.c7.xf Z.c7.no)) (pa_cons (pe_lstS (pa_cons (pv 0) pa_nil)) (pa_cons pe_int pa_nil)))))
 (pa_cons (pe_tup (pa_cons (pe_x1 (j := 1) Z.c8 hr (by rfl) (pv 0)) (pa_cons (pe_lamN (k := 0) (ps := [xE]) (sp := (spT1 (D 8) "value")) (T := tabM B B2) TB rfl (List.Mem.head _) hu rfl (by decide) rfl (fun _ _ => lf_T1 Z.c8.xf Z.c8.no)) (pa_cons (pe_lstS (pa_cons (pv 0) pa_nil)) (pa_cons pe_int pa_nil)))))
 (pa_cons (pe_tup (pa_cons (pe_x1k (j := 1) Z.c9 hr (by rfl) (pv 0)) (pa_cons (pe_lamN (k := 0) (ps := [xE]) (sp := (spT1 (D 9) "part")) (T := tabM B B2) TB rfl (List.Mem.head _) hu rfl (by decide) rfl (fun _ _ => lf_T1 Z.c9.xf Z.c9.no)) (pa_cons (pe_lstS (pa_cons (pv 0) pa_nil)) (pa_cons pe_int pa_nil)))))
 (pa_cons (pe_tup (pa_cons (pe_x1 (j := 1) Z.c10 hr (by rfl) (pv 0)) (pa_cons (pe_lamN (k := 0) (ps := [xE]) (sp := (spT1 (D 10) "part")) (T := tabM B B2) TB rfl (List.Mem.head _) hu rfl (by decide) rfl (fun _ _ => lf_T1 Z.c10.xf Z.c10.no)) (pa_cons (pe_lstS (pa_cons (pv 0) pa_nil)) (pa_cons pe_int pa_nil)))))
 (pa_cons (pe_tup (pa_cons (pe_x1k (j := 1) Z.c11 hr (by rfl) (pv 0)) (pa_cons (pe_lamN (k := 0) (ps := [xE]) (sp := (spT1 (D 11) "part")) (T := tabM B B2) TB rfl (List.Mem.head _) hu rfl (by decide) rfl (fun _ _ => lf_T1 Z.c11.xf Z.c11.no)) (pa_cons (pe_lstS (pa_cons (pv 0) pa_nil)) (pa_cons pe_int pa_nil)))))
 (pa_cons (pe_tup (pa_cons (pe_x1 (j := 1) Z.c12 hr (by rfl) (pv 0)) (pa_cons (pe_lamN (k := 0) (ps := [xE]) (sp := (spT1 (D 12) "part")) (T := tabM B B2) TB rfl (List.Mem.head _) hu rfl (by decide) rfl (fun _ _ => lf_T1 Z.c12.xf Z.c12.no)) (pa_cons (pe_lstS (pa_cons (pv 0) pa_nil)) (pa_cons pe_int pa_nil)))))
 (pa_cons (pe_tup (pa_cons (pe_x1k (j := 1) Z.c13 hr (by rfl) (pv 0)) (pa_cons (pe_lamN (k := 0) (ps := [xE]) (sp := (spT1 (D 13) "part")) (T := tabM B B2) TB rfl (List.Mem.head _) hu rfl (by decide) rfl (fun _ _ => lf_T1 Z.c13.xf Z.c13.no)) (pa_cons (pe_lstS (pa_cons (pv 0) pa_nil)) (pa_cons pe_int pa_nil)))))
 (pa_cons (pe_tup (pa_cons (pe_x1 (j := 1) Z.c14 hr (by rfl) (pv 0)) (pa_cons (pe_lamN (k := 0) (ps := [xE]) (sp := (spT1 (D 14) "part")) (T := tabM B B2) TB rfl (List.Mem.head _) hu rfl (by decide) rfl (fun _ _ => lf_T1 Z.c14.xf Z.c14.no)) (pa_cons (pe_lstS (pa_cons (pv 0) pa_nil)) (pa_cons pe_int pa_nil)))))
 (pa_cons (pe_tup (pa_cons (pe_x1k (j := 1) Z.c15 hr (by rfl) (pv 0)) (pa_cons (pe_lamN (k := 0) (ps := [xE]) (sp := (spT1 (D 15) "part")) (T := tabM B B2) TB rfl (List.Mem.head _) hu rfl (by decide) rfl (fun _ _ => lf_T1 Z.c15.xf Z.c15.no)) (pa_cons (pe_lstS (pa_cons (pv 0) pa_nil)) (pa_cons pe_int pa_nil)))))
 (pa_cons (pe_tup (pa_cons (pe_x1 (j := 1) Z.c16 hr (by rfl) (pv 0)) (pa_cons (pe_lamN (k := 0) (ps := [xE]) (sp := (spT1 (D 16) "part")) (T := tabM B B2) TB rfl (List.Mem.head _) hu rfl (by decide) rfl (fun _ _ => lf_T1 Z.c16.xf Z.c16.no)) (pa_cons (pe_lstS (pa_cons (pv 0) pa_nil)) (pa_cons pe_int pa_nil)))))
 (pa_cons (pe_tup (pa_cons (pe_x1k (j := 1) Z.c17 hr (by rfl) (pv 0)) (pa_cons (pe_lamN (k := 0) (ps := [xE]) (sp := (spT1 (D 17) "part")) (T := tabM B B2) TB rfl (List.Mem.head _) hu rfl (by decide) rfl (fun _ _ => lf_T1 Z.c17.xf Z.c17.no)) (pa_cons (pe_lstS (pa_cons (pv 0) pa_nil)) (pa_cons pe_int pa_nil)))))
 (pa_cons (pe_tup (pa_cons (pe_x2 (j := 1) Z.c18 hr (by rfl) (pv 0) (pv 1)) (pa_cons (pe_lamN (k := 0) (ps := [xE]) (sp := (spT2 (D 18) "line" "word")) (T := tabM B B2) TB rfl (List.Mem.head _) hu rfl (by decide) rfl (fun _ _ => lf_T2 Z.c18.xf Z.c18.no1 Z.c18.no2)) (pa_cons (pe_lstS (pa_cons (pv 0) (pa_cons (pv 1) pa_nil))) (pa_cons pe_int pa_nil)))))
 (pa_cons (pe_tup (pa_cons (pe_x2k (j := 1) Z.c18 hr (by rfl) (pv 0) (pv 1)) (pa_cons (pe_lamN (k := 0) (ps := [xE]) (sp := (spT2 (D 18) "line" "word")) (T := tabM B B2) TB rfl (List.Mem.head _) hu rfl (by decide) rfl (fun _ _ => lf_T2 Z.c18.xf Z.c18.no1 Z.c18.no2)) (pa_cons (pe_lstS (pa_cons (pv 1) (pa_cons (pv 0) pa_nil))) (pa_cons pe_int pa_nil)))))
 (pa_cons (pe_tup (pa_cons (pe_x1k (j := 1) Z.c19 hr (by rfl) (pv 0)) (pa_cons (pe_lamN (k := 0) (ps := [xE]) (sp := (spT1 (D 19) "word")) (T := tabM B B2) TB rfl (List.Mem.head _) hu rfl (by decide) rfl (fun _ _ => lf_T1 Z.c19.xf Z.c19.no)) (pa_cons (pe_lstS (pa_cons (pv 0) pa_nil)) (pa_cons pe_int pa_nil)))))
 (pa_cons (pe_tup (pa_cons (pe_x1 (j := 1) Z.c20 hr (by rfl) (pv 0)) (pa_cons (pe_lamN (k := 0) (ps := [xE]) (sp := (spT1 (D 20) "name")) (T := tabM B B2) TB rfl (List.Mem.head _) hu rfl (by decide) rfl (fun _ _ => lf_T1 Z.c20.xf Z.c20.no)) (pa_cons (pe_lstS (pa_cons (pv 0) pa_nil)) (pa_cons pe_int pa_nil)))))
 (pa_cons (pe_tup (pa_cons (pe_x1k (j := 1) Z.c21 hr (by rfl) (pv 0)) (pa_cons (pe_lamN (k := 0) (ps := [xE]) (sp := (spT1 (D 21) "at")) (T := tabM B B2) TB rfl (List.Mem.head _) hu rfl (by decide) rfl (fun _ _ => lf_T1 Z.c21.xf Z.c21.no)) (pa_cons (pe_lstS (pa_cons (pv 0) pa_nil)) (pa_cons pe_int pa_nil)))))
 (pa_cons (pe_tup (pa_cons (pe_x1k (j := 1) Z.c22 hr (by rfl) (pv 0)) (pa_cons (pe_lamN (k := 0) (ps := [xE]) (sp := (spT1 (D 22) "name")) (T := tabM B B2) TB rfl (List.Mem.head _) hu rfl (by decide) rfl (fun _ _ => lf_T1 Z.c22.xf Z.c22.no)) (pa_cons (pe_lstS (pa_cons (pv 0) pa_nil)) (pa_cons pe_int pa_nil)))))
 (pa_cons (pe_tup (pa_cons (pe_x2 (j := 1) Z.c23 hr (by rfl) (pv 0) (pv 1)) (pa_cons (pe_lamN (k := 0) (ps := [xE]) (sp := (spT2 (D 23) "what" "most")) (T := tabM B B2) TB rfl (List.Mem.head _) hu rfl (by decide) rfl (fun _ _ => lf_T2 Z.c23.xf Z.c23.no1 Z.c23.no2)) (pa_cons (pe_lstS (pa_cons (pv 0) (pa_cons (pv 1) pa_nil))) (pa_cons pe_int pa_nil)))))
 (pa_cons (pe_tup (pa_cons (pe_x2k (j := 1) Z.c23 hr (by rfl) (pv 0) (pv 1)) (pa_cons (pe_lamN (k := 0) (ps := [xE]) (sp := (spT2 (D 23) "what" "most")) (T := tabM B B2) TB rfl (List.Mem.head _) hu rfl (by decide) rfl (fun _ _ => lf_T2 Z.c23.xf Z.c23.no1 Z.c23.no2)) (pa_cons (pe_lstS (pa_cons (pv 1) (pa_cons (pv 0) pa_nil))) (pa_cons pe_int pa_nil)))))
 (pa_cons (pe_tup (pa_cons (pe_x1k (j := 1) Z.c24 hr (by rfl) (pv 0)) (pa_cons (pe_lamN (k := 0) (ps := [xE]) (sp := (spT1 (D 24) "limit")) (T := tabM B B2) TB rfl (List.Mem.head _) hu rfl (by decide) rfl (fun _ _ => lf_T1 Z.c24.xf Z.c24.no)) (pa_cons (pe_lstS (pa_cons (pv 0) pa_nil)) (pa_cons pe_int pa_nil)))))
 (pa_cons (pe_tup (pa_cons (pe_exc0 PySem.F.excBase_ValueError Z.c25.ex Z.c25.hm Z.c25.kp (by rfl)) (pa_cons (pe_lamN (k := 0) (ps := [xE]) (sp := spT0) (T := tabM B B2) TB rfl (List.Mem.head _) hu rfl (by decide) rfl (fun _ _ => lf_T0)) (pa_cons (pe_lstS pa_nil) (pa_cons pe_int pa_nil)))))
 pa_nil))))))))))))))))))))))))))))))), ?_⟩
    have via : VIA P w K mg base D (tabM B B2) v1 v2 d1 d2 _ nums := (.cons (vi_1 (f := "value") (by decide)) (.cons (vi_1 (f := "value") (by decide)) (.cons (vi_1 (f := "value") (by decide)) (.cons (vi_1 (f := "value") (by decide)) (.cons (vi_1 (f := "value") (by decide)) (.cons (vi_1 (f := "value") (by decide)) (.cons (vi_1 (f := "value") (by decide)) (.cons (vi_1 (f := "value") (by decide)) (.cons (vi_1 (f := "value") (by decide)) (.cons (vi_1 (f := "part") (by decide)) (.cons (vi_1 (f := "part") (by decide)) (.cons (vi_1 (f := "part") (by decide)) (.cons (vi_1 (f := "part") (by decide)) (.cons (vi_1 (f := "part") (by decide)) (.cons (vi_1 (f := "part") (by decide)) (.cons (vi_1 (f := "part") (by decide)) (.cons (vi_1 (f := "part") (by decide)) (.cons (vi_1 (f := "part") (by decide)) (.cons (vi_2 (f1 := "line") (f2 := "word") (by decide)) (.cons (vi_2k (f1 := "line") (f2 := "word") (by decide)) (.cons (vi_1 (f := "word") (by decide)) (.cons (vi_1 (f := "name") (by decide)) (.cons (vi_1 (f := "at") (by decide)) (.cons (vi_1 (f := "name") (by decide)) (.cons (vi_2 (f1 := "what") (f2 := "most") (by decide)) (.cons (vi_2k (f1 := "what") (f2 := "most") (by decide)) (.cons (vi_1 (f := "limit") (by decide)) (.cons (vi_0 (by decide)) .nil))))))))))))))))))))))))))))
    dsimp only [tRet]
    change tLst _ [some v1, some v2] H Q
    exact lst_via via t r1 r2 (by decide) k
end
end Lw
namespace Lw
open PySem PySem.Spec PyProof.Rows L2

open LamX
abbrev lamScK (x n : Str) : Scope := { kind := .function, names := [(x, .local), ("isinstance", .globalImplicit), (n, .globalImplicit)], isGenerator := false, isCoroutine := false, more := [] }
def spK (D : Nat → Addr) (j : Nat) : Sp := fun vs H Q _ => ∃ (a : Addr) (i : Nat) (fs : List (Str × V)), vs = [.ref a] ∧ i < 26 ∧ ExAt a (D i) fs H ∧ Q (.bl (decide (i = j))) H
section
variable {P : Program} {w : World} {K : PySem.W.Frag} {mg : Str → Option Value} {base : Heap} {D : Nat → Addr} {L : Addr} {q x n : Str} {p0 p1 p2 p3 p4 : Pos} {fa c' : Addr} {j : Nat}
theorem lf_K (Z : Clss P w K mg base D L) (ni : mg "isinstance" = none) (hj : j < 26) (hm : mg n = some (.ref (D j))) (S : FnScope [x] [x] (lamScK x n)) (hg : (lamScK x n).names.lookup n = some .globalImplicit) (hi : (lamScK x n).names.lookup ("isinstance" : Str) = some .globalImplicit) (hx : (lamScK x n).names.lookup x = some .local)
    (hd : (x == ("__debug__" : Str)) = false) (hdc : (x == ("__classdict__" : Str)) = false) (hdn : (n == ("__debug__" : Str)) = false)
    (hb : ∀ (pm cv ctv u : Value), bindArgs (PySem.W.kla_fn "<lambda>" q (lamPa x p0) (.Call (.Name "isinstance" p1) [.Name x p2, .Name n p3] [] p4) (lamScK x n) [] pm cv ctv) ⟨[u], []⟩ = pure ([x].zip [u])) :
    LamF P w K mg base 0 [x] (spK D j) q (lamPa x p0) (.Call (.Name "isinstance" p1) [.Name x p2, .Name n p3] [] p4) (lamScK x n) fa c' := by
  refine ⟨S, fun pm cv ctv us hl => ?_, fun vs H Q E h => ?_, fun A out s H vs Q hr h => ?_⟩
  · match us, hl with | [u], _ => exact hb pm cv ctv u
  · obtain ⟨a, i, fs, rfl, _⟩ := h; rfl
  · obtain ⟨a, i, fs, rfl, h1, h2, k⟩ := h
    refine ⟨_, pe_callB call_isX hi ni (by decide +kernel) (pa_cons (pv 0 rfl (.inl hx) hd hdc) (pa_cons (pe_glob (v := .ref (D j)) hg hm rfl hdn) pa_nil)), ?_⟩
    exact ⟨_, rfl, a, D i, fs, .ref (D j), .ref (D j), _, rfl, .own _, h2, Z.xc i h1, Z.kit i j h1 hj, k⟩
end
def KAll (P : Program) (w : World) (K : PySem.W.Frag) (mg : Str → Option Value) (base : Heap) (D : Nat → Addr) (H : Hp) (vs : List V) (j : Nat) : Prop := ∀ (i : Nat) (v : V), vs[i]? = some v → ∃ (f : Addr) (ps : List Str), v = .ref f ∧ LamAt P w K mg base 0 ps (spK D (j + i)) H f
def VKA (P : Program) (w : World) (K : PySem.W.Frag) (mg : Str → Option Value) (base : Heap) (D : Nat → Addr) (T : List (Addr × Str)) (ta : TA) (j n : Nat) : Prop :=
  ∀ (H1 : Hp) (Q : List V → Hp → Prop), Tabs T H1 → (∀ vs H', ExtN H1 H' → Tabs T H' → KAll P w K mg base D H' vs j → vs.length = n → Q vs H') → ta [] H1 Q
section
variable {P : Program} {w : World} {K : PySem.W.Frag} {mg : Str → Option Value} {base : Heap} {D : Nat → Addr} {T : List (Addr × Str)}
theorem KAll.extn {H H' : Hp} {vs : List V} {j : Nat} (h : KAll P w K mg base D H vs j) (x : ExtN H H') : KAll P w K mg base D H' vs j := fun i v e => by
  obtain ⟨f, ps, e1, l⟩ := h i v e
  exact ⟨f, ps, e1, l.extn x⟩
theorem VKA.nil {j : Nat} : VKA P w K mg base D T tNil j 0 := fun H1 Q t k => k _ H1 (ExtN.refl _) t (fun i v e => by cases e) rfl
theorem VKA.cons {ps : List Str} {ta : TA} {j n : Nat} (r : VKA P w K mg base D T ta (j + 1) n) : VKA P w K mg base D T (tCons (tLamN P w K mg base 0 ps (spK D j) T) ta) j (n + 1) := fun H1 Q t k =>
  ⟨t, fun f H2 x2 t2 n2 la => r H2 _ t2 fun vs H3 x3 t3 ka hl => k _ H3 (x2.trans x3) t3 (fun i v e => by
    match i, e with
    | 0, e => cases e; exact ⟨f, ps, rfl, la.extn x3⟩
    | i + 1, e =>
      obtain ⟨f', ps', e1, l⟩ := ka i v e
      refine ⟨f', ps', e1, ?_⟩
      rw [show j + (i + 1) = j + 1 + i by omega]
      exact l) (by rw [List.length_cons, hl])⟩
theorem lst_vka {ta : TA} {j n : Nat} {H : Hp} {Q : VK} (h : VKA P w K mg base D T ta j n) (t : Tabs T H) (hl : n ≤ 1000)
    (k : ∀ (l : Addr) (xs : List V) (H' : Hp), ExtN H H' → Tabs T H' → H' l = some (.lst xs) → KAll P w K mg base D H' xs j → xs.length = n → Q (.ref l) H') : tLst ta [] H Q :=
  h H _ t fun vs H' x t' ka hl' => ⟨by rw [hl']; exact Nat.le_trans hl (by decide), fun l nl => k l vs _ (x.trans (Same.extn (same_new nl))) (t'.ext (same_new nl)) upd_same (ka.extn (Same.extn (same_new nl))) hl'⟩
abbrev sKin : Stmt := top 34
def spKin (P : Program) (w : World) (K : PySem.W.Frag) (mg : Str → Option Value) (base : Heap) (D : Nat → Addr) (T : List (Addr × Str)) : Sp := fun vs H Q _ => vs = [] ∧ Tabs T H ∧
  ∀ (l : Addr) (xs : List V) (H' : Hp), ExtN H H' → Tabs T H' → H' l = some (.lst xs) → KAll P w K mg base D H' xs 0 → xs.length = 26 → Q (.ref l) H'
theorem scKin : FnScope [] [] (C8.fnScope sKin) := C8.fnScope_by (by decide +kernel)
theorem cal_kin {f c B B2 L : Addr} {fd : FuncData} (F : DefC K mg "_law_kinds" sKin f fd c) (b : Binds K fd [] []) (TB : TabB base mg c B2) (nB : B2 ≠ B) (Z : Clss P w K mg base D L) (ni : mg "isinstance" = none) :
    CalG P w K mg base 4 "_law_kinds" (spKin P w K mg base D (tabM B B2)) [] := by
  have hu : ∀ p ∈ tabM B B2, p.1 = B2 → p.2 = (("_law_kinds" : Str) ++ (".<locals>." : Str)) ++ ("<lambda>" : Str) := by
    intro p hp e
    simp only [List.mem_cons, List.not_mem_nil, or_false] at hp
    rcases hp with rfl | rfl
    · exact absurd e.symm nB
    · rfl
  refine calGC F b .nil scKin (fun vs H Q E h => ?_) (fun A outer st H vs Q E hG hr h => ?_)
  · rw [h.1]; rfl
  · obtain ⟨rfl, t, k⟩ := h
    refine ⟨_, (pss_one (ps_ret (pe_lst (pa_cons (pe_lamN (k := 0) (ps := [xE]) (sp := spK D 0) (T := tabM B B2) TB rfl (List.Mem.tail _ (List.Mem.head _)) hu rfl (by decide) rfl (fun _ _ => lf_K Z ni (by decide) Z.c0.hm (C8.fnScope_by (by decide +kernel)) (by rfl) (by rfl) (by rfl) (by decide) (by decide) (by decide) (fun _ _ _ _ => rfl)))
 (pa_cons (pe_lamN (k := 0) (ps := [xM]) (sp := spK D 1) (T := tabM B B2) TB rfl (List.Mem.tail _ (List.Mem.head _)) hu rfl (by decide) rfl (fun _ _ => lf_K Z ni (by decide) Z.c1.hm (C8.fnScope_by (by decide +kernel)) (by rfl) (by rfl) (by rfl) (by decide) (by decide) (by decide) (fun _ _ _ _ => rfl)))
 (pa_cons (pe_lamN (k := 0) (ps := [xE]) (sp := spK D 2) (T := tabM B B2) TB rfl (List.Mem.tail _ (List.Mem.head _)) hu rfl (by decide) rfl (fun _ _ => lf_K Z ni (by decide) Z.c2.hm (C8.fnScope_by (by decide +kernel)) (by rfl) (by rfl) (by rfl) (by decide) (by decide) (by decide) (fun _ _ _ _ => rfl)))
 (pa_cons (pe_lamN (k := 0) (ps := [xM]) (sp := spK D 3) (T := tabM B B2) TB rfl (List.Mem.tail _ (List.Mem.head _)) hu rfl (by decide) rfl (fun _ _ => lf_K Z ni (by decide) Z.c3.hm (C8.fnScope_by (by decide +kernel)) (by rfl) (by rfl) (by rfl) (by decide) (by decide) (by decide) (fun _ _ _ _ => rfl)))
 (pa_cons (pe_lamN (k := 0) (ps := [xE]) (sp := spK D 4) (T := tabM B B2) TB rfl (List.Mem.tail _ (List.Mem.head _)) hu rfl (by decide) rfl (fun _ _ => lf_K Z ni (by decide) Z.c4.hm (C8.fnScope_by (by decide +kernel)) (by rfl) (by rfl) (by rfl) (by decide) (by decide) (by decide) (fun _ _ _ _ => rfl)))
 (pa_cons (pe_lamN (k := 0) (ps := [xM]) (sp := spK D 5) (T := tabM B B2) TB rfl (List.Mem.tail _ (List.Mem.head _)) hu rfl (by decide) rfl (fun _ _ => lf_K Z ni (by decide) Z.c5.hm (C8.fnScope_by (by decide +kernel)) (by rfl) (by rfl) (by rfl) (by decide) (by decide) (by decide) (fun _ _ _ _ => rfl)))
 (pa_cons (pe_lamN (k := 0) (ps := [xE]) (sp := spK D 6) (T := tabM B B2) TB rfl (List.Mem.tail _ (List.Mem.head _)) hu rfl (by decide) rfl (fun _ _ => lf_K Z ni (by decide) Z.c6.hm (C8.fnScope_by (by decide +kernel)) (by rfl) (by rfl) (by rfl) (by decide) (by decide) (by decide) (fun _ _ _ _ => rfl)))
 (pa_cons (pe_lamN (k := 0) (ps := [xM]) (sp := spK D 7) (T := tabM B B2) TB rfl (List.Mem.tail _ (List.Mem.head _)) hu rfl (by decide) rfl (fun _ _ => lf_K Z ni (by decide) Z.c7.hm (C8.fnScope_by (by decide +kernel)) (by rfl) (by rfl) (by rfl) (by decide) (by decide) (by decide) (fun _ _ _ _ => rfl)))
 (pa_cons (pe_lamN (k := 0) (ps := [xE]) (sp := spK D 8) (T := tabM B B2) TB rfl (List.Mem.tail _ (List.Mem.head _)) hu rfl (by decide) rfl (fun _ _ => lf_K Z ni (by decide) Z.c8.hm (C8.fnScope_by (by decide +kernel)) (by rfl) (by rfl) (by rfl) (by decide) (by decide) (by decide) (fun _ _ _ _ => rfl)))
 (pa_cons (pe_lamN (k := 0) (ps := [xM]) (sp := spK D 9) (T := tabM B B2) TB rfl (List.Mem.tail _ (List.Mem.head _)) hu rfl (by decide) rfl (fun _ _ => lf_K Z ni (by decide) Z.c9.hm (C8.fnScope_by (by decide +kernel)) (by rfl) (by rfl) (by rfl) (by decide) (by decide) (by decide) (fun _ _ _ _ => rfl)))
 (pa_cons (pe_lamN (k := 0) (ps := [xE]) (sp := spK D 10) (T := tabM B B2) TB rfl (List.Mem.tail _ (List.Mem.head _)) hu rfl (by decide) rfl (fun _ _ => lf_K Z ni (by decide) Z.c10.hm (C8.fnScope_by (by decide +kernel)) (by rfl) (by rfl) (by rfl) (by decide) (by decide) (by decide) (fun _ _ _ _ => rfl)))
 (pa_cons (pe_lamN (k := 0) (ps := [xM]) (sp := spK D 11) (T := tabM B B2) TB rfl (List.Mem.tail _ (List.Mem.head _)) hu rfl (by decide) rfl (fun _ _ => lf_K Z ni (by decide) Z.c11.hm (C8.fnScope_by (by decide +kernel)) (by rfl) (by rfl) (by rfl) (by decide) (by decide) (by decide) (fun _ _ _ _ => rfl)))
 (pa_cons (pe_lamN (k := 0) (ps := [xE]) (sp := spK D 12) (T := tabM B B2) TB rfl (List.Mem.tail _ (List.Mem.head _)) hu rfl (by decide) rfl (fun _ _ => lf_K Z ni (by decide) Z.c12.hm (C8.fnScope_by (by decide +kernel)) (by rfl) (by rfl) (by rfl) (by decide) (by decide) (by decide) (fun _ _ _ _ => rfl)))
 (pa_cons (pe_lamN (k := 0) (ps := [xM]) (sp := spK D 13) (T := tabM B B2) TB rfl (List.Mem.tail _ (List.Mem.head _)) hu rfl (by decide) rfl (fun _ _ => lf_K Z ni (by decide) Z.c13.hm (C8.fnScope_by (by decide +kernel)) (by rfl) (by rfl) (by rfl) (by decide) (by decide) (by decide) (fun _ _ _ _ => rfl)))
 (pa_cons (pe_lamN (k := 0) (ps := [xE]) (sp := spK D 14) (T := tabM B B2) TB rfl (List.Mem.tail _ (List.Mem.head _)) hu rfl (by decide) rfl (fun _ _ => lf_K Z ni (by decide) Z.c14.hm (C8.fnScope_by (by decide +kernel)) (by rfl) (by rfl) (by rfl) (by decide) (by decide) (by decide) (fun _ _ _ _ => rfl)))
 (pa_cons (pe_lamN (k := 0) (ps := [xM]) (sp := spK D 15) (T := tabM B B2) TB rfl (List.Mem.tail _ (List.Mem.head _)) hu rfl (by decide) rfl (fun _ _ => lf_K Z ni (by decide) Z.c15.hm (C8.fnScope_by (by decide +kernel)) (by rfl) (by rfl) (by rfl) (by decide) (by decide) (by decide) (fun _ _ _ _ => rfl)))
 (pa_cons (pe_lamN (k := 0) (ps := [xE]) (sp := spK D 16) (T := tabM B B2) TB rfl (List.Mem.tail _ (List.Mem.head _)) hu rfl (by decide) rfl (fun _ _ => lf_K Z ni (by decide) Z.c16.hm (C8.fnScope_by (by decide +kernel)) (by rfl) (by rfl) (by rfl) (by decide) (by decide) (by decide) (fun _ _ _ _ => rfl)))
 (pa_cons (pe_lamN (k := 0) (ps := [xM]) (sp := spK D 17) (T := tabM B B2) TB rfl (List.Mem.tail _ (List.Mem.head _)) hu rfl (by decide) rfl (fun _ _ => lf_K Z ni (by decide) Z.c17.hm (C8.fnScope_by (by decide +kernel)) (by rfl) (by rfl) (by rfl) (by decide) (by decide) (by decide) (fun _ _ _ _ => rfl)))
 (pa_cons (pe_lamN (k := 0) (ps := [xE]) (sp := spK D 18) (T := tabM B B2) TB rfl (List.Mem.tail _ (List.Mem.head _)) hu rfl (by decide) rfl (fun _ _ => lf_K Z ni (by decide) Z.c18.hm (C8.fnScope_by (by decide +kernel)) (by rfl) (by rfl) (by rfl) (by decide) (by decide) (by decide) (fun _ _ _ _ => rfl)))
 (pa_cons (pe_lamN (k := 0) (ps := [xM]) (sp := spK D 19) (T := tabM B B2) TB rfl (List.Mem.tail _ (List.Mem.head _)) hu rfl (by decide) rfl (fun _ _ => lf_K Z ni (by decide) Z.c19.hm (C8.fnScope_by (by decide +kernel)) (by rfl) (by rfl) (by rfl) (by decide) (by decide) (by decide) (fun _ _ _ _ => rfl)))
 (pa_cons (pe_lamN (k := 0) (ps := [xE]) (sp := spK D 20) (T := tabM B B2) TB rfl (List.Mem.tail _ (List.Mem.head _)) hu rfl (by decide) rfl (fun _ _ => lf_K Z ni (by decide) Z.c20.hm (C8.fnScope_by (by decide +kernel)) (by rfl) (by rfl) (by rfl) (by decide) (by decide) (by decide) (fun _ _ _ _ => rfl)))
 (pa_cons (pe_lamN (k := 0) (ps := [xM]) (sp := spK D 21) (T := tabM B B2) TB rfl (List.Mem.tail _ (List.Mem.head _)) hu rfl (by decide) rfl (fun _ _ => lf_K Z ni (by decide) Z.c21.hm (C8.fnScope_by (by decide +kernel)) (by rfl) (by rfl) (by rfl) (by decide) (by decide) (by decide) (fun _ _ _ _ => rfl)))
 (pa_cons (pe_lamN (k := 0) (ps := [xE]) (sp := spK D 22) (T := tabM B B2) TB rfl (List.Mem.tail _ (List.Mem.head _)) hu rfl (by decide) rfl (fun _ _ => lf_K Z ni (by decide) Z.c22.hm (C8.fnScope_by (by decide +kernel)) (by rfl) (by rfl) (by rfl) (by decide) (by decide) (by decide) (fun _ _ _ _ => rfl)))
 (pa_cons (pe_lamN (k := 0) (ps := [xM]) (sp := spK D 23) (T := tabM B B2) TB rfl (List.Mem.tail _ (List.Mem.head _)) hu rfl (by decide) rfl (fun _ _ => lf_K Z ni (by decide) Z.c23.hm (C8.fnScope_by (by decide +kernel)) (by rfl) (by rfl) (by rfl) (by decide) (by decide) (by decide) (fun _ _ _ _ => rfl)))
 (pa_cons (pe_lamN (k := 0) (ps := [xE]) (sp := spK D 24) (T := tabM B B2) TB rfl (List.Mem.tail _ (List.Mem.head _)) hu rfl (by decide) rfl (fun _ _ => lf_K Z ni (by decide) Z.c24.hm (C8.fnScope_by (by decide +kernel)) (by rfl) (by rfl) (by rfl) (by decide) (by decide) (by decide) (fun _ _ _ _ => rfl)))
 (pa_cons (pe_lamN (k := 0) (ps := [xM]) (sp := spK D 25) (T := tabM B B2) TB rfl (List.Mem.tail _ (List.Mem.head _)) hu rfl (by decide) rfl (fun _ _ => lf_K Z ni (by decide) Z.c25.hm (C8.fnScope_by (by decide +kernel)) (by rfl) (by rfl) (by rfl) (by decide) (by decide) (by decide) (fun _ _ _ _ => rfl)))
 pa_nil))))))))))))))))))))))))))))), ?_⟩
    have via : VKA P w K mg base D (tabM B B2) _ 0 26 := (.cons (ps := [xE]) (.cons (ps := [xM]) (.cons (ps := [xE]) (.cons (ps := [xM]) (.cons (ps := [xE]) (.cons (ps := [xM]) (.cons (ps := [xE]) (.cons (ps := [xM]) (.cons (ps := [xE]) (.cons (ps := [xM]) (.cons (ps := [xE]) (.cons (ps := [xM]) (.cons (ps := [xE]) (.cons (ps := [xM]) (.cons (ps := [xE]) (.cons (ps := [xM]) (.cons (ps := [xE]) (.cons (ps := [xM]) (.cons (ps := [xE]) (.cons (ps := [xM]) (.cons (ps := [xE]) (.cons (ps := [xM]) (.cons (ps := [xE]) (.cons (ps := [xM]) (.cons (ps := [xE]) (.cons (ps := [xM]) .nil))))))))))))))))))))))))))
    dsimp only [tRet]
    change tLst _ [] H Q
    exact lst_vka via t (by decide) k
end
end Lw
namespace Lw
open PySem PySem.Spec PyProof.Rows L2

open LamX
abbrev sLaw : Stmt := top 35
section
variable {X : Cx} {k j : Nat} {x : Str} {sp : Sp} {dvs : List V} {p pos : Pos}
/-- f(), f a def that is reached by its name -/
theorem pe_g0 (c : CalG X.prog X.w X.K X.mg X.base k x sp dvs) (hG : X.A.guards = some []) (hr : Room j X.A) (hk : k ≤ j) (hg : Gl X x)
    (hdb : (x == ("__debug__" : Str)) = false := by decide) : PE X (.Call (.Name x p) [] [] pos) (tCall sp dvs C8.E0 tNil) := by
  obtain ⟨f, fd, ps, ds, F, hm, kp, b, d⟩ := c.ex
  refine ⟨fun pins s σ H Q I h => ?_⟩
  refine wpAny_Call_Name_kw (ld_glob I hg hm ?_ hdb)
  refine PySem.W.callWith_K0 I.kIn kp ?_
  have q : sp ([] ++ dvs) H Q C8.E0 := h
  have r2 : Vals ([] ++ dvs) ([] ++ ds) := d
  have hl : (([] : List Value) ++ ds).length = ps.length := r2.length.symm.trans (F.len _ _ _ _ q)
  refine wpAny_call (codeAny_mono (F.run X.A X.stack s H ⟨[], []⟩ ([] ++ ds) ([] ++ dvs) Q C8.E0 hG (hr.mono hk) I.env0 (b s [] I.kIn hl) r2 q) fun r s' hq => ?_)
  match r, hq with
  | .error e, hq => exact hq.elim
  | .ok (.ret u), hq => exact I.after hq
  | .ok .next, hq => exact hq.elim
  | .ok .brk, hq => exact hq.elim
  | .ok .cont, hq => exact hq.elim
end
theorem fnG {P : Program} {w : World} {K : PySem.W.Frag} {mg : Str → Option Value} {base : Heap} {x : Str} {st : Stmt} {f : Addr} {fd : FuncData} {N ps : List Str} {k : Nat} {sp : Sp} (F : C8.Fun K x x st f fd) (S : FnScope N ps (C8.fnScope st))
    (len : ∀ vs H Q E, sp vs H Q E → vs.length = ps.length)
    (body : ∀ (cdv : Value) (A : Around) (outer : List Env) (s : Shared) (H : Hp) (vs : List V) (Q : VK) (E : XK), (A.deeper (envOfC x (C8.fnScope st) s.heap.objs.size f cdv)).guards = some [] → Room k (A.deeper (envOfC x (C8.fnScope st) s.heap.objs.size f cdv)) → sp vs H Q E →
      ∃ t, PSs (cxOf C8.CX0 P w K mg base N x (C8.fnScope st) f cdv A outer s H E).nox (C8.fnBody st) t ∧ t { nx := fun _ H' => Q .non H', rt := Q } (start N vs) H) : FnG P w K mg base (k + 1) f fd ps sp := by
  refine ⟨len, ?_⟩
  intro A outer s H args us vs Q E hg hr e0 hb r hs
  obtain ⟨oc, od, dV, kV, doc, pm, an, cdv, ct, osl, rfl, lk, hcd⟩ := F.ex
  refine LamX.run_ofS lk hcd S hr e0 hb r (len _ _ _ _ hs) fun hr' => ?_
  obtain ⟨t, h1, h2⟩ := body cdv A outer s H vs Q E hg hr' hs
  exact ⟨t, h1.nox, h2⟩

theorem ix_listK {X : Cx} (K : PySem.W.Frag) (e : X.K = K) : IxR X (rIxL K) := by
  subst e
  exact ix_list
/-- a call of such a lambda, the parts of the context named -/
def tLCall (P : Program) (w : World) (K : PySem.W.Frag) (mg : Str → Option Value) (base : Heap) (k : Nat) (tf : TE) (ta : TA) : TE := fun σ H Q => tf σ H fun x H1 => ∃ (f : Addr) (ps : List Str) (sp : Sp), x = .ref f ∧ LamAt P w K mg base k ps sp H1 f ∧ ta σ H1 fun vs H2 => LamAt P w K mg base k ps sp H2 f ∧ sp vs H2 Q C8.E0
theorem pe_lamcallE {X : Cx} (P : Program) (w : World) (K : PySem.W.Frag) (mg : Str → Option Value) (base : Heap) {k : Nat} {fe a : Expr} {es : List Expr} {pos : Pos} {tf : TE} {ta : TA} (e1 : X.prog = P) (e2 : X.w = w) (e3 : X.K = K) (e4 : X.mg = mg) (e5 : X.base = base) (hr : Room (k + 1) X.A) (hf : PE X fe tf) (ha : PA X (a :: es) ta)
    (ht : eval (.Call fe (a :: es) [] pos) X.env = (do callWith pos (← eval fe X.env) [] (backTo pos (starEach (a :: es) X.env)) (backToKw pos (keywordEach [] X.env))) := by rfl)
    (he : starEach (a :: es) X.env = (false, eval a X.env) :: starEach es X.env := by rfl) (hpl : (backTo pos (starEach es X.env)).any (·.1) = false := by rfl) :
    PE X (.Call fe (a :: es) [] pos) (tLCall P w K mg base k tf ta) := by
  subst e1 e2 e3 e4 e5
  exact pe_lamcallN hr hf ha ht he hpl
/-- an own exception class without an __init__, one argument -/
theorem pe_exc1x {X : Cx} {C : Addr} {bmB : List Value} {B newId initId : String} {x : Str} {e : Expr} {ta : TE} {p pos : Pos} (F : ExcBaseFacts B newId initId bmB) (q : PySem.W.excIn X.K C bmB newId = true) (gC : X.mg x = some (.ref C)) (kC : PySem.W.keepIn X.K (.ref C) = true) (hg : Gl X x) (he : PE X e ta)
    (hs : starEach [e] X.env = (false, eval e X.env) :: starEach [] X.env := by rfl) (hdb : (x == ("__debug__" : Str)) = false := by decide) :
    PE X (.Call (.Name x p) [e] [] pos) (fun σ H Q => ta σ H fun _ H1 => ∀ a, H1 a = none → Q (.ref a) (upd H1 a (exo a C none))) := by
  refine ⟨fun pins s σ H Q I h => ?_⟩
  refine wpAny_Call_Name_kw (ld_glob I hg gC ?_ hdb)
  refine PySem.W.callWith_K (h₀ := X.base) I.ok.mod.kin kC ?_ hs (by rfl)
  rw [hs]
  show wpAny _ _ (spliced ((false, eval e X.env) :: backTo pos (starEach [] X.env))) _ _ s
  refine Calls.spliced_cons (thn (he.run pins s σ H _ I h) fun u s1 ⟨v, H1, I1, r1, q1⟩ => ?_)
  refine Calls.spliced_nil ⟨I1.kIn, ?_⟩
  show wpAny _ _ (call (.ref C) [u]) _ _ _
  obtain ⟨bm, N, nm, qn, bs, hdct, sn, sub, ab, col, dd, k0, k1, k2, k3, k5, mN, hC, hN, hni, T⟩ := exc_obj I1.kIn q
  refine wpAny_call_exc_subT F T hC hN hni (fun h' a hm => ?_) (by show 1 ≤ sizeLine; rw [sizeLine_eq]; omega)
  have hn : H1 a = none := I1.hok.gone hm.new
  obtain ⟨t, ht, _, _⟩ := hm.there
  exact ⟨.ref a, upd H1 a (exo a C none), I1.laidN hm.keeps hm.new hn (exo_ok ht), rfl, q1 a hn⟩
/-- the names the law reads, its own exception class -/
structure Rest (K : PySem.W.Frag) (mg : Str → Option Value) (L : Addr) : Prop where
  ni : mg "isinstance" = none
  nr : mg "repr" = none
  nv : mg "ValueError" = none
  ng : mg "range" = none
  nl : mg "len" = none
  eL : PySem.W.excIn K L bmVE "ValueError.__new__" = true
  kL : PySem.W.keepIn K (.ref L) = true
  xL : Hx.XCls K L
  vL : PySem.W.kitOne K (.ref L) (.type "ValueError") = some true
/-- what stands while the items are walked -/
structure Wd (P : Program) (w : World) (K : PySem.W.Frag) (mg : Str → Option Value) (base : Heap) (D : Nat → Addr) (T : List (Addr × Str)) (p pl : Addr) (n : Nat) (ml kl : Addr) (xs ks : List V) (H : Hp) : Prop where
  made : H ml = some (.lst xs)
  its : ItAll P w K mg base D H xs nums
  kin : H kl = some (.lst ks)
  ka : KAll P w K mg base D H ks 0
  kn : ks.length = 26
  pen : Pen H p pl n
  tab : Tabs T H
theorem Wd.same {P : Program} {w : World} {K : PySem.W.Frag} {mg : Str → Option Value} {base : Heap} {D : Nat → Addr} {T : List (Addr × Str)} {p pl : Addr} {n : Nat} {ml kl : Addr} {xs ks : List V} {H H' : Hp} (h : Wd P w K mg base D T p pl n ml kl xs ks H) (s : Same H H') : Wd P w K mg base D T p pl n ml kl xs ks H' :=
  ⟨s _ _ h.made, h.its.extn (Same.extn s), s _ _ h.kin, h.ka.extn (Same.extn s), h.kn, h.pen.keep s, h.tab.ext s⟩
/-- [spot for spot in range(len(kinds)) if kinds[spot](error)] -/
theorem spots {P : Program} {w : World} {K : PySem.W.Frag} {mg : Str → Option Value} {base : Heap} {D : Nat → Addr} {x0 x1 x2 x3 x6 x7 x8 : Option V} {H : Hp} {Q : VK} {kl e : Addr} {n : Nat} {fs : List (Str × V)} {ks : List V}
    (hn : n < 26) (ea : ExAt e (D n) fs H) (kin : H kl = some (.lst ks)) (ka : KAll P w K mg base D H ks 0) (kn : ks.length = 26) (go : ∀ l H', Same H H' → H' l = some (.lst [.int n]) → Q (.ref l) H') :
    tLc (iRng1 (tCons (tCB (fun xs H_1 Q => ∃ p ys, xs = [V.ref p] ∧ (SqL K H_1 p ys ∨ SqT K H_1 p ys) ∧ Q (V.int ↑ys.length) H_1) (tCons (tVar 4) tNil)) tNil)) (gName 9) (tB (tLCall P w K mg base 0 (tOp (rIxL K) (tVar 4) (tVar 9)) (tCons (tVar 5) tNil))) (tVar 9) (List.map (fun x => x.snd) [(("_law_spot" : Str), 9)]) [x0, x1, x2, x3, some (.ref kl), some (.ref e), x6, x7, x8, none] H Q := by
  refine ⟨_, rfl, kl, ks, rfl, .inl (SqL.of kin), (ks.length : Int), rfl, by rw [kn]; decide, by rw [kn]; decide, fun L nL => ?_⟩
  have s1 := same_new (o := HO.lst []) nL
  have e1 : upd H L (HO.lst []) L = some (.lst []) := upd_same
  generalize upd H L (HO.lst []) = H1 at s1 e1 ⊢
  rw [kn]
  refine ⟨fun i m H' => m = 26 - i ∧ i ≤ 26 ∧ Same H H' ∧ H' L = some (.lst (if n < i then [.int n] else [])), ⟨26, by simp, Nat.zero_le _, s1, by rw [if_neg (Nat.not_lt_zero n)]; exact e1⟩, ?_⟩
  rintro i m H2 ⟨rfl, hi, s2, e2⟩
  by_cases hlt : i < 26
  · refine .inr ⟨hlt, fun H' => Same H H' ∧ H' L = some (.lst (if n < i + 1 then [.int n] else [])), fun H' ⟨a, b⟩ => ⟨26 - (i + 1), by omega, rfl, hlt, a, b⟩, fun x H' y => ?_⟩
    obtain ⟨rfl, rfl⟩ := y
    obtain ⟨f, ps, ef, la⟩ := ka i ks[i] (List.getElem?_eq_getElem (by rw [kn]; exact hlt))
    rw [Nat.zero_add] at la
    have la2 := la.extn (Same.extn s2)
    refine ⟨rfl, _, rfl, _, rfl, kl, ks, (i : Int), .ref f, rfl, by rw [Int.zero_add], SqL.of (s2 _ _ kin), ?_, f, ps, _, rfl, la2, _, rfl, la2, e, n, fs, rfl, hn, ea.extn (Same.extn s2), _, rfl, ?_⟩
    · exact atI_nat (by rw [List.getElem?_eq_getElem (by rw [kn]; exact hlt), ef])
    · by_cases hni : n = i
      · rw [decide_eq_true hni]
        refine iteT ⟨_, rfl, _, e2, ?_, fun b o hb => ?_, ?_⟩
        · split
          · show 1 < sizeLine
            decide
          · show 0 < sizeLine
            decide
        · exact (upd_ne (fun z => by rw [z, nL] at hb; cases hb)).trans (s2 b o hb)
        · rw [upd_same, if_neg (by omega), if_pos (by omega), hni, Int.zero_add]
          rfl
      · rw [decide_eq_false hni]
        refine iteF ⟨s2, ?_⟩
        rw [e2]
        by_cases hlt2 : n < i
        · rw [if_pos hlt2, if_pos (by omega)]
        · rw [if_neg hlt2, if_neg (by omega)]
  · have ei : i = 26 := by omega
    subst ei
    rw [if_pos hn] at e2
    exact .inl ⟨Nat.le_refl _, go L H2 s2 e2⟩
def spLaw (K : PySem.W.Frag) (B B2 : Addr) : Sp := fun vs H Q _ => ∃ (a : Addr) (ns : List Int), vs = [.ref a] ∧ SqL K H a (ns.map V.int) ∧ ns.length ≤ 63 ∧ Tabs (tabM B B2) H ∧ ∀ H', Q (.bl true) H'
section
variable {P : Program} {w : World} {K : PySem.W.Frag} {mg : Str → Option Value} {base : Heap} {D : Nat → Addr} {L B B2 : Addr}
theorem scLaw : FnScope ["_law_script", "_law_pen_here", "_law_lap", "_law_made_here", "_law_kinds_here", "_law_error", "_law_tell", "_law_due", "_law_number", "_law_spot"] ["_law_script"] (C8.fnScope sLaw) := C8.fnScope_by (by decide +kernel)
theorem fn_law {f : Addr} {fd : FuncData} (F : C8.Fun K "law" "law" sLaw f fd) (Z : Clss P w K mg base D L) (Y : Rest K mg L) (D0 : C8.Cal P w K mg base 1 "_law_pen" (spPen K) []) (D5 : C8.Cal P w K mg base 3 "_law_value" spVal [])
    (DM : CalG P w K mg base 4 "_law_made" (spMade P w K mg base D (tabM B B2)) []) (DK : CalG P w K mg base 4 "_law_kinds" (spKin P w K mg base D (tabM B B2)) []) : FnG P w K mg base 6 f fd ["_law_script"] (spLaw K B B2) := by
  refine fnG F scLaw (fun vs H Q E h => ?_) (fun cdv A outer st H vs Q E hG hr h => ?_)
  · obtain ⟨a, ns, rfl, _⟩ := h
    rfl
  · obtain ⟨a, ns, rfl, hs, hl, ht, k⟩ := h
    refine ⟨_, (pss_cons (ps_set (i := 1) scLaw.nd rfl (Or.inl rfl) (C8.pe_c D0 hr (by decide) (by rfl) (pa_cons (pv 0) pa_nil)))
 (pss_cons (ps_for PassesOwn.never rfl (pi_range1 (by rfl) Y.ng (pa_cons pe_int pa_nil)) (pg_name (i := 2) scLaw.nd rfl (Or.inl rfl)) (pss_cons (ps_asg (pe_tup (pa_cons (pe_g DM hG hr (by decide) (by rfl) (pa_cons (C8.pe_c D5 hr (by decide) (by rfl) (pa_cons (pv 1) pa_nil)) (pa_cons (C8.pe_c D5 hr (by decide) (by rfl) (pa_cons (pv 1) pa_nil)) pa_nil))) (pa_cons (pe_g0 DK hG hr (by decide) (by rfl)) pa_nil))) (pg_tup (by rfl) (pgs_cons (pg_name (i := 3) scLaw.nd rfl (Or.inl rfl)) (pgs_cons (pg_name (i := 4) scLaw.nd rfl (Or.inr rfl)) pgs_nil)))) (pss_one (ps_for PassesOwn.never rfl (pi_list (pv 3)) (pg_tup (by rfl) (pgs_cons (pg_name (i := 5) scLaw.nd rfl (Or.inr rfl)) (pgs_cons (pg_name (i := 6) scLaw.nd rfl (Or.inl rfl)) (pgs_cons (pg_name (i := 7) scLaw.nd rfl (Or.inl rfl)) (pgs_cons (pg_name (i := 8) scLaw.nd rfl (Or.inl rfl)) pgs_nil))))) (pss_cons (ps_if (PW.pt (pw_or (pt_cmpR op_ne (pe_callB (call_reprV hG (hr.mono (by decide))) (by rfl) Y.nr (by decide +kernel) (pa_cons (pe_lamcallE P w K mg base (k := 0) rfl rfl rfl rfl rfl (hr.mono (by decide : 1 ≤ 5)) (pv 6) (pa_cons (pv 5) pa_nil)) pa_nil)) (pe_callB (call_reprV hG (hr.mono (by decide))) (by rfl) Y.nr (by decide +kernel) (pa_cons (pv 7) pa_nil)) (nomark _)) (pw_or (pt_not (pt_val (pe_callB call_isX (by rfl) Y.ni (by decide +kernel) (pa_cons (pv 5) (pa_cons (pe_glob (v := .ref L) (by rfl) Z.mgL rfl) pa_nil))))) (pw_or1 (pt_not (pt_val (pe_callB call_isX (by rfl) Y.ni (by decide +kernel) (pa_cons (pv 5) (pa_cons (pe_bltn (v := .ty "ValueError") (by rfl) Y.nv (by decide +kernel) rfl) pa_nil))))))))) (pss_one (ps_ret pe_bl)) pss_nil) (pss_one (ps_if (pt_cmpR (op_neD hr.units) (pe_lc (own := [("_law_spot", 9)]) (g := gName 9) rfl scLaw.nd (pi_range1 (by rfl) Y.ng (pa_cons (pe_callB call_len_seq (by rfl) Y.nl (by decide +kernel) (pa_cons (pv 4) pa_nil)) pa_nil)) (blkOk_by (own := [("_law_spot", 9)]) (N := ["_law_script", "_law_pen_here", "_law_lap", "_law_made_here", "_law_kinds_here", "_law_error", "_law_tell", "_law_due", "_law_number", "_law_spot"]) (sc := (C8.fnScope sLaw)) (by decide +kernel)) (fun _ _ _ _ _ => pg_name (i := 9) scLaw.nd rfl (Or.inl rfl)) (fun _ _ _ _ _ => pts_one (pt_val (pe_lamcallE P w K mg base (k := 0) rfl rfl rfl rfl rfl (hr.mono (by decide : 1 ≤ 5)) (pe_ix (ix_listK K rfl) (pv 4) (pv 9) (fun _ _ => rfl)) (pa_cons (pv 5) pa_nil)))) (fun _ _ _ _ _ => (pv 9))) (pe_lst (pa_cons (pv 8) pa_nil)) (nomark _)) (pss_one (ps_ret pe_bl)) pss_nil))))))) (pss_one (ps_ret (pe_callB call_isX (by rfl) Y.ni (by decide +kernel) (pa_cons (pe_exc1x PySem.F.excBase_ValueError Y.eL Z.mgL Y.kL (by rfl) pe_str) (pa_cons (pe_bltn (v := .ty "ValueError") (by rfl) Y.nv (by decide +kernel) rfl) pa_nil))))))), ?_⟩
    refine ⟨_, rfl, a, ns, rfl, hs, hl, fun p pl H1 hp1 s1 _ => ?_⟩
    have ht1 := ht.ext s1
    refine ⟨_, rfl, by decide, by decide, for_range (fun i σ' H' => ∃ x2 x3 x4 x5 x6 x7 x8, σ' = [some (V.ref a), some (V.ref p), x2, x3, x4, x5, x6, x7, x8, none] ∧ Pen H' p pl (2 * i) ∧ Tabs (tabM B B2) H') ⟨_, _, _, _, _, _, _, rfl, hp1, ht1⟩ ?_ ?_⟩
    · rintro i σ1 H2 hi ⟨x2, x3, x4, x5, x6, x7, x8, rfl, hp2, ht2⟩
      have hi4 : i < 4 := hi
      refine ⟨_, rfl, p, pl, 2 * i, rfl, hp2, by omega, fun v1 d1 H3 r1 g1 n1 hp3 k3 => ?_⟩
      refine ⟨_, rfl, p, pl, 2 * i + 1, rfl, hp3, by omega, fun v2 d2 H4 r2 g2 n2 hp4 k4 => ?_⟩
      have r1' : Vr H4 v1 d1 := r1.move fun a o ev ha _ => k4 a o (fun z => n1 (by rw [ev, z])) ha
      have t4 : Tabs (tabM B B2) H4 := Lw.Tabs.kp (Lw.Tabs.kp ht2 hp2 k3) hp3 k4
      refine ⟨v1, v2, d1, d2, rfl, r1', r2, g1, g2, t4, fun l xs H5 e5 t5 hl5 its hxs => ?_⟩
      refine ⟨rfl, t5, fun kl ks H6 e6 t6 hk6 ka kn => ?_⟩
      refine ⟨(by show 2 ≤ sizeLine; decide), fun q nq => ?_⟩
      have wd6 : Wd P w K mg base D (tabM B B2) p pl (2 * (i + 1)) l kl xs ks H6 := ⟨e6 _ _ hl5 (fun _ z => by cases z), its.extn e6, hk6, ka, kn, (hp4.extn e5).extn e6, t6⟩
      refine ⟨q, _, rfl, SqT.of upd_same, rfl, _, _, rfl, _, _, rfl, rfl, ?_⟩
      have wd7 := wd6.same (same_new (o := HO.tup [V.ref l, V.ref kl]) nq)
      dsimp only []
      generalize upd H6 q (HO.tup [V.ref l, V.ref kl]) = H7 at wd7 ⊢
      refine ⟨_, rfl, l, rfl, ⟨_, SqL.of wd7.made⟩, for_list (K := K) (a := l) (xs := xs) (fun _ σ' H' => ∃ y5 y6 y7 y8, σ' = [some (V.ref a), some (V.ref p), some (V.int (0 + (i : Int))), some (V.ref l), some (V.ref kl), y5, y6, y7, y8, none] ∧ Wd P w K mg base D (tabM B B2) p pl (2 * (i + 1)) l kl xs ks H') ⟨_, _, _, _, rfl, wd7⟩ (fun _ σ' H' _ ⟨_, _, _, _, _, wd⟩ => SqL.of wd.made) (fun i' x σ' H' hx ⟨y5, y6, y7, y8, hσ, wd⟩ => ?_) (fun σ' H' ⟨y5, y6, y7, y8, hσ, wd⟩ => ?_)⟩
      · subst hσ
        obtain ⟨n, it⟩ := wd.its.at_ hx
        obtain ⟨t, e, tf, dl, fs, vs, ds, rfl, ht', hn, ea, ⟨ps, sp, la, tell⟩, hd, nd, vr, gd, dl2⟩ := it.ex
        obtain ⟨z1, z2, z3⟩ := gd_list gd dl2
        refine ⟨t, _, rfl, SqT.of ht', rfl, _, _, rfl, _, _, rfl, _, _, rfl, _, _, rfl, rfl, ?_⟩
        dsimp only [tSeq]
        refine ⟨_, rfl, tf, ps, sp, rfl, la, _, rfl, la, tell H' _ (ExtN.refl _) fun l2 H8 s8 ne8 e8 => ?_⟩
        have vr8 := vr.extn (Same.extn s8)
        have ea8 := ea.extn (Same.extn s8)
        refine ⟨l2, vs, ds, rfl, ne8, e8, vr8, z1, z2, z3, _, rfl, dl, vs, ds, rfl, nd, s8 _ _ hd, vr8, z1, z2, z3, rfl, _, rfl, ?_⟩
        rw [decide_eq_true rfl]
        refine iteF ?_
        refine ⟨_, rfl, e, D n, fs, .ref L, .ref L, true, rfl, .own L, ea8, Z.xc n hn, Z.kitL n hn, true, rfl, iteF ?_⟩
        refine ⟨_, rfl, e, D n, fs, .ty "ValueError", .type "ValueError", true, rfl, .ty _, ea8, Z.xc n hn, Z.kitV n hn, true, rfl, iteF ?_⟩
        dsimp only [tNext, tIfS, tTest, tOp]
        have wd8 := wd.same s8
        refine spots hn ea8 wd8.kin wd8.ka wd8.kn fun l3 H9 s9 e9 => ?_
        refine ⟨_, rfl, (by show 1 ≤ sizeLine; decide), fun l4 n4 => ?_⟩
        have s10 := same_new (o := HO.lst [V.int n]) n4
        refine ⟨.list ([(n : Int)].map PyData.int), .list ([(n : Int)].map PyData.int), .lst (SqL.of (s10 _ _ e9)) (dp_ints [(n : Int)]), .lst (SqL.of upd_same) (dp_ints [(n : Int)]), shaped_ints [(n : Int)], shaped_ints [(n : Int)], _, rfl, ?_⟩
        rw [SeqAt.eqv_refl _ (SeqAt.canLay_of_shaped (shaped_ints [(n : Int)]))]
        refine iteF ?_
        exact ⟨_, _, _, _, rfl, (wd8.same s9).same s10⟩
      · subst hσ
        exact ⟨_, _, _, _, _, _, _, rfl, wd.pen, wd.tab⟩
    · rintro σ3 H3 ⟨x2, x3, x4, x5, x6, x7, x8, rfl, hp3, ht3⟩
      dsimp only [tRet]
      refine fun b nb => ⟨b, L, [], .ty "ValueError", .type "ValueError", true, rfl, .ty _, .inr ⟨rfl, upd_same⟩, Y.xL, Y.vL, k _⟩
end
end Lw
namespace Lw
open PySem PySem.Spec PyProof.Rows L2

open LamX
/-! ### the call of the law where nothing is being shown, with tables of code objects -/
/-- what is tracked when the law is entered: the tables, and the script unless it is written -/
def Entry (K : PySem.W.Frag) (h : Heap) (a : Addr) (Bs : List Addr) (ns : List Int) (H : Hp) : Prop :=
  (∀ B ∈ Bs, H B = some (.tbl #[])) ∧ SqL K H a (ns.map V.int) ∧ (∀ b u, H b = some u → (b ∈ Bs ∧ u = .tbl #[]) ∨ (b = a ∧ K.lookup a = none ∧ ∃ o xs, u = .frz o (.lst xs) ∧ h.get? a = some o))
theorem entry {P : Program} {w : World} {K : PySem.W.Frag} {h : Heap} {a : Addr} {Bs : List Addr} {vs : List Value} {ns : List Int} (KX : K.In h) (hT : ∀ B ∈ Bs, h.get? B = some { cls := .none, data := .fields #[] }) (ha : h.get? a = some { cls := .type "list", data := .seq vs.toArray }) (hi : IntsAre vs ns) (hl : ns.length ≤ sizeLine) :
    a ∉ Bs ∧ ∃ H, Entry K h a Bs ns H ∧ HOk P w H h := by
  have rv := vals_ints hi
  have lv := hi.length
  have ne : a ∉ Bs := fun e => by
    have hT := hT a e
    rw [ha] at hT
    have z : Data.seq vs.toArray _ = Data.fields #[] := congrArg Obj.data (Option.some.inj hT)
    cases z
  refine ⟨ne, ?_⟩
  cases hk : K.lookup a with
  | some o =>
    have e := KX a o hk
    rw [ha] at e
    cases e
    refine ⟨fun b => if b ∈ Bs then some (.tbl #[]) else none, ⟨fun B hB => if_pos hB, .inr ⟨_, vs.toArray, _, hk, rfl, rfl, rfl, by rw [List.size_toArray, lv]; exact hl, by simpa using rv⟩, fun b u z => ?_⟩, fun b u z => ?_⟩
    · by_cases q : b ∈ Bs
      · exact .inl ⟨q, (Option.some.inj ((if_pos q).symm.trans z)).symm⟩
      · cases (if_neg q).symm.trans z
    · by_cases q : b ∈ Bs
      · cases (if_pos q).symm.trans z
        exact hT b q
      · cases (if_neg q).symm.trans z
  | none =>
    refine ⟨fun b => if b ∈ Bs then some (.tbl #[]) else if b = a then some (.frz { cls := .type "list", data := .seq vs.toArray } (.lst (ns.map V.int))) else none,
      ⟨fun B hB => if_pos hB, .inl (.inr ⟨_, (if_neg ne).trans (if_pos rfl)⟩), fun b u z => ?_⟩, fun b u z => ?_⟩
    · by_cases q : b ∈ Bs
      · exact .inl ⟨q, (Option.some.inj ((if_pos q).symm.trans z)).symm⟩
      · have z2 := (if_neg q).symm.trans z
        by_cases q2 : b = a
        · exact .inr ⟨q2, hk, _, _, (Option.some.inj ((if_pos q2).symm.trans z2)).symm, ha⟩
        · cases (if_neg q2).symm.trans z2
    · by_cases q : b ∈ Bs
      · cases (if_pos q).symm.trans z
        exact hT b q
      · have z2 := (if_neg q).symm.trans z
        by_cases q2 : b = a
        · cases (if_pos q2).symm.trans z2
          rw [q2]
          exact ⟨ha, by rw [List.length_map]; exact hl, vs, _, rv, ha⟩
        · cases (if_neg q2).symm.trans z2
theorem law_end {P : Program} {w : World} {K : PySem.W.Frag} {mg mb : Str → Option Value} {k : Nat} {fa a : Addr} {Bs : List Addr} {fd : FuncData} {x : Str} {sp : Sp} {s₁ : Shared} {vs : List Value} {ns : List Int}
    (KX : K.In s₁.heap) (hns : s₁.heap.Ns mainGlobals mg) (hb : s₁.heap.Ns builtinsNs mb) (hbb : ∀ x : Str, x ≠ "__name__" → mb x = bootBuiltins x) (hlim : s₁.heap.NoLimit) (hg : s₁.gens = #[])
    (hT : ∀ B ∈ Bs, s₁.heap.get? B = some { cls := .none, data := .fields #[] }) (nT : ∀ B ∈ Bs, K.lookup B = none) (C : ∀ B ∈ Bs, ∃ c, PySem.W.CodeHd s₁.heap c B)
    (hbm : ∃ (bm : Addr) (ob : Obj), mg "__builtins__" = some (.ref bm) ∧ bm ≠ builtinsNs ∧ s₁.heap.get? bm = some ob ∧ ob.cls = .type "module" ∧ ob.dict = some builtinsNs ∧ ob.data = .plain)
    (ha : s₁.heap.get? a = some { cls := .type "list", data := .seq vs.toArray }) (hi : IntsAre vs ns) (hl : ns.length ≤ sizeLine) (hr : Room k callerA)
    (F : ∀ base : Heap, K.In base → base.Ns mainGlobals mg → (∀ B ∈ Bs, ∀ c, PySem.W.CodeHd s₁.heap c B → TabB base mg c B) → FnG P w K mg base k fa fd [x] sp) (hbind : ∀ (s : Shared) (u : Value), BindsTo s fd ⟨[u], []⟩ [(x, u)])
    (hsp : ∀ H : Hp, (∀ B ∈ Bs, H B = some (.tbl #[])) → SqL K H a (ns.map V.int) → sp [.ref a] H (fun v _ => v = .bl true) C8.E0) :
    codeAny (model P w) callerA (.call (.ref fa) ⟨[.ref a], []⟩) (fun r s' => r = .ok (.ret (.bool true)) ∧ OldK s₁.heap s'.heap ∧ s'.os = s₁.os ∧ AllBare s'.gens) s₁ := by
  obtain ⟨ne, H, ⟨hB, hS, hA⟩, hok⟩ := entry (P := P) (w := w) KX hT ha hi hl
  -- what is neither a table nor the script is untracked
  have free : ∀ {b : Addr} {o : Obj}, s₁.heap.get? b = some o → (∀ vs n, o.data ≠ .seq vs n) → o.data ≠ .fields #[] → H b = none := fun {b o} e h1 h2 => by
    cases q : H b with
    | none => rfl
    | some u =>
      rcases hA b u q with ⟨e', _⟩ | ⟨e', _⟩
      · rw [hT b e'] at e
        cases e
        exact absurd rfl h2
      · rw [e', ha] at e
        cases e
        exact absurd rfl (h1 _ _)
  have through : ∀ {b : Addr} {o : Obj}, s₁.heap.get? b = some o → H b = none → (hidT s₁.heap H).get? b = some o := fun e n => hidT_get e n
  have nsT : ∀ {b : Addr} {m : Str → Option Value}, s₁.heap.Ns b m → (hidT s₁.heap H).Ns b m := fun {b m} ⟨o, es, ep, e, d, r⟩ => by
    refine ⟨o, es, ep, through e (free e (fun vs n z => ?_) fun z => ?_), d, r⟩ <;> · rw [d] at z; cases z
  have inT : K.In (hidT s₁.heap H) := fun b o e => by
    refine through (KX b o e) ?_
    cases q : H b with
    | none => rfl
    | some u =>
      rcases hA b u q with ⟨e', _⟩ | ⟨e', n, _⟩
      · rw [nT b e'] at e; cases e
      · rw [e', n] at e; cases e
  have modT : L2.Mod K mg (hidT s₁.heap H) := by
    obtain ⟨mc, h1, h2⟩ := hlim
    exact ⟨inT, nsT hns, ⟨mb, nsT hb, hbb⟩, ⟨mc, nsT h1, h2⟩⟩
  have tabT : ∀ B ∈ Bs, ∀ c, PySem.W.CodeHd s₁.heap c B → TabB (hidT s₁.heap H) mg c B := fun B hBs c C => by
    refine ⟨?_, ?_, fun z => ?_⟩
    · obtain ⟨o, us, file, tf, flags, tg, inF, text, tt, e1, r1, r2, r3, r4⟩ := C
      refine ⟨o, us, file, tf, flags, tg, inF, text, tt, through e1 (free e1 (fun vs n z => ?_) fun z => ?_), r1, r2, r3, r4⟩
      · rw [r2] at z; cases z
      · rw [r2] at z; cases z
        simp at r3
    · obtain ⟨bm, ob, b1, b2, b3, b4, b5, b6⟩ := hbm
      refine ⟨bm, ob, b1, b2, fun q => ?_, fun q => ?_, through b3 (free b3 (fun vs n z => ?_) fun z => ?_), b4, b5, b6⟩
      · obtain ⟨o, es, ep, e, d, _⟩ := hns
        rw [q, e] at b3
        cases b3
        rw [d] at b6
        cases b6
      · rw [q, hT B hBs] at b3
        cases b3
        cases b6
      · rw [b6] at z; cases z
      · rw [b6] at z; cases z
    · obtain ⟨o, es, ep, e, d, _⟩ := hns
      rw [z, hT B hBs] at e
      cases e
      cases d
  have e0 : Env0 P w K mg (hidT s₁.heap H) callerA [] s₁ H := ⟨rfl, modT, fun b o e => of_hidT e, Nat.le_of_eq (hidT_size _ _), trivial, fun b hb => absurd (show b ∈ ([] : List Addr) from hb) (by simp), hok, .of_eq hg⟩
  refine codeAny_mono ((F _ inT (nsT hns) tabT).run callerA [] s₁ H ⟨[.ref a], []⟩ [.ref a] [.ref a] _ _ rfl hr e0 (hbind s₁ (.ref a)) (.cons rfl .nil) (hsp H hB hS)) fun r s' q => ?_
  match r, q with
  | .error e, q => exact (show False from q).elim
  | .ok .next, q => exact (show False from q).elim
  | .ok .brk, q => exact (show False from q).elim
  | .ok .cont, q => exact (show False from q).elim
  | .ok (.ret u), q =>
    obtain ⟨v, H', os, bare, un, hok', r', qv⟩ := q
    have qv' : v = .bl true := qv
    subst qv'
    obtain rfl : u = Value.bool true := r'
    have same : ∀ b o, b ∉ Bs → s₁.heap.get? b = some o → s'.heap.get? b = some o := fun b o nb e => by
      cases q : H b with
      | none => exact un.keep b o e q (by intro z; exact absurd (show b ∈ ([] : List Addr) from z) (by simp)) (by simp)
      | some u =>
        rcases hA b u q with ⟨z, _⟩ | ⟨e', _, ob, xs, rfl, hob⟩
        · exact absurd z nb
        · obtain ⟨e2, _⟩ := hok' b _ (un.frzs b ob _ q)
          rw [e', hob] at e
          cases e
          exact e2
    refine ⟨rfl, ⟨fun b o e => ?_, fun b o e => ?_⟩, os, bare⟩
    · by_cases hb : b ∈ Bs
      · obtain ⟨more, hmore⟩ := un.tbls b #[] (hB b hb)
        have atB := hok' b _ hmore
        obtain ⟨c, C⟩ := C b hb
        have hT := hT b hb
        rw [hT] at e
        cases e
        exact .inr (.inl ⟨(C.tab hT).isCodeTable, rfl, #[], _, rfl, atB⟩)
      · exact .inl (same b o hb e)
    · by_cases hb : b ∈ Bs
      · obtain ⟨more, hmore⟩ := un.tbls b #[] (hB b hb)
        exact ⟨_, hok' b _ hmore⟩
      · exact ⟨o, same b o hb e⟩
theorem tabIn_of {K : PySem.W.Frag} {x : Str} {f c B : Addr} {oc occ : Value} {od odc : Option Addr} {fd : FuncData} {sl slc : Array (Option Value)} {us : Array Value} (h1 : PySem.W.nsIn K mainGlobals x = some (some (.ref f))) (h2 : K.lookup f = some ⟨oc, od, .func fd, sl⟩) (hc : fd.code = .ref c)
    (h3 : K.lookup c = some ⟨occ, odc, .fields us, slc⟩) (h4 : us[11]? = some (.ref B)) : PySem.W.tabIn K x = some (c, B) := by
  unfold PySem.W.tabIn
  rw [h1]
  dsimp only
  rw [h2]
  dsimp only
  rw [hc]
  dsimp only
  rw [h3]
  dsimp only
  rw [h4]
theorem walk_end {l : PySem.W.OpenLaw} {n k : Nat} {q : Program} {loose : List Str} {XP : (Str → Option Value) → Heap → Prop} {YP : World → Heap → Prop} {d : DefRec} {K : Params → PySem.W.Frag} {x : Str} {xt xt2 : Str}
    (hn : l.most = some n) (hn2 : n ≤ 63) (hdf : d.params.defaults = []) (hr : Room k callerA) (hY : ∀ (w : World) (h : Heap), YP w h → (K w.params).In h) (hrec : ((recsOf q).find? fun e => e.name == xt).isSome = true) (hrec2 : ((recsOf q).find? fun e => e.name == xt2).isSome = true)
    (F : ∀ (w : World) (mg : Str → Option Value) (fa : Addr) (h : Heap), (K w.params).In h → h.Ns mainGlobals mg → mg d.name = some (.ref fa) → ∃ (fd : FuncData) (c B c2 B2 : Addr), PySem.W.tabIn (K w.params) xt = some (c, B) ∧ (K w.params).lookup B = none ∧ PySem.W.tabIn (K w.params) xt2 = some (c2, B2) ∧ (K w.params).lookup B2 = none ∧ (∀ (s : Shared) (u : Value), BindsTo s fd ⟨[u], []⟩ [(x, u)]) ∧
      ∀ base : Heap, (K w.params).In base → base.Ns mainGlobals mg → TabB base mg c B → TabB base mg c2 B2 → FnG l.prog w (K w.params) mg base k fa fd [x] (spLaw (K w.params) B B2)) :
    PySem.W.WalkO q loose XP YP l.row.toRowW d [] (fun f vs => PySem.call f vs) := by
  refine Att.attach_callB hn hdf fun w s₀ s₁ mg mb fa o pm cd doc a vs ns G Y ho hd hcd hmg hobj hints hlen hbits hg => ?_
  have KX := hY w _ Y
  obtain ⟨fd, c, B, c2, B2, ht, nT, ht2, nT2, hb, hF⟩ := F w mg fa _ KX G.T.g hmg
  obtain ⟨dr, hdr⟩ := Option.isSome_iff_exists.mp hrec
  obtain ⟨dr2, hdr2⟩ := Option.isSome_iff_exists.mp hrec2
  obtain ⟨hC, hT⟩ := PySem.W.tab_of G.T KX hdr ht
  obtain ⟨hC2, hT2⟩ := PySem.W.tab_of G.T KX hdr2 ht2
  have two : ∀ {p : Addr → Prop}, p B → p B2 → ∀ b ∈ [B, B2], p b := fun {p} h1 h2 b hb => by
    rcases List.mem_cons.mp hb with rfl | hb
    · exact h1
    · rw [List.mem_singleton.mp hb]; exact h2
  exact law_end (Bs := [B, B2]) KX G.T.g G.T.b G.T.builtins G.T.nolimit hg (two hT hT2) (two nT nT2) (two ⟨_, hC⟩ ⟨_, hC2⟩) G.T.bmain hobj hints (Nat.le_trans (Nat.le_trans hlen hn2) (by decide)) hr
    (fun base kin ns tb => hF base kin ns (tb B List.mem_cons_self c hC) (tb B2 (List.mem_cons_of_mem _ List.mem_cons_self) c2 hC2)) hb fun H hB hS =>
    ⟨a, ns, rfl, hS, Nat.le_trans hlen hn2, fun p hp => (by
      rcases List.mem_cons.mp hp with rfl | hp
      · exact TabS.nil (hB B List.mem_cons_self)
      · rw [List.mem_singleton.mp hp]; exact TabS.nil (hB B2 (List.mem_cons_of_mem _ List.mem_cons_self))), fun _ => rfl⟩
end Lw
namespace Lw
open PySem PySem.Spec PyProof.Rows L2

open LamX

/-- what is asked of a class with an __init__, as one test -/
def clsB (K : PySem.W.Frag) (C fI : Addr) (bm : List Value) (fs : List Str) : Bool :=
  decide (PySem.W.findIn K (.ref C) "__setattr__" = some (some (.builtin "object.__setattr__"))) && (decide (PySem.W.subIn K (.ref C) (.type "BaseException") = some true) && (decide (PySem.W.typeIn K (.ref C) = some (.type "type")) && (PySem.W.keepIn K (.ref C) && (xfB K C && (PySem.HandSPX.refsVE bm && (decide (PySem.W.typeIn K (.ref fI) = some (.type "function")) && fs.all fun f => decide (PySem.W.findIn K (.ref C) f = some none)))))))
theorem clsB_ok {K : PySem.W.Frag} {C fI : Addr} {bm : List Value} {fs : List Str} (hx : ∃ nm q N bs sn sub ab col dd k0 k1 k2 k3 k5, K.lookup C = some (excClassObj nm q C N bs bm true sn sub ab col dd k0 k1 k2 k3 k5 "ValueError.__new__")) (h : clsB K C fI bm fs = true) :
    OexC K C ∧ PySem.W.typeIn K (.ref fI) = some (.type "function") ∧ XfC K C ∧ ∀ f ∈ fs, PySem.W.findIn K (.ref C) f = some none := by
  obtain ⟨nm, q, N, bs, sn, sub, ab, col, dd, k0, k1, k2, k3, k5, hx⟩ := hx
  obtain ⟨h1, h⟩ := Bool.and_eq_true_iff.mp h
  obtain ⟨h2, h⟩ := Bool.and_eq_true_iff.mp h
  obtain ⟨h3, h⟩ := Bool.and_eq_true_iff.mp h
  obtain ⟨h4, h⟩ := Bool.and_eq_true_iff.mp h
  obtain ⟨h5, h⟩ := Bool.and_eq_true_iff.mp h
  obtain ⟨h6, h⟩ := Bool.and_eq_true_iff.mp h
  obtain ⟨h7, h8⟩ := Bool.and_eq_true_iff.mp h
  exact ⟨⟨⟨nm, q, N, bs, bm, sn, sub, ab, col, dd, k0, k1, k2, k3, k5, hx, h6⟩, of_decide_eq_true h1, of_decide_eq_true h2, of_decide_eq_true h3, h4⟩, of_decide_eq_true h7, xfB_ok h5, fun f hf => of_decide_eq_true (List.all_eq_true.mp h8 f hf)⟩
def xcB (K : PySem.W.Frag) (D : Addr) : Bool :=
  decide (PySem.W.findIn K (.ref D) "__getattribute__" = some (some (.builtin "BaseException.__getattribute__"))) && (decide (PySem.W.findIn K (.ref D) "__getattr__" = some none) && (decide (PySem.W.subIn K (.ref D) (.type "BaseException") = some true) && (PySem.W.hasDictIn K D && (decide (PySem.W.findIn K (.ref D) "__class__" = some (some (.builtin "object.__class__"))) && (decide (PySem.W.specialIn K (.builtin "object.__class__") "__get__" = some (some (.builtin "getset_descriptor.__get__"))) && (decide (PySem.W.takesIn K (.builtin "object.__class__") = some true) && decide (PySem.W.mroIn K D (.type "object") = some true)))))))
theorem xcB_ok {K : PySem.W.Frag} {D : Addr} (h : xcB K D = true) : Hx.XCls K D := by
  obtain ⟨h1, h⟩ := Bool.and_eq_true_iff.mp h
  obtain ⟨h2, h⟩ := Bool.and_eq_true_iff.mp h
  obtain ⟨h3, h⟩ := Bool.and_eq_true_iff.mp h
  obtain ⟨h4, h⟩ := Bool.and_eq_true_iff.mp h
  obtain ⟨h5, h⟩ := Bool.and_eq_true_iff.mp h
  obtain ⟨h6, h⟩ := Bool.and_eq_true_iff.mp h
  obtain ⟨h7, h8⟩ := Bool.and_eq_true_iff.mp h
  exact ⟨of_decide_eq_true h1, of_decide_eq_true h2, of_decide_eq_true h3, h4, of_decide_eq_true h5, of_decide_eq_true h6, of_decide_eq_true h7, of_decide_eq_true h8⟩
def kitB26 (K : PySem.W.Frag) (Ds : List Addr) : Bool := (List.range 26).all fun i => (List.range 26).all fun j => decide (PySem.W.kitOne K (.ref (Ds.getD i 0)) (.ref (Ds.getD j 0)) = some (decide (i = j)))
theorem kitB26_ok {K : PySem.W.Frag} {Ds : List Addr} (h : kitB26 K Ds = true) (i j : Nat) (hi : i < 26) (hj : j < 26) : PySem.W.kitOne K (.ref (Ds.getD i 0)) (.ref (Ds.getD j 0)) = some (decide (i = j)) :=
  of_decide_eq_true (List.all_eq_true.mp (List.all_eq_true.mp h i (List.mem_range.mpr hi)) j (List.mem_range.mpr hj))
/-- self by position, the fields by keywords -/
theorem kb_k1 {K : PySem.W.Frag} {x q : Str} {st : Stmt} {f : Addr} {fd : FuncData} {n : Str} (F : C8.Fun K x q st f fd) (df : fd.defaults = .none) (h : ∀ (kV doc pm : Value) (an : Option Addr) (cdv ct u w : Value), bindArgs (PySem.W.fnOf x q (C8.fnArgs st) (C8.fnBody st) (C8.fnScope st) .none kV doc pm an cdv ct) ⟨[u], [n].zip [w]⟩ = pure ([("self" : Str), n].zip [u, w])) :
    KBn K fd ["self", n] 1 [n] (fun us ws => us ++ ws) (fun vs zs => vs ++ zs) := by
  obtain ⟨oc, od, dV, kV, doc, pm, an, cdv, ct, osl, rfl, lk, hcd⟩ := F.ex
  have e : dV = .none := df
  subst e
  refine ⟨fun s us ws X h1 h2 => ?_, fun r1 r2 => r1.append r2⟩
  match us, ws, h1, h2 with
  | [u], [w], _, _ => exact .of_eq (h kV doc pm an cdv ct u w)
theorem kb_k2 {K : PySem.W.Frag} {x q : Str} {st : Stmt} {f : Addr} {fd : FuncData} {n1 n2 : Str} (F : C8.Fun K x q st f fd) (df : fd.defaults = .none) (h : ∀ (kV doc pm : Value) (an : Option Addr) (cdv ct u w1 w2 : Value), bindArgs (PySem.W.fnOf x q (C8.fnArgs st) (C8.fnBody st) (C8.fnScope st) .none kV doc pm an cdv ct) ⟨[u], [n2, n1].zip [w2, w1]⟩ = pure ([("self" : Str), n1, n2].zip [u, w1, w2])) :
    KBn K fd ["self", n1, n2] 1 [n2, n1] swG swG := by
  obtain ⟨oc, od, dV, kV, doc, pm, an, cdv, ct, osl, rfl, lk, hcd⟩ := F.ex
  have e : dV = .none := df
  subst e
  refine ⟨fun s us ws X h1 h2 => ?_, fun {vs us zs ws} r1 r3 => ?_⟩
  · match us, ws, h1, h2 with
    | [u], [w2, w1], _, _ => exact .of_eq (h kV doc pm an cdv ct u w1 w2)
  · cases r3 with
    | nil => exact r1
    | cons h1 t1 =>
      cases t1 with
      | nil => exact r1
      | cons h2 t2 =>
        cases t2 with
        | nil => exact r1.append (.cons h2 (.cons h1 .nil))
        | cons h3 t3 => exact r1
theorem all_known {l : PySem.W.OpenLaw} {w : World} {K : PySem.W.Frag} {h : Heap} {mg : Str → Option Value} {fa : Addr} (X : K.In h) (G : h.Ns mainGlobals mg) (hfa : mg "law" = some (.ref fa))
    {flp : Addr} {oclp kVlp dclp pmlp ctlp cdlp : Value} {odlp anlp : Option Addr} {sllp : Array (Option Value)}
    {fld : Addr} {ocld kVld dcld pmld ctld cdld : Value} {odld anld : Option Addr} {slld : Array (Option Value)}
    {flk : Addr} {oclk kVlk dclk pmlk ctlk cdlk : Value} {odlk anlk : Option Addr} {sllk : Array (Option Value)}
    {flv : Addr} {oclv kVlv dclv pmlv ctlv cdlv : Value} {odlv anlv : Option Addr} {sllv : Array (Option Value)}
    {flm : Addr} {oclm kVlm dclm pmlm ctlm : Value} {odlm anlm : Option Addr} {sllm : Array (Option Value)}
    {fln : Addr} {ocln kVln dcln pmln ctln : Value} {odln anln : Option Addr} {slln : Array (Option Value)}
    {fla : Addr} {ocla kVla dcla pmla ctla cdla : Value} {odla anla : Option Addr} {slla : Array (Option Value)}
    {Ac0 : Addr}
    {I0 : Addr} {oE0 vE0 dE0 pE0 cE0 tE0 : Value} {sE0 nE0 : Option Addr} {lE0 : Array (Option Value)} {nm0 q0 : Str} {N0 : Addr} {bs0 bm0 : List Value} {sn0 : List Str} {sub0 : List Value} {ab0 : Bool} {col0 : Option Bool} {dd0 : Option Addr} {x0 y0 z0 u0 v0 : Option Value}
    {Ac1 : Addr}
    {I1 : Addr} {oE1 vE1 dE1 pE1 cE1 tE1 : Value} {sE1 nE1 : Option Addr} {lE1 : Array (Option Value)} {nm1 q1 : Str} {N1 : Addr} {bs1 bm1 : List Value} {sn1 : List Str} {sub1 : List Value} {ab1 : Bool} {col1 : Option Bool} {dd1 : Option Addr} {x1 y1 z1 u1 v1 : Option Value}
    {Ac2 : Addr}
    {I2 : Addr} {oE2 vE2 dE2 pE2 cE2 tE2 : Value} {sE2 nE2 : Option Addr} {lE2 : Array (Option Value)} {nm2 q2 : Str} {N2 : Addr} {bs2 bm2 : List Value} {sn2 : List Str} {sub2 : List Value} {ab2 : Bool} {col2 : Option Bool} {dd2 : Option Addr} {x2 y2 z2 u2 v2 : Option Value}
    {Ac3 : Addr}
    {I3 : Addr} {oE3 vE3 dE3 pE3 cE3 tE3 : Value} {sE3 nE3 : Option Addr} {lE3 : Array (Option Value)} {nm3 q3 : Str} {N3 : Addr} {bs3 bm3 : List Value} {sn3 : List Str} {sub3 : List Value} {ab3 : Bool} {col3 : Option Bool} {dd3 : Option Addr} {x3 y3 z3 u3 v3 : Option Value}
    {Ac4 : Addr}
    {I4 : Addr} {oE4 vE4 dE4 pE4 cE4 tE4 : Value} {sE4 nE4 : Option Addr} {lE4 : Array (Option Value)} {nm4 q4 : Str} {N4 : Addr} {bs4 bm4 : List Value} {sn4 : List Str} {sub4 : List Value} {ab4 : Bool} {col4 : Option Bool} {dd4 : Option Addr} {x4 y4 z4 u4 v4 : Option Value}
    {Ac5 : Addr}
    {I5 : Addr} {oE5 vE5 dE5 pE5 cE5 tE5 : Value} {sE5 nE5 : Option Addr} {lE5 : Array (Option Value)} {nm5 q5 : Str} {N5 : Addr} {bs5 bm5 : List Value} {sn5 : List Str} {sub5 : List Value} {ab5 : Bool} {col5 : Option Bool} {dd5 : Option Addr} {x5 y5 z5 u5 v5 : Option Value}
    {Ac6 : Addr}
    {I6 : Addr} {oE6 vE6 dE6 pE6 cE6 tE6 : Value} {sE6 nE6 : Option Addr} {lE6 : Array (Option Value)} {nm6 q6 : Str} {N6 : Addr} {bs6 bm6 : List Value} {sn6 : List Str} {sub6 : List Value} {ab6 : Bool} {col6 : Option Bool} {dd6 : Option Addr} {x6 y6 z6 u6 v6 : Option Value}
    {Ac7 : Addr}
    {I7 : Addr} {oE7 vE7 dE7 pE7 cE7 tE7 : Value} {sE7 nE7 : Option Addr} {lE7 : Array (Option Value)} {nm7 q7 : Str} {N7 : Addr} {bs7 bm7 : List Value} {sn7 : List Str} {sub7 : List Value} {ab7 : Bool} {col7 : Option Bool} {dd7 : Option Addr} {x7 y7 z7 u7 v7 : Option Value}
    {Ac8 : Addr}
    {I8 : Addr} {oE8 vE8 dE8 pE8 cE8 tE8 : Value} {sE8 nE8 : Option Addr} {lE8 : Array (Option Value)} {nm8 q8 : Str} {N8 : Addr} {bs8 bm8 : List Value} {sn8 : List Str} {sub8 : List Value} {ab8 : Bool} {col8 : Option Bool} {dd8 : Option Addr} {x8 y8 z8 u8 v8 : Option Value}
    {Ac9 : Addr}
    {I9 : Addr} {oE9 vE9 dE9 pE9 cE9 tE9 : Value} {sE9 nE9 : Option Addr} {lE9 : Array (Option Value)} {nm9 q9 : Str} {N9 : Addr} {bs9 bm9 : List Value} {sn9 : List Str} {sub9 : List Value} {ab9 : Bool} {col9 : Option Bool} {dd9 : Option Addr} {x9 y9 z9 u9 v9 : Option Value}
    {Ac10 : Addr}
    {I10 : Addr} {oE10 vE10 dE10 pE10 cE10 tE10 : Value} {sE10 nE10 : Option Addr} {lE10 : Array (Option Value)} {nm10 q10 : Str} {N10 : Addr} {bs10 bm10 : List Value} {sn10 : List Str} {sub10 : List Value} {ab10 : Bool} {col10 : Option Bool} {dd10 : Option Addr} {x10 y10 z10 u10 v10 : Option Value}
    {Ac11 : Addr}
    {I11 : Addr} {oE11 vE11 dE11 pE11 cE11 tE11 : Value} {sE11 nE11 : Option Addr} {lE11 : Array (Option Value)} {nm11 q11 : Str} {N11 : Addr} {bs11 bm11 : List Value} {sn11 : List Str} {sub11 : List Value} {ab11 : Bool} {col11 : Option Bool} {dd11 : Option Addr} {x11 y11 z11 u11 v11 : Option Value}
    {Ac12 : Addr}
    {I12 : Addr} {oE12 vE12 dE12 pE12 cE12 tE12 : Value} {sE12 nE12 : Option Addr} {lE12 : Array (Option Value)} {nm12 q12 : Str} {N12 : Addr} {bs12 bm12 : List Value} {sn12 : List Str} {sub12 : List Value} {ab12 : Bool} {col12 : Option Bool} {dd12 : Option Addr} {x12 y12 z12 u12 v12 : Option Value}
    {Ac13 : Addr}
    {I13 : Addr} {oE13 vE13 dE13 pE13 cE13 tE13 : Value} {sE13 nE13 : Option Addr} {lE13 : Array (Option Value)} {nm13 q13 : Str} {N13 : Addr} {bs13 bm13 : List Value} {sn13 : List Str} {sub13 : List Value} {ab13 : Bool} {col13 : Option Bool} {dd13 : Option Addr} {x13 y13 z13 u13 v13 : Option Value}
    {Ac14 : Addr}
    {I14 : Addr} {oE14 vE14 dE14 pE14 cE14 tE14 : Value} {sE14 nE14 : Option Addr} {lE14 : Array (Option Value)} {nm14 q14 : Str} {N14 : Addr} {bs14 bm14 : List Value} {sn14 : List Str} {sub14 : List Value} {ab14 : Bool} {col14 : Option Bool} {dd14 : Option Addr} {x14 y14 z14 u14 v14 : Option Value}
    {Ac15 : Addr}
    {I15 : Addr} {oE15 vE15 dE15 pE15 cE15 tE15 : Value} {sE15 nE15 : Option Addr} {lE15 : Array (Option Value)} {nm15 q15 : Str} {N15 : Addr} {bs15 bm15 : List Value} {sn15 : List Str} {sub15 : List Value} {ab15 : Bool} {col15 : Option Bool} {dd15 : Option Addr} {x15 y15 z15 u15 v15 : Option Value}
    {Ac16 : Addr}
    {I16 : Addr} {oE16 vE16 dE16 pE16 cE16 tE16 : Value} {sE16 nE16 : Option Addr} {lE16 : Array (Option Value)} {nm16 q16 : Str} {N16 : Addr} {bs16 bm16 : List Value} {sn16 : List Str} {sub16 : List Value} {ab16 : Bool} {col16 : Option Bool} {dd16 : Option Addr} {x16 y16 z16 u16 v16 : Option Value}
    {Ac17 : Addr}
    {I17 : Addr} {oE17 vE17 dE17 pE17 cE17 tE17 : Value} {sE17 nE17 : Option Addr} {lE17 : Array (Option Value)} {nm17 q17 : Str} {N17 : Addr} {bs17 bm17 : List Value} {sn17 : List Str} {sub17 : List Value} {ab17 : Bool} {col17 : Option Bool} {dd17 : Option Addr} {x17 y17 z17 u17 v17 : Option Value}
    {Ac18 : Addr}
    {I18 : Addr} {oE18 vE18 dE18 pE18 cE18 tE18 : Value} {sE18 nE18 : Option Addr} {lE18 : Array (Option Value)} {nm18 q18 : Str} {N18 : Addr} {bs18 bm18 : List Value} {sn18 : List Str} {sub18 : List Value} {ab18 : Bool} {col18 : Option Bool} {dd18 : Option Addr} {x18 y18 z18 u18 v18 : Option Value}
    {Ac19 : Addr}
    {I19 : Addr} {oE19 vE19 dE19 pE19 cE19 tE19 : Value} {sE19 nE19 : Option Addr} {lE19 : Array (Option Value)} {nm19 q19 : Str} {N19 : Addr} {bs19 bm19 : List Value} {sn19 : List Str} {sub19 : List Value} {ab19 : Bool} {col19 : Option Bool} {dd19 : Option Addr} {x19 y19 z19 u19 v19 : Option Value}
    {Ac20 : Addr}
    {I20 : Addr} {oE20 vE20 dE20 pE20 cE20 tE20 : Value} {sE20 nE20 : Option Addr} {lE20 : Array (Option Value)} {nm20 q20 : Str} {N20 : Addr} {bs20 bm20 : List Value} {sn20 : List Str} {sub20 : List Value} {ab20 : Bool} {col20 : Option Bool} {dd20 : Option Addr} {x20 y20 z20 u20 v20 : Option Value}
    {Ac21 : Addr}
    {I21 : Addr} {oE21 vE21 dE21 pE21 cE21 tE21 : Value} {sE21 nE21 : Option Addr} {lE21 : Array (Option Value)} {nm21 q21 : Str} {N21 : Addr} {bs21 bm21 : List Value} {sn21 : List Str} {sub21 : List Value} {ab21 : Bool} {col21 : Option Bool} {dd21 : Option Addr} {x21 y21 z21 u21 v21 : Option Value}
    {Ac22 : Addr}
    {I22 : Addr} {oE22 vE22 dE22 pE22 cE22 tE22 : Value} {sE22 nE22 : Option Addr} {lE22 : Array (Option Value)} {nm22 q22 : Str} {N22 : Addr} {bs22 bm22 : List Value} {sn22 : List Str} {sub22 : List Value} {ab22 : Bool} {col22 : Option Bool} {dd22 : Option Addr} {x22 y22 z22 u22 v22 : Option Value}
    {Ac23 : Addr}
    {I23 : Addr} {oE23 vE23 dE23 pE23 cE23 tE23 : Value} {sE23 nE23 : Option Addr} {lE23 : Array (Option Value)} {nm23 q23 : Str} {N23 : Addr} {bs23 bm23 : List Value} {sn23 : List Str} {sub23 : List Value} {ab23 : Bool} {col23 : Option Bool} {dd23 : Option Addr} {x23 y23 z23 u23 v23 : Option Value}
    {Ac24 : Addr}
    {I24 : Addr} {oE24 vE24 dE24 pE24 cE24 tE24 : Value} {sE24 nE24 : Option Addr} {lE24 : Array (Option Value)} {nm24 q24 : Str} {N24 : Addr} {bs24 bm24 : List Value} {sn24 : List Str} {sub24 : List Value} {ab24 : Bool} {col24 : Option Bool} {dd24 : Option Addr} {x24 y24 z24 u24 v24 : Option Value}
    {Ac25 : Addr}
    {L : Addr}
    {cT B : Addr} {ocT : Value} {odT : Option Addr} {usT : Array Value} {slT : Array (Option Value)}
    {cU B2 : Addr} {ocU : Value} {odU : Option Addr} {usU : Array Value} {slU : Array (Option Value)}
    (alp : PySem.W.nsIn K mainGlobals "_law_pen" = some (some (.ref flp)))
    (llp : K.lookup flp = some ⟨oclp, odlp, .func (PySem.W.fnOf "_law_pen" "_law_pen" (C8.fnArgs sPen) (C8.fnBody sPen) (C8.fnScope sPen) .none kVlp dclp pmlp anlp cdlp ctlp), sllp⟩)
    (clp : PySem.W.codeIn K cdlp "_law_pen" = true)
    (klp : PySem.W.keepIn K (.ref flp) = true)
    (ald : PySem.W.nsIn K mainGlobals "_law_draw" = some (some (.ref fld)))
    (lld : K.lookup fld = some ⟨ocld, odld, .func (PySem.W.fnOf "_law_draw" "_law_draw" (C8.fnArgs sDraw) (C8.fnBody sDraw) (C8.fnScope sDraw) .none kVld dcld pmld anld cdld ctld), slld⟩)
    (cld : PySem.W.codeIn K cdld "_law_draw" = true)
    (kld : PySem.W.keepIn K (.ref fld) = true)
    (alk : PySem.W.nsIn K mainGlobals "_law_pick" = some (some (.ref flk)))
    (llk : K.lookup flk = some ⟨oclk, odlk, .func (PySem.W.fnOf "_law_pick" "_law_pick" (C8.fnArgs sPick) (C8.fnBody sPick) (C8.fnScope sPick) .none kVlk dclk pmlk anlk cdlk ctlk), sllk⟩)
    (clk : PySem.W.codeIn K cdlk "_law_pick" = true)
    (klk : PySem.W.keepIn K (.ref flk) = true)
    (alv : PySem.W.nsIn K mainGlobals "_law_value" = some (some (.ref flv)))
    (llv : K.lookup flv = some ⟨oclv, odlv, .func (PySem.W.fnOf "_law_value" "_law_value" (C8.fnArgs sVal) (C8.fnBody sVal) (C8.fnScope sVal) .none kVlv dclv pmlv anlv cdlv ctlv), sllv⟩)
    (clv : PySem.W.codeIn K cdlv "_law_value" = true)
    (klv : PySem.W.keepIn K (.ref flv) = true)
    (alm : PySem.W.nsIn K mainGlobals "_law_made" = some (some (.ref flm)))
    (llm : K.lookup flm = some ⟨oclm, odlm, .func (PySem.W.fnOf "_law_made" "_law_made" (C8.fnArgs sMade) (C8.fnBody sMade) (C8.fnScope sMade) .none kVlm dclm pmlm anlm (.ref cT) ctlm), sllm⟩)
    (clm : PySem.W.codeIn K (.ref cT) "_law_made" = true)
    (klm : PySem.W.keepIn K (.ref flm) = true)
    (aln : PySem.W.nsIn K mainGlobals "_law_kinds" = some (some (.ref fln)))
    (lln : K.lookup fln = some ⟨ocln, odln, .func (PySem.W.fnOf "_law_kinds" "_law_kinds" (C8.fnArgs sKin) (C8.fnBody sKin) (C8.fnScope sKin) .none kVln dcln pmln anln (.ref cU) ctln), slln⟩)
    (cln : PySem.W.codeIn K (.ref cU) "_law_kinds" = true)
    (kln : PySem.W.keepIn K (.ref fln) = true)
    (ala : PySem.W.nsIn K mainGlobals "law" = some (some (.ref fla)))
    (lla : K.lookup fla = some ⟨ocla, odla, .func (PySem.W.fnOf "law" "law" (C8.fnArgs sLaw) (C8.fnBody sLaw) (C8.fnScope sLaw) .none kVla dcla pmla anla cdla ctla), slla⟩)
    (cla : PySem.W.codeIn K cdla "law" = true)
    (kla : PySem.W.keepIn K (.ref fla) = true)
    (g0 : PySem.W.nsIn K mainGlobals "BadName" = some (some (.ref Ac0)))
    (x0_ : K.lookup Ac0 = some (excClassObj nm0 q0 Ac0 N0 bs0 bm0 true sn0 sub0 ab0 col0 dd0 x0 y0 z0 u0 v0 "ValueError.__new__"))
    (i0 : PySem.W.findIn K (.ref Ac0) "__init__" = some (some (.ref I0)))
    (l0 : K.lookup I0 = some ⟨oE0, sE0, .func (PySem.W.fnOf "__init__" "BadName.__init__" (C8.fnArgs sIBadName) (C8.fnBody sIBadName) (C8.fnScope sIBadName) .none vE0 dE0 pE0 nE0 cE0 tE0), lE0⟩)
    (d0 : PySem.W.codeIn K cE0 "BadName.__init__" = true)
    (g1 : PySem.W.nsIn K mainGlobals "BadSize" = some (some (.ref Ac1)))
    (x1_ : K.lookup Ac1 = some (excClassObj nm1 q1 Ac1 N1 bs1 bm1 true sn1 sub1 ab1 col1 dd1 x1 y1 z1 u1 v1 "ValueError.__new__"))
    (i1 : PySem.W.findIn K (.ref Ac1) "__init__" = some (some (.ref I1)))
    (l1 : K.lookup I1 = some ⟨oE1, sE1, .func (PySem.W.fnOf "__init__" "BadSize.__init__" (C8.fnArgs sIBadSize) (C8.fnBody sIBadSize) (C8.fnScope sIBadSize) .none vE1 dE1 pE1 nE1 cE1 tE1), lE1⟩)
    (d1 : PySem.W.codeIn K cE1 "BadSize.__init__" = true)
    (g2 : PySem.W.nsIn K mainGlobals "BadSpeed" = some (some (.ref Ac2)))
    (x2_ : K.lookup Ac2 = some (excClassObj nm2 q2 Ac2 N2 bs2 bm2 true sn2 sub2 ab2 col2 dd2 x2 y2 z2 u2 v2 "ValueError.__new__"))
    (i2 : PySem.W.findIn K (.ref Ac2) "__init__" = some (some (.ref I2)))
    (l2 : K.lookup I2 = some ⟨oE2, sE2, .func (PySem.W.fnOf "__init__" "BadSpeed.__init__" (C8.fnArgs sIBadSpeed) (C8.fnBody sIBadSpeed) (C8.fnScope sIBadSpeed) .none vE2 dE2 pE2 nE2 cE2 tE2), lE2⟩)
    (d2 : PySem.W.codeIn K cE2 "BadSpeed.__init__" = true)
    (g3 : PySem.W.nsIn K mainGlobals "BadCost" = some (some (.ref Ac3)))
    (x3_ : K.lookup Ac3 = some (excClassObj nm3 q3 Ac3 N3 bs3 bm3 true sn3 sub3 ab3 col3 dd3 x3 y3 z3 u3 v3 "ValueError.__new__"))
    (i3 : PySem.W.findIn K (.ref Ac3) "__init__" = some (some (.ref I3)))
    (l3 : K.lookup I3 = some ⟨oE3, sE3, .func (PySem.W.fnOf "__init__" "BadCost.__init__" (C8.fnArgs sIBadCost) (C8.fnBody sIBadCost) (C8.fnScope sIBadCost) .none vE3 dE3 pE3 nE3 cE3 tE3), lE3⟩)
    (d3 : PySem.W.codeIn K cE3 "BadCost.__init__" = true)
    (g4 : PySem.W.nsIn K mainGlobals "BadFee" = some (some (.ref Ac4)))
    (x4_ : K.lookup Ac4 = some (excClassObj nm4 q4 Ac4 N4 bs4 bm4 true sn4 sub4 ab4 col4 dd4 x4 y4 z4 u4 v4 "ValueError.__new__"))
    (i4 : PySem.W.findIn K (.ref Ac4) "__init__" = some (some (.ref I4)))
    (l4 : K.lookup I4 = some ⟨oE4, sE4, .func (PySem.W.fnOf "__init__" "BadFee.__init__" (C8.fnArgs sIBadFee) (C8.fnBody sIBadFee) (C8.fnScope sIBadFee) .none vE4 dE4 pE4 nE4 cE4 tE4), lE4⟩)
    (d4 : PySem.W.codeIn K cE4 "BadFee.__init__" = true)
    (g5 : PySem.W.nsIn K mainGlobals "BadTotal" = some (some (.ref Ac5)))
    (x5_ : K.lookup Ac5 = some (excClassObj nm5 q5 Ac5 N5 bs5 bm5 true sn5 sub5 ab5 col5 dd5 x5 y5 z5 u5 v5 "ValueError.__new__"))
    (i5 : PySem.W.findIn K (.ref Ac5) "__init__" = some (some (.ref I5)))
    (l5 : K.lookup I5 = some ⟨oE5, sE5, .func (PySem.W.fnOf "__init__" "BadTotal.__init__" (C8.fnArgs sIBadTotal) (C8.fnBody sIBadTotal) (C8.fnScope sIBadTotal) .none vE5 dE5 pE5 nE5 cE5 tE5), lE5⟩)
    (d5 : PySem.W.codeIn K cE5 "BadTotal.__init__" = true)
    (g6 : PySem.W.nsIn K mainGlobals "BadLimit" = some (some (.ref Ac6)))
    (x6_ : K.lookup Ac6 = some (excClassObj nm6 q6 Ac6 N6 bs6 bm6 true sn6 sub6 ab6 col6 dd6 x6 y6 z6 u6 v6 "ValueError.__new__"))
    (i6 : PySem.W.findIn K (.ref Ac6) "__init__" = some (some (.ref I6)))
    (l6 : K.lookup I6 = some ⟨oE6, sE6, .func (PySem.W.fnOf "__init__" "BadLimit.__init__" (C8.fnArgs sIBadLimit) (C8.fnBody sIBadLimit) (C8.fnScope sIBadLimit) .none vE6 dE6 pE6 nE6 cE6 tE6), lE6⟩)
    (d6 : PySem.W.codeIn K cE6 "BadLimit.__init__" = true)
    (g7 : PySem.W.nsIn K mainGlobals "BadRatio" = some (some (.ref Ac7)))
    (x7_ : K.lookup Ac7 = some (excClassObj nm7 q7 Ac7 N7 bs7 bm7 true sn7 sub7 ab7 col7 dd7 x7 y7 z7 u7 v7 "ValueError.__new__"))
    (i7 : PySem.W.findIn K (.ref Ac7) "__init__" = some (some (.ref I7)))
    (l7 : K.lookup I7 = some ⟨oE7, sE7, .func (PySem.W.fnOf "__init__" "BadRatio.__init__" (C8.fnArgs sIBadRatio) (C8.fnBody sIBadRatio) (C8.fnScope sIBadRatio) .none vE7 dE7 pE7 nE7 cE7 tE7), lE7⟩)
    (d7 : PySem.W.codeIn K cE7 "BadRatio.__init__" = true)
    (g8 : PySem.W.nsIn K mainGlobals "BadRest" = some (some (.ref Ac8)))
    (x8_ : K.lookup Ac8 = some (excClassObj nm8 q8 Ac8 N8 bs8 bm8 true sn8 sub8 ab8 col8 dd8 x8 y8 z8 u8 v8 "ValueError.__new__"))
    (i8 : PySem.W.findIn K (.ref Ac8) "__init__" = some (some (.ref I8)))
    (l8 : K.lookup I8 = some ⟨oE8, sE8, .func (PySem.W.fnOf "__init__" "BadRest.__init__" (C8.fnArgs sIBadRest) (C8.fnBody sIBadRest) (C8.fnScope sIBadRest) .none vE8 dE8 pE8 nE8 cE8 tE8), lE8⟩)
    (d8 : PySem.W.codeIn K cE8 "BadRest.__init__" = true)
    (g9 : PySem.W.nsIn K mainGlobals "BadChunks" = some (some (.ref Ac9)))
    (x9_ : K.lookup Ac9 = some (excClassObj nm9 q9 Ac9 N9 bs9 bm9 true sn9 sub9 ab9 col9 dd9 x9 y9 z9 u9 v9 "ValueError.__new__"))
    (i9 : PySem.W.findIn K (.ref Ac9) "__init__" = some (some (.ref I9)))
    (l9 : K.lookup I9 = some ⟨oE9, sE9, .func (PySem.W.fnOf "__init__" "BadChunks.__init__" (C8.fnArgs sIBadChunks) (C8.fnBody sIBadChunks) (C8.fnScope sIBadChunks) .none vE9 dE9 pE9 nE9 cE9 tE9), lE9⟩)
    (d9 : PySem.W.codeIn K cE9 "BadChunks.__init__" = true)
    (g10 : PySem.W.nsIn K mainGlobals "BadCrew" = some (some (.ref Ac10)))
    (x10_ : K.lookup Ac10 = some (excClassObj nm10 q10 Ac10 N10 bs10 bm10 true sn10 sub10 ab10 col10 dd10 x10 y10 z10 u10 v10 "ValueError.__new__"))
    (i10 : PySem.W.findIn K (.ref Ac10) "__init__" = some (some (.ref I10)))
    (l10 : K.lookup I10 = some ⟨oE10, sE10, .func (PySem.W.fnOf "__init__" "BadCrew.__init__" (C8.fnArgs sIBadCrew) (C8.fnBody sIBadCrew) (C8.fnScope sIBadCrew) .none vE10 dE10 pE10 nE10 cE10 tE10), lE10⟩)
    (d10 : PySem.W.codeIn K cE10 "BadCrew.__init__" = true)
    (g11 : PySem.W.nsIn K mainGlobals "BadSetting" = some (some (.ref Ac11)))
    (x11_ : K.lookup Ac11 = some (excClassObj nm11 q11 Ac11 N11 bs11 bm11 true sn11 sub11 ab11 col11 dd11 x11 y11 z11 u11 v11 "ValueError.__new__"))
    (i11 : PySem.W.findIn K (.ref Ac11) "__init__" = some (some (.ref I11)))
    (l11 : K.lookup I11 = some ⟨oE11, sE11, .func (PySem.W.fnOf "__init__" "BadSetting.__init__" (C8.fnArgs sIBadSetting) (C8.fnBody sIBadSetting) (C8.fnScope sIBadSetting) .none vE11 dE11 pE11 nE11 cE11 tE11), lE11⟩)
    (d11 : PySem.W.codeIn K cE11 "BadSetting.__init__" = true)
    (g12 : PySem.W.nsIn K mainGlobals "BadWorld" = some (some (.ref Ac12)))
    (x12_ : K.lookup Ac12 = some (excClassObj nm12 q12 Ac12 N12 bs12 bm12 true sn12 sub12 ab12 col12 dd12 x12 y12 z12 u12 v12 "ValueError.__new__"))
    (i12 : PySem.W.findIn K (.ref Ac12) "__init__" = some (some (.ref I12)))
    (l12 : K.lookup I12 = some ⟨oE12, sE12, .func (PySem.W.fnOf "__init__" "BadWorld.__init__" (C8.fnArgs sIBadWorld) (C8.fnBody sIBadWorld) (C8.fnScope sIBadWorld) .none vE12 dE12 pE12 nE12 cE12 tE12), lE12⟩)
    (d12 : PySem.W.codeIn K cE12 "BadWorld.__init__" = true)
    (g13 : PySem.W.nsIn K mainGlobals "BadRule" = some (some (.ref Ac13)))
    (x13_ : K.lookup Ac13 = some (excClassObj nm13 q13 Ac13 N13 bs13 bm13 true sn13 sub13 ab13 col13 dd13 x13 y13 z13 u13 v13 "ValueError.__new__"))
    (i13 : PySem.W.findIn K (.ref Ac13) "__init__" = some (some (.ref I13)))
    (l13 : K.lookup I13 = some ⟨oE13, sE13, .func (PySem.W.fnOf "__init__" "BadRule.__init__" (C8.fnArgs sIBadRule) (C8.fnBody sIBadRule) (C8.fnScope sIBadRule) .none vE13 dE13 pE13 nE13 cE13 tE13), lE13⟩)
    (d13 : PySem.W.codeIn K cE13 "BadRule.__init__" = true)
    (g14 : PySem.W.nsIn K mainGlobals "BadLog" = some (some (.ref Ac14)))
    (x14_ : K.lookup Ac14 = some (excClassObj nm14 q14 Ac14 N14 bs14 bm14 true sn14 sub14 ab14 col14 dd14 x14 y14 z14 u14 v14 "ValueError.__new__"))
    (i14 : PySem.W.findIn K (.ref Ac14) "__init__" = some (some (.ref I14)))
    (l14 : K.lookup I14 = some ⟨oE14, sE14, .func (PySem.W.fnOf "__init__" "BadLog.__init__" (C8.fnArgs sIBadLog) (C8.fnBody sIBadLog) (C8.fnScope sIBadLog) .none vE14 dE14 pE14 nE14 cE14 tE14), lE14⟩)
    (d14 : PySem.W.codeIn K cE14 "BadLog.__init__" = true)
    (g15 : PySem.W.nsIn K mainGlobals "BadLoop" = some (some (.ref Ac15)))
    (x15_ : K.lookup Ac15 = some (excClassObj nm15 q15 Ac15 N15 bs15 bm15 true sn15 sub15 ab15 col15 dd15 x15 y15 z15 u15 v15 "ValueError.__new__"))
    (i15 : PySem.W.findIn K (.ref Ac15) "__init__" = some (some (.ref I15)))
    (l15 : K.lookup I15 = some ⟨oE15, sE15, .func (PySem.W.fnOf "__init__" "BadLoop.__init__" (C8.fnArgs sIBadLoop) (C8.fnBody sIBadLoop) (C8.fnScope sIBadLoop) .none vE15 dE15 pE15 nE15 cE15 tE15), lE15⟩)
    (d15 : PySem.W.codeIn K cE15 "BadLoop.__init__" = true)
    (g16 : PySem.W.nsIn K mainGlobals "BadPool" = some (some (.ref Ac16)))
    (x16_ : K.lookup Ac16 = some (excClassObj nm16 q16 Ac16 N16 bs16 bm16 true sn16 sub16 ab16 col16 dd16 x16 y16 z16 u16 v16 "ValueError.__new__"))
    (i16 : PySem.W.findIn K (.ref Ac16) "__init__" = some (some (.ref I16)))
    (l16 : K.lookup I16 = some ⟨oE16, sE16, .func (PySem.W.fnOf "__init__" "BadPool.__init__" (C8.fnArgs sIBadPool) (C8.fnBody sIBadPool) (C8.fnScope sIBadPool) .none vE16 dE16 pE16 nE16 cE16 tE16), lE16⟩)
    (d16 : PySem.W.codeIn K cE16 "BadPool.__init__" = true)
    (g17 : PySem.W.nsIn K mainGlobals "BadPaper" = some (some (.ref Ac17)))
    (x17_ : K.lookup Ac17 = some (excClassObj nm17 q17 Ac17 N17 bs17 bm17 true sn17 sub17 ab17 col17 dd17 x17 y17 z17 u17 v17 "ValueError.__new__"))
    (i17 : PySem.W.findIn K (.ref Ac17) "__init__" = some (some (.ref I17)))
    (l17 : K.lookup I17 = some ⟨oE17, sE17, .func (PySem.W.fnOf "__init__" "BadPaper.__init__" (C8.fnArgs sIBadPaper) (C8.fnBody sIBadPaper) (C8.fnScope sIBadPaper) .none vE17 dE17 pE17 nE17 cE17 tE17), lE17⟩)
    (d17 : PySem.W.codeIn K cE17 "BadPaper.__init__" = true)
    (g18 : PySem.W.nsIn K mainGlobals "BadText" = some (some (.ref Ac18)))
    (x18_ : K.lookup Ac18 = some (excClassObj nm18 q18 Ac18 N18 bs18 bm18 true sn18 sub18 ab18 col18 dd18 x18 y18 z18 u18 v18 "ValueError.__new__"))
    (i18 : PySem.W.findIn K (.ref Ac18) "__init__" = some (some (.ref I18)))
    (l18 : K.lookup I18 = some ⟨oE18, sE18, .func (PySem.W.fnOf "__init__" "BadText.__init__" (C8.fnArgs sIBadText) (C8.fnBody sIBadText) (C8.fnScope sIBadText) .none vE18 dE18 pE18 nE18 cE18 tE18), lE18⟩)
    (d18 : PySem.W.codeIn K cE18 "BadText.__init__" = true)
    (g19 : PySem.W.nsIn K mainGlobals "BadLine" = some (some (.ref Ac19)))
    (x19_ : K.lookup Ac19 = some (excClassObj nm19 q19 Ac19 N19 bs19 bm19 true sn19 sub19 ab19 col19 dd19 x19 y19 z19 u19 v19 "ValueError.__new__"))
    (i19 : PySem.W.findIn K (.ref Ac19) "__init__" = some (some (.ref I19)))
    (l19 : K.lookup I19 = some ⟨oE19, sE19, .func (PySem.W.fnOf "__init__" "BadLine.__init__" (C8.fnArgs sIBadLine) (C8.fnBody sIBadLine) (C8.fnScope sIBadLine) .none vE19 dE19 pE19 nE19 cE19 tE19), lE19⟩)
    (d19 : PySem.W.codeIn K cE19 "BadLine.__init__" = true)
    (g20 : PySem.W.nsIn K mainGlobals "NoWorker" = some (some (.ref Ac20)))
    (x20_ : K.lookup Ac20 = some (excClassObj nm20 q20 Ac20 N20 bs20 bm20 true sn20 sub20 ab20 col20 dd20 x20 y20 z20 u20 v20 "ValueError.__new__"))
    (i20 : PySem.W.findIn K (.ref Ac20) "__init__" = some (some (.ref I20)))
    (l20 : K.lookup I20 = some ⟨oE20, sE20, .func (PySem.W.fnOf "__init__" "NoWorker.__init__" (C8.fnArgs sINoWorker) (C8.fnBody sINoWorker) (C8.fnScope sINoWorker) .none vE20 dE20 pE20 nE20 cE20 tE20), lE20⟩)
    (d20 : PySem.W.codeIn K cE20 "NoWorker.__init__" = true)
    (g21 : PySem.W.nsIn K mainGlobals "NoChunk" = some (some (.ref Ac21)))
    (x21_ : K.lookup Ac21 = some (excClassObj nm21 q21 Ac21 N21 bs21 bm21 true sn21 sub21 ab21 col21 dd21 x21 y21 z21 u21 v21 "ValueError.__new__"))
    (i21 : PySem.W.findIn K (.ref Ac21) "__init__" = some (some (.ref I21)))
    (l21 : K.lookup I21 = some ⟨oE21, sE21, .func (PySem.W.fnOf "__init__" "NoChunk.__init__" (C8.fnArgs sINoChunk) (C8.fnBody sINoChunk) (C8.fnScope sINoChunk) .none vE21 dE21 pE21 nE21 cE21 tE21), lE21⟩)
    (d21 : PySem.W.codeIn K cE21 "NoChunk.__init__" = true)
    (g22 : PySem.W.nsIn K mainGlobals "NoLoop" = some (some (.ref Ac22)))
    (x22_ : K.lookup Ac22 = some (excClassObj nm22 q22 Ac22 N22 bs22 bm22 true sn22 sub22 ab22 col22 dd22 x22 y22 z22 u22 v22 "ValueError.__new__"))
    (i22 : PySem.W.findIn K (.ref Ac22) "__init__" = some (some (.ref I22)))
    (l22 : K.lookup I22 = some ⟨oE22, sE22, .func (PySem.W.fnOf "__init__" "NoLoop.__init__" (C8.fnArgs sINoLoop) (C8.fnBody sINoLoop) (C8.fnScope sINoLoop) .none vE22 dE22 pE22 nE22 cE22 tE22), lE22⟩)
    (d22 : PySem.W.codeIn K cE22 "NoLoop.__init__" = true)
    (g23 : PySem.W.nsIn K mainGlobals "TooMany" = some (some (.ref Ac23)))
    (x23_ : K.lookup Ac23 = some (excClassObj nm23 q23 Ac23 N23 bs23 bm23 true sn23 sub23 ab23 col23 dd23 x23 y23 z23 u23 v23 "ValueError.__new__"))
    (i23 : PySem.W.findIn K (.ref Ac23) "__init__" = some (some (.ref I23)))
    (l23 : K.lookup I23 = some ⟨oE23, sE23, .func (PySem.W.fnOf "__init__" "TooMany.__init__" (C8.fnArgs sITooMany) (C8.fnBody sITooMany) (C8.fnScope sITooMany) .none vE23 dE23 pE23 nE23 cE23 tE23), lE23⟩)
    (d23 : PySem.W.codeIn K cE23 "TooMany.__init__" = true)
    (g24 : PySem.W.nsIn K mainGlobals "TooStrict" = some (some (.ref Ac24)))
    (x24_ : K.lookup Ac24 = some (excClassObj nm24 q24 Ac24 N24 bs24 bm24 true sn24 sub24 ab24 col24 dd24 x24 y24 z24 u24 v24 "ValueError.__new__"))
    (i24 : PySem.W.findIn K (.ref Ac24) "__init__" = some (some (.ref I24)))
    (l24 : K.lookup I24 = some ⟨oE24, sE24, .func (PySem.W.fnOf "__init__" "TooStrict.__init__" (C8.fnArgs sITooStrict) (C8.fnBody sITooStrict) (C8.fnScope sITooStrict) .none vE24 dE24 pE24 nE24 cE24 tE24), lE24⟩)
    (d24 : PySem.W.codeIn K cE24 "TooStrict.__init__" = true)
    (g25 : PySem.W.nsIn K mainGlobals "Nothing" = some (some (.ref Ac25)))
    (e25 : PySem.W.excIn K Ac25 bmVE "ValueError.__new__" = true)
    (kk25 : PySem.W.keepIn K (.ref Ac25) = true)
    (aL : PySem.W.nsIn K mainGlobals "LateError" = some (some (.ref L)))
    (eL : PySem.W.excIn K L bmVE "ValueError.__new__" = true)
    (kL : PySem.W.keepIn K (.ref L) = true)
    (hch : ([(Ac0, I0, bm0, ["value"]), (Ac1, I1, bm1, ["value"]), (Ac2, I2, bm2, ["value"]), (Ac3, I3, bm3, ["value"]), (Ac4, I4, bm4, ["value"]), (Ac5, I5, bm5, ["value"]), (Ac6, I6, bm6, ["value"]), (Ac7, I7, bm7, ["value"]), (Ac8, I8, bm8, ["value"]), (Ac9, I9, bm9, ["part"]), (Ac10, I10, bm10, ["part"]), (Ac11, I11, bm11, ["part"]), (Ac12, I12, bm12, ["part"]), (Ac13, I13, bm13, ["part"]), (Ac14, I14, bm14, ["part"]), (Ac15, I15, bm15, ["part"]), (Ac16, I16, bm16, ["part"]), (Ac17, I17, bm17, ["part"]), (Ac18, I18, bm18, ["line", "word"]), (Ac19, I19, bm19, ["word"]), (Ac20, I20, bm20, ["name"]), (Ac21, I21, bm21, ["at"]), (Ac22, I22, bm22, ["name"]), (Ac23, I23, bm23, ["what", "most"]), (Ac24, I24, bm24, ["limit"])] : List (Addr × Addr × List Value × List Str)).all (fun r => clsB K r.1 r.2.1 r.2.2.1 r.2.2.2) = true)
    (hxc : ([L, Ac0, Ac1, Ac2, Ac3, Ac4, Ac5, Ac6, Ac7, Ac8, Ac9, Ac10, Ac11, Ac12, Ac13, Ac14, Ac15, Ac16, Ac17, Ac18, Ac19, Ac20, Ac21, Ac22, Ac23, Ac24, Ac25] : List Addr).all (fun C => xcB K C) = true)
    (hkit : kitB26 K [Ac0, Ac1, Ac2, Ac3, Ac4, Ac5, Ac6, Ac7, Ac8, Ac9, Ac10, Ac11, Ac12, Ac13, Ac14, Ac15, Ac16, Ac17, Ac18, Ac19, Ac20, Ac21, Ac22, Ac23, Ac24, Ac25] = true)
    (hkL : ([Ac0, Ac1, Ac2, Ac3, Ac4, Ac5, Ac6, Ac7, Ac8, Ac9, Ac10, Ac11, Ac12, Ac13, Ac14, Ac15, Ac16, Ac17, Ac18, Ac19, Ac20, Ac21, Ac22, Ac23, Ac24, Ac25] : List Addr).all (fun C => decide (PySem.W.kitOne K (.ref C) (.ref L) = some true)) = true)
    (hkV : ([L, Ac0, Ac1, Ac2, Ac3, Ac4, Ac5, Ac6, Ac7, Ac8, Ac9, Ac10, Ac11, Ac12, Ac13, Ac14, Ac15, Ac16, Ac17, Ac18, Ac19, Ac20, Ac21, Ac22, Ac23, Ac24, Ac25] : List Addr).all (fun C => decide (PySem.W.kitOne K (.ref C) (.type "ValueError") = some true)) = true)
    (lT : K.lookup cT = some ⟨ocT, odT, .fields usT, slT⟩)
    (vT : usT[11]? = some (.ref B))
    (nT : K.lookup B = none)
    (lU : K.lookup cU = some ⟨ocU, odU, .fields usU, slU⟩)
    (vU : usU[11]? = some (.ref B2))
    (nU2 : K.lookup B2 = none)
    (nB : B2 ≠ B)
    (z_int : PySem.W.nsIn K mainGlobals "int" = some none)
    (z_list : PySem.W.nsIn K mainGlobals "list" = some none)
    (z_len : PySem.W.nsIn K mainGlobals "len" = some none)
    (z_abs : PySem.W.nsIn K mainGlobals "abs" = some none)
    (z_isinstance : PySem.W.nsIn K mainGlobals "isinstance" = some none)
    (z_range : PySem.W.nsIn K mainGlobals "range" = some none)
    (z_repr : PySem.W.nsIn K mainGlobals "repr" = some none)
    (z_ValueError : PySem.W.nsIn K mainGlobals "ValueError" = some none) :
    ∃ (fd : FuncData) (c B c2 B2 : Addr), PySem.W.tabIn K "_law_made" = some (c, B) ∧ K.lookup B = none ∧ PySem.W.tabIn K "_law_kinds" = some (c2, B2) ∧ K.lookup B2 = none ∧ (∀ (s : Shared) (u : Value), BindsTo s fd ⟨[u], []⟩ [("_law_script", u)]) ∧
      ∀ base : Heap, K.In base → base.Ns mainGlobals mg → TabB base mg c B → TabB base mg c2 B2 → FnG l.prog w K mg base 6 fa fd ["_law_script"] (spLaw K B B2) := by
  have e := hfa.symm.trans (PySem.W.mg_of X G ala)
  cases e
  have Flp : C8.Def K mg "_law_pen" sPen flp _ := ⟨⟨_, _, _, _, _, _, _, _, _, _, rfl, llp, clp⟩, PySem.W.mg_of X G alp, klp⟩
  have blp : Binds K _ ["_law_script"] [] := Flp.fn.binds rfl fun _ _ _ _ _ _ us hl => match us, hl with | [_], _ => rfl
  have Fld : C8.Def K mg "_law_draw" sDraw fld _ := ⟨⟨_, _, _, _, _, _, _, _, _, _, rfl, lld, cld⟩, PySem.W.mg_of X G ald, kld⟩
  have bld : Binds K _ ["_law_pen_here", "_law_many"] [] := Fld.fn.binds rfl fun _ _ _ _ _ _ us hl => match us, hl with | [_, _], _ => rfl
  have Flk : C8.Def K mg "_law_pick" sPick flk _ := ⟨⟨_, _, _, _, _, _, _, _, _, _, rfl, llk, clk⟩, PySem.W.mg_of X G alk, klk⟩
  have blk : Binds K _ ["_law_pen_here", "_law_some"] [] := Flk.fn.binds rfl fun _ _ _ _ _ _ us hl => match us, hl with | [_, _], _ => rfl
  have Flv : C8.Def K mg "_law_value" sVal flv _ := ⟨⟨_, _, _, _, _, _, _, _, _, _, rfl, llv, clv⟩, PySem.W.mg_of X G alv, klv⟩
  have blv : Binds K _ ["_law_pen_here"] [] := Flv.fn.binds rfl fun _ _ _ _ _ _ us hl => match us, hl with | [_], _ => rfl
  have Flm : DefC K mg "_law_made" sMade flm _ cT := ⟨⟨_, _, _, _, _, _, _, _, _, rfl, llm, clm⟩, PySem.W.mg_of X G alm, klm⟩
  have blm : Binds K _ ["_law_first", "_law_second"] [] := C8.Fun.binds (st := sMade) (x := "_law_made") (qual := "_law_made") (f := flm) ⟨_, _, _, _, _, _, _, _, _, _, rfl, llm, clm⟩ rfl fun _ _ _ _ _ _ us hl => match us, hl with | [_, _], _ => rfl
  have Fln : DefC K mg "_law_kinds" sKin fln _ cU := ⟨⟨_, _, _, _, _, _, _, _, _, rfl, lln, cln⟩, PySem.W.mg_of X G aln, kln⟩
  have bln : Binds K _ [] [] := C8.Fun.binds (st := sKin) (x := "_law_kinds") (qual := "_law_kinds") (f := fln) ⟨_, _, _, _, _, _, _, _, _, _, rfl, lln, cln⟩ rfl fun _ _ _ _ _ _ us hl => match us, hl with | [], _ => rfl
  have Fla : C8.Def K mg "law" sLaw fa _ := ⟨⟨_, _, _, _, _, _, _, _, _, _, rfl, lla, cla⟩, PySem.W.mg_of X G ala, kla⟩
  have bla : Binds K _ ["_law_script"] [] := Fla.fn.binds rfl fun _ _ _ _ _ _ us hl => match us, hl with | [_], _ => rfl
  have FI0 : C8.Fun K "__init__" "BadName.__init__" sIBadName I0 _ := ⟨_, _, _, _, _, _, _, _, _, _, rfl, l0, d0⟩
  obtain ⟨w0, t0, xf0, no0⟩ := clsB_ok ⟨_, _, _, _, _, _, _, _, _, _, _, _, _, _, x0_⟩ (List.all_eq_true.mp hch (Ac0, I0, bm0, ["value"]) (by simp only [List.mem_cons, true_or, or_true]))
  have n0 := no0 "value" (List.Mem.head _)
  have Z0 : ∀ base : Heap, XC1 l.prog w K mg base "BadName" Ac0 "value" := fun base => ⟨w0, PySem.W.mg_of X G g0, ⟨I0, _, i0, t0, fn_BadName FI0 w0 n0, FI0.binds rfl (fun _ _ _ _ _ _ us hl => match us, hl with | [_, _], _ => rfl), _, kb_k1 FI0 rfl (fun _ _ _ _ _ _ _ _ => rfl)⟩, xf0, n0⟩
  have FI1 : C8.Fun K "__init__" "BadSize.__init__" sIBadSize I1 _ := ⟨_, _, _, _, _, _, _, _, _, _, rfl, l1, d1⟩
  obtain ⟨w1, t1, xf1, no1⟩ := clsB_ok ⟨_, _, _, _, _, _, _, _, _, _, _, _, _, _, x1_⟩ (List.all_eq_true.mp hch (Ac1, I1, bm1, ["value"]) (by simp only [List.mem_cons, true_or, or_true]))
  have n1 := no1 "value" (List.Mem.head _)
  have Z1 : ∀ base : Heap, XC1 l.prog w K mg base "BadSize" Ac1 "value" := fun base => ⟨w1, PySem.W.mg_of X G g1, ⟨I1, _, i1, t1, fn_BadSize FI1 w1 n1, FI1.binds rfl (fun _ _ _ _ _ _ us hl => match us, hl with | [_, _], _ => rfl), _, kb_k1 FI1 rfl (fun _ _ _ _ _ _ _ _ => rfl)⟩, xf1, n1⟩
  have FI2 : C8.Fun K "__init__" "BadSpeed.__init__" sIBadSpeed I2 _ := ⟨_, _, _, _, _, _, _, _, _, _, rfl, l2, d2⟩
  obtain ⟨w2, t2, xf2, no2⟩ := clsB_ok ⟨_, _, _, _, _, _, _, _, _, _, _, _, _, _, x2_⟩ (List.all_eq_true.mp hch (Ac2, I2, bm2, ["value"]) (by simp only [List.mem_cons, true_or, or_true]))
  have n2 := no2 "value" (List.Mem.head _)
  have Z2 : ∀ base : Heap, XC1 l.prog w K mg base "BadSpeed" Ac2 "value" := fun base => ⟨w2, PySem.W.mg_of X G g2, ⟨I2, _, i2, t2, fn_BadSpeed FI2 w2 n2, FI2.binds rfl (fun _ _ _ _ _ _ us hl => match us, hl with | [_, _], _ => rfl), _, kb_k1 FI2 rfl (fun _ _ _ _ _ _ _ _ => rfl)⟩, xf2, n2⟩
  have FI3 : C8.Fun K "__init__" "BadCost.__init__" sIBadCost I3 _ := ⟨_, _, _, _, _, _, _, _, _, _, rfl, l3, d3⟩
  obtain ⟨w3, t3, xf3, no3⟩ := clsB_ok ⟨_, _, _, _, _, _, _, _, _, _, _, _, _, _, x3_⟩ (List.all_eq_true.mp hch (Ac3, I3, bm3, ["value"]) (by simp only [List.mem_cons, true_or, or_true]))
  have n3 := no3 "value" (List.Mem.head _)
  have Z3 : ∀ base : Heap, XC1 l.prog w K mg base "BadCost" Ac3 "value" := fun base => ⟨w3, PySem.W.mg_of X G g3, ⟨I3, _, i3, t3, fn_BadCost FI3 w3 n3, FI3.binds rfl (fun _ _ _ _ _ _ us hl => match us, hl with | [_, _], _ => rfl), _, kb_k1 FI3 rfl (fun _ _ _ _ _ _ _ _ => rfl)⟩, xf3, n3⟩
  have FI4 : C8.Fun K "__init__" "BadFee.__init__" sIBadFee I4 _ := ⟨_, _, _, _, _, _, _, _, _, _, rfl, l4, d4⟩
  obtain ⟨w4, t4, xf4, no4⟩ := clsB_ok ⟨_, _, _, _, _, _, _, _, _, _, _, _, _, _, x4_⟩ (List.all_eq_true.mp hch (Ac4, I4, bm4, ["value"]) (by simp only [List.mem_cons, true_or, or_true]))
  have n4 := no4 "value" (List.Mem.head _)
  have Z4 : ∀ base : Heap, XC1 l.prog w K mg base "BadFee" Ac4 "value" := fun base => ⟨w4, PySem.W.mg_of X G g4, ⟨I4, _, i4, t4, fn_BadFee FI4 w4 n4, FI4.binds rfl (fun _ _ _ _ _ _ us hl => match us, hl with | [_, _], _ => rfl), _, kb_k1 FI4 rfl (fun _ _ _ _ _ _ _ _ => rfl)⟩, xf4, n4⟩
  have FI5 : C8.Fun K "__init__" "BadTotal.__init__" sIBadTotal I5 _ := ⟨_, _, _, _, _, _, _, _, _, _, rfl, l5, d5⟩
  obtain ⟨w5, t5, xf5, no5⟩ := clsB_ok ⟨_, _, _, _, _, _, _, _, _, _, _, _, _, _, x5_⟩ (List.all_eq_true.mp hch (Ac5, I5, bm5, ["value"]) (by simp only [List.mem_cons, true_or, or_true]))
  have n5 := no5 "value" (List.Mem.head _)
  have Z5 : ∀ base : Heap, XC1 l.prog w K mg base "BadTotal" Ac5 "value" := fun base => ⟨w5, PySem.W.mg_of X G g5, ⟨I5, _, i5, t5, fn_BadTotal FI5 w5 n5, FI5.binds rfl (fun _ _ _ _ _ _ us hl => match us, hl with | [_, _], _ => rfl), _, kb_k1 FI5 rfl (fun _ _ _ _ _ _ _ _ => rfl)⟩, xf5, n5⟩
  have FI6 : C8.Fun K "__init__" "BadLimit.__init__" sIBadLimit I6 _ := ⟨_, _, _, _, _, _, _, _, _, _, rfl, l6, d6⟩
  obtain ⟨w6, t6, xf6, no6⟩ := clsB_ok ⟨_, _, _, _, _, _, _, _, _, _, _, _, _, _, x6_⟩ (List.all_eq_true.mp hch (Ac6, I6, bm6, ["value"]) (by simp only [List.mem_cons, true_or, or_true]))
  have n6 := no6 "value" (List.Mem.head _)
  have Z6 : ∀ base : Heap, XC1 l.prog w K mg base "BadLimit" Ac6 "value" := fun base => ⟨w6, PySem.W.mg_of X G g6, ⟨I6, _, i6, t6, fn_BadLimit FI6 w6 n6, FI6.binds rfl (fun _ _ _ _ _ _ us hl => match us, hl with | [_, _], _ => rfl), _, kb_k1 FI6 rfl (fun _ _ _ _ _ _ _ _ => rfl)⟩, xf6, n6⟩
  have FI7 : C8.Fun K "__init__" "BadRatio.__init__" sIBadRatio I7 _ := ⟨_, _, _, _, _, _, _, _, _, _, rfl, l7, d7⟩
  obtain ⟨w7, t7, xf7, no7⟩ := clsB_ok ⟨_, _, _, _, _, _, _, _, _, _, _, _, _, _, x7_⟩ (List.all_eq_true.mp hch (Ac7, I7, bm7, ["value"]) (by simp only [List.mem_cons, true_or, or_true]))
  have n7 := no7 "value" (List.Mem.head _)
  have Z7 : ∀ base : Heap, XC1 l.prog w K mg base "BadRatio" Ac7 "value" := fun base => ⟨w7, PySem.W.mg_of X G g7, ⟨I7, _, i7, t7, fn_BadRatio FI7 w7 n7, FI7.binds rfl (fun _ _ _ _ _ _ us hl => match us, hl with | [_, _], _ => rfl), _, kb_k1 FI7 rfl (fun _ _ _ _ _ _ _ _ => rfl)⟩, xf7, n7⟩
  have FI8 : C8.Fun K "__init__" "BadRest.__init__" sIBadRest I8 _ := ⟨_, _, _, _, _, _, _, _, _, _, rfl, l8, d8⟩
  obtain ⟨w8, t8, xf8, no8⟩ := clsB_ok ⟨_, _, _, _, _, _, _, _, _, _, _, _, _, _, x8_⟩ (List.all_eq_true.mp hch (Ac8, I8, bm8, ["value"]) (by simp only [List.mem_cons, true_or, or_true]))
  have n8 := no8 "value" (List.Mem.head _)
  have Z8 : ∀ base : Heap, XC1 l.prog w K mg base "BadRest" Ac8 "value" := fun base => ⟨w8, PySem.W.mg_of X G g8, ⟨I8, _, i8, t8, fn_BadRest FI8 w8 n8, FI8.binds rfl (fun _ _ _ _ _ _ us hl => match us, hl with | [_, _], _ => rfl), _, kb_k1 FI8 rfl (fun _ _ _ _ _ _ _ _ => rfl)⟩, xf8, n8⟩
  have FI9 : C8.Fun K "__init__" "BadChunks.__init__" sIBadChunks I9 _ := ⟨_, _, _, _, _, _, _, _, _, _, rfl, l9, d9⟩
  obtain ⟨w9, t9, xf9, no9⟩ := clsB_ok ⟨_, _, _, _, _, _, _, _, _, _, _, _, _, _, x9_⟩ (List.all_eq_true.mp hch (Ac9, I9, bm9, ["part"]) (by simp only [List.mem_cons, true_or, or_true]))
  have n9 := no9 "part" (List.Mem.head _)
  have Z9 : ∀ base : Heap, XC1 l.prog w K mg base "BadChunks" Ac9 "part" := fun base => ⟨w9, PySem.W.mg_of X G g9, ⟨I9, _, i9, t9, fn_BadChunks FI9 w9 n9, FI9.binds rfl (fun _ _ _ _ _ _ us hl => match us, hl with | [_, _], _ => rfl), _, kb_k1 FI9 rfl (fun _ _ _ _ _ _ _ _ => rfl)⟩, xf9, n9⟩
  have FI10 : C8.Fun K "__init__" "BadCrew.__init__" sIBadCrew I10 _ := ⟨_, _, _, _, _, _, _, _, _, _, rfl, l10, d10⟩
  obtain ⟨w10, t10, xf10, no10⟩ := clsB_ok ⟨_, _, _, _, _, _, _, _, _, _, _, _, _, _, x10_⟩ (List.all_eq_true.mp hch (Ac10, I10, bm10, ["part"]) (by simp only [List.mem_cons, true_or, or_true]))
  have n10 := no10 "part" (List.Mem.head _)
  have Z10 : ∀ base : Heap, XC1 l.prog w K mg base "BadCrew" Ac10 "part" := fun base => ⟨w10, PySem.W.mg_of X G g10, ⟨I10, _, i10, t10, fn_BadCrew FI10 w10 n10, FI10.binds rfl (fun _ _ _ _ _ _ us hl => match us, hl with | [_, _], _ => rfl), _, kb_k1 FI10 rfl (fun _ _ _ _ _ _ _ _ => rfl)⟩, xf10, n10⟩
  have FI11 : C8.Fun K "__init__" "BadSetting.__init__" sIBadSetting I11 _ := ⟨_, _, _, _, _, _, _, _, _, _, rfl, l11, d11⟩
  obtain ⟨w11, t11, xf11, no11⟩ := clsB_ok ⟨_, _, _, _, _, _, _, _, _, _, _, _, _, _, x11_⟩ (List.all_eq_true.mp hch (Ac11, I11, bm11, ["part"]) (by simp only [List.mem_cons, true_or, or_true]))
  have n11 := no11 "part" (List.Mem.head _)
  have Z11 : ∀ base : Heap, XC1 l.prog w K mg base "BadSetting" Ac11 "part" := fun base => ⟨w11, PySem.W.mg_of X G g11, ⟨I11, _, i11, t11, fn_BadSetting FI11 w11 n11, FI11.binds rfl (fun _ _ _ _ _ _ us hl => match us, hl with | [_, _], _ => rfl), _, kb_k1 FI11 rfl (fun _ _ _ _ _ _ _ _ => rfl)⟩, xf11, n11⟩
  have FI12 : C8.Fun K "__init__" "BadWorld.__init__" sIBadWorld I12 _ := ⟨_, _, _, _, _, _, _, _, _, _, rfl, l12, d12⟩
  obtain ⟨w12, t12, xf12, no12⟩ := clsB_ok ⟨_, _, _, _, _, _, _, _, _, _, _, _, _, _, x12_⟩ (List.all_eq_true.mp hch (Ac12, I12, bm12, ["part"]) (by simp only [List.mem_cons, true_or, or_true]))
  have n12 := no12 "part" (List.Mem.head _)
  have Z12 : ∀ base : Heap, XC1 l.prog w K mg base "BadWorld" Ac12 "part" := fun base => ⟨w12, PySem.W.mg_of X G g12, ⟨I12, _, i12, t12, fn_BadWorld FI12 w12 n12, FI12.binds rfl (fun _ _ _ _ _ _ us hl => match us, hl with | [_, _], _ => rfl), _, kb_k1 FI12 rfl (fun _ _ _ _ _ _ _ _ => rfl)⟩, xf12, n12⟩
  have FI13 : C8.Fun K "__init__" "BadRule.__init__" sIBadRule I13 _ := ⟨_, _, _, _, _, _, _, _, _, _, rfl, l13, d13⟩
  obtain ⟨w13, t13, xf13, no13⟩ := clsB_ok ⟨_, _, _, _, _, _, _, _, _, _, _, _, _, _, x13_⟩ (List.all_eq_true.mp hch (Ac13, I13, bm13, ["part"]) (by simp only [List.mem_cons, true_or, or_true]))
  have n13 := no13 "part" (List.Mem.head _)
  have Z13 : ∀ base : Heap, XC1 l.prog w K mg base "BadRule" Ac13 "part" := fun base => ⟨w13, PySem.W.mg_of X G g13, ⟨I13, _, i13, t13, fn_BadRule FI13 w13 n13, FI13.binds rfl (fun _ _ _ _ _ _ us hl => match us, hl with | [_, _], _ => rfl), _, kb_k1 FI13 rfl (fun _ _ _ _ _ _ _ _ => rfl)⟩, xf13, n13⟩
  have FI14 : C8.Fun K "__init__" "BadLog.__init__" sIBadLog I14 _ := ⟨_, _, _, _, _, _, _, _, _, _, rfl, l14, d14⟩
  obtain ⟨w14, t14, xf14, no14⟩ := clsB_ok ⟨_, _, _, _, _, _, _, _, _, _, _, _, _, _, x14_⟩ (List.all_eq_true.mp hch (Ac14, I14, bm14, ["part"]) (by simp only [List.mem_cons, true_or, or_true]))
  have n14 := no14 "part" (List.Mem.head _)
  have Z14 : ∀ base : Heap, XC1 l.prog w K mg base "BadLog" Ac14 "part" := fun base => ⟨w14, PySem.W.mg_of X G g14, ⟨I14, _, i14, t14, fn_BadLog FI14 w14 n14, FI14.binds rfl (fun _ _ _ _ _ _ us hl => match us, hl with | [_, _], _ => rfl), _, kb_k1 FI14 rfl (fun _ _ _ _ _ _ _ _ => rfl)⟩, xf14, n14⟩
  have FI15 : C8.Fun K "__init__" "BadLoop.__init__" sIBadLoop I15 _ := ⟨_, _, _, _, _, _, _, _, _, _, rfl, l15, d15⟩
  obtain ⟨w15, t15, xf15, no15⟩ := clsB_ok ⟨_, _, _, _, _, _, _, _, _, _, _, _, _, _, x15_⟩ (List.all_eq_true.mp hch (Ac15, I15, bm15, ["part"]) (by simp only [List.mem_cons, true_or, or_true]))
  have n15 := no15 "part" (List.Mem.head _)
  have Z15 : ∀ base : Heap, XC1 l.prog w K mg base "BadLoop" Ac15 "part" := fun base => ⟨w15, PySem.W.mg_of X G g15, ⟨I15, _, i15, t15, fn_BadLoop FI15 w15 n15, FI15.binds rfl (fun _ _ _ _ _ _ us hl => match us, hl with | [_, _], _ => rfl), _, kb_k1 FI15 rfl (fun _ _ _ _ _ _ _ _ => rfl)⟩, xf15, n15⟩
  have FI16 : C8.Fun K "__init__" "BadPool.__init__" sIBadPool I16 _ := ⟨_, _, _, _, _, _, _, _, _, _, rfl, l16, d16⟩
  obtain ⟨w16, t16, xf16, no16⟩ := clsB_ok ⟨_, _, _, _, _, _, _, _, _, _, _, _, _, _, x16_⟩ (List.all_eq_true.mp hch (Ac16, I16, bm16, ["part"]) (by simp only [List.mem_cons, true_or, or_true]))
  have n16 := no16 "part" (List.Mem.head _)
  have Z16 : ∀ base : Heap, XC1 l.prog w K mg base "BadPool" Ac16 "part" := fun base => ⟨w16, PySem.W.mg_of X G g16, ⟨I16, _, i16, t16, fn_BadPool FI16 w16 n16, FI16.binds rfl (fun _ _ _ _ _ _ us hl => match us, hl with | [_, _], _ => rfl), _, kb_k1 FI16 rfl (fun _ _ _ _ _ _ _ _ => rfl)⟩, xf16, n16⟩
  have FI17 : C8.Fun K "__init__" "BadPaper.__init__" sIBadPaper I17 _ := ⟨_, _, _, _, _, _, _, _, _, _, rfl, l17, d17⟩
  obtain ⟨w17, t17, xf17, no17⟩ := clsB_ok ⟨_, _, _, _, _, _, _, _, _, _, _, _, _, _, x17_⟩ (List.all_eq_true.mp hch (Ac17, I17, bm17, ["part"]) (by simp only [List.mem_cons, true_or, or_true]))
  have n17 := no17 "part" (List.Mem.head _)
  have Z17 : ∀ base : Heap, XC1 l.prog w K mg base "BadPaper" Ac17 "part" := fun base => ⟨w17, PySem.W.mg_of X G g17, ⟨I17, _, i17, t17, fn_BadPaper FI17 w17 n17, FI17.binds rfl (fun _ _ _ _ _ _ us hl => match us, hl with | [_, _], _ => rfl), _, kb_k1 FI17 rfl (fun _ _ _ _ _ _ _ _ => rfl)⟩, xf17, n17⟩
  have FI18 : C8.Fun K "__init__" "BadText.__init__" sIBadText I18 _ := ⟨_, _, _, _, _, _, _, _, _, _, rfl, l18, d18⟩
  obtain ⟨w18, t18, xf18, no18⟩ := clsB_ok ⟨_, _, _, _, _, _, _, _, _, _, _, _, _, _, x18_⟩ (List.all_eq_true.mp hch (Ac18, I18, bm18, ["line", "word"]) (by simp only [List.mem_cons, true_or, or_true]))
  have n18a := no18 "line" (List.Mem.head _)
  have n18b := no18 "word" (List.Mem.tail _ (List.Mem.head _))
  have Z18 : ∀ base : Heap, XC2 l.prog w K mg base "BadText" Ac18 "line" "word" := fun base => ⟨w18, PySem.W.mg_of X G g18, ⟨I18, _, i18, t18, fn_BadText FI18 w18 n18a n18b, FI18.binds rfl (fun _ _ _ _ _ _ us hl => match us, hl with | [_, _, _], _ => rfl), _, kb_k2 FI18 rfl (fun _ _ _ _ _ _ _ _ _ => rfl)⟩, xf18, n18a, n18b⟩
  have FI19 : C8.Fun K "__init__" "BadLine.__init__" sIBadLine I19 _ := ⟨_, _, _, _, _, _, _, _, _, _, rfl, l19, d19⟩
  obtain ⟨w19, t19, xf19, no19⟩ := clsB_ok ⟨_, _, _, _, _, _, _, _, _, _, _, _, _, _, x19_⟩ (List.all_eq_true.mp hch (Ac19, I19, bm19, ["word"]) (by simp only [List.mem_cons, true_or, or_true]))
  have n19 := no19 "word" (List.Mem.head _)
  have Z19 : ∀ base : Heap, XC1 l.prog w K mg base "BadLine" Ac19 "word" := fun base => ⟨w19, PySem.W.mg_of X G g19, ⟨I19, _, i19, t19, fn_BadLine FI19 w19 n19, FI19.binds rfl (fun _ _ _ _ _ _ us hl => match us, hl with | [_, _], _ => rfl), _, kb_k1 FI19 rfl (fun _ _ _ _ _ _ _ _ => rfl)⟩, xf19, n19⟩
  have FI20 : C8.Fun K "__init__" "NoWorker.__init__" sINoWorker I20 _ := ⟨_, _, _, _, _, _, _, _, _, _, rfl, l20, d20⟩
  obtain ⟨w20, t20, xf20, no20⟩ := clsB_ok ⟨_, _, _, _, _, _, _, _, _, _, _, _, _, _, x20_⟩ (List.all_eq_true.mp hch (Ac20, I20, bm20, ["name"]) (by simp only [List.mem_cons, true_or, or_true]))
  have n20 := no20 "name" (List.Mem.head _)
  have Z20 : ∀ base : Heap, XC1 l.prog w K mg base "NoWorker" Ac20 "name" := fun base => ⟨w20, PySem.W.mg_of X G g20, ⟨I20, _, i20, t20, fn_NoWorker FI20 w20 n20, FI20.binds rfl (fun _ _ _ _ _ _ us hl => match us, hl with | [_, _], _ => rfl), _, kb_k1 FI20 rfl (fun _ _ _ _ _ _ _ _ => rfl)⟩, xf20, n20⟩
  have FI21 : C8.Fun K "__init__" "NoChunk.__init__" sINoChunk I21 _ := ⟨_, _, _, _, _, _, _, _, _, _, rfl, l21, d21⟩
  obtain ⟨w21, t21, xf21, no21⟩ := clsB_ok ⟨_, _, _, _, _, _, _, _, _, _, _, _, _, _, x21_⟩ (List.all_eq_true.mp hch (Ac21, I21, bm21, ["at"]) (by simp only [List.mem_cons, true_or, or_true]))
  have n21 := no21 "at" (List.Mem.head _)
  have Z21 : ∀ base : Heap, XC1 l.prog w K mg base "NoChunk" Ac21 "at" := fun base => ⟨w21, PySem.W.mg_of X G g21, ⟨I21, _, i21, t21, fn_NoChunk FI21 w21 n21, FI21.binds rfl (fun _ _ _ _ _ _ us hl => match us, hl with | [_, _], _ => rfl), _, kb_k1 FI21 rfl (fun _ _ _ _ _ _ _ _ => rfl)⟩, xf21, n21⟩
  have FI22 : C8.Fun K "__init__" "NoLoop.__init__" sINoLoop I22 _ := ⟨_, _, _, _, _, _, _, _, _, _, rfl, l22, d22⟩
  obtain ⟨w22, t22, xf22, no22⟩ := clsB_ok ⟨_, _, _, _, _, _, _, _, _, _, _, _, _, _, x22_⟩ (List.all_eq_true.mp hch (Ac22, I22, bm22, ["name"]) (by simp only [List.mem_cons, true_or, or_true]))
  have n22 := no22 "name" (List.Mem.head _)
  have Z22 : ∀ base : Heap, XC1 l.prog w K mg base "NoLoop" Ac22 "name" := fun base => ⟨w22, PySem.W.mg_of X G g22, ⟨I22, _, i22, t22, fn_NoLoop FI22 w22 n22, FI22.binds rfl (fun _ _ _ _ _ _ us hl => match us, hl with | [_, _], _ => rfl), _, kb_k1 FI22 rfl (fun _ _ _ _ _ _ _ _ => rfl)⟩, xf22, n22⟩
  have FI23 : C8.Fun K "__init__" "TooMany.__init__" sITooMany I23 _ := ⟨_, _, _, _, _, _, _, _, _, _, rfl, l23, d23⟩
  obtain ⟨w23, t23, xf23, no23⟩ := clsB_ok ⟨_, _, _, _, _, _, _, _, _, _, _, _, _, _, x23_⟩ (List.all_eq_true.mp hch (Ac23, I23, bm23, ["what", "most"]) (by simp only [List.mem_cons, true_or, or_true]))
  have n23a := no23 "what" (List.Mem.head _)
  have n23b := no23 "most" (List.Mem.tail _ (List.Mem.head _))
  have Z23 : ∀ base : Heap, XC2 l.prog w K mg base "TooMany" Ac23 "what" "most" := fun base => ⟨w23, PySem.W.mg_of X G g23, ⟨I23, _, i23, t23, fn_TooMany FI23 w23 n23a n23b, FI23.binds rfl (fun _ _ _ _ _ _ us hl => match us, hl with | [_, _, _], _ => rfl), _, kb_k2 FI23 rfl (fun _ _ _ _ _ _ _ _ _ => rfl)⟩, xf23, n23a, n23b⟩
  have FI24 : C8.Fun K "__init__" "TooStrict.__init__" sITooStrict I24 _ := ⟨_, _, _, _, _, _, _, _, _, _, rfl, l24, d24⟩
  obtain ⟨w24, t24, xf24, no24⟩ := clsB_ok ⟨_, _, _, _, _, _, _, _, _, _, _, _, _, _, x24_⟩ (List.all_eq_true.mp hch (Ac24, I24, bm24, ["limit"]) (by simp only [List.mem_cons, true_or, or_true]))
  have n24 := no24 "limit" (List.Mem.head _)
  have Z24 : ∀ base : Heap, XC1 l.prog w K mg base "TooStrict" Ac24 "limit" := fun base => ⟨w24, PySem.W.mg_of X G g24, ⟨I24, _, i24, t24, fn_TooStrict FI24 w24 n24, FI24.binds rfl (fun _ _ _ _ _ _ us hl => match us, hl with | [_, _], _ => rfl), _, kb_k1 FI24 rfl (fun _ _ _ _ _ _ _ _ => rfl)⟩, xf24, n24⟩
  have T : Txt0 mg := { n_int := PySem.W.mg_none_of X G z_int, n_list := PySem.W.mg_none_of X G z_list, n_len := PySem.W.mg_none_of X G z_len, n_abs := PySem.W.mg_none_of X G z_abs }
  have hkL' := List.all_eq_true.mp hkL
  have hkV' := List.all_eq_true.mp hkV
  have hxc' := List.all_eq_true.mp hxc
  have mem : ∀ i, i < 26 → [Ac0, Ac1, Ac2, Ac3, Ac4, Ac5, Ac6, Ac7, Ac8, Ac9, Ac10, Ac11, Ac12, Ac13, Ac14, Ac15, Ac16, Ac17, Ac18, Ac19, Ac20, Ac21, Ac22, Ac23, Ac24, Ac25].getD i 0 ∈ [Ac0, Ac1, Ac2, Ac3, Ac4, Ac5, Ac6, Ac7, Ac8, Ac9, Ac10, Ac11, Ac12, Ac13, Ac14, Ac15, Ac16, Ac17, Ac18, Ac19, Ac20, Ac21, Ac22, Ac23, Ac24, Ac25] := fun i hi => by
    rw [List.getD_eq_getElem?_getD, List.getElem?_eq_getElem (show i < [Ac0, Ac1, Ac2, Ac3, Ac4, Ac5, Ac6, Ac7, Ac8, Ac9, Ac10, Ac11, Ac12, Ac13, Ac14, Ac15, Ac16, Ac17, Ac18, Ac19, Ac20, Ac21, Ac22, Ac23, Ac24, Ac25].length from hi), Option.getD_some]
    exact List.getElem_mem _
  have ZC : ∀ base : Heap, Clss l.prog w K mg base (fun i => [Ac0, Ac1, Ac2, Ac3, Ac4, Ac5, Ac6, Ac7, Ac8, Ac9, Ac10, Ac11, Ac12, Ac13, Ac14, Ac15, Ac16, Ac17, Ac18, Ac19, Ac20, Ac21, Ac22, Ac23, Ac24, Ac25].getD i 0) L := fun base => { c0 := Z0 base, c1 := Z1 base, c2 := Z2 base, c3 := Z3 base, c4 := Z4 base, c5 := Z5 base, c6 := Z6 base, c7 := Z7 base, c8 := Z8 base, c9 := Z9 base, c10 := Z10 base, c11 := Z11 base, c12 := Z12 base, c13 := Z13 base, c14 := Z14 base, c15 := Z15 base, c16 := Z16 base, c17 := Z17 base, c18 := Z18 base, c19 := Z19 base, c20 := Z20 base, c21 := Z21 base, c22 := Z22 base, c23 := Z23 base, c24 := Z24 base, c25 := ⟨e25, PySem.W.mg_of X G g25, kk25⟩, kit := kitB26_ok hkit, kitL := fun i hi => of_decide_eq_true (hkL' _ (mem i hi)), kitV := fun i hi => of_decide_eq_true (hkV' _ (List.mem_cons_of_mem _ (mem i hi))), xc := fun i hi => xcB_ok (hxc' _ (List.mem_cons_of_mem _ (mem i hi))), mgL := PySem.W.mg_of X G aL }
  have Y : Rest K mg L := { ni := PySem.W.mg_none_of X G z_isinstance, nr := PySem.W.mg_none_of X G z_repr, nv := PySem.W.mg_none_of X G z_ValueError, ng := PySem.W.mg_none_of X G z_range, nl := PySem.W.mg_none_of X G z_len, eL := eL, kL := kL, xL := xcB_ok (hxc' _ List.mem_cons_self), vL := of_decide_eq_true (hkV' _ List.mem_cons_self) }
  refine ⟨PySem.W.fnOf "law" "law" (C8.fnArgs sLaw) (C8.fnBody sLaw) (C8.fnScope sLaw) .none kVla dcla pmla anla cdla ctla, cT, B, cU, B2, tabIn_of alm llm rfl lT vT, nT, tabIn_of aln lln rfl lU vU, nU2, fun s u => .of_eq rfl, fun base KB GB TB TB2 => ?_⟩
  have D1 := cal_draw (P := l.prog) (w := w) (K := K) (base := base) Fld bld T
  have D2 := cal_pick Flk blk T D1
  have D0 := cal_pen (P := l.prog) (w := w) (base := base) Flp blp T
  have D5 := cal_val Flv blv D2
  have DM := cal_made (B2 := B2) Flm blm TB nB (ZC base)
  have DK := cal_kin (B := B) Fln bln TB2 nB (ZC base) (PySem.W.mg_none_of X G z_isinstance)
  exact fn_law Fla.fn (ZC base) Y D0 D5 DM DK
end Lw
open PySem PySem.W PyProof.Rows
set_option maxRecDepth 100000 in
set_option maxHeartbeats 0 in
theorem PySem.Challenge.cw_latechunks_k01_errors_and_their_fields_holds : PySem.Challenge.rw_latechunks_k01_errors_and_their_fields.Holds := by
  w_on; o_law; k_head; (case hw => w_witness2)
  k_fill
  refine Lw.walk_end (l := PySem.Challenge.rw_latechunks_k01_errors_and_their_fields) (x := "_law_script") (xt := "_law_made") (xt2 := "_law_kinds") (k := 6) rfl (by decide) rfl ⟨rfl, by decide, by decide⟩ (fun w h Y => PySem.W.km_in_of Y) ?hrec ?hrec2 ?F
  case hrec => first | rfl | decide +kernel
  case hrec2 => first | rfl | decide +kernel
  case F =>
    intro w mg fa h KX G hmg
    refine' Lw.all_known KX G hmg ?alp ?llp ?clp ?klp ?ald ?lld ?cld ?kld ?alk ?llk ?clk ?klk ?alv ?llv ?clv ?klv ?alm ?llm ?clm ?klm ?aln ?lln ?cln ?kln ?ala ?lla ?cla ?kla ?qg0q ?qx0q ?qi0q ?ql0q ?qd0q ?qg1q ?qx1q ?qi1q ?ql1q ?qd1q ?qg2q ?qx2q ?qi2q ?ql2q ?qd2q ?qg3q ?qx3q ?qi3q ?ql3q ?qd3q ?qg4q ?qx4q ?qi4q ?ql4q ?qd4q ?qg5q ?qx5q ?qi5q ?ql5q ?qd5q ?qg6q ?qx6q ?qi6q ?ql6q ?qd6q ?qg7q ?qx7q ?qi7q ?ql7q ?qd7q ?qg8q ?qx8q ?qi8q ?ql8q ?qd8q ?qg9q ?qx9q ?qi9q ?ql9q ?qd9q ?qg10q ?qx10q ?qi10q ?ql10q ?qd10q ?qg11q ?qx11q ?qi11q ?ql11q ?qd11q ?qg12q ?qx12q ?qi12q ?ql12q ?qd12q ?qg13q ?qx13q ?qi13q ?ql13q ?qd13q ?qg14q ?qx14q ?qi14q ?ql14q ?qd14q ?qg15q ?qx15q ?qi15q ?ql15q ?qd15q ?qg16q ?qx16q ?qi16q ?ql16q ?qd16q ?qg17q ?qx17q ?qi17q ?ql17q ?qd17q ?qg18q ?qx18q ?qi18q ?ql18q ?qd18q ?qg19q ?qx19q ?qi19q ?ql19q ?qd19q ?qg20q ?qx20q ?qi20q ?ql20q ?qd20q ?qg21q ?qx21q ?qi21q ?ql21q ?qd21q ?qg22q ?qx22q ?qi22q ?ql22q ?qd22q ?qg23q ?qx23q ?qi23q ?ql23q ?qd23q ?qg24q ?qx24q ?qi24q ?ql24q ?qd24q ?qg25q ?qe25q ?qkk25q ?aL ?eL ?kL ?hch ?hxc ?hkit ?hkL ?hkV ?lT ?vT ?nT ?lU ?vU ?nU2 ?nB ?z_int ?z_list ?z_len ?z_abs ?z_isinstance ?z_range ?z_repr ?z_ValueError
    (case aL => k_is); (case qg0q => k_is); (case qg1q => k_is); (case qg2q => k_is)
    (case qg3q => k_is); (case qg4q => k_is); (case qg5q => k_is); (case qg6q => k_is)
    (case qg7q => k_is); (case qg8q => k_is); (case qg9q => k_is); (case qg10q => k_is)
    (case qg11q => k_is); (case qg12q => k_is); (case qg13q => k_is); (case qg14q => k_is)
    (case qg15q => k_is); (case qg16q => k_is); (case qg17q => k_is); (case qg18q => k_is)
    (case qg19q => k_is); (case qg20q => k_is); (case qg21q => k_is); (case qg22q => k_is)
    (case qg23q => k_is); (case qg24q => k_is); (case qg25q => k_is); (case qi0q => k_is)
    (case qi1q => k_is); (case qi2q => k_is); (case qi3q => k_is); (case qi4q => k_is)
    (case qi5q => k_is); (case qi6q => k_is); (case qi7q => k_is); (case qi8q => k_is)
    (case qi9q => k_is); (case qi10q => k_is); (case qi11q => k_is); (case qi12q => k_is)
    (case qi13q => k_is); (case qi14q => k_is); (case qi15q => k_is); (case qi16q => k_is)
    (case qi17q => k_is); (case qi18q => k_is); (case qi19q => k_is); (case qi20q => k_is)
    (case qi21q => k_is); (case qi22q => k_is); (case qi23q => k_is); (case qi24q => k_is)
    (case qx0q => k_is); (case qx1q => k_is); (case qx2q => k_is); (case qx3q => k_is)
    (case qx4q => k_is); (case qx5q => k_is); (case qx6q => k_is); (case qx7q => k_is)
    (case qx8q => k_is); (case qx9q => k_is); (case qx10q => k_is); (case qx11q => k_is)
    (case qx12q => k_is); (case qx13q => k_is); (case qx14q => k_is); (case qx15q => k_is)
    (case qx16q => k_is); (case qx17q => k_is); (case qx18q => k_is); (case qx19q => k_is)
    (case qx20q => k_is); (case qx21q => k_is); (case qx22q => k_is); (case qx23q => k_is)
    (case qx24q => k_is); (case alp => k_is); (case llp => k_is); (case clp => k_is)
    (case klp => k_is); (case ald => k_is); (case lld => k_is); (case cld => k_is)
    (case kld => k_is); (case alk => k_is); (case llk => k_is); (case clk => k_is)
    (case klk => k_is); (case alv => k_is); (case llv => k_is); (case clv => k_is)
    (case klv => k_is); (case alm => k_is); (case llm => k_is); (case clm => k_is)
    (case klm => k_is); (case aln => k_is); (case lln => k_is); (case cln => k_is)
    (case kln => k_is); (case ala => k_is); (case lla => k_is); (case cla => k_is)
    (case kla => k_is); (case ql0q => k_is); (case qd0q => k_is); (case ql1q => k_is)
    (case qd1q => k_is); (case ql2q => k_is); (case qd2q => k_is); (case ql3q => k_is)
    (case qd3q => k_is); (case ql4q => k_is); (case qd4q => k_is); (case ql5q => k_is)
    (case qd5q => k_is); (case ql6q => k_is); (case qd6q => k_is); (case ql7q => k_is)
    (case qd7q => k_is); (case ql8q => k_is); (case qd8q => k_is); (case ql9q => k_is)
    (case qd9q => k_is); (case ql10q => k_is); (case qd10q => k_is); (case ql11q => k_is)
    (case qd11q => k_is); (case ql12q => k_is); (case qd12q => k_is); (case ql13q => k_is)
    (case qd13q => k_is); (case ql14q => k_is); (case qd14q => k_is); (case ql15q => k_is)
    (case qd15q => k_is); (case ql16q => k_is); (case qd16q => k_is); (case ql17q => k_is)
    (case qd17q => k_is); (case ql18q => k_is); (case qd18q => k_is); (case ql19q => k_is)
    (case qd19q => k_is); (case ql20q => k_is); (case qd20q => k_is); (case ql21q => k_is)
    (case qd21q => k_is); (case ql22q => k_is); (case qd22q => k_is); (case ql23q => k_is)
    (case qd23q => k_is); (case ql24q => k_is); (case qd24q => k_is); (case qe25q => first | kernel_rfl | rfl | decide +kernel)
    (case qkk25q => k_is); (case eL => first | kernel_rfl | rfl | decide +kernel); (case kL => k_is); (case lT => k_is)
    (case vT => first | rfl | decide +kernel); (case nT => first | kernel_rfl | rfl); (case lU => k_is); (case vU => first | rfl | decide +kernel)
    (case nU2 => first | kernel_rfl | rfl); (case z_int => k_is); (case z_list => k_is); (case z_len => k_is)
    (case z_abs => k_is); (case z_isinstance => k_is); (case z_range => k_is); (case z_repr => k_is)
    (case z_ValueError => k_is); (case hch => first | kernel_rfl | rfl | decide +kernel); (case hxc => first | kernel_rfl | rfl | decide +kernel); (case hkit => first | kernel_rfl | rfl | decide +kernel)
    (case hkL => first | kernel_rfl | rfl | decide +kernel); (case hkV => first | kernel_rfl | rfl | decide +kernel); (case nB => decide)
