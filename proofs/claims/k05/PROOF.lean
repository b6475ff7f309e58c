import PyProof.Rows.All
import Wide.All
import OpenK.AllK
import Wide.FinOn
import HandS.ForMost
import HandS.Wide
import HandS.Codes
import HandS.EndBits
import HandS.Lambda
import HandS.IsInst
import PyProof.IsiBase
import KE.KIsAll
import HandS.Walk
import HandS.Words
import HandS.Gcd
import HandS.SlotsOwn
import KE.KOpsOwn
import PyProof.TwoTypes
import HandS.Exc
import HandS.ExcField
import HandS.ExcIs
import HandS.ClsMeth
import HandS.ExcInit
import HandS.Dict
import HandS.TryOnly
import HandS.Style
import HandS.EndTab
import HandS.Defaults
import PySem.Challenge.RW_latechunks_k05_ratios_reckoned
set_option Elab.async false
set_option linter.all false
set_option maxRecDepth 100000
set_option maxHeartbeats 4000000
namespace Lw
open PySem PySem.Spec PyProof.Rows L2
def top (i : Nat) : Stmt := PySem.Challenge.pw_latechunks_k05_ratios_reckoned.main.body.getD i (.Pass ⟨0, 0, 0, 0⟩)

theorem stir {x s : Int} (hx0 : 0 ≤ x) (hx : x < 2147483648) (hs0 : 0 ≤ s) (hs : s ≤ 1000000) (e f g : Int) (he0 : 0 ≤ e) (he : e ≤ 1000) (hf0 : 0 ≤ f) (hf : f ≤ 1000000) (hg0 : 0 ≤ g) (hg : g ≤ 1000000) :
    (x * (2 * s + e) + f * s * s + g).natAbs < 2 ^ 64 := by
  have a0 : 0 ≤ x * (2 * s + e) := Int.mul_nonneg hx0 (by omega)
  have a1 : x * (2 * s + e) ≤ 2147483648 * 2001000 := Int.mul_le_mul (by omega) (by omega) (by omega) (by omega)
  have b0 : 0 ≤ f * s := Int.mul_nonneg hf0 hs0
  have b1 : f * s ≤ 1000000 * 1000000 := Int.mul_le_mul hf hs hs0 (by omega)
  have c0 : 0 ≤ f * s * s := Int.mul_nonneg b0 hs0
  have c1 : f * s * s ≤ 1000000 * 1000000 * 1000000 := Int.mul_le_mul b1 hs hs0 (by omega)
  omega
theorem fsmall {f s : Int} (hf0 : 0 ≤ f) (hf : f ≤ 1000000) (hs0 : 0 ≤ s) (hs : s ≤ 1000000) : -(2 ^ 64) < f * s ∧ f * s < 2 ^ 64 := by
  have b0 : 0 ≤ f * s := Int.mul_nonneg hf0 hs0
  have b1 : f * s ≤ 1000000 * 1000000 := Int.mul_le_mul hf hs hs0 (by omega)
  omega
theorem fm0 {a d : Int} (hd : 0 < d) : 0 ≤ Int.fmod a d := Int.fmod_nonneg_of_pos _ hd
theorem fm1 {a d : Int} (hd : 0 < d) (h : d ≤ 2147483648) : Int.fmod a d < 2147483648 := Int.lt_of_lt_of_le (Int.fmod_lt_of_pos _ hd) h
theorem fm64 {a d : Int} (hd : 0 < d) (h : d ≤ 2147483648) : -(2 ^ 64) < Int.fmod a d ∧ Int.fmod a d < 2 ^ 64 := by
  have h0 := fm0 (a := a) hd
  have h1 := fm1 (a := a) hd h
  omega
theorem ite_false_of {c : Bool} {A B : Prop} (h : ¬ c = true) (hb : B) : if c = true then A else B := by rw [if_neg h]; exact hb
/-- behind an if: what both ways end in -/
theorem join_if {t u : TS} {D : Ends} {b : Bool} {σ : L2.St} {H : Hp} (Pj : L2.St → Hp → Prop) (hr : ∀ σ' H', Pj σ' H' → D.nx σ' H') (h : (∀ σ' H', Pj σ' H' → D.nx σ' H') → if b = true then t D σ H else u D σ H) : if b = true then t D σ H else u D σ H := h hr
theorem lay_ints : ∀ xs : List Int, PyData.canLayAll0 (xs.map PyData.int) = true
  | [] => rfl
  | x :: r => by
    show (PyData.canLay0 (.int x) && PyData.canLayAll0 (r.map PyData.int)) = true
    rw [lay_ints r]; rfl
theorem depth_ints : ∀ xs : List Int, PyData.depthAll (xs.map PyData.int) = 0
  | [] => rfl
  | x :: r => by
    show max (PyData.depth (.int x)) (PyData.depthAll (r.map PyData.int)) = 0
    rw [depth_ints r]; rfl
theorem shaped_ints (xs : List Int) : SeqAt.shaped (.list (xs.map PyData.int)) = true := by
  unfold SeqAt.shaped
  have h1 : PyData.canLay0 (.list (xs.map PyData.int)) = true := lay_ints xs
  have h2 : PyData.depth (.list (xs.map PyData.int)) = 1 := by
    show PyData.depthAll (xs.map PyData.int) + 1 = 1
    rw [depth_ints]
  rw [h1, h2]; rfl
theorem dp_ints {K : PySem.W.Frag} {H : Hp} : ∀ xs : List Int, DpAll K H (xs.map V.int) (xs.map PyData.int)
  | [] => .nil
  | x :: r => .cons (.int x) (dp_ints r)
theorem eqv_nil (xs : List Int) : PyData.eqv (.list (xs.map PyData.int)) (.list []) = decide (xs = []) := by
  cases xs <;> rfl
abbrev sPen : Stmt := top 20
abbrev sDraw : Stmt := top 21
abbrev sPick : Stmt := top 22
/-- all but what stands at p is as it was -/
def Kp (p : Addr) (H H' : Hp) : Prop := ∀ b o, b ≠ p → H b = some o → H' b = some o
/-- a pen at p: its numbers at l, its place, its rest -/
structure PenAt (H : Hp) (p l : Addr) (xs : List Int) (s g : Int) : Prop where
  at_ : H p = some (.lst [.ref l, .int s, .int g])
  ls : H l = some (.lst (xs.map V.int))
  ne : p ≠ l
  s0 : 0 ≤ s
  g0 : 0 ≤ g
def Pen (H : Hp) (p l : Addr) (n : Nat) : Prop := ∃ xs s g, PenAt H p l xs s g ∧ s ≤ n
def spDraw : Sp := fun vs H Q _ => ∃ (p l : Addr) (n : Nat) (m : Int), vs = [.ref p, .int m] ∧ 0 < m ∧ m < 2 ^ 200 ∧ Pen H p l n ∧ n ≤ 1000000 ∧
  ∀ (r : Int) (H' : Hp), 0 ≤ r → r < m → Pen H' p l (n + 1) → Kp p H H' → Q (.int r) H'
structure Txt0 (mg : Str → Option Value) : Prop where
  n_int : mg "int" = none
  n_list : mg "list" = none
  n_len : mg "len" = none
  n_abs : mg "abs" = none
section
variable {P : Program} {w : World} {K : PySem.W.Frag} {mg : Str → Option Value} {base : Heap}
theorem scDraw : FnScope ["_law_pen_here", "_law_many", "_law_digit", "_law_spot", "_law_cell", "_law_great", "_law_stirred"] ["_law_pen_here", "_law_many"] (C8.fnScope sDraw) := C8.fnScope_by (by decide +kernel)
theorem cal_draw {f : Addr} {fd : FuncData} (F : C8.Def K mg "_law_draw" sDraw f fd) (b : Binds K fd ["_law_pen_here", "_law_many"] []) (T : Txt0 mg) : C8.Cal P w K mg base 1 "_law_draw" spDraw [] := by
  refine C8.cal0 F b .nil scDraw (fun vs H Q E h => ?_) (fun cdv A outer st H vs Q E hr h => ?_)
  · obtain ⟨p, l, n, m, rfl, _⟩ := h
    rfl
  · obtain ⟨p, l, n, m, rfl, hm, hm2, ⟨xs, s, g, ⟨hp, hl, ne, s0, g0⟩, hs⟩, hn, k⟩ := h
    refine ⟨_, (pss_cons (ps_if (pt_cmpR op_gt (pe_ix ix_list (pv 0) pe_int (fun _ _ => rfl)) pe_int (nomark _)) (pss_cons (ps_set (i := 2) scDraw.nd rfl (Or.inl rfl) (pe_op op_modN (pe_callTy call_int1 (by rfl) T.n_int (by decide +kernel) (pa_cons (pe_ix ix_list (pv 0) pe_int (fun _ _ => rfl)) pa_nil)) (pv 1)))
  (pss_cons (ps_asg (pe_op op_fdivW (pe_callTy call_int1 (by rfl) T.n_int (by decide +kernel) (pa_cons (pe_ix ix_list (pv 0) pe_int (fun _ _ => rfl)) pa_nil)) (pv 1)) (pg_sub (pv 0) pe_int set_list))
  (pss_one (ps_ret (pv 2))))) pss_nil)
  (pss_cons (ps_set (i := 3) scDraw.nd rfl (Or.inl rfl) (pe_ix ix_list (pv 0) pe_int (fun _ _ => rfl)))
  (pss_cons (ps_asg (pe_op op_add (pv 3) pe_int) (pg_sub (pv 0) pe_int set_list))
  (pss_cons (ps_set (i := 4) scDraw.nd rfl (Or.inl rfl) (pe_op op_add (pe_op op_mul pe_int (pv 3)) pe_int))
  (pss_cons (ps_if (pt_cmpR (op_neD hr.units) (pe_ix ix_list (pv 0) pe_int (fun _ _ => rfl)) (pe_lst pa_nil) (nomark _)) (pss_one (ps_set (i := 4) scDraw.nd rfl (Or.inl rfl) (pe_ix ix_list (pe_ix ix_list (pv 0) pe_int (fun _ _ => rfl)) (pe_op op_modN (pe_callTy call_int1 (by rfl) T.n_int (by decide +kernel) (pa_cons (pv 3) pa_nil)) (pe_callB call_len_seq (by rfl) T.n_len (by decide +kernel) (pa_cons (pe_ix ix_list (pv 0) pe_int (fun _ _ => rfl)) pa_nil))) (fun _ _ => rfl)))) pss_nil)
  (pss_cons (ps_if (PW.pt (pw_and (pt_cmpR op_lt (pv 3) (pe_callB call_len_seq (by rfl) T.n_len (by decide +kernel) (pa_cons (pe_ix ix_list (pv 0) pe_int (fun _ _ => rfl)) pa_nil)) (nomark _)) (pw_and1 (pt_cmpR op_ge (pe_callB call_abs (by rfl) T.n_abs (by decide +kernel) (pa_cons (pv 4) pa_nil)) (pe_op op_pow pe_int pe_int) (nomark _))))) (pss_cons (ps_set (i := 5) scDraw.nd rfl (Or.inl rfl) (pe_op op_add (pe_op op_mul pe_int (pe_op op_sub (pe_callB call_abs (by rfl) T.n_abs (by decide +kernel) (pa_cons (pv 4) pa_nil)) (pe_op op_pow pe_int pe_int))) (pe_callTy call_int1 (by rfl) T.n_int (by decide +kernel) (pa_cons (pe_cmpR op_lt (pv 4) pe_int (nomark _)) pa_nil))))
  (pss_cons (ps_asg (pe_op op_fdivW (pe_callTy call_int1 (by rfl) T.n_int (by decide +kernel) (pa_cons (pv 5) pa_nil)) (pv 1)) (pg_sub (pv 0) pe_int set_list))
  (pss_one (ps_ret (pe_op op_modN (pe_callTy call_int1 (by rfl) T.n_int (by decide +kernel) (pa_cons (pv 5) pa_nil)) (pv 1)))))) pss_nil)
  (pss_cons (ps_set (i := 6) scDraw.nd rfl (Or.inl rfl) (pe_op op_modN (pe_callTy call_int1 (by rfl) T.n_int (by decide +kernel) (pa_cons (pe_op op_pow (pe_op op_add (pe_op op_add (pe_op op_modN (pe_callTy call_int1 (by rfl) T.n_int (by decide +kernel) (pa_cons (pv 4) pa_nil)) pe_int) (pe_op op_mul pe_int (pv 3))) pe_int) pe_int) pa_nil)) pe_int))
  (pss_cons (ps_set (i := 6) scDraw.nd rfl (Or.inl rfl) (pe_op op_modN (pe_callTy call_int1 (by rfl) T.n_int (by decide +kernel) (pa_cons (pe_op op_pow (pe_op op_add (pe_op op_add (pe_op op_mul (pv 6) (pe_op op_add (pe_op op_mul pe_int (pv 3)) pe_int)) (pe_op op_mul (pe_op op_mul pe_int (pv 3)) (pv 3))) pe_int) pe_int) pa_nil)) pe_int))
  (pss_one (ps_ret (pe_op op_modN (pe_callTy call_int1 (by rfl) T.n_int (by decide +kernel) (pa_cons (pe_op op_fdivW (pv 6) pe_int) pa_nil)) (pv 1)))))))))))), ?_⟩
    have hmb : CDivW 0 m := wide_div (b := 200) hm (by omega) (by decide) (by decide)
    refine ⟨_, rfl, p, _, _, _, rfl, rfl, SqL.of hp, rfl, _, _, rfl, rfl, _, rfl, ite2 (fun c => ?_) (fun c => ?_)⟩
    · -- the rest is above 0: a digit of it
      refine ⟨_, rfl, p, _, _, _, rfl, rfl, SqL.of hp, rfl, Or.inl ⟨_, rfl, ?_⟩⟩
      refine ⟨_, rfl, _, _, rfl, rfl, (by omega), ?_⟩
      refine ⟨_, rfl, p, _, _, _, rfl, rfl, SqL.of hp, rfl, Or.inl ⟨_, rfl, ?_⟩⟩
      refine ⟨_, rfl, _, _, rfl, rfl, hmb, ?_⟩
      refine ⟨_, rfl, p, _, _, _, rfl, rfl, hp, rfl, ?_⟩
      refine ⟨_, rfl, ?_⟩
      refine k _ _ (Int.fmod_nonneg_of_pos _ hm) (Int.fmod_lt_of_pos _ hm) ⟨xs, s, g / m, ⟨?_, ?_, ne, s0, Int.ediv_nonneg g0 (Int.le_of_lt hm)⟩, by omega⟩ fun b o hb e => ?_
      · rw [upd_same]; rfl
      · rw [upd_ne (Ne.symm ne)]; exact hl
      · rw [upd_ne hb]; exact e
    · -- the next place
      refine ⟨_, rfl, p, _, _, _, rfl, rfl, SqL.of hp, rfl, ?_⟩
      refine ⟨_, rfl, _, _, rfl, rfl, _, rfl, p, _, _, _, rfl, rfl, hp, rfl, ?_⟩
      have hp1 : upd H p (.lst [V.ref l, V.int (s + 1), V.int g]) p = some (.lst [V.ref l, V.int (s + 1), V.int g]) := upd_same
      have hl1 : upd H p (.lst [V.ref l, V.int (s + 1), V.int g]) l = some (.lst (xs.map V.int)) := by rw [upd_ne (Ne.symm ne)]; exact hl
      have k1 : Kp p H (upd H p (.lst [V.ref l, V.int (s + 1), V.int g])) := fun b o hb e => by rw [upd_ne hb]; exact e
      show tSeq _ _ _ _ (upd H p (.lst [V.ref l, V.int (s + 1), V.int g]))
      generalize upd H p (.lst [V.ref l, V.int (s + 1), V.int g]) = H1 at hp1 hl1 k1 ⊢
      have fin : ∀ (r g' : Int) (H' : Hp), 0 ≤ r → r < m → 0 ≤ g' → H' p = some (.lst [V.ref l, V.int (s + 1), V.int g']) → Kp p H1 H' → Q (.int r) H' := fun r g' H' h0 h1 h2 h3 h4 =>
        k r H' h0 h1 ⟨xs, s + 1, g', ⟨h3, h4 _ _ (Ne.symm ne) hl1, ne, by omega, h2⟩, by omega⟩ fun b o hb e => h4 b o hb (k1 b o hb e)
      refine ⟨_, rfl, _, _, rfl, rfl, Or.inl (by decide), _, _, rfl, rfl, ?_⟩
      refine ⟨_, rfl, p, _, _, _, rfl, rfl, SqL.of hp1, rfl, (by show 0 ≤ sizeLine; decide), fun q hq => ?_⟩
      have lq : l ≠ q := ne_of_none hl1 hq
      have pq : p ≠ q := ne_of_none hp1 hq
      have hl2 : upd H1 q (.lst []) l = some (.lst (xs.map V.int)) := by rw [upd_ne lq]; exact hl1
      have hp2 : upd H1 q (.lst []) p = some (.lst [V.ref l, V.int (s + 1), V.int g]) := by rw [upd_ne pq]; exact hp1
      have k2 : Kp p H1 (upd H1 q (.lst [])) := fun b o hb e => by rw [upd_ne (ne_of_none e hq)]; exact e
      refine ⟨.list (xs.map PyData.int), .list [], .lst (SqL.of hl2) (dp_ints xs), .lst (SqL.of upd_same) .nil, shaped_ints xs, rfl, _, rfl, ?_⟩
      generalize upd H1 q (.lst []) = H2 at hl2 hp2 k2 ⊢
      refine join_if (fun σ' H' => ∃ cell : Int, σ' = [some (V.ref p), some (V.int m), none, some (V.int s), some (V.int cell), none, none] ∧ H' = H2) ?rest (fun go => ?_)
      case rest =>
        rintro σ' H' ⟨cell, rfl, rfl⟩
        refine ⟨_, rfl, _, rfl, p, _, _, _, rfl, rfl, SqL.of hp2, rfl, l, xs.map V.int, rfl, .inl (SqL.of hl2), _, _, rfl, rfl, _, rfl, ?_⟩
        refine ite2 (fun c2 => ?_) (fun c2 => ?_)
        · refine ⟨_, rfl, _, rfl, _, _, rfl, rfl, ⟨by decide, by decide, by decide⟩, _, _, rfl, rfl, _, rfl, ?_⟩
          refine ite2 (fun c3 => ?_) (fun c3 => ?_)
          · refine ⟨_, rfl, _, rfl, _, _, rfl, rfl, ⟨by decide, by decide, by decide⟩, _, _, rfl, rfl, _, _, rfl, rfl, Or.inl (by decide), _, rfl, _, _, rfl, rfl, Or.inr ⟨_, rfl, _, _, rfl, rfl, ?_⟩⟩
            have hge : (10 : Int) ^ (18 : Int).toNat ≤ (if cell < 0 then -cell else cell) := of_decide_eq_true c3
            generalize hG : 2 * ((if cell < 0 then -cell else cell) - 10 ^ (18 : Int).toNat) + (if decide (cell < 0) = true then (1 : Int) else 0) = G
            have hG0 : 0 ≤ G := by
              rw [← hG]
              have h1 : 0 ≤ (if decide (cell < 0) = true then (1 : Int) else 0) := by split <;> decide
              omega
            refine ⟨_, rfl, Or.inl ⟨_, rfl, _, rfl, _, _, rfl, rfl, (by exact hmb), _, rfl, p, _, _, _, rfl, rfl, hp2, rfl, ?_⟩⟩
            refine ⟨_, rfl, Or.inl ⟨_, rfl, _, rfl, _, _, rfl, rfl, (by show ¬ (_ = _); omega), ?_⟩⟩
            refine fin _ (G / m) _ (fm0 hm) (Int.fmod_lt_of_pos _ hm) (Int.ediv_nonneg hG0 (Int.le_of_lt hm)) ?_ fun b o hb e => ?_
            · rw [upd_same, ← hG]; rfl
            · rw [upd_ne hb]; exact k2 b o hb e
          · refine ⟨_, rfl, Or.inl ⟨_, rfl, ?_⟩⟩
            refine ⟨_, _, rfl, rfl, (by show ¬ (_ = _); decide), _, rfl, _, _, rfl, rfl, Or.inl (by decide), _, _, rfl, rfl, _, _, rfl, rfl, ?_⟩
            generalize hz : Int.fmod cell _ = z
            have hz0 : 0 ≤ z := by rw [← hz]; exact fm0 (by decide)
            have hz1 : z < 2147483648 := by rw [← hz]; exact fm1 (by decide) (by decide)
            refine ⟨_, _, rfl, rfl, ⟨by decide, by decide, by omega⟩, Or.inl ⟨_, rfl, ?_⟩⟩
            refine ⟨_, _, rfl, rfl, (by show ¬ (_ = _); decide), ?_⟩
            refine ⟨_, rfl, _, rfl, _, _, rfl, rfl, Or.inl (by decide), _, _, rfl, rfl, _, _, rfl, rfl, Or.inl (by exact fm64 (by decide) (by decide)), ?_⟩
            refine ⟨_, rfl, _, _, rfl, rfl, Or.inl (by decide), _, rfl, _, _, rfl, rfl, Or.inl (by exact fsmall (by decide) (by decide) s0 (by omega)), _, _, rfl, rfl, _, _, rfl, rfl, ?_⟩
            refine ⟨_, _, rfl, rfl, ⟨by decide, by decide, by exact stir (fm0 (by decide)) (fm1 (by decide) (by decide)) s0 (by omega) _ _ _ (by decide) (by decide) (by decide) (by decide) (by decide) (by decide)⟩, Or.inl ⟨_, rfl, ?_⟩⟩
            refine ⟨_, _, rfl, rfl, (by show ¬ (_ = _); decide), ?_⟩
            refine ⟨_, rfl, _, _, rfl, rfl, ⟨by decide, by decide⟩, Or.inl ⟨_, rfl, _, rfl, _, _, rfl, rfl, (by show ¬ (_ = _); omega), ?_⟩⟩
            exact fin _ g _ (fm0 hm) (Int.fmod_lt_of_pos _ hm) g0 hp2 k2
        · refine iteF ?_
          refine ⟨_, rfl, Or.inl ⟨_, rfl, ?_⟩⟩
          refine ⟨_, _, rfl, rfl, (by show ¬ (_ = _); decide), _, rfl, _, _, rfl, rfl, Or.inl (by decide), _, _, rfl, rfl, _, _, rfl, rfl, ?_⟩
          generalize hz : Int.fmod cell _ = z
          have hz0 : 0 ≤ z := by rw [← hz]; exact fm0 (by decide)
          have hz1 : z < 2147483648 := by rw [← hz]; exact fm1 (by decide) (by decide)
          refine ⟨_, _, rfl, rfl, ⟨by decide, by decide, by omega⟩, Or.inl ⟨_, rfl, ?_⟩⟩
          refine ⟨_, _, rfl, rfl, (by show ¬ (_ = _); decide), ?_⟩
          refine ⟨_, rfl, _, rfl, _, _, rfl, rfl, Or.inl (by decide), _, _, rfl, rfl, _, _, rfl, rfl, Or.inl (by exact fm64 (by decide) (by decide)), ?_⟩
          refine ⟨_, rfl, _, _, rfl, rfl, Or.inl (by decide), _, rfl, _, _, rfl, rfl, Or.inl (by exact fsmall (by decide) (by decide) s0 (by omega)), _, _, rfl, rfl, _, _, rfl, rfl, ?_⟩
          refine ⟨_, _, rfl, rfl, ⟨by decide, by decide, by exact stir (fm0 (by decide)) (fm1 (by decide) (by decide)) s0 (by omega) _ _ _ (by decide) (by decide) (by decide) (by decide) (by decide) (by decide)⟩, Or.inl ⟨_, rfl, ?_⟩⟩
          refine ⟨_, _, rfl, rfl, (by show ¬ (_ = _); decide), ?_⟩
          refine ⟨_, rfl, _, _, rfl, rfl, ⟨by decide, by decide⟩, Or.inl ⟨_, rfl, _, rfl, _, _, rfl, rfl, (by show ¬ (_ = _); omega), ?_⟩⟩
          exact fin _ g _ (fm0 hm) (Int.fmod_lt_of_pos _ hm) g0 hp2 k2
      refine ite2 (fun c1 => ?_) (fun c1 => ?_)
      · rw [eqv_nil] at c1
        have hx : xs ≠ [] := by simpa using c1
        have hlen : 0 < xs.length := List.length_pos_iff.mpr hx
        refine ⟨_, rfl, p, _, _, _, rfl, rfl, SqL.of hp2, rfl, ?_⟩
        refine ⟨_, rfl, Or.inl ⟨_, rfl, ?_⟩⟩
        refine ⟨_, rfl, p, _, _, _, rfl, rfl, SqL.of hp2, rfl, l, xs.map V.int, rfl, .inl (SqL.of hl2), ?_⟩
        have hL : ((xs.map V.int).length : Int) = (xs.length : Int) := by rw [List.length_map]
        have hb1 : 0 ≤ s.fmod ((xs.map V.int).length : Int) := Int.fmod_nonneg_of_pos _ (by omega)
        have hb2 : s.fmod ((xs.map V.int).length : Int) < ((xs.map V.int).length : Int) := Int.fmod_lt_of_pos _ (by omega)
        obtain ⟨j, hj⟩ : ∃ j : Nat, s.fmod ((xs.map V.int).length : Int) = (j : Int) := ⟨(s.fmod ((xs.map V.int).length : Int)).toNat, by omega⟩
        have hjl : j < xs.length := by omega
        have hat : atI (xs.map V.int) (s.fmod ((xs.map V.int).length : Int)) = some (V.int xs[j]) := by
          rw [hj]; exact atI_nat (by simp [hjl])
        refine ⟨_, _, rfl, rfl, (by omega), ?_⟩
        refine ⟨l, _, _, V.int xs[j], rfl, rfl, SqL.of hl2, hat, ?_⟩
        exact go _ _ ⟨xs[j], rfl, rfl⟩
      · exact go _ _ ⟨_, rfl, rfl⟩
end
end Lw
namespace Lw
open PySem PySem.Spec PyProof.Rows L2

theorem Kp.refl (p : Addr) (H : Hp) : Kp p H H := fun _ _ _ e => e
theorem Kp.trans {p : Addr} {H H1 H2 : Hp} (a : Kp p H H1) (b : Kp p H1 H2) : Kp p H H2 := fun c o hc e => b c o hc (a c o hc e)
theorem Kp.of {p : Addr} {H H' : Hp} (s : Same H H') : Kp p H H' := fun b o _ e => s b o e
theorem Kp.seq {K : PySem.W.Frag} {p a : Addr} {H H' : Hp} {ys : List V} (k : Kp p H H') (ne : a ≠ p) (h : SqL K H a ys) : SqL K H' a ys := by
  rcases h with (h | ⟨o, h⟩) | h
  · exact .inl (.inl (k _ _ ne h))
  · exact .inl (.inr ⟨o, k _ _ ne h⟩)
  · exact .inr h
theorem same_new {H : Hp} {q : Addr} {o : HO} (hq : H q = none) : Same H (upd H q o) := fun b u e => by rw [upd_ne (ne_of_none e hq)]; exact e
theorem Pen.keep {H H' : Hp} {p l : Addr} {n : Nat} (h : Pen H p l n) (s : Same H H') : Pen H' p l n := by
  obtain ⟨xs, a, g, ⟨h1, h2, h3, h4, h5⟩, h6⟩ := h
  exact ⟨xs, a, g, ⟨s _ _ h1, s _ _ h2, h3, h4, h5⟩, h6⟩
theorem Pen.at {H : Hp} {p l : Addr} {n : Nat} (h : Pen H p l n) : ∃ o, H p = some o := by
  obtain ⟨xs, a, g, h, _⟩ := h
  exact ⟨_, h.at_⟩
theorem Pen.ne_new {H : Hp} {p l q : Addr} {n : Nat} (h : Pen H p l n) (hq : H q = none) : q ≠ p := by
  obtain ⟨o, h1⟩ := h.at
  exact (ne_of_none h1 hq).symm
theorem Pen.more {H : Hp} {p l : Addr} {n m : Nat} (h : Pen H p l n) (hm : n ≤ m) : Pen H p l m := by
  obtain ⟨xs, a, g, h1, h2⟩ := h
  exact ⟨xs, a, g, h1, by omega⟩
def spPick (K : PySem.W.Frag) : Sp := fun vs H Q _ => ∃ (p l a : Addr) (n : Nat) (ys : List V), vs = [.ref p, .ref a] ∧ Pen H p l n ∧ n ≤ 1000000 ∧ SqL K H a ys ∧ a ≠ p ∧ 0 < ys.length ∧ ys.length < 1000000 ∧
  ∀ (j : Nat) (v : V) (H' : Hp), ys[j]? = some v → Pen H' p l (n + 1) → Kp p H H' → Q v H'
def spPen (K : PySem.W.Frag) : Sp := fun vs H Q _ => ∃ (a : Addr) (ns : List Int), vs = [.ref a] ∧ SqL K H a (ns.map V.int) ∧ ns.length ≤ 63 ∧ ∀ (p l : Addr) (H' : Hp), Pen H' p l 0 → Same H H' → H p = none → Q (.ref p) H'
theorem Pen.over {H : Hp} {p l q : Addr} {n : Nat} {o : HO} (h : Pen H p l n) (h1 : q ≠ p) (h2 : q ≠ l) : Pen (upd H q o) p l n := by
  obtain ⟨xs, a, g, ⟨e1, e2, e3, e4, e5⟩, h6⟩ := h
  exact ⟨xs, a, g, ⟨by rw [upd_ne h1.symm]; exact e1, by rw [upd_ne h2.symm]; exact e2, e3, e4, e5⟩, h6⟩
theorem Pen.ne_new2 {H : Hp} {p l q : Addr} {n : Nat} (h : Pen H p l n) (hq : H q = none) : q ≠ l := by
  obtain ⟨xs, a, g, h, _⟩ := h
  exact (ne_of_none h.ls hq).symm
section
variable {P : Program} {w : World} {K : PySem.W.Frag} {mg : Str → Option Value} {base : Heap}
theorem scPick : FnScope ["_law_pen_here", "_law_some"] ["_law_pen_here", "_law_some"] (C8.fnScope sPick) := C8.fnScope_by (by decide +kernel)
theorem cal_pick {f : Addr} {fd : FuncData} (F : C8.Def K mg "_law_pick" sPick f fd) (b : Binds K fd ["_law_pen_here", "_law_some"] []) (T : Txt0 mg) (D : C8.Cal P w K mg base 1 "_law_draw" spDraw []) : C8.Cal P w K mg base 2 "_law_pick" (spPick K) [] := by
  refine C8.cal0 F b .nil scPick (fun vs H Q E h => ?_) (fun cdv A outer st H vs Q E hr h => ?_)
  · obtain ⟨p, l, a, n, ys, rfl, _⟩ := h
    rfl
  · obtain ⟨p, l, a, n, ys, rfl, hp, hn, hs, ne, h0, h1, k⟩ := h
    refine ⟨_, (pss_one (ps_ret (pe_ix ix_list (pv 1) (C8.pe_c D hr (by decide) (by rfl) (pa_cons (pv 0) (pa_cons (pe_callB call_len_seq (by rfl) T.n_len (by decide +kernel) (pa_cons (pv 1) pa_nil)) pa_nil))) (fun _ _ => rfl)))), ?_⟩
    refine ⟨_, rfl, _, rfl, _, rfl, a, ys, rfl, .inl hs, ?_⟩
    refine ⟨p, l, n, _, rfl, (by omega), (by omega), hp, hn, fun r H' r0 r1 hp' k' => ?_⟩
    obtain ⟨j, hj⟩ : ∃ j : Nat, r = (j : Int) := ⟨r.toNat, by omega⟩
    subst hj
    have hjl : j < ys.length := by omega
    refine ⟨a, ys, _, ys[j], rfl, rfl, k'.seq ne hs, atI_nat (by simp [hjl]), ?_⟩
    exact k j _ H' (by simp [hjl]) hp' k'
theorem scPen : FnScope ["_law_script"] ["_law_script"] (C8.fnScope sPen) := C8.fnScope_by (by decide +kernel)
theorem cut_ints (xs : List Int) (lo hi : Option Int) : cutV (xs.map V.int) lo hi = ((xs.drop (HT.sIx xs.length 0 lo)).take (HT.sIx xs.length xs.length hi - HT.sIx xs.length 0 lo)).map V.int := by
  unfold cutV
  rw [List.length_map, List.map_take, List.map_drop]
theorem cal_pen {f : Addr} {fd : FuncData} (F : C8.Def K mg "_law_pen" sPen f fd) (b : Binds K fd ["_law_script"] []) (T : Txt0 mg) : C8.Cal P w K mg base 1 "_law_pen" (spPen K) [] := by
  refine C8.cal0 F b .nil scPen (fun vs H Q E h => ?_) (fun cdv A outer st H vs Q E hr h => ?_)
  · obtain ⟨a, ns, rfl, _⟩ := h
    rfl
  · obtain ⟨a, ns, rfl, hs, hl, k⟩ := h
    refine ⟨_, (pss_one (ps_ret (pe_lst (pa_cons (pe_callTy call_list_of (by rfl) T.n_list (by decide +kernel) (pa_cons (pe_slice sl_list (pv 0) po_none (po_some pe_int)) pa_nil)) (pa_cons pe_int (pa_cons pe_int pa_nil)))))), ?_⟩
    refine ⟨_, rfl, _, rfl, a, _, rfl, hs, fun c hc => ?_⟩
    refine ⟨c, _, rfl, .inl (SqL.of upd_same), fun l hl2 => ?_⟩
    refine ⟨(by show 3 ≤ sizeLine; decide), fun p hp => ?_⟩
    have s1 := same_new (o := HO.lst (cutV (ns.map V.int) none (some 63))) hc
    have s2 := same_new (o := HO.lst (cutV (ns.map V.int) none (some 63))) hl2
    have s3 := same_new (o := HO.lst [V.ref l, V.int 0, V.int 0]) hp
    have pl : p ≠ l := fun e => by rw [e, upd_same] at hp; cases hp
    refine k p l _ ⟨((ns.drop (HT.sIx ns.length 0 none)).take (HT.sIx ns.length ns.length (some 63) - HT.sIx ns.length 0 none)), 0, 0, ⟨upd_same, ?_, pl, by omega, by omega⟩, by omega⟩ ((s1.trans s2).trans s3) ((s1.trans s2).free hp)
    rw [upd_ne pl.symm, upd_same, cut_ints]
end
end Lw
namespace Lw
open PySem PySem.Spec PyProof.Rows L2

/-! ### defs that are called where no repr runs -/
/-- a def's promise where nothing is being shown -/
structure FnG (P : Program) (w : World) (K : PySem.W.Frag) (mg : Str → Option Value) (base : Heap) (k : Nat) (f : Addr) (fd : FuncData) (ps : List Str) (sp : Sp) : Prop where
  len : ∀ vs H Q E, sp vs H Q E → vs.length = ps.length
  run : ∀ (A : Around) (outer : List Env) (s : Shared) (H : Hp) (args : Args) (us : List Value) (vs : List V) (Q : VK) (E : XK), A.guards = some [] → Room k A → Env0 P w K mg base A outer s H →
    BindsTo s fd args (ps.zip us) → Vals vs us → sp vs H Q E → codeAny (model P w) A (.call (.ref f) args) (CR C8.CX0 outer P w H s Q E) s
structure CalG (P : Program) (w : World) (K : PySem.W.Frag) (mg : Str → Option Value) (base : Heap) (k : Nat) (x : Str) (sp : Sp) (dvs : List V) : Prop where
  ex : ∃ (f : Addr) (fd : FuncData) (ps : List Str) (ds : List Value), FnG P w K mg base k f fd ps sp ∧ mg x = some (.ref f) ∧ PySem.W.keepIn K (.ref f) = true ∧ Binds K fd ps ds ∧ Vals dvs ds
section
variable {P : Program} {w : World} {K : PySem.W.Frag} {mg : Str → Option Value} {base : Heap}
theorem calG {x : Str} {st : Stmt} {f : Addr} {fd : FuncData} {N ps : List Str} {ds : List Value} {dvs : List V} {k : Nat} {sp : Sp} (F : C8.Def K mg x st f fd) (b : Binds K fd ps ds) (d : Vals dvs ds) (S : FnScope N ps (C8.fnScope st))
    (len : ∀ vs H Q E, sp vs H Q E → vs.length = ps.length)
    (body : ∀ (cdv : Value) (A : Around) (outer : List Env) (s : Shared) (H : Hp) (vs : List V) (Q : VK) (E : XK), (A.deeper (envOfC x (C8.fnScope st) s.heap.objs.size f cdv)).guards = some [] → Room k (A.deeper (envOfC x (C8.fnScope st) s.heap.objs.size f cdv)) → sp vs H Q E →
      ∃ t, PSs (cxOf C8.CX0 P w K mg base N x (C8.fnScope st) f cdv A outer s H E).nox (C8.fnBody st) t ∧ t { nx := fun _ H' => Q .non H', rt := Q } (start N vs) H) : CalG P w K mg base (k + 1) x sp dvs := by
  refine ⟨f, fd, ps, ds, ⟨len, ?_⟩, F.mgf, F.kp, b, d⟩
  intro A outer s H args us vs Q E hg hr e0 hb r hs
  obtain ⟨oc, od, dV, kV, doc, pm, an, cdv, ct, osl, rfl, lk, hcd⟩ := F.fn.ex
  refine LamX.run_ofS lk hcd S hr e0 hb r (len _ _ _ _ hs) fun hr' => ?_
  obtain ⟨t, h1, h2⟩ := body cdv A outer s H vs Q E hg hr' hs
  exact ⟨t, h1.nox, h2⟩
end
section
variable {X : Cx} {k j : Nat} {x : Str} {sp : Sp} {dvs : List V} {p pos : Pos} {e : Expr} {es : List Expr} {t : TA}
theorem pe_g (c : CalG X.prog X.w X.K X.mg X.base k x sp dvs) (hG : X.A.guards = some []) (hr : Room j X.A) (hk : k ≤ j) (hg : Gl X x) (ha : PA X (e :: es) t)
    (hdb : (x == ("__debug__" : Str)) = false := by decide) (he : starEach (e :: es) X.env = (false, eval e X.env) :: starEach es X.env := by rfl) (hpl : (backTo pos (starEach es X.env)).any (·.1) = false := by rfl) :
    PE X (.Call (.Name x p) (e :: es) [] pos) (tCall sp dvs C8.E0 t) := by
  obtain ⟨f, fd, ps, ds, F, hm, kp, b, d⟩ := c.ex
  refine ⟨fun pins s σ H Q I h => ?_⟩
  refine wpAny_Call_Name_kw (ld_glob I hg hm ?_ hdb)
  refine PySem.W.callWith_K (h₀ := X.base) I.ok.mod.kin kp (thn (ha.run pos pins s σ H _ I h) fun us s1 g => ?_) he hpl
  obtain ⟨vs, H1, I1, r, q⟩ := g
  refine ⟨I1.kIn, ?_⟩
  have r2 := r.append d
  have hl : (us ++ ds).length = ps.length := r2.length.symm.trans (F.len _ _ _ _ q)
  refine wpAny_call (codeAny_mono (F.run X.A X.stack s1 H1 ⟨us, []⟩ (us ++ ds) (vs ++ dvs) Q C8.E0 hG (hr.mono hk) I1.env0 (b s1 us I1.kIn hl) r2 q) fun r s' hq => ?_)
  match r, hq with
  | .error e, hq => exact hq.elim
  | .ok (.ret u), hq => exact I1.after hq
  | .ok .next, hq => exact hq.elim
  | .ok .brk, hq => exact hq.elim
  | .ok .cont, hq => exact hq.elim
/-! ### repr of data -/
def rRepr (K : PySem.W.Frag) : List V → Hp → VK → Prop := fun xs H Q => ∃ (a : Addr) (d : PyData), xs = [.ref a] ∧ Dp K H (.ref a) d ∧ d.showable = true ∧ d.hasDict = false ∧ d.depth ≤ 100 ∧ d.shown.length ≤ sizeLine ∧ Q (.str d.shown) H
theorem call_reprD (hG : X.A.guards = some []) (hr : Room 0 X.A) : CallR X (.builtin "repr") (rRepr X.K) := by
  intro pins s σ H xs us Q I r h
  obtain ⟨a, d, rfl, hd, h1, h2, h3, h4, q⟩ := h
  obtain ⟨u, rfl, ru⟩ := vals1 r
  have e : u = Value.ref a := ru
  subst e
  obtain ⟨as, rd⟩ := Dp.reads I d _ _ hd rfl
  have hun := hr.un
  exact repr_of_reads' rd h1 (fun z => by rw [h2] at z; cases z) hG (by omega) (fun _ _ e => e) (fun h' u' tk kp => ⟨.str d.shown, H, I.kept kp, ⟨u', rfl⟩, q⟩) h4
end
end Lw
namespace Lw
open PySem PySem.Spec PyProof.Rows L2

open LamX
/-! ### a lambda as a value -/
def FnO (f : Addr) : HO := .ext fun h => ∃ o : Obj, h.get? f = some o ∧ o.cls = .type "function"
section
variable {X : Cx} {pins : List (Addr × Obj)} {σ : L2.St} {H : Hp} {s : Shared}
theorem lay_fn {h' : Heap} {t' : Nat} {o : Obj} (I : Inv X pins σ H { s with heap := h', toks := t' }) (ho : o.cls = .type "function") (hs : o.isFreed = false) :
    Inv X pins σ (upd H h'.objs.size (FnO h'.objs.size)) { s with heap := h'.push o, toks := t' } := by
  refine I.laid (h' := h'.push o) (t' := t') (fun b u e => Heap.get?_push_of_some _ e) (Nat.le_refl _) ?_
  have g : (h'.push o).get? h'.objs.size = some o := Heap.get?_push_size _ hs
  refine ⟨⟨o, g, ho⟩, ⟨o, g⟩, ?_⟩
  rintro h1 h2 ⟨u, e1, e2⟩ st
  exact ⟨u, st u e1, e2⟩
theorem lam_val {T : List (Addr × Str)} {c B : Addr} {params : Arguments} {body : Expr} {scope : Scope} {pos : Pos} {E Q : Value → Shared → Prop} (I : Inv X pins σ H s) (TB : TabB X.base X.mg c B) (hcode : X.env.code = .ref c)
    (hm : (B, X.env.qual ++ "<lambda>") ∈ T) (hu : ∀ p ∈ T, p.1 = B → p.2 = X.env.qual ++ "<lambda>") (hT : Tabs T H) (hdef : defaultsOf params X.env = ([], []))
    (hfree : ∀ y ∈ scope.names, y.2 = .free → ∃ c, X.env.cells.lookup y.1 = some c)
    (h : ∀ (f : Addr) (H1 : Hp) (s' : Shared), Inv X pins σ (upd H1 f (FnO f)) s' → ExtN H H1 → Tabs T H1 → H1 f = none → Q (.ref f) s') :
    wpAny (model X.prog X.w) X.A (eval (.Lambda params body scope pos) X.env) Q E s := by
  have known := hT _ hm
  obtain ⟨ps, hB, trip, amg⟩ := known
  refine PySem.W.kla_eval hdef ?_
  have hat : s.heap.get? B = some { cls := .none, data := .fields ps } := I.hok B _ hB
  have blt := TB.bm.keeps I.bk
  have hdc := TB.code.keeps I.bk
  have glb := I.mod.glob.keeps I.bk
  rcases hc : codeAmong pos ps.toList with _ | cv
  · refine PySem.W.kla_makeFunction (mg := X.mg) (c := c) (P := B) (ps := ps) (closure_ok hfree) I.ok.glob glb hcode hdc hat trip hc TB.gP blt ?_
    intro c2 ctv h' tk hx hge hlt hrec htb
    obtain ⟨c3, oc, vs, t, e3, g1, g2, g3⟩ := hrec
    cases e3
    have nC : H c2 = none := I.hok.fresh hge
    have I0 := inv_table (t' := tk) (more := #[rawInt pos.line, rawInt pos.col, .ref c2]) (h' := h') I hB hx htb hge ⟨oc, vs, t, g1, g2, g3⟩
    have stays : ExtN H (upd (upd H B (.tbl (ps ++ #[rawInt pos.line, rawInt pos.col, .ref c2]))) c2 (CodeO c2 (X.env.qual ++ "<lambda>"))) := by
      intro b o e n
      rw [upd_ne (ne_of_none e nC)]
      by_cases hb : b = B
      · subst hb
        rw [hB] at e
        exact absurd (Option.some.inj e).symm (n ps)
      · rw [upd_ne hb]; exact e
    refine h h'.objs.size _ _ (lay_fn (t' := tk) I0 rfl rfl) stays ?_ ?_
    · intro p hp
      by_cases hb : p.1 = B
      · rw [hu p hp hb, hb]
        refine ⟨ps ++ #[rawInt pos.line, rawInt pos.col, .ref c2], ?_, ?_, ?_⟩
        · rw [upd_ne (ne_of_none hB nC), upd_same]
        · rw [show (ps ++ #[rawInt pos.line, rawInt pos.col, .ref c2]).toList = ps.toList ++ [rawInt pos.line, rawInt pos.col, .ref c2] by simp]
          exact PySem.TriplesOk_snoc _ _ _ _ trip
        · intro p' cv' hcv
          rw [show (ps ++ #[rawInt pos.line, rawInt pos.col, .ref c2]).toList = ps.toList ++ [rawInt pos.line, rawInt pos.col, .ref c2] by simp] at hcv
          rcases among_app _ trip hcv with z | z
          · obtain ⟨c0, a1, a2⟩ := amg p' cv' z
            exact ⟨c0, a1, stays _ _ a2 codeO_ne⟩
          · exact ⟨c2, z, upd_same⟩
      · obtain ⟨qs, a1, a2, a3⟩ := hT p hp
        refine ⟨qs, ?_, a2, ?_⟩
        · rw [upd_ne (ne_of_none a1 nC), upd_ne hb]; exact a1
        · intro p' cv' hcv
          obtain ⟨c0, b1, b2⟩ := a3 p' cv' hcv
          exact ⟨c0, b1, stays _ _ b2 codeO_ne⟩
    · have n1 : h'.objs.size ≠ c2 := Nat.ne_of_gt hlt
      have n2 : h'.objs.size ≠ B := Nat.ne_of_gt (Nat.lt_of_lt_of_le (Heap.lt_size hat) (Nat.le_trans hge (Nat.le_of_lt hlt)))
      rw [upd_ne n1, upd_ne n2]
      exact I.hok.fresh (Nat.le_trans hge (Nat.le_of_lt hlt))
  · obtain ⟨c2, e, hco⟩ := amg pos cv hc
    subst e
    refine PySem.W.kla_makeFunctionHit (mg := X.mg) (c := c) (P := B) (ps := ps) (closure_ok hfree) I.ok.glob glb hcode hdc hat trip hc blt ?_
    intro ctv h' tk hx hsz
    have I0 : Inv X pins σ H { s with heap := h', toks := tk } := I.kept hx
    exact h h'.objs.size H _ (lay_fn (t' := tk) I0 rfl rfl) (ExtN.refl H) hT (I.hok.fresh hsz)
end
def tLamV (T : List (Addr × Str)) : TE := fun _ H Q => Tabs T H ∧ ∀ (f : Addr) (H1 : Hp), ExtN H H1 → Tabs T H1 → H1 f = none → Q (.ref f) (upd H1 f (FnO f))
section
variable {X : Cx}
theorem pe_lamV {T : List (Addr × Str)} {c B : Addr} {params : Arguments} {body : Expr} {scope : Scope} {pos : Pos} (TB : TabB X.base X.mg c B) (hcode : X.env.code = .ref c)
    (hm : (B, X.env.qual ++ "<lambda>") ∈ T) (hu : ∀ p ∈ T, p.1 = B → p.2 = X.env.qual ++ "<lambda>") (hdef : defaultsOf params X.env = ([], [])) (L : ∀ y ∈ scope.names, y.2 ≠ .free) :
    PE X (.Lambda params body scope pos) (tLamV T) := by
  refine ⟨fun pins s σ H Q I h => ?_⟩
  refine lam_val I TB hcode hm hu h.1 hdef (fun y hy e => absurd e (L y hy)) fun f H1 s' I1 eN T1 nf => ?_
  exact ⟨.ref f, _, I1, rfl, h.2 f H1 eN T1 nf⟩
end
end Lw
namespace Lf
open PySem
open Sem (wp)

theorem ga : Slot "function" "__getattribute__" "object.__getattribute__" := by
  refine .of (owner := "object") (n := "__getattribute__") ?_ (by decide +kernel) (by decide +kernel) (by decide +kernel) ?_ ?_
  · rw [typeLookup_type, builtinLookup_eq_fast]
    kernel_rfl
  · first
      | exact .inl (by decide +kernel)
      | exact .inr (by decide +kernel)
  · rw [isSubtype_type]
    kernel_rfl
theorem lkc : typeLookup (.type "function") "__class__" = pure (some (.builtin "object.__class__")) := by
  rw [typeLookup_type, builtinLookup_eq_fast]
  kernel_rfl
theorem sub_own : isSubtype (.type "function") (.type (".".intercalate ("object.__class__".cutAt '.').dropLast)) = pure true := by
  rw [F.owner_object_class]
  rw [isSubtype_type]
  kernel_rfl
section
variable {prog : Program} {w : World} {A : Around} {E : Value → Shared → Prop} {h : Heap} {g : Array GenState} {d : Drawn} {t : Nat} {os : OsState} {a : Addr} {o : Obj}
theorem fn_get {R : Result → Shared → Prop} (hx : h.get? a = some o) (hc : o.cls = .type "function")
    (hq : R (.ok (.ret (.type "function"))) ⟨h, g, d, t, os⟩) :
    codeAny (model prog w) A (.call (.builtin "getset_descriptor.__get__") ⟨[.builtin "object.__class__", .ref a, .type "function"], []⟩) R ⟨h, g, d, t, os⟩ := by
  have i1 : (⟨h, g, d, t, os⟩ : Shared).TypeIs (.ref a) "function" := ⟨o, hx, hc⟩
  have i2 : (⟨h, g, d, t, os⟩ : Shared).TypeIs (.builtin "object.__class__") "getset_descriptor" := F.typeOf_object_class
  have i3 := sub_own
  refine codeAny_call_builtin F.slot_gs_get.plain F.entry_gs_get ?_
  refine F.slot_gs_get.check _ _ _ _ _ _ _ _ i2 (F.args_gs_get _ _ _) ?_
  repeat (any_goals (first | assumption | wp_step))
  refine ⟨Code.quiet_builtin _ (by decide +kernel), ?_⟩
  refine codeAny_builtin F.entry_object_class ?_
  repeat (any_goals (first | assumption | wp_step))
theorem fn_ga {tk : Tok} {Q : Fin → Shared → Prop} (hx : h.get? a = some o) (hc : o.cls = .type "function")
    (hq : Q (.done (.ret (.type "function"))) ⟨h, g, d, t, os⟩) :
    wpAny (model prog w) A (Builtin.«object.__getattribute__» ⟨[.ref a, .str "__class__" tk], []⟩) Q E ⟨h, g, d, t, os⟩ := by
  have i1 : (⟨h, g, d, t, os⟩ : Shared).TypeIs (.ref a) "function" := ⟨o, hx, hc⟩
  have i2 : (⟨h, g, d, t, os⟩ : Shared).TypeIs (.builtin "object.__class__") "getset_descriptor" := F.typeOf_object_class
  have i3 := lkc
  have i4 := F.typeOf_object_class
  have i5 := F.slot_gs_get.lookup
  have i6 := F.slot_gs_set.lookup
  repeat (any_goals (first | assumption | wp_step))
  refine fn_get hx hc ?_
  repeat (any_goals (first | assumption | wp_step))
theorem fn_call {tk : Tok} {R : Result → Shared → Prop} (hx : h.get? a = some o) (hc : o.cls = .type "function")
    (hq : R (.ok (.ret (.type "function"))) ⟨h, g, d, t, os⟩) :
    codeAny (model prog w) A (.call (.builtin "object.__getattribute__") ⟨[.ref a, .str "__class__" tk], []⟩) R ⟨h, g, d, t, os⟩ := by
  refine codeAny_call_builtin ga.plain F.entry_object_getattribute ?_
  exact ga.check _ _ _ _ _ _ _ _ (show (⟨h, g, d, t, os⟩ : Shared).TypeIs (.ref a) "function" from ⟨o, hx, hc⟩) (F.args_object_getattribute_2 _ _) (fn_ga hx hc hq)
theorem fn_by {tk : Tok} {Q : Value → Shared → Prop} (hx : h.get? a = some o) (hc : o.cls = .type "function") (hq : Q (.type "function") ⟨h, g, d, t, os⟩) :
    wpAny (model prog w) A (getAttrBy (.ref a) (.str "__class__" tk) false) Q E ⟨h, g, d, t, os⟩ := by
  have i1 : (⟨h, g, d, t, os⟩ : Shared).TypeIs (.ref a) "function" := ⟨o, hx, hc⟩
  have i2 := ga.lookup
  have i3 := ga.bind (.ref a)
  repeat (any_goals (first | assumption | wp_step))
  refine fn_call hx hc ?_
  repeat (any_goals (first | assumption | wp_step))
theorem fn_attr {Q : Option Value → Shared → Prop} (hx : h.get? a = some o) (hc : o.cls = .type "function") (hq : Q (some (.type "function")) ⟨h, g, d, t + 1, os⟩) :
    wpAny (model prog w) A (getAttr? (.ref a) "__class__") Q E ⟨h, g, d, t, os⟩ := by
  unfold getAttr? getAttrBy?
  repeat (any_goals (first | assumption | with_reducible apply fn_by hx hc | wp_step))
end
end Lf
namespace Lw
open PySem PySem.Spec PyProof.Rows L2

open LamX
theorem kitx_fn {K : PySem.W.Frag} {a : Addr} : PySem.W.KitX K (.ref a) (.type "function") (PySem.W.KitAt a "function") := PySem.W.kitx_of PySem.W.kitAt_ty (fun {_ _ _ _ _ s} p k => by
  obtain ⟨h, g, d, t, os⟩ := s
  obtain ⟨o, h1, h2⟩ := p
  exact Lf.fn_attr h1 h2 k)
/-- a value's type: a def's, too -/
inductive TyZ (K : PySem.W.Frag) (H : Hp) : V → Value → Prop where
  | x {v : V} {t : Value} (h : TyX K H v t) : TyZ K H v t
  | fn {a : Addr} (e : H a = some (FnO a)) : TyZ K H (.ref a) (.type "function")
def rIsz (K : PySem.W.Frag) : List V → Hp → VK → Prop := fun xs H Q => ∃ (x c : V) (t u : Value) (b : Bool), xs = [x, c] ∧ ClsV c u ∧ TyZ K H x t ∧ PySem.W.kitOne K t u = some b ∧ Q (.bl b) H
theorem call_isz {X : Cx} : CallR X (.builtin "isinstance") (rIsz X.K) := by
  intro pins s σ H xs us Q I r h
  obtain ⟨x, c, t, u, b, rfl, k, ty, e, q⟩ := h
  obtain ⟨u1, u2, rfl, r1, r2⟩ := vals2 r
  have e2 := k.eq r2
  subst e2
  cases ty with
  | x ty =>
    obtain ⟨W, Z, p, hx⟩ := kit_of I r1 ty
    exact PySem.W.kia_one Z I.kIn p e hx fun tk => ⟨.bl b, H, I.tok tk, rfl, q⟩
  | @fn a ea =>
    have e3 : u1 = Value.ref a := r1
    subst e3
    obtain ⟨⟨o, h1, h2⟩, _⟩ := I.hok a _ ea
    exact PySem.W.kia_one kitx_fn I.kIn ⟨o, h1, h2⟩ e (fun z => by cases z) fun tk => ⟨.bl b, H, I.tok tk, rfl, q⟩
end Lw
namespace Lw
open PySem PySem.Spec PyProof.Rows L2

open LamX
abbrev sIsInt : Stmt := top 3
/-- what the top has told of the module's names -/
structure Txt (mg : Str → Option Value) : Prop extends Txt0 mg where
  n_bool : mg "bool" = none
  n_str : mg "str" = none
  n_isinstance : mg "isinstance" = none
  n_range : mg "range" = none
  n_repr : mg "repr" = none
  n_all : mg "all" = none
/-- any value that a caller may pass here -/
inductive Anyv (K : PySem.W.Frag) (H : Hp) : V → Prop where
  | int (i : Int) : Anyv K H (.int i)
  | non : Anyv K H .non
  | bl (b : Bool) : Anyv K H (.bl b)
  | str (z : Str) : Anyv K H (.str z)
  | obj {a : Addr} {t : Value} (h : TyZ K H (.ref a) t) (h1 : PySem.W.kitOne K t (.type "int") = some false) (h2 : PySem.W.kitOne K t (.type "bool") = some false) (h3 : PySem.W.kitOne K t (.type "str") = some false) : Anyv K H (.ref a)
def isI : V → Bool
  | .int _ => true
  | _ => false
def clsI : V → Bool
  | .int _ => true
  | .bl _ => true
  | _ => false
def clsB : V → Bool
  | .bl _ => true
  | _ => false
def isS : V → Bool
  | .str _ => true
  | _ => false
def inB (x : V) (lo hi : Int) : Bool := match x with
  | .int i => decide (lo ≤ i) && decide (i ≤ hi)
  | _ => false
def spIsInt (K : PySem.W.Frag) : Sp := fun vs H Q _ => ∃ x, vs = [x] ∧ Anyv K H x ∧ Q (.bl (isI x)) H
def spWithin (K : PySem.W.Frag) : Sp := fun vs H Q _ => ∃ x lo hi, vs = [x, .int lo, .int hi] ∧ Anyv K H x ∧ Q (.bl (inB x lo hi)) H
def spSize (K : PySem.W.Frag) : Sp := fun vs H Q _ => ∃ x, vs = [x] ∧ Anyv K H x ∧ Q (.bl (inB x 1 (10 ^ 30))) H
section
variable {P : Program} {w : World} {K : PySem.W.Frag} {mg : Str → Option Value} {base : Heap}
theorem isz_int {H : Hp} {x : V} {Q : V → Hp → Prop} (a : Anyv K H x) (q : Q (.bl (clsI x)) H) : rIsz K [x, .ty "int"] H Q := by
  cases a with
  | int i => exact ⟨_, _, .type "int", .type "int", true, rfl, .ty "int", .x (.base (.int i)), kit_ty (r := true) (by decide +kernel), q⟩
  | non => exact ⟨_, _, .type "NoneType", .type "int", false, rfl, .ty "int", .x (.base .non), kit_ty (r := false) (by decide +kernel), q⟩
  | bl b => exact ⟨_, _, .type "bool", .type "int", true, rfl, .ty "int", .x (.base (.bl b)), kit_ty (r := true) (by decide +kernel), q⟩
  | str z => exact ⟨_, _, .type "str", .type "int", false, rfl, .ty "int", .x (.base (.str z)), kit_ty (r := false) (by decide +kernel), q⟩
  | obj h h1 h2 h3 => exact ⟨_, _, _, .type "int", _, rfl, .ty "int", h, h1, q⟩
theorem isz_bool {H : Hp} {x : V} {Q : V → Hp → Prop} (a : Anyv K H x) (q : Q (.bl (clsB x)) H) : rIsz K [x, .ty "bool"] H Q := by
  cases a with
  | int i => exact ⟨_, _, .type "int", .type "bool", false, rfl, .ty "bool", .x (.base (.int i)), kit_ty (r := false) (by decide +kernel), q⟩
  | non => exact ⟨_, _, .type "NoneType", .type "bool", false, rfl, .ty "bool", .x (.base .non), kit_ty (r := false) (by decide +kernel), q⟩
  | bl b => exact ⟨_, _, .type "bool", .type "bool", true, rfl, .ty "bool", .x (.base (.bl b)), kit_ty (r := true) (by decide +kernel), q⟩
  | str z => exact ⟨_, _, .type "str", .type "bool", false, rfl, .ty "bool", .x (.base (.str z)), kit_ty (r := false) (by decide +kernel), q⟩
  | obj h h1 h2 h3 => exact ⟨_, _, _, .type "bool", _, rfl, .ty "bool", h, h2, q⟩
theorem isz_str {H : Hp} {x : V} {Q : V → Hp → Prop} (a : Anyv K H x) (q : Q (.bl (isS x)) H) : rIsz K [x, .ty "str"] H Q := by
  cases a with
  | int i => exact ⟨_, _, .type "int", .type "str", false, rfl, .ty "str", .x (.base (.int i)), kit_ty (r := false) (by decide +kernel), q⟩
  | non => exact ⟨_, _, .type "NoneType", .type "str", false, rfl, .ty "str", .x (.base .non), kit_ty (r := false) (by decide +kernel), q⟩
  | bl b => exact ⟨_, _, .type "bool", .type "str", false, rfl, .ty "str", .x (.base (.bl b)), kit_ty (r := false) (by decide +kernel), q⟩
  | str z => exact ⟨_, _, .type "str", .type "str", true, rfl, .ty "str", .x (.base (.str z)), kit_ty (r := true) (by decide +kernel), q⟩
  | obj h h1 h2 h3 => exact ⟨_, _, _, .type "str", _, rfl, .ty "str", h, h3, q⟩
theorem scIsInt : FnScope ["value"] ["value"] (C8.fnScope sIsInt) := C8.fnScope_by (by decide +kernel)
theorem fn_isint {f : Addr} {fd : FuncData} (F : C8.Def K mg "is_integer" sIsInt f fd) (T : Txt mg) : FnOk P w K mg base C8.CX0 1 f fd ["value"] (spIsInt K) := by
  refine C8.fn0 F.fn scIsInt (fun vs H Q E h => ?_) (fun cdv A outer st H vs Q E hr h => ?_)
  · obtain ⟨x, rfl, _⟩ := h
    rfl
  · obtain ⟨x, rfl, a, k⟩ := h
    refine ⟨_, (pss_one (ps_ret (pe_and (pe_callB call_isz (by rfl) T.n_isinstance (by decide +kernel) (pa_cons (pv 0) (pa_cons (pe_bltn (v := .ty "int") (by rfl) T.n_int (by decide +kernel) rfl) pa_nil))) (pe_one (pe_not (pe_callB call_isz (by rfl) T.n_isinstance (by decide +kernel) (pa_cons (pv 0) (pa_cons (pe_bltn (v := .ty "bool") (by rfl) T.n_bool (by decide +kernel) rfl) pa_nil)))))))), ?_⟩
    refine ⟨_, rfl, ?_⟩
    dsimp only [tCons, tC, tNil]
    refine isz_int a ⟨_, rfl, ?_⟩
    cases a with
    | int i =>
      refine iteT ⟨_, rfl, ?_⟩
      dsimp only [tCons, tC, tNil]
      exact isz_bool (.int i) ⟨_, rfl, k⟩
    | bl b =>
      refine iteT ⟨_, rfl, ?_⟩
      dsimp only [tCons, tC, tNil]
      exact isz_bool (.bl b) ⟨_, rfl, k⟩
    | non => exact iteF k
    | str z => exact iteF k
    | obj h h1 h2 h3 => exact iteF k
theorem cal_isint {f : Addr} {fd : FuncData} (F : C8.Def K mg "is_integer" sIsInt f fd) (b : Binds K fd ["value"] []) (T : Txt mg) : C8.Cal P w K mg base 1 "is_integer" (spIsInt K) [] :=
  ⟨f, fd, _, [], fn_isint F T, F.mgf, F.kp, b, .nil⟩
end
end Lw
namespace Lw
open PySem PySem.Spec PyProof.Rows L2

abbrev sCom : Stmt := top 23
abbrev sLea : Stmt := top 24
abbrev sPai : Stmt := top 25
/-! ### the least form of a pair -/
def sg (b : Int) : Int := if 0 < b then 1 else -1
def lov (t b : Int) : Int := sg b * t / ((Nat.gcd t.natAbs b.natAbs : Nat) : Int)
def lun (t b : Int) : Int := sg b * b / ((Nat.gcd t.natAbs b.natAbs : Nat) : Int)
def spCom : Sp := fun vs H Q _ => ∃ a b : Nat, vs = [.int (a : Int), .int (b : Int)] ∧ Q (.int ((Nat.gcd a b : Nat) : Int)) H
/-- an integer that is not too long to be reckoned with -/
def Small (i : Int) : Prop := i.natAbs < 2 ^ 4000
def spLea : Sp := fun vs H Q _ => ∃ t b : Int, vs = [.int t, .int b] ∧ b ≠ 0 ∧ Small t ∧ Small b ∧ ∀ l, H l = none → Q (.ref l) (upd H l (.tup [.int (lov t b), .int (lun t b)]))
def spPai : Sp := fun vs H Q _ => ∃ (p pl : Addr) (n : Nat), vs = [.ref p] ∧ Pen H p pl n ∧ n ≤ 900000 ∧ ∀ (t b : Int) (l : Addr) (H' : Hp), t.natAbs ≤ 10 ^ 32 → b.natAbs ≤ 10 ^ 32 → b ≠ 0 → H' l = some (.tup [.int t, .int b]) → H l = none → Pen H' p pl (n + 4) → Kp p H H' → Q (.ref l) H'
theorem small_log {i : Int} (h : Small i) : i.natAbs.log2 < 4000 := by
  by_cases z : i.natAbs = 0
  · rw [z]; decide
  · exact (Nat.log2_lt z).mpr h
theorem join_any {t : TS} {D : Ends} {σ : L2.St} {H : Hp} (Pj : L2.St → Hp → Prop) (hr : ∀ σ' H', Pj σ' H' → D.nx σ' H') (h : (∀ σ' H', Pj σ' H' → D.nx σ' H') → t D σ H) : t D σ H := h hr
theorem Kp.free {H H' : Hp} {p q : Addr} (k : Kp p H H') (ne : q ≠ p) (hq : H' q = none) : H q = none := by
  cases e : H q with
  | none => rfl
  | some o => rw [k q o ne e] at hq; cases hq
section
variable {P : Program} {w : World} {K : PySem.W.Frag} {mg : Str → Option Value} {base : Heap}
theorem scCom : FnScope ["_law_one_so", "_law_two_so"] ["_law_one_so", "_law_two_so"] (C8.fnScope sCom) := C8.fnScope_by (by decide +kernel)
theorem cal_com {f : Addr} {fd : FuncData} (F : C8.Def K mg "_law_common" sCom f fd) (b : Binds K fd ["_law_one_so", "_law_two_so"] []) (T : Txt0 mg) : C8.Cal P w K mg base 1 "_law_common" spCom [] := by
  refine C8.cal0 F b .nil scCom (fun vs H Q E h => ?_) (fun cdv A outer st H vs Q E hr h => ?_)
  · obtain ⟨x, y, rfl, _⟩ := h
    rfl
  · obtain ⟨x, y, rfl, k⟩ := h
    refine ⟨_, (pss_cons (ps_while PassesOwn.never (pt_cmpR op_ne (pv 1) pe_int (nomark _)) (pss_one (ps_par (i := 0) (j := 1) rfl scCom.nd rfl rfl (by decide) rfl rfl (pa_cons (pv 1) (pa_cons (pe_op op_modN (pe_callTy call_int1 (by rfl) T.n_int (by decide +kernel) (pa_cons (pv 0) pa_nil)) (pv 1)) pa_nil)) (by rfl))))
  (pss_one (ps_ret (pv 0)))), ?_⟩
    refine ⟨fun m σ' H' => H' = H ∧ ∃ u v : Nat, σ' = [some (V.int (u : Int)), some (V.int (v : Int))] ∧ Nat.gcd u v = Nat.gcd x y ∧ m = v, ⟨y, rfl, x, y, rfl, rfl, rfl⟩, ?_⟩
    rintro m σ' H' ⟨rfl, u, v, rfl, hg, rfl⟩
    refine ⟨_, rfl, rfl, _, rfl, ite2 (fun c => ?_) (fun c => ?_)⟩
    · have v0 : m ≠ 0 := fun e => by subst e; exact absurd c (by decide)
      have em : Int.fmod (u : Int) (m : Int) = ((u % m : Nat) : Int) := by
        rw [Int.fmod_eq_emod_of_nonneg _ (Int.natCast_nonneg m)]
        exact (Int.natCast_emod u m).symm
      have eg : Nat.gcd m (u % m) = Nat.gcd u m := by rw [Nat.gcd_comm m (u % m), ← Nat.gcd_rec, Nat.gcd_comm]
      refine ⟨fun σ' H'' => H'' = H' ∧ σ' = [some (V.int (m : Int)), some (V.int ((u % m : Nat) : Int))], fun σ' H'' e => ⟨u % m, Nat.mod_lt _ (Nat.pos_of_ne_zero v0), e.1, m, u % m, e.2, eg.trans hg, rfl⟩, ?_⟩
      refine ⟨_, rfl, _, rfl, .inl ⟨_, rfl, _, rfl, _, _, rfl, rfl, (by omega), _, _, rfl, rfl, ?_⟩⟩
      exact congrArg (fun i : Int => [some (V.int (m : Int)), some (V.int i)]) em
    · have v0 : m = 0 := by
        cases m with
        | zero => rfl
        | succ k => exact absurd (by rw [decide_eq_false (fun e => by have := V.int.inj e; omega)]; rfl) c
      subst v0
      refine ⟨_, rfl, ?_⟩
      rw [Nat.gcd_zero_right] at hg
      rw [hg]
      exact k
theorem scLea : FnScope ["_law_top", "_law_bottom", "_law_divisor", "_law_sign"] ["_law_top", "_law_bottom"] (C8.fnScope sLea) := C8.fnScope_by (by decide +kernel)
theorem cal_lea {f : Addr} {fd : FuncData} (F : C8.Def K mg "_law_least" sLea f fd) (b : Binds K fd ["_law_top", "_law_bottom"] []) (T : Txt0 mg) (DC : C8.Cal P w K mg base 1 "_law_common" spCom []) : C8.Cal P w K mg base 2 "_law_least" spLea [] := by
  refine C8.cal0 F b .nil scLea (fun vs H Q E h => ?_) (fun cdv A outer st H vs Q E hr h => ?_)
  · obtain ⟨x, y, rfl, _⟩ := h
    rfl
  · obtain ⟨t, b, rfl, b0, st1, sb, k⟩ := h
    refine ⟨_, (pss_cons (ps_set (i := 2) scLea.nd rfl (Or.inl rfl) (C8.pe_c DC hr (by decide) (by rfl) (pa_cons (pe_callB call_abs (by rfl) T.n_abs (by decide +kernel) (pa_cons (pv 0) pa_nil)) (pa_cons (pe_callB call_abs (by rfl) T.n_abs (by decide +kernel) (pa_cons (pv 1) pa_nil)) pa_nil))))
  (pss_cons (ps_set (i := 3) scLea.nd rfl (Or.inl rfl) (pe_ifExp (pt_cmpR op_gt (pv 1) pe_int (nomark _)) pe_int (pe_un un_neg pe_int)))
  (pss_one (ps_ret (pe_tup (pa_cons (pe_op op_fdivW (pe_op op_mulW (pv 3) (pv 0)) (pv 2)) (pa_cons (pe_op op_fdivW (pe_op op_mulW (pv 3) (pv 1)) (pv 2)) pa_nil))))))), ?_⟩
    have ab : ∀ i : Int, (if i < 0 then -i else i) = (i.natAbs : Int) := fun i => by split <;> omega
    have g0 : 0 < Nat.gcd t.natAbs b.natAbs := Nat.gcd_pos_of_pos_right _ (by omega)
    have g1 : Nat.gcd t.natAbs b.natAbs < 2 ^ 4000 := Nat.lt_of_le_of_lt (Nat.gcd_le_right _ (by omega)) sb
    have s1 : (sg b).natAbs ≤ 1 := by unfold sg; split <;> decide
    have sl : (sg b).natAbs.log2 < 4000 := small_log (Nat.lt_of_le_of_lt s1 (by decide))
    refine ⟨_, rfl, t, rfl, _, rfl, b, rfl, t.natAbs, b.natAbs, by rw [ab, ab]; rfl, ?_⟩
    dsimp only [gName, tSeq]
    refine join_any (fun σ' H' => σ' = [some (V.int t), some (V.int b), some (V.int ((Nat.gcd t.natAbs b.natAbs : Nat) : Int)), some (V.int (sg b))] ∧ H' = H) ?r (fun go => ?_)
    case r =>
      rintro σ' H' ⟨rfl, rfl⟩
      refine ⟨_, rfl, _, rfl, _, _, rfl, rfl, ?_, _, rfl, _, _, rfl, rfl, ⟨by omega, ?_⟩, _, rfl, _, rfl, _, _, rfl, rfl, ?_, _, rfl, _, _, rfl, rfl, ⟨by omega, ?_⟩, (by show 2 ≤ sizeLine; decide), k⟩
      · have := small_log st1
        show (sg b).natAbs.log2 + t.natAbs.log2 < 1000000
        omega
      · rw [Int.natAbs_natCast]
        exact Nat.lt_trans (small_log (i := ((Nat.gcd t.natAbs b.natAbs : Nat) : Int)) (by unfold Small; rw [Int.natAbs_natCast]; exact g1)) (by decide)
      · have := small_log sb
        show (sg b).natAbs.log2 + b.natAbs.log2 < 1000000
        omega
      · rw [Int.natAbs_natCast]
        exact Nat.lt_trans (small_log (i := ((Nat.gcd t.natAbs b.natAbs : Nat) : Int)) (by unfold Small; rw [Int.natAbs_natCast]; exact g1)) (by decide)
    refine ⟨_, rfl, _, _, rfl, rfl, _, rfl, ite2 (fun c => ?_) (fun c => ?_)⟩
    · exact go _ _ ⟨by rw [show sg b = 1 from if_pos (of_decide_eq_true c)]; rfl, rfl⟩
    · exact ⟨_, rfl, go _ _ ⟨by rw [show sg b = -1 from if_neg (fun z => c (decide_eq_true z))]; rfl, rfl⟩⟩
theorem scPai : FnScope ["_law_pen_here", "_law_top"] ["_law_pen_here"] (C8.fnScope sPai) := C8.fnScope_by (by decide +kernel)
theorem cal_pai {f : Addr} {fd : FuncData} (F : C8.Def K mg "_law_pair" sPai f fd) (b : Binds K fd ["_law_pen_here"] []) (T : Txt0 mg) (D1 : C8.Cal P w K mg base 1 "_law_draw" spDraw []) (D2 : C8.Cal P w K mg base 2 "_law_pick" (spPick K) []) : C8.Cal P w K mg base 3 "_law_pair" spPai [] := by
  refine C8.cal0 F b .nil scPai (fun vs H Q E h => ?_) (fun cdv A outer st H vs Q E hr h => ?_)
  · obtain ⟨p, pl, n, rfl, _⟩ := h
    rfl
  · obtain ⟨p, pl, n, rfl, hp, hn, k⟩ := h
    refine ⟨_, (pss_cons (ps_set (i := 1) scPai.nd rfl (Or.inl rfl) (C8.pe_c D2 hr (by decide) (by rfl) (pa_cons (pv 0) (pa_cons (pe_lst (pa_cons pe_int (pa_cons pe_int (pa_cons (pe_un un_neg pe_int) (pa_cons pe_int (pa_cons pe_int (pa_cons (pe_un un_neg pe_int) (pa_cons (pe_op op_pow pe_int pe_int) (pa_cons (pe_un un_neg (pe_op op_pow pe_int pe_int)) (pa_cons (pe_op op_add (pe_op op_pow pe_int pe_int) pe_int) (pa_cons (pe_op op_sub (C8.pe_c D1 hr (by decide) (by rfl) (pa_cons (pv 0) (pa_cons pe_int pa_nil))) pe_int) pa_nil))))))))))) pa_nil))))
  (pss_one (ps_ret (pe_tup (pa_cons (pv 1) (pa_cons (C8.pe_c D2 hr (by decide) (by rfl) (pa_cons (pv 0) (pa_cons (pe_lst (pa_cons pe_int (pa_cons pe_int (pa_cons (pe_un un_neg pe_int) (pa_cons pe_int (pa_cons pe_int (pa_cons (pe_un un_neg pe_int) (pa_cons pe_int (pa_cons pe_int (pa_cons (pe_op op_pow pe_int pe_int) (pa_cons (pe_un un_neg (pe_op op_pow pe_int pe_int)) (pa_cons (pe_op op_add pe_int (C8.pe_c D1 hr (by decide) (by rfl) (pa_cons (pv 0) (pa_cons pe_int pa_nil)))) pa_nil)))))))))))) pa_nil))) pa_nil)))))), ?_⟩
    refine ⟨_, rfl, _, rfl, _, rfl, _, _, rfl, rfl, ⟨by decide, by decide, by decide⟩, _, _, rfl, rfl, ⟨by decide, by decide, by decide⟩, _, rfl, _, _, rfl, rfl, ⟨by decide, by decide, by decide⟩, _, _, rfl, rfl, _, rfl, p, pl, n, 200, rfl, by decide, by decide, hp, by omega, fun r H1 r0 r1 hp1 k1 => ?_⟩
    refine ⟨_, _, rfl, rfl, (by show 10 ≤ sizeLine; decide), fun l fl => ⟨p, pl, l, n + 1, _, rfl, hp1.keep (same_new fl), by omega, SqL.of upd_same, hp1.ne_new fl, (by show 0 < 10; decide), (by show 10 < 1000000; decide), fun j v H2 hj hp2 k2 => ?_⟩⟩
    obtain ⟨t, rfl, ht⟩ : ∃ t : Int, v = V.int t ∧ t.natAbs ≤ 10 ^ 32 := by
      have hv := List.mem_of_getElem? hj
      simp only [List.mem_cons, List.not_mem_nil, or_false] at hv
      rcases hv with rfl | rfl | rfl | rfl | rfl | rfl | rfl | rfl | rfl | rfl
      all_goals first | exact ⟨_, rfl, by decide⟩ | exact ⟨_, rfl, by omega⟩
    have f2 : Kp p H H2 := fun b o hb e => k2 b o hb (same_new fl _ _ (k1 b o hb e))
    refine ⟨_, rfl, _, rfl, _, rfl, _, rfl, _, _, rfl, rfl, ⟨by decide, by decide, by decide⟩, _, _, rfl, rfl, ⟨by decide, by decide, by decide⟩, _, rfl, _, rfl, p, pl, n + 2, 40, rfl, by decide, by decide, hp2, by omega, fun r2 H3 r20 r21 hp3 k3 => ?_⟩
    refine ⟨_, _, rfl, rfl, (by show 11 ≤ sizeLine; decide), fun l2 fl2 => ⟨p, pl, l2, n + 3, _, rfl, hp3.keep (same_new fl2), by omega, SqL.of upd_same, hp3.ne_new fl2, (by show 0 < 11; decide), (by show 11 < 1000000; decide), fun j2 v2 H4 hj2 hp4 k4 => ?_⟩⟩
    obtain ⟨b, rfl, hb, b0⟩ : ∃ b : Int, v2 = V.int b ∧ b.natAbs ≤ 10 ^ 32 ∧ b ≠ 0 := by
      have hv := List.mem_of_getElem? hj2
      simp only [List.mem_cons, List.not_mem_nil, or_false] at hv
      rcases hv with rfl | rfl | rfl | rfl | rfl | rfl | rfl | rfl | rfl | rfl | rfl
      all_goals first | exact ⟨_, rfl, by decide, by decide⟩ | exact ⟨_, rfl, by omega, by omega⟩
    have f4 : Kp p H H4 := fun b o hb e => k4 b o hb (same_new fl2 _ _ (k3 b o hb (f2 b o hb e)))
    refine ⟨(by show 2 ≤ sizeLine; decide), fun q fq => ?_⟩
    exact k t b q _ ht hb b0 upd_same (Kp.free f4 (hp4.ne_new fq) fq) (hp4.keep (same_new fq)) (fun c o hc e => same_new fq _ _ (f4 c o hc e))
end
end Lw
namespace Lw
open PySem PySem.Spec PyProof.Rows L2

/-! ### own operators: + - * // % and the sign, of instances of one class and of a built-in value beside -/
section
variable {X : Cx} {C : Addr} {k j : Nat} {sp : Sp} {pins : List (Addr × Obj)} {σ : L2.St} {H : Hp} {s : Shared}
theorem ins_at {a dx : Addr} {fs : List (Str × V)} (I : Inv X pins σ H s) (h : H a = some (.ins C dx fs)) : ∃ ox od, PySem.W.InstAt s.heap a ox C (some od) := by
  obtain ⟨mA, O, _⟩ := ins_get I.hok h
  obtain ⟨od, J, _⟩ := O.look
  exact ⟨_, od, J⟩
/-- a method of the class, called with an instance and another value -/
theorem run_two {m : Str} {us : List Value} {vs : List V} {Q : VK} (M : C8.Met X.prog X.w X.K X.mg X.base k C m sp []) (hr : Room j X.A) (hk : k ≤ j) (I : Inv X pins σ H s) (r : Vals vs us) (q : sp vs H Q C8.E0) :
    ∃ g : Addr, Meth X.K C m g ∧ wpAny (model X.prog X.w) X.A (call (.ref g) us) (PySem.W.CmpBack (EP X pins σ Q)) X.xe s := by
  obtain ⟨g, fd, ps, ds, hC, hm, F, b, d⟩ := M.ex
  have q' : sp (vs ++ []) H Q C8.E0 := by rw [List.append_nil]; exact q
  refine ⟨g, hm, wpAny_mono (run_fn F (hr.mono hk) b d C8.pass0 I r q') (fun w s' z => ?_) fun _ _ x => x⟩
  obtain ⟨z', H', I', rz, qz⟩ := z
  exact SlX.cmpback rz ⟨z', H', I', rz, qz⟩
def rSame (C : Addr) (sp : Sp) : R2 := fun x y H Q => ∃ a dx fs b dy gs, x = .ref a ∧ y = .ref b ∧ H a = some (.ins C dx fs) ∧ H b = some (.ins C dy gs) ∧ sp [x, y] H Q C8.E0
theorem op_same {op : Operator} (M : C8.Met X.prog X.w X.K X.mg X.base k C (PySem.dunder op.info.2) sp []) (hc : PySem.W.selfFirst X.K C = true) (hr : Room j X.A) (hk : k ≤ j) : OpR X (binaryOp op) (rSame C sp) := by
  intro pins s σ H x y v u Q I rx ry h
  obtain ⟨a, dx, fs, b, dy, gs, rfl, rfl, ha, hb, q⟩ := h
  cases (show v = Value.ref a from rx)
  cases (show u = Value.ref b from ry)
  obtain ⟨_, _, J⟩ := ins_at I ha
  obtain ⟨_, _, J'⟩ := ins_at I hb
  obtain ⟨g, hm, w⟩ := run_two (us := [.ref a, .ref b]) (vs := [.ref a, .ref b]) M hr hk I (.cons rfl (.cons rfl .nil)) q
  obtain ⟨m, hF⟩ := I.fr
  exact PySem.W.binop_K hF I.ok.mod.kin J J'.type hc hm.at_ hm.fn w
/-- what the operator asks of the class and of a built-in type beside it -/
structure Beside (K : PySem.W.Frag) (C : Addr) (op : Operator) (T : String) : Prop where
  first : PySem.W.selfFirst K C = true
  back : ∃ rc, PySem.W.findIn K (.ref C) (dunderR op.info.2) = some rc ∧ (rc = none ∨ ∃ g : Addr, rc = some (.ref g))
  ahead : ∃ fo, PySem.W.findIn K (.type T) (PySem.dunder op.info.2) = some fo
  behind : ∃ ro, PySem.W.findIn K (.type T) (dunderR op.info.2) = some ro
  sub : PySem.W.subIn K (.type T) (.ref C) = some false
/-- a built-in value's kind, as typeOf tells it -/
inductive Kind : V → String → Prop where
  | int (i : Int) : Kind (.int i) "int"
  | bl (b : Bool) : Kind (.bl b) "bool"
  | non : Kind .non "NoneType"
  | str (z : Str) : Kind (.str z) "str"
theorem Kind.type {y : V} {T : String} {u : Value} (h : Kind y T) (r : RelV y u) : typeOf u = pure (.type T) := by
  cases h with
  | int i => obtain ⟨t, e⟩ := (show ∃ t, u = Value.int i t from r); subst e; rfl
  | bl b => cases (show u = Value.bool b from r); rfl
  | non => cases (show u = Value.none from r); rfl
  | str z => obtain ⟨t, e⟩ := (show ∃ t, u = Value.str z t from r); subst e; rfl
def rBeside (K : PySem.W.Frag) (C : Addr) (op : Operator) (sp : Sp) : R2 := fun x y H Q => ∃ a dx fs T, x = .ref a ∧ H a = some (.ins C dx fs) ∧ Kind y T ∧ Beside K C op T ∧ sp [x, y] H Q C8.E0
theorem op_beside {op : Operator} (M : C8.Met X.prog X.w X.K X.mg X.base k C (PySem.dunder op.info.2) sp []) (hr : Room j X.A) (hk : k ≤ j) : OpR X (binaryOp op) (rBeside X.K C op sp) := by
  intro pins s σ H x y v u Q I rx ry h
  obtain ⟨a, dx, fs, T, rfl, ha, hT, hB, q⟩ := h
  cases (show v = Value.ref a from rx)
  obtain ⟨_, _, J⟩ := ins_at I ha
  obtain ⟨g, hm, w⟩ := run_two (us := [.ref a, u]) (vs := [.ref a, y]) M hr hk I (.cons rfl (.cons ry .nil)) q
  obtain ⟨m, hF⟩ := I.fr
  obtain ⟨rc, r1, r2⟩ := hB.back
  obtain ⟨fo, f1⟩ := hB.ahead
  obtain ⟨ro, o1⟩ := hB.behind
  exact PySem.W.ksp_binT hF I.ok.mod.kin J (hT.type ry) hB.first hm.at_ hm.fn r1 r2 f1 o1 hB.sub w
def rSign (C : Addr) (sp : Sp) : V → Hp → VK → Prop := fun x H Q => ∃ a dx fs, x = .ref a ∧ H a = some (.ins C dx fs) ∧ sp [x] H Q C8.E0
theorem un_sign (M : C8.Met X.prog X.w X.K X.mg X.base k C "__neg__" sp []) (hr : Room j X.A) (hk : k ≤ j) : UnR X (unaryOp .USub) (rSign C sp) := by
  intro pins s σ H x v Q I rx h
  obtain ⟨a, dx, fs, rfl, ha, q⟩ := h
  cases (show v = Value.ref a from rx)
  obtain ⟨_, _, J⟩ := ins_at I ha
  obtain ⟨g, fd, ps, ds, hC, hm, F, b, d⟩ := M.ex
  obtain ⟨m, hF⟩ := I.fr
  have q' : sp ([V.ref a] ++ []) H Q C8.E0 := q
  exact PySem.W.ksp_neg hF I.ok.mod.kin J hm.at_ hm.fn (run_fn (us := [.ref a]) (vs := [.ref a]) F (hr.mono hk) b d C8.pass0 I (.cons rfl .nil) q')
end
end Lw
namespace Lw.Ow
open PySem PySem.Spec PyProof.Rows PySem.W PySem.Calls

/-! ### own operators, the instance on the right -/
section
variable {prog : Program} {w : World} {A : Around} {E : Value → Shared → Prop} {s : Shared} {K : Frag} {x C f g : Addr} {ox : Obj} {od : Option Obj}
theorem right_bare {op : Operator} {a : Value} {T : String} {Q : Value → Shared → Prop} (X : K.In s.heap) (I : InstAt s.heap x ox C od) (ht : Looks (model prog w) s.heap (typeOf a) (.type T)) (hc : selfFirst K C = true) (hs : findIn K (.ref C) (PySem.dunder op.info.2) = some (some (.ref f))) (hr : findIn K (.ref C) (dunderR op.info.2) = some (some (.ref g)))
    (hg : isFn K (.ref g) = true) (hL : fillsNumberSlot (.type T) op.info.2 = pure false) (h : wpAny (model prog w) A (call (.ref g) [.ref x, a]) (PySem.W.CmpBack Q) E s) : wpAny (model prog w) A (binaryOp op a (.ref x)) Q E s := by
  obtain ⟨cd, rest, hcd, hm⟩ := ksp_first hc
  rcases hi : op.info with ⟨sym, nm⟩
  rw [hi] at hs hr hL
  dsimp only at hs hr hL
  have one := ksp_try X I hr hg h
  obtain ⟨hh, gg, d, tt, os⟩ := s
  have L2 : Looks (model prog w) hh (typeOf (.ref x)) (.ref C) := I.type
  have L3 : Looks (model prog w) hh (fillsNumberSlot (.ref C) nm) true := fills_K X hcd hm hs
  have hne : (Value.type T == Value.ref C) = false := Bool.eq_false_iff.mpr fun q => by cases beq_iff_eq.mp q
  simp only [binaryOp, hi]
  refine wpAny_holding (wpAny_bind ?_)
  unfold binaryOp1
  refine wpAny_bind (ht.at (wpAny_bind (L2.at (wpAny_bind (wpAny_of_eq hL ?_)))))
  simp only [hne, Bool.false_eq_true, if_false]
  refine wpAny_bind (L3.at ?_)
  simp only [Bool.false_and, Bool.false_eq_true, if_false, pure_bind, Bool.not_false, Bool.and_true, if_true]
  refine wpAny_bind (wpAny_mono one (fun r s' hr' => ?_) fun _ _ e => e)
  obtain ⟨v, rfl, hq⟩ := hr'
  exact wpAny_bind (wpAny_rule (wpAny_pure (wpAny_pure hq)))
theorem right_number {op : Operator} {a : Value} {T id : String} {Q : Value → Shared → Prop} (X : K.In s.heap) (I : InstAt s.heap x ox C od) (ht : typeOf a = pure (.type T)) (hT : s.TypeIs a T) (hc : selfFirst K C = true) (hs : findIn K (.ref C) (PySem.dunder op.info.2) = some (some (.ref f))) (hr : findIn K (.ref C) (dunderR op.info.2) = some (some (.ref g)))
    (hg : isFn K (.ref g) = true) (hL : fillsNumberSlot (.type T) op.info.2 = pure true) (hsub : subIn K (.ref C) (.type T) = some false) (sl : Slot T (PySem.dunder op.info.2) id) (hd : ∀ Q' : Value → Shared → Prop, Q' .notImplemented s → wpAny (model prog w) A (call (.builtin id) [a, .ref x]) Q' E s)
    (h : wpAny (model prog w) A (call (.ref g) [.ref x, a]) (PySem.W.CmpBack Q) E s) : wpAny (model prog w) A (binaryOp op a (.ref x)) Q E s := by
  obtain ⟨cd, rest, hcd, hm⟩ := ksp_first hc
  rcases hi : op.info with ⟨sym, nm⟩
  rw [hi] at hs hr hL sl
  dsimp only at hs hr hL sl
  have one := ksp_try X I hr hg h
  have two := wpAny_tryMethod_declines (Q := fun r s' => r = none ∧ s' = s) hT sl (hd _ ⟨rfl, rfl, rfl⟩)
  obtain ⟨hh, gg, d, tt, os⟩ := s
  have L2 : Looks (model prog w) hh (typeOf (.ref x)) (.ref C) := I.type
  have L3 : Looks (model prog w) hh (fillsNumberSlot (.ref C) nm) true := fills_K X hcd hm hs
  have L4 : Looks (model prog w) hh (isSubtype (.ref C) (.type T)) false := looks_subIn X hsub
  have hpy : numberSlotInPython (.type T) nm = pure false := rfl
  have hne : (Value.type T == Value.ref C) = false := Bool.eq_false_iff.mpr fun q => by cases beq_iff_eq.mp q
  simp only [binaryOp, hi]
  refine wpAny_holding (wpAny_bind ?_)
  unfold binaryOp1
  refine wpAny_bind (wpAny_of_eq ht (wpAny_bind (L2.at (wpAny_bind (wpAny_of_eq hL ?_)))))
  simp only [hne, Bool.false_eq_true, if_false]
  refine wpAny_bind (L3.at ?_)
  simp only [Bool.and_self, if_true]
  refine wpAny_bind (L4.at ?_)
  simp only [Bool.false_eq_true, if_false, pure_bind, Bool.not_false, Bool.and_self, if_true, hpy]
  refine wpAny_bind (wpAny_mono two (fun r s' z => ?_) fun _ _ e => e)
  obtain ⟨rfl, rfl⟩ := z
  refine wpAny_bind (wpAny_mono one (fun r s' hr' => ?_) fun _ _ e => e)
  obtain ⟨v, rfl, hq⟩ := hr'
  exact wpAny_bind (wpAny_rule (wpAny_pure (wpAny_pure hq)))
end
end Lw.Ow
namespace Lw.Ow
open PySem PySem.Spec PyProof.Rows

section
variable {prog : Program} {w : World} {A : Around} {E : Value → Shared → Prop} {s : Shared}
theorem binary_no {nm : String} {f : Int → Int → Sem Fin} {i : Int} {t : Tok} {x : Addr} {o : Obj} {Q : Value → Shared → Prop} (ho : s.heap.get? x = some o) (hp : o.data = .plain) (h : Q .notImplemented s) :
    wpAny (model prog w) A (Builtin.Int.intBinary nm f false ⟨[.int i t, .ref x], []⟩) (fun fin s' => ∃ v, fin = .done (.ret v) ∧ Q v s') E s := by
  unfold Builtin.Int.intBinary
  refine wpAny_bind (wpAny_of_eq (a := (Value.int i t, [Value.ref x])) rfl ?_)
  refine wpAny_bind (wpAny_of_eq (a := i) rfl ?_)
  refine wpAny_bind ?_
  show wpAny _ _ (load x >>= fun ob => match ob.data with | .prim (.int i _) => pure (some i) | _ => pure none) _ _ _
  refine wpAny_bind (wpAny_load ho ?_)
  rw [hp]
  exact wpAny_pure (wpAny_bind (wpAny_rule (wpAny_pure ⟨_, rfl, h⟩)))
theorem no_add {i : Int} {t : Tok} {x : Addr} {o : Obj} {Q : Value → Shared → Prop} (ho : s.heap.get? x = some o) (hp : o.data = .plain) (h : Q .notImplemented s) : wpAny (model prog w) A (call (.builtin "int.__add__") [.int i t, .ref x]) Q E s :=
  wpAny_call_entry F.slot_int_add (typeIs_int s i t) F.entry_int_add (binary_no ho hp h) (F.args_int_add_2 _ _)
theorem no_sub {i : Int} {t : Tok} {x : Addr} {o : Obj} {Q : Value → Shared → Prop} (ho : s.heap.get? x = some o) (hp : o.data = .plain) (h : Q .notImplemented s) : wpAny (model prog w) A (call (.builtin "int.__sub__") [.int i t, .ref x]) Q E s :=
  wpAny_call_entry F.slot_int_sub (typeIs_int s i t) F.entry_int_sub (binary_no ho hp h) (F.args_int_sub_2 _ _)
theorem no_mul {i : Int} {t : Tok} {x : Addr} {o : Obj} {Q : Value → Shared → Prop} (ho : s.heap.get? x = some o) (hp : o.data = .plain) (h : Q .notImplemented s) : wpAny (model prog w) A (call (.builtin "int.__mul__") [.int i t, .ref x]) Q E s :=
  wpAny_call_entry F.slot_int_mul (typeIs_int s i t) F.entry_int_mul (binary_no ho hp h) (F.args_int_mul_2 _ _)
theorem no_mod {i : Int} {t : Tok} {x : Addr} {o : Obj} {Q : Value → Shared → Prop} (ho : s.heap.get? x = some o) (hp : o.data = .plain) (h : Q .notImplemented s) : wpAny (model prog w) A (call (.builtin "int.__mod__") [.int i t, .ref x]) Q E s :=
  wpAny_call_entry F.slot_int_mod (typeIs_int s i t) F.entry_int_mod (binary_no ho hp h) (F.args_int_mod_2 _ _)
theorem no_floordiv {i : Int} {t : Tok} {x : Addr} {o : Obj} {Q : Value → Shared → Prop} (ho : s.heap.get? x = some o) (hp : o.data = .plain) (h : Q .notImplemented s) : wpAny (model prog w) A (call (.builtin "int.__floordiv__") [.int i t, .ref x]) Q E s := by
  refine wpAny_call_entry F.slot_int_floordiv (typeIs_int s i t) F.entry_int_floordiv ?_ (F.args_int_floordiv_2 _ _)
  unfold Builtin.«int.__floordiv__»
  refine wpAny_bind ?_
  unfold Builtin.exactOperandsForPylong
  rw [if_pos (by rfl)]
  dsimp only
  refine wpAny_bind (wpAny_of_eq (a := some i) rfl ?_)
  refine wpAny_bind ?_
  show wpAny _ _ (load x >>= fun ob => match ob.data with | .prim (.int i _) => pure (some i) | _ => pure none) _ _ _
  refine wpAny_bind (wpAny_load ho ?_)
  rw [hp]
  exact wpAny_pure (wpAny_pure (binary_no ho hp h))
end

end Lw.Ow
namespace Lw
open PySem PySem.Spec PyProof.Rows L2
section
variable {X : Cx} {C f : Addr} {k j : Nat} {sp : Sp}
def rRight (C : Addr) (P : V → Prop) (sp : Sp) : R2 := fun x y H Q => ∃ a dx fs, P x ∧ y = .ref a ∧ H a = some (.ins C dx fs) ∧ sp [y, x] H Q C8.E0
theorem ins_plain {pins : List (Addr × Obj)} {σ : L2.St} {H : Hp} {s : Shared} {a dx : Addr} {fs : List (Str × V)} (I : Inv X pins σ H s) (h : H a = some (.ins C dx fs)) : ∃ ox od, PySem.W.InstAt s.heap a ox C (some od) ∧ s.heap.get? a = some ox ∧ ox.data = .plain := by
  obtain ⟨mA, O, _⟩ := ins_get I.hok h
  obtain ⟨od, J, _⟩ := O.look
  exact ⟨_, od, J, J.at_, rfl⟩
/-- an int beside an instance on the right -/
theorem op_rightI {op : Operator} {id : String} (M : C8.Met X.prog X.w X.K X.mg X.base k C (dunderR op.info.2) sp []) (hc : PySem.W.selfFirst X.K C = true) (hs : PySem.W.findIn X.K (.ref C) (PySem.dunder op.info.2) = some (some (.ref f))) (hL : fillsNumberSlot (.type "int") op.info.2 = pure true)
    (hsub : PySem.W.subIn X.K (.ref C) (.type "int") = some false) (sl : Slot "int" (PySem.dunder op.info.2) id) (hd : ∀ {A : Around} {E : Value → Shared → Prop} {s : Shared} {i : Int} {t : Tok} {x : Addr} {o : Obj} {Q' : Value → Shared → Prop}, s.heap.get? x = some o → o.data = .plain → Q' .notImplemented s → wpAny (model X.prog X.w) A (call (.builtin id) [.int i t, .ref x]) Q' E s)
    (hr : Room j X.A) (hk : k ≤ j) : OpR X (binaryOp op) (rRight C (fun x => ∃ i, x = .int i) sp) := by
  intro pins s σ H x y v u Q I rx ry h
  obtain ⟨a, dx, fs, ⟨i, rfl⟩, rfl, ha, q⟩ := h
  cases (show u = Value.ref a from ry)
  obtain ⟨t, rfl⟩ := (show ∃ t, v = Value.int i t from rx)
  obtain ⟨ox, od, J, hx, hp⟩ := ins_plain I ha
  obtain ⟨g, hm, w⟩ := run_two (us := [.ref a, .int i t]) (vs := [.ref a, .int i]) M hr hk I (.cons rfl (.cons ⟨t, rfl⟩ .nil)) q
  exact Ow.right_number I.kIn J rfl (typeIs_int s i t) hc hs hm.at_ hm.fn hL hsub sl (fun Q' z => hd hx hp z) w
/-- a value whose type has no number slot for the operator -/
theorem op_rightB {op : Operator} {T : String} (M : C8.Met X.prog X.w X.K X.mg X.base k C (dunderR op.info.2) sp []) (hc : PySem.W.selfFirst X.K C = true) (hs : PySem.W.findIn X.K (.ref C) (PySem.dunder op.info.2) = some (some (.ref f))) (hL : fillsNumberSlot (.type T) op.info.2 = pure false)
    (hr : Room j X.A) (hk : k ≤ j) : OpR X (binaryOp op) (rRight C (fun x => Kind x T) sp) := by
  intro pins s σ H x y v u Q I rx ry h
  obtain ⟨a, dx, fs, hT, rfl, ha, q⟩ := h
  cases (show u = Value.ref a from ry)
  obtain ⟨ox, od, J, hx, hp⟩ := ins_plain I ha
  obtain ⟨g, hm, w⟩ := run_two (us := [.ref a, v]) (vs := [.ref a, x]) M hr hk I (.cons rfl (.cons rx .nil)) q
  exact Ow.right_bare I.kIn J (PySem.W.Looks.of_pure (hT.type rx)) hc hs hm.at_ hm.fn hL w
end
end Lw
namespace Lw.Ow
open PySem PySem.Spec PyProof.Rows PySem.W PySem.Calls

/-! ### x op= y of instances whose class has no operator of that kind -/
section
variable {prog : Program} {w : World} {A : Around} {E : Value → Shared → Prop} {s : Shared} {K : Frag} {x C f g : Addr} {ox : Obj} {od : Option Obj}
/-- the operator's first half tells a value -/
def Told (Q : Value → Shared → Prop) (r : Option Value) (s' : Shared) : Prop := ∃ v, r = some v ∧ Q v s'
theorem half_same {nm : String} {b : Value} {Q : Value → Shared → Prop} (X : K.In s.heap) (I : InstAt s.heap x ox C od) (hb : Looks (model prog w) s.heap (typeOf b) (.ref C)) (hc : selfFirst K C = true) (hs : findIn K (.ref C) (PySem.dunder nm) = some (some (.ref f))) (hf : isFn K (.ref f) = true)
    (h : wpAny (model prog w) A (call (.ref f) [.ref x, b]) (PySem.W.CmpBack Q) E s) : wpAny (model prog w) A (binaryOp1 nm (.ref x) b) (Told Q) E s := by
  obtain ⟨cd, rest, hcd, hm⟩ := ksp_first hc
  have one := ksp_try X I hs hf h
  obtain ⟨hh, gg, d, tt, os⟩ := s
  have L1 : Looks (model prog w) hh (typeOf (.ref x)) (.ref C) := I.type
  have L2 : Looks (model prog w) hh (typeOf b) (.ref C) := hb
  have L3 : Looks (model prog w) hh (fillsNumberSlot (.ref C) nm) true := fills_K X hcd hm hs
  unfold binaryOp1
  refine wpAny_bind (L1.at (wpAny_bind (L2.at (wpAny_bind (L3.at ?_)))))
  simp only [beq_self_eq_true, if_true]
  refine wpAny_bind (wpAny_pure ?_)
  simp only [Bool.and_false, Bool.false_and, Bool.false_eq_true, if_false, if_true, pure_bind]
  refine wpAny_bind (wpAny_mono one (fun r s' z => ?_) fun _ _ e => e)
  obtain ⟨v, rfl, hq⟩ := z
  exact wpAny_pure ⟨v, rfl, hq⟩
/-- no class above has the operator of that kind -/
theorem bare_inplace {nm : String} {add : Bool} {cd : ClassData} {h : Heap} {M : Model} (X : K.In h) (hc : clsIn K C = some cd) (hm : cd.mro = [.ref C, .type "object"]) (h1 : findIn K (.ref C) (dunderI nm) = some none) (h2 : findIn K (.type "object") (dunderI nm) = some none) : Looks M h (fillsInplaceSlot (.ref C) nm add) false := by
  intro A Q E s k q
  have Lm : Looks M h (mroOf (.ref C)) cd.mro := (looks_clsIn X hc).andThen (f := fun cd => pure cd.mro) .now
  have Lm2 := Lm.keeps k
  obtain ⟨hh, gg, d, tt, os⟩ := s
  have X2 : K.In hh := X.keeps k
  have L1 : Looks M hh (typeLookup (.ref C) (dunderI nm)) none := looks_findIn X2 h1
  have L2 : Looks M hh (typeLookup (.type "object") (dunderI nm)) none := looks_findIn X2 h2
  unfold fillsInplaceSlot
  refine wpAny_bind (Lm2.at ?_)
  rw [hm, List.anyM_cons]
  refine wpAny_bind (wpAny_bind (L1.at ?_))
  refine wpAny_pure ?_
  rw [List.anyM_cons]
  refine wpAny_bind (wpAny_bind (L2.at ?_))
  refine wpAny_pure ?_
  rw [List.anyM_nil]
  exact wpAny_pure q
theorem inplace_of {op : Operator} {b : Value} {cd : ClassData} {Q : Value → Shared → Prop} (X : K.In s.heap) (I : InstAt s.heap x ox C od) (hc : clsIn K C = some cd) (hm : cd.mro = [.ref C, .type "object"]) (h1 : findIn K (.ref C) (dunderI op.info.2) = some none) (h2 : findIn K (.type "object") (dunderI op.info.2) = some none)
    (h : wpAny (model prog w) A (binaryOp1 op.info.2 (.ref x) b) (Told Q) E s) : wpAny (model prog w) A (inplaceOp op (.ref x) b) Q E s := by
  have L1 : Looks (model prog w) s.heap (typeOf (.ref x)) (.ref C) := I.type
  have L2 : Looks (model prog w) s.heap (fillsInplaceSlot (.ref C) op.info.2 (op == .Add)) false := bare_inplace X hc hm h1 h2
  unfold inplaceOp
  refine wpAny_holding ?_
  refine wpAny_bind (L1.here (wpAny_bind (L2.here ?_)))
  simp only [Bool.false_eq_true, if_false, pure_bind]
  refine wpAny_bind (wpAny_mono h (fun r s' z => ?_) fun _ _ e => e)
  obtain ⟨v, rfl, hq⟩ := z
  exact wpAny_pure hq
end
end Lw.Ow
namespace Lw.Ow
open PySem PySem.Spec PyProof.Rows PySem.W PySem.Calls

section
variable {prog : Program} {w : World} {A : Around} {E : Value → Shared → Prop} {s : Shared} {K : Frag} {x C f g : Addr} {ox : Obj} {od : Option Obj}
theorem half_left {nm : String} {b : Value} {T : String} {fo ro rc : Option Value} {Q : Value → Shared → Prop} (X : K.In s.heap) (I : InstAt s.heap x ox C od) (hb : Looks (model prog w) s.heap (typeOf b) (.type T)) (hc : selfFirst K C = true) (hs : findIn K (.ref C) (PySem.dunder nm) = some (some (.ref f))) (hf : isFn K (.ref f) = true)
    (hr : findIn K (.ref C) (dunderR nm) = some rc) (hp : rc = none ∨ ∃ g : Addr, rc = some (.ref g)) (h1 : findIn K (.type T) (PySem.dunder nm) = some fo) (h2 : findIn K (.type T) (dunderR nm) = some ro) (hsub : subIn K (.type T) (.ref C) = some false)
    (h : wpAny (model prog w) A (call (.ref f) [.ref x, b]) (PySem.W.CmpBack Q) E s) : wpAny (model prog w) A (binaryOp1 nm (.ref x) b) (Told Q) E s := by
  obtain ⟨cd, rest, hcd, hm⟩ := ksp_first hc
  have one := ksp_try X I hs hf h
  obtain ⟨hh, gg, d, tt, os⟩ := s
  have L1 : Looks (model prog w) hh (typeOf (.ref x)) (.ref C) := I.type
  have L3 : Looks (model prog w) hh (fillsNumberSlot (.ref C) nm) true := fills_K X hcd hm hs
  have L4 : Looks (model prog w) hh (fillsNumberSlot (.type T) nm) ((fo.isSome && !isSeqSlot fo) || (ro.isSome && !isSeqSlot ro)) := ksp_fillsT X h1 h2
  have L5 : Looks (model prog w) hh (isSubtype (.type T) (.ref C)) false := looks_subIn X hsub
  have L6 : Looks (model prog w) hh (numberSlotInPython (.ref C) nm) true := ksp_inPy X hs hr hp
  have L7 : Looks (model prog w) hh (numberSlotInPython (.type T) nm) false := Looks.of_pure rfl
  have L8 : Looks (model prog w) hh (typeLookup (.type T) (dunderR nm)) ro := looks_findIn X h2
  have hne : (Value.ref C == Value.type T) = false := Bool.eq_false_iff.mpr fun q => by cases beq_iff_eq.mp q
  have done : ∀ {r : Option Value} {s' : Shared}, (∃ v, r = some v ∧ Q v s') → ∃ v, r = some v ∧ Told Q r s' := fun ⟨v, e, q⟩ => ⟨v, e, v, e, q⟩
  generalize ((fo.isSome && !isSeqSlot fo) || (ro.isSome && !isSeqSlot ro)) = right at L4
  unfold binaryOp1
  refine wpAny_bind (L1.at (wpAny_bind (hb.at (wpAny_bind (L3.at ?_)))))
  simp only [hne, Bool.false_eq_true, if_false]
  refine wpAny_bind (L4.at ?_)
  cases right with
  | false =>
    simp only [Bool.and_false, Bool.false_and, Bool.false_eq_true, if_false, if_true, pure_bind]
    refine wpAny_bind (wpAny_mono one (fun r s' z => ?_) fun _ _ e => e)
    obtain ⟨v, rfl, hq⟩ := z
    exact wpAny_pure ⟨v, rfl, hq⟩
  | true =>
    simp only [Bool.and_self, if_true]
    refine wpAny_bind (L5.at ?_)
    simp only [Bool.false_eq_true, if_false, if_true, Bool.not_false, Bool.and_self]
    refine wpAny_bind (L6.at ?_)
    simp only [if_true]
    refine wpAny_bind (L7.at ?_)
    simp only [Bool.not_false, if_true]
    refine wpAny_bind (L8.at ?_)
    refine wpAny_bind (wpAny_mono one (fun r s' z => ?_) fun _ _ e => e)
    obtain ⟨v, rfl, hq⟩ := z
    exact wpAny_pure ⟨v, rfl, hq⟩
theorem half_number {nm : String} {a : Value} {T id : String} {Q : Value → Shared → Prop} (X : K.In s.heap) (I : InstAt s.heap x ox C od) (ht : typeOf a = pure (.type T)) (hT : s.TypeIs a T) (hc : selfFirst K C = true) (hs : findIn K (.ref C) (PySem.dunder nm) = some (some (.ref f))) (hr : findIn K (.ref C) (dunderR nm) = some (some (.ref g)))
    (hg : isFn K (.ref g) = true) (hL : fillsNumberSlot (.type T) nm = pure true) (hsub : subIn K (.ref C) (.type T) = some false) (sl : Slot T (PySem.dunder nm) id) (hd : ∀ Q' : Value → Shared → Prop, Q' .notImplemented s → wpAny (model prog w) A (call (.builtin id) [a, .ref x]) Q' E s)
    (h : wpAny (model prog w) A (call (.ref g) [.ref x, a]) (PySem.W.CmpBack Q) E s) : wpAny (model prog w) A (binaryOp1 nm a (.ref x)) (Told Q) E s := by
  obtain ⟨cd, rest, hcd, hm⟩ := ksp_first hc
  have one := ksp_try X I hr hg h
  have two := wpAny_tryMethod_declines (Q := fun r s' => r = none ∧ s' = s) hT sl (hd _ ⟨rfl, rfl, rfl⟩)
  obtain ⟨hh, gg, d, tt, os⟩ := s
  have L2 : Looks (model prog w) hh (typeOf (.ref x)) (.ref C) := I.type
  have L3 : Looks (model prog w) hh (fillsNumberSlot (.ref C) nm) true := fills_K X hcd hm hs
  have L4 : Looks (model prog w) hh (isSubtype (.ref C) (.type T)) false := looks_subIn X hsub
  have hpy : numberSlotInPython (.type T) nm = pure false := rfl
  have hne : (Value.type T == Value.ref C) = false := Bool.eq_false_iff.mpr fun q => by cases beq_iff_eq.mp q
  unfold binaryOp1
  refine wpAny_bind (wpAny_of_eq ht (wpAny_bind (L2.at (wpAny_bind (wpAny_of_eq hL ?_)))))
  simp only [hne, Bool.false_eq_true, if_false]
  refine wpAny_bind (L3.at ?_)
  simp only [Bool.and_self, if_true]
  refine wpAny_bind (L4.at ?_)
  simp only [Bool.false_eq_true, if_false, pure_bind, Bool.not_false, Bool.and_self, if_true, hpy]
  refine wpAny_bind (wpAny_mono two (fun r s' z => ?_) fun _ _ e => e)
  obtain ⟨rfl, rfl⟩ := z
  refine wpAny_bind (wpAny_mono one (fun r s' z => ?_) fun _ _ e => e)
  obtain ⟨v, rfl, hq⟩ := z
  exact wpAny_bind (wpAny_rule (wpAny_pure ⟨v, rfl, hq⟩))
end
end Lw.Ow
namespace Lw
open PySem PySem.Spec PyProof.Rows L2

/-- a class right below object that has no operator of the kind op= -/
structure NoInplace (K : PySem.W.Frag) (C : Addr) (op : Operator) : Prop where
  mro : ∃ cd, PySem.W.clsIn K C = some cd ∧ cd.mro = [.ref C, .type "object"]
  own : PySem.W.findIn K (.ref C) (dunderI op.info.2) = some none
  obj : PySem.W.findIn K (.type "object") (dunderI op.info.2) = some none
section
variable {X : Cx} {C f : Addr} {k j : Nat} {sp : Sp}
theorem iop_same {op : Operator} (M : C8.Met X.prog X.w X.K X.mg X.base k C (PySem.dunder op.info.2) sp []) (hc : PySem.W.selfFirst X.K C = true) (ni : NoInplace X.K C op) (hr : Room j X.A) (hk : k ≤ j) : OpR X (inplaceOp op) (rSame C sp) := by
  intro pins s σ H x y v u Q I rx ry h
  obtain ⟨a, dx, fs, b, dy, gs, rfl, rfl, ha, hb, q⟩ := h
  cases (show v = Value.ref a from rx)
  cases (show u = Value.ref b from ry)
  obtain ⟨_, _, J⟩ := ins_at I ha
  obtain ⟨_, _, J'⟩ := ins_at I hb
  obtain ⟨g, hm, w⟩ := run_two (us := [.ref a, .ref b]) (vs := [.ref a, .ref b]) M hr hk I (.cons rfl (.cons rfl .nil)) q
  obtain ⟨cd, h1, h2⟩ := ni.mro
  exact Ow.inplace_of I.kIn J h1 h2 ni.own ni.obj (Ow.half_same I.kIn J J'.type hc hm.at_ hm.fn w)
theorem iop_beside {op : Operator} (M : C8.Met X.prog X.w X.K X.mg X.base k C (PySem.dunder op.info.2) sp []) (ni : NoInplace X.K C op) (hr : Room j X.A) (hk : k ≤ j) : OpR X (inplaceOp op) (rBeside X.K C op sp) := by
  intro pins s σ H x y v u Q I rx ry h
  obtain ⟨a, dx, fs, T, rfl, ha, hT, hB, q⟩ := h
  cases (show v = Value.ref a from rx)
  obtain ⟨_, _, J⟩ := ins_at I ha
  obtain ⟨g, hm, w⟩ := run_two (us := [.ref a, u]) (vs := [.ref a, y]) M hr hk I (.cons rfl (.cons ry .nil)) q
  obtain ⟨cd, h1, h2⟩ := ni.mro
  obtain ⟨rc, r1, r2⟩ := hB.back
  obtain ⟨fo, f1⟩ := hB.ahead
  obtain ⟨ro, o1⟩ := hB.behind
  exact Ow.inplace_of I.kIn J h1 h2 ni.own ni.obj (Ow.half_left I.kIn J (PySem.W.Looks.of_pure (hT.type ry)) hB.first hm.at_ hm.fn r1 r2 f1 o1 hB.sub w)
/-- i op= x, i an int, x an instance -/
theorem iop_rightI {op : Operator} {id : String} (M : C8.Met X.prog X.w X.K X.mg X.base k C (dunderR op.info.2) sp []) (hc : PySem.W.selfFirst X.K C = true) (hs : PySem.W.findIn X.K (.ref C) (PySem.dunder op.info.2) = some (some (.ref f))) (hL : fillsNumberSlot (.type "int") op.info.2 = pure true) (hI : fillsInplaceSlot (.type "int") op.info.2 (op == .Add) = pure false)
    (hsub : PySem.W.subIn X.K (.ref C) (.type "int") = some false) (sl : Slot "int" (PySem.dunder op.info.2) id) (hd : ∀ {A : Around} {E : Value → Shared → Prop} {s : Shared} {i : Int} {t : Tok} {x : Addr} {o : Obj} {Q' : Value → Shared → Prop}, s.heap.get? x = some o → o.data = .plain → Q' .notImplemented s → wpAny (model X.prog X.w) A (call (.builtin id) [.int i t, .ref x]) Q' E s)
    (hr : Room j X.A) (hk : k ≤ j) : OpR X (inplaceOp op) (rRight C (fun x => ∃ i, x = .int i) sp) := by
  intro pins s σ H x y v u Q I rx ry h
  obtain ⟨a, dx, fs, ⟨i, rfl⟩, rfl, ha, q⟩ := h
  cases (show u = Value.ref a from ry)
  obtain ⟨t, rfl⟩ := (show ∃ t, v = Value.int i t from rx)
  obtain ⟨ox, od, J, hx, hp⟩ := ins_plain I ha
  obtain ⟨g, hm, w⟩ := run_two (us := [.ref a, .int i t]) (vs := [.ref a, .int i]) M hr hk I (.cons rfl (.cons ⟨t, rfl⟩ .nil)) q
  have half := Ow.half_number I.kIn J rfl (typeIs_int s i t) hc hs hm.at_ hm.fn hL hsub sl (fun Q' z => hd hx hp z) w
  unfold inplaceOp
  refine wpAny_holding ?_
  refine wpAny_bind (wpAny_of_eq (a := Value.type "int") rfl (wpAny_bind (wpAny_of_eq hI ?_)))
  simp only [Bool.false_eq_true, if_false, pure_bind]
  refine wpAny_bind (wpAny_mono half (fun r s' z => ?_) fun _ _ e => e)
  obtain ⟨v, rfl, hq⟩ := z
  exact wpAny_pure hq
theorem int_no_inplace : fillsInplaceSlot (.type "int") "add" true = pure false ∧ fillsInplaceSlot (.type "int") "sub" false = pure false ∧ fillsInplaceSlot (.type "int") "mul" false = pure false := by
  refine ⟨?_, ?_, ?_⟩ <;> · simp only [fillsInplaceSlot, typeLookup_type]; rfl
end
end Lw
namespace Lw
open PySem PySem.Spec PyProof.Rows L2

/-! ### try: body / except X as n: suite, the caught exception held behind the suite -/
/-- an exception's object: its class, its dict -/
def ExO (a : Addr) (cls : Value) (d : Option Addr) : HO := .ext fun h => ∃ o, h.get? a = some o ∧ Zc cls d o ∧ ∃ vs, o.data = .fields vs
section
variable {X : Cx} {pins : List (Addr × Obj)} {σ : L2.St} {H : Hp} {s : Shared}
/-- a pinned object is tracked from now on -/
theorem promote {a : Addr} {o : Obj} {cls : Value} {d : Option Addr} (I : Inv X ((a, o) :: pins) σ H s) (hz : Zc cls d o) (hf : ∃ vs, o.data = .fields vs) (new : X.s_0.heap.get? a = none) (apart : ∀ p ∈ X.pn ++ pins, p.1 ≠ a) : Inv X pins σ (upd H a (ExO a cls d)) s := by
  obtain ⟨ha, na, nL, nF, nC⟩ := I.pin (a, o) (List.mem_append_right _ List.mem_cons_self)
  have here : ∀ b, b ≠ a → upd H a (ExO a cls d) b = H b := fun b n => upd_ne n
  have known : ∀ b u, H b = some u → b ≠ a := fun b u e z => by rw [z, na] at e; cases e
  have old : ∀ b u, X.s_0.heap.get? b = some u → b ≠ a := fun b u e z => by rw [z, new] at e; cases e
  refine ⟨I.ok, I.os, I.bare, ⟨I.base.keep, I.base.slot, fun b u e n hx => ?_, I.base.there, fun b xs e => ?_, fun b u v e => ?_, fun b ps e => ?_⟩, I.loc, I.cell, ?_, fun y c e => ?_, fun p hp => ?_, fun b u e => ?_, I.len⟩
  · rw [here b (old b u e)]
    exact I.base.free b u e n hx
  · have z := I.base.tups b xs e
    rw [here b (known b _ z)]
    exact z
  · have z := I.base.frzs b u v e
    rw [here b (known b _ z)]
    exact z
  · obtain ⟨more, z⟩ := I.base.tbls b ps e
    exact ⟨more, by rw [here b (known b _ z)]; exact z⟩
  · rw [here _ nL.symm]
    exact I.free
  · have ne : c ≠ a := fun z => by
      obtain ⟨v, oc, hoc, hdc⟩ := I.cell y c e
      rw [z, ha] at hoc
      cases hoc
      exact nC v hdc
    rw [here c ne]
    exact I.freeC y c e
  · have hp2 : p ∈ X.pn ++ ((a, o) :: pins) := by
      rcases List.mem_append.mp hp with h | h
      · exact List.mem_append_left _ h
      · exact List.mem_append_right _ (List.mem_cons_of_mem _ h)
    obtain ⟨e1, e2, e3⟩ := I.pin p hp2
    exact ⟨e1, by rw [here _ (apart p hp)]; exact e2, e3⟩
  · by_cases q : b = a
    · subst q
      rw [upd_same] at e
      cases e
      refine ⟨⟨o, ha, hz, hf⟩, ⟨o, ha⟩, ?_⟩
      rintro h1 h2 ⟨u, e1, e2⟩ st
      exact ⟨u, st u e1, e2⟩
    · rw [here b q] at e
      exact (I.hok b u e).stay (fun _ _ _ z => z) (fun c z => by rw [here c (known c _ z)]; exact z) fun c xs z => by rw [here c (known c _ z)]; exact z
end
end Lw
namespace Lw
open PySem PySem.Spec PyProof.Rows L2

/-- what the body's exceptions must be: of the class that is named; the suite ends plainly, and the exception stays known behind it -/
def wHeld (K : PySem.W.Frag) (c : Value) (i n : Nat) (ts : Addr → Value → Option Addr → TS) (D : Ends) : WX := fun cls d σ H => σ.length = n →
  PySem.W.exmOne K cls c = some true ∧ ∀ a, H a = none → ts a cls d { nx := fun σ' H' => H' a = none → D.nx (σ'.set i none) (upd H' a (ExO a cls d)), rt := fun _ _ => False, bk := fun _ _ => False, ct := fun _ _ => False } (σ.set i (some (.ref a))) H
section
variable {X : Cx} {x n : Str} {c : Value} {i : Nat} {body suite : List Stmt} {b₀ : Stmt} {np pos pos' : Pos} {tb : WX → TS} {ts : Addr → Value → Option Addr → TS}
theorem ps_try_held (stk : X.stack = X.env :: X.outer) (frm : X.env.frame = some X.env.locals) (hN : X.N.Nodup) (hi : X.N[i]? = some n) (loc : X.env.kindOf n = some .local) (nm : Names X x c) (noex : X.ex = [])
    (hb : ∀ (W : WX) (pn : List (Addr × Obj)) (xe : Value → Shared → Prop), Takes (X.tr pn xe) W → PassesOwn (model X.prog X.w) X.A X.env xe → PSs (X.tr pn xe) body (tb W))
    (hsu : ∀ (a : Addr) (oe : Obj) (cls : Value) (d : Option Addr) (pn : List (Addr × Obj)), Zc cls d oe → (∃ vs, oe.data = .fields vs) → PSs (X.suite a ((a, oe) :: pn)) (b₀ :: suite) (ts a cls d)) :
    PS X (.Try body [.ExceptHandler (some (.Name x np)) (some n) (b₀ :: suite) pos'] [] [] pos) (fun D σ H => tb (wHeld X.K c i X.N.length ts D) D σ H) := by
  refine ⟨fun pins s σ H D I h => ?_⟩
  have ok := I.ok
  have frames : X.A.frames = some (X.env :: X.outer) := by rw [ok.frames, stk]
  refine wpAny_Try_except ?_
  refine wpAny_mono ((hb (wHeld X.K c i X.N.length ts D) (X.pn ++ pins) (fun e s₁ => wpAny (model X.prog X.w) X.A (noteFrame e X.env) (fun _ s₂ => wpAny (model X.prog X.w) X.A (setFlight e none) (fun _ s₃ =>
    wpAny (model X.prog X.w) X.A (handleBy e X.env [.ExceptHandler (some (.Name x np)) (some n) (b₀ :: suite) pos']) (SP X pins D) X.xe s₃) X.xe s₂) X.xe s₁) (fun u s' air => ?_) PassesOwn.looking).run [] s σ H D (I.toTry _) h) (fun f s1 q => ?_) (fun e s1 q => q)
  · obtain ⟨a, B, sI, pins', σ', H', cls, d, rfl, JT, nb, up, sky, na, os, ag, hw⟩ := air
    have J : Inv X pins σ' H' sI := JT.ofTry ok
    obtain ⟨ours, go⟩ := hw J.len
    rw [stk] at sky
    show wpAny (model X.prog X.w) X.A (noteFrame (.ref a) X.env) _ _ _
    refine Sky.land Zc.steady frames frm sky fun hA flA upA => ?_
    have JA : Inv X pins σ' H' { s' with heap := hA } := J.landed nb flA.1 (up.trans upA) os ag
    obtain ⟨oA, vsA, eA, zA, dA⟩ := flA.there
    -- the exception's object is no frame, and it is new
    have noFrame : a ∉ frs (X.env :: X.outer) := fun hm => by
      obtain ⟨_, o', e', hnf⟩ := flA.2.2.1.mem hm
      rw [eA] at e'
      cases e'
      exact hnf _ dA
    have nL : a ≠ X.env.locals := fun z => noFrame (List.mem_filterMap.mpr ⟨X.env, List.mem_cons_self, by rw [frm, z]⟩)
    have nF : a ∉ X.fs := fun hm => by
      obtain ⟨e, he, q⟩ := List.mem_filterMap.mp hm
      exact noFrame (List.mem_filterMap.mpr ⟨e, List.mem_cons_of_mem _ he, q⟩)
    have nB : B.get? a = none := flA.2.1
    have ground : ∀ b o, sI.heap.get? b = some o → b ≠ a := fun b o e z => by
      rw [z] at e
      have k := nb a o e (by rw [stk]; exact noFrame)
      rw [nB] at k
      cases k
    have fresh : X.s_0.heap.get? a = none := by
      cases e : X.s_0.heap.get? a with
      | none => rfl
      | some o =>
        obtain ⟨o', e'⟩ := J.base.there a o e (by rw [noex]; simp)
        exact absurd rfl (ground a o' e')
    have apart : ∀ p ∈ X.pn ++ pins, p.1 ≠ a := fun p hp => ground p.1 p.2 (J.pin p hp).1
    refine wpAny_handleBy_cons (codeAny_handlers_test ?_) (by intro q; cases q)
    have LT : PySem.W.Looks (model X.prog X.w) hA (typeOf (.ref a)) cls := fun A Q E s k q => wpAny_typeOf_ref (k _ _ eA) (by rw [zA.1]; exact q)
    have LM := PySem.W.exm_one (M := model X.prog X.w) JA.kIn LT ours
    have SA := JA.suite eA dA na nL nF
    have look : ∀ {Q : Value → Shared → Prop} {E : Value → Shared → Prop}, Q c { s' with heap := hA } → wpAny (model X.prog X.w) (X.A.mark (some (.ref a))) (eval (.Name x np) X.env) Q E { s' with heap := hA } := fun {Q E} q => by
      rcases nm with ⟨g1, g2, g3 | ⟨g3, g4, g5⟩⟩
      · exact ld_glob (X := X.suite a ((a, oA) :: (X.pn ++ pins))) SA g1 g3 q g2
      · exact ld_blt (X := X.suite a ((a, oA) :: (X.pn ++ pins))) SA g1 g3 g4 q g5 g2
    refine look (LM.here ?_)
    refine codeAny_handlers_suite_as ?_
    refine HandSPX.lands_againZ flA fun hB flB upB => ?_
    have JB : Inv X pins σ' H' { s' with heap := hB } := J.landed nb flB.1 ((up.trans upA).trans upB) os ag
    obtain ⟨oB, vsB, eB, zB, dB⟩ := flB.there
    refine store_ok (X := X.suite a ((a, oB) :: (X.pn ++ pins))) (v := .ref a) (JB.suite eB dB na nL nF) hN hi (.inl loc) rfl (fun s5 S5 => ?_) (.inr loc)
    refine wpAny_mono ((hsu a oB cls d (X.pn ++ pins) zB ⟨_, dB⟩).run [] s5 _ H' _ S5 (go a na)) (fun f s6 q => ?_) (fun _ _ z => False.elim z)
    cases f with
    | next =>
      obtain ⟨σ6, H6, S6, q6⟩ := q
      have held : Inv X ((a, oB) :: pins) σ6 H6 s6 := ⟨ok, S6.os, S6.bare, S6.base, S6.loc, S6.cell, S6.free, S6.freeC, fun p hp => by
        refine S6.pin p (List.mem_append_left _ ?_)
        show p ∈ (a, oB) :: (X.pn ++ pins)
        rcases List.mem_append.mp hp with h | h
        · exact List.mem_cons_of_mem _ (List.mem_append_left _ h)
        · rcases List.mem_cons.mp h with h | h
          · rw [h]; exact List.mem_cons_self
          · exact List.mem_cons_of_mem _ (List.mem_append_right _ h), S6.hok, S6.len⟩
      refine gone_ok held hN hi loc fun s7 I7 => ?_
      exact ⟨_, _, promote I7 zB ⟨_, dB⟩ fresh apart, q6 (I7.pin (a, oB) (List.mem_append_right _ List.mem_cons_self)).2.1⟩
    | brk =>
      obtain ⟨_, _, _, z⟩ := q
      exact z.elim
    | cont =>
      obtain ⟨_, _, _, z⟩ := q
      exact z.elim
    | ret u =>
      obtain ⟨_, _, _, _, _, z⟩ := q
      exact z.elim
  · cases f with
    | next =>
      obtain ⟨σ1, H1, I1, q1⟩ := q
      exact wpAny_execs_nil ⟨σ1, H1, I1.ofTry ok, q1⟩
    | brk =>
      obtain ⟨σ1, H1, I1, q1⟩ := q
      exact ⟨σ1, H1, I1.ofTry ok, q1⟩
    | cont =>
      obtain ⟨σ1, H1, I1, q1⟩ := q
      exact ⟨σ1, H1, I1.ofTry ok, q1⟩
    | ret u =>
      obtain ⟨v1, σ1, H1, I1, r1, q1⟩ := q
      exact ⟨v1, σ1, H1, I1.ofTry ok, r1, q1⟩
end
end Lw
namespace Lw
open PySem PySem.Spec PyProof.Rows L2

section
variable {X : Cx} {pins : List (Addr × Obj)} {σ : L2.St} {H : Hp} {s : Shared}
theorem held_at {a : Addr} {cls : Value} {d : Option Addr} (I : Inv X pins σ H s) (h : H a = some (ExO a cls d)) : ∃ o vs, s.heap.get? a = some o ∧ o.cls = cls ∧ o.dict = d ∧ o.data = .fields vs := by
  obtain ⟨⟨o, h1, h2, vs, h3⟩, _⟩ := (show ObjOk X.prog X.w H s.heap a (ExO a cls d) from I.hok a _ h)
  exact ⟨o, vs, h1, h2.1, h2.2, h3⟩
/-- the exception as an instance, its attributes known -/
theorem held_inst {a C dd : Addr} {fs : List (Str × V)} (I : Inv X pins σ H s) (h : H a = some (ExO a (.ref C) (some dd))) (hd : H dd = some (.xd fs)) : ∃ o od, PySem.W.InstAt s.heap a o C (some od) ∧ ∀ f v, fs.lookup f = some v → ∃ u, PySem.W.lookIn f od = some (some u) ∧ RelV v u := by
  obtain ⟨o, vs, h1, h2, h3, h4⟩ := held_at I h
  obtain ⟨mA, hns, hr⟩ := (show ObjOk X.prog X.w H s.heap dd (.xd fs) from I.hok dd _ hd)
  obtain ⟨od, ho, hl⟩ := lookIn_ns hns
  refine ⟨o, od, ⟨h1, h2, by unfold PySem.W.notCls; rw [h4] <;> rfl, by rw [h3]; exact ho⟩, fun f v e => ?_⟩
  obtain ⟨u, hu, ru⟩ := RelO.some_of (v := v) (o := mA f) (by rw [← e]; exact hr f)
  exact ⟨u, by rw [hl, hu], ru⟩
/-- e.f of an exception that is held -/
def tHeld (C : Addr) (f : Str) (te : TE) : TE := fun σ H Q => te σ H fun x H1 => ∃ (a dd : Addr) (fs : List (Str × V)) (v : V), x = .ref a ∧ H1 a = some (ExO a (.ref C) (some dd)) ∧ H1 dd = some (.xd fs) ∧ fs.lookup f = some v ∧ Q v H1
theorem pe_held {C : Addr} {e : Expr} {te : TE} {pos : Pos} {f : Str} (T : XfC X.K C) (hno : PySem.W.findIn X.K (.ref C) f = some none) (he : PE X e te) (hb : attributeBase e f X.env (eval e X.env) = eval e X.env := by rfl) : PE X (.Attribute e f pos) (tHeld C f te) := by
  refine ⟨fun pins s σ H Q I q => attr_of hb (thn (he.run pins s σ H _ I q) fun u s1 got => ?_)⟩
  obtain ⟨x, H1, I1, rx, a, dd, fs, v, rfl, ha, hd, hl, q⟩ := got
  obtain rfl : u = Value.ref a := rx
  obtain ⟨o, od, J, fld⟩ := held_inst I1 ha hd
  obtain ⟨u, hu, ru⟩ := fld f v hl
  exact HandSPX.exc_get I1.kIn J T.ga T.gg T.exC (PySem.W.findObj_own T.hdC hno rfl hu) (handed_of ru) ⟨v, H1, I1.tok _, ru, q⟩
end
end Lw
namespace Lw.Hx
open PySem PySem.Spec PySem.Calls PyProof.Rows PySem.W

/-! ### isinstance of an exception that has attributes -/
/-- what isinstance asks of the exception's class -/
structure XCls (K : Frag) (D : Addr) : Prop where
  ga : findIn K (.ref D) "__getattribute__" = some (some (.builtin "BaseException.__getattribute__"))
  gt : findIn K (.ref D) "__getattr__" = some none
  sub : subIn K (.ref D) (.type "BaseException") = some true
  dct : hasDictIn K D = true
  ca : findIn K (.ref D) "__class__" = some (some (.builtin "object.__class__"))
  cn : specialIn K (.builtin "object.__class__") "__get__" = some (some (.builtin "getset_descriptor.__get__"))
  ct : takesIn K (.builtin "object.__class__") = some true
  cm : mroIn K D (.type "object") = some true
section
variable {prog : Program} {w : World} {A : Around} {E : Value → Shared → Prop} {s : Shared} {K : Frag} {x D : Addr} {ox : Obj} {od : Option Obj}
theorem finds (c : XCls K D) : findObj K D od "__class__" = some (.bind (.builtin "getset_descriptor.__get__") (.builtin "object.__class__")) := by
  obtain ⟨cd, hc, _⟩ := any_some c.dct
  unfold findObj
  rw [hc, Option.bind_some, c.ca, Option.bind_some]
  simp only [c.cn, c.ct, Option.bind_some]
theorem class_of (c : XCls K D) {Q : Option Value → Shared → Prop} (X : K.In s.heap) (I : InstAt s.heap x ox D od) (h : Q (some (.ref D)) { s with toks := s.toks + 1 }) : wpAny (model prog w) A (getAttr? (.ref x) "__class__") Q E s := by
  have found := finds (od := od) c
  obtain ⟨hp, gs, dr, tk, os⟩ := s
  have kind := I.type (M := model prog w)
  have asks := looks_findIn (M := model prog w) X c.ga
  have more := looks_findIn (M := model prog w) X c.gt
  have seen := looks_find (M := model prog w) X I found
  have under : Looks (model prog w) hp (isInstance (.ref x) (.type "BaseException")) true := kind.andThen (looks_subIn X c.sub)
  have n2 : (Value.builtin "BaseException.__getattribute__" == Value.builtin "object.__getattribute__") = false := by decide +kernel
  have n1 : (onTheHeap (Value.ref D) && Value.builtin "BaseException.__getattribute__" == Value.builtin "object.__getattribute__") = false := by rw [n2]; rfl
  unfold getAttr? getAttrBy? getAttrBy
  refine wpAny_bind (wpAny_mkText (wpAny_bind (wpAny_attempt (wpAny_holding (wpAny_bind (kind.at (wpAny_bind (asks.at ?_))))))))
  show wpAny _ _ (ite ((onTheHeap (Value.ref D) && Value.builtin "BaseException.__getattribute__" == Value.builtin "object.__getattribute__") = true) _ _) _ _ _
  rw [n1, if_neg (by decide)]
  unfold getAttrByItsOwn hookBefore
  refine wpAny_bind ?_
  rw [if_pos (show onTheHeap (.ref D) = true from rfl)]
  refine more.at (wpAny_bind (wpAny_attempt (wpAny_holding ?_)))
  unfold callGetattribute
  rw [if_neg (show ¬ (false && onTheHeap (Value.builtin "BaseException.__getattribute__")) = true from by decide)]
  unfold boundAndCalled
  rw [PySem.F.excAttr_ValueError.ga.bind (.ref x)]
  refine wpAny_bind (wpAny_pure ?_)
  show wpAny _ _ (call (.builtin "BaseException.__getattribute__") [.ref x, .str "__class__" tk]) _ _ _
  refine wpAny_call (codeAny_call_builtin PySem.F.excAttr_ValueError.ga.plain PySem.F.entry_bexc_ga ?_)
  refine @check_slot (model prog w) _ _ ⟨hp, gs, dr, tk + 1, os⟩ "BaseException.__getattribute__" "BaseException" "__getattribute__" (.ref x) [.str "__class__" tk] [] _ (by decide +kernel) (by decide +kernel) under (PySem.F.args_bexc_ga (.ref x) (.str "__class__" tk)) ?_
  unfold Builtin.«object.__getattribute__»
  refine wpAny_bind (wpAny_of_eq (a := ((Value.ref x : Value), [Value.str "__class__" tk])) (by first | rfl | (simp only [slotArgs] <;> rfl)) ?_)
  refine wpAny_bind (wpAny_pure (wpAny_bind (kind.at (wpAny_bind (seen.at ?_)))))
  show wpAny _ _ (holding [Value.builtin "object.__class__"] (call (.builtin "getset_descriptor.__get__") [.builtin "object.__class__", .ref x, .ref D]) >>= ret) _ _ _
  refine wpAny_bind (wpAny_holding (wpAny_call (class_get (s := ⟨hp, gs, dr, tk + 1, os⟩) X I c.cm ?_)))
  refine wpAny_pure ?_
  show wpAny _ _ (handedOut (.ref D)) _ _ _
  rw [handedOut_of (v := .ref D) rfl]
  first
    | exact wpAny_pure (wpAny_pure h)
    | exact wpAny_pure h
    | exact wpAny_pure (wpAny_bind (wpAny_pure (wpAny_pure h)))
theorem no_list (c : XCls K D) : ∃ o cd, K.lookup D = some o ∧ o.data = .cls cd := by
  obtain ⟨cd, hc, _⟩ := any_some c.dct
  unfold clsIn at hc
  split at hc
  · rename_i c' d' cd' sl' ho
    exact ⟨_, _, ho, rfl⟩
  · cases hc
theorem kitx_held (c : XCls K D) : KitX K (.ref x) (.ref D) (fun h => InstAt h x ox D od) where
  ty := fun _ _ _ I => I.type
  it := fun _ _ X _ => by
    obtain ⟨o, cd, ho, hd⟩ := no_list c
    intro A' Q' E' s' k q
    unfold isType loadHead
    refine wpAny_bind (wpAny_loadPart (k _ _ (X _ _ ho)) ?_)
    rw [hd]
    exact wpAny_pure q
  ne := fun h tp dd its n sl X htp => by
    refine Bool.eq_false_iff.mpr fun q => ?_
    have e : D = tp := Value.ref.inj (beq_iff_eq.mp q)
    obtain ⟨o, cd, ho, hd⟩ := no_list c
    have z := X _ _ ho
    rw [e, htp] at z
    cases z
    cases hd
  ca := fun X I k => class_of c X I k
end
end Lw.Hx
namespace Lw
open PySem PySem.Spec PyProof.Rows L2

/-- a value's kind: an exception's that is held, too -/
inductive TyW (K : PySem.W.Frag) (H : Hp) : V → Value → Prop where
  | z {v : V} {t : Value} (h : TyZ K H v t) : TyW K H v t
  | held {a D dd : Addr} {fs : List (Str × V)} (e : H a = some (ExO a (.ref D) (some dd))) (hd : H dd = some (.xd fs)) (c : Hx.XCls K D) : TyW K H (.ref a) (.ref D)
def rIsw (K : PySem.W.Frag) : List V → Hp → VK → Prop := fun xs H Q => ∃ (x c : V) (t u : Value) (b : Bool), xs = [x, c] ∧ ClsV c u ∧ TyW K H x t ∧ PySem.W.kitOne K t u = some b ∧ Q (.bl b) H
theorem call_isw {X : Cx} : CallR X (.builtin "isinstance") (rIsw X.K) := by
  intro pins s σ H xs us Q I r h
  obtain ⟨x, c, t, u, b, rfl, k, ty, e, q⟩ := h
  cases ty with
  | z ty => exact call_isz pins s σ H _ us Q I r ⟨x, c, t, u, b, rfl, k, ty, e, q⟩
  | @held a D dd fs ea hd cl =>
    obtain ⟨w1, w2, rfl, r1, r2⟩ := vals2 r
    obtain rfl := k.eq r2
    obtain rfl : w1 = Value.ref a := r1
    obtain ⟨o, od, J, _⟩ := held_inst I ea hd
    exact PySem.W.kia_one (Hx.kitx_held cl) I.kIn J e (fun z => by cases z) fun tk => ⟨.bl b, H, I.tok tk, rfl, q⟩
end Lw
namespace Lw
open PySem PySem.Spec PyProof.Rows L2

/-! ### C.m(e, ..), m a static method -/
structure SMet (K : PySem.W.Frag) (C : Addr) (m : Str) (p g : Addr) : Prop where
  mc : ∃ mc, PySem.W.typeIn K (.ref C) = some mc ∧ PySem.W.readsIn K C mc = true ∧ PySem.W.findCls K (.ref C) mc m = some (.get (.builtin "staticmethod.__get__") (.ref p) .none (.ref C))
  ga : PySem.W.specialIn K (.ref C) "__getattribute__" = some (some (.builtin "type.__getattribute__"))
  rc : ∃ rest, PySem.W.recIn K p "staticmethod" = some (.ref g :: rest)
  kp : PySem.W.keepIn K (.ref g) = true
def tStatic (C : Addr) (sp : Sp) (dvs : List V) (E : XK) (ta : TE) (t : TA) : TE := fun σ H Q => ta σ H fun x H1 => x = .ref C ∧ t σ H1 fun vs H2 => sp (vs ++ dvs) H2 Q E
section
variable {X : Cx} {CX : CXT} {C p g : Addr} {k : Nat} {fd : FuncData} {ps : List Str} {sp : Sp} {E : XK} {ds : List Value} {dvs : List V} {o e : Expr} {es : List Expr} {m : Str} {pos apos : Pos} {ta : TE} {t : TA} {pl : Sem Bool}
theorem pe_static (he : PE X o ta) (c : SMet X.K C m p g) (F : FnOk X.prog X.w X.K X.mg X.base CX k g fd ps sp) (hr : Room k X.A) (b : Binds X.K fd ps ds) (d : Vals dvs ds) (hx : Passes CX X E) (ha : PA X (e :: es) t)
    (hst : starEach (e :: es) X.env = (false, eval e X.env) :: starEach es X.env := by rfl) (hpl : (backTo pos (starEach es X.env)).any (·.1) = false := by rfl)
    (ht : eval (.Call (.Attribute o m apos) (e :: es) [] pos) X.env = (do
      let ov ← eval o X.env
      standAt apos.atName
      let (f, first) ← holding [ov] (getMethod ov m pl)
      callWith pos f first (backTo pos (starEach (e :: es) X.env)) (backToKw pos (keywordEach [] X.env))) := by rfl) :
    PE X (.Call (.Attribute o m apos) (e :: es) [] pos) (tStatic C sp dvs E ta t) := by
  refine ⟨fun pins s σ H Q I h => ?_⟩
  refine PySem.W.methodCall_KW (pl := pl) (thn (he.run pins s σ H _ I h) fun u s1 ⟨x, H1, I1, rx, ex, q⟩ => ?_) ht
  subst ex
  obtain rfl : u = Value.ref C := rx
  obtain ⟨mc, h1, h2, h3⟩ := c.mc
  obtain ⟨rest, h4⟩ := c.rc
  obtain ⟨fm, hF⟩ := I1.fr
  refine PySem.W.method_cls I1.kIn c.ga (PySem.W.cls_sm hF I1.ok.mod.kin h1 h2 h3 h4 rfl ?_)
  have I2 : Inv X pins σ H1 { s1 with toks := s1.toks + 1 } := I1.tok _
  refine PySem.W.callWith_K (h₀ := X.base) I2.ok.mod.kin c.kp (thn (ha.run pos pins _ σ H1 _ I2 q) fun us s3 ⟨vs, H2, I3, rv, q2⟩ => ⟨I3.kIn, ?_⟩) hst hpl
  exact run_fn F hr b d hx I3 rv q2
end
end Lw
namespace Lw
open PySem PySem.Spec PyProof.Rows L2

section
variable {X : Cx} {f : Value → Value → Sem Value} {r1 r2 : R2}
/-- one of two rules serves -/
theorem op_or (h1 : OpR X f r1) (h2 : OpR X f r2) : OpR X f (fun x y H Q => r1 x y H Q ∨ r2 x y H Q) := fun pins s σ H x y v u Q I rx ry h => h.elim (h1 pins s σ H x y v u Q I rx ry) (h2 pins s σ H x y v u Q I rx ry)
theorem call_or {f : Value} {c1 c2 : List V → Hp → VK → Prop} (h1 : CallR X f c1) (h2 : CallR X f c2) : CallR X f (fun xs H Q => c1 xs H Q ∨ c2 xs H Q) := fun pins s σ H xs us Q I r h => h.elim (h1 pins s σ H xs us Q I r) (h2 pins s σ H xs us Q I r)
theorem un_or {f : Value → Sem Value} {c1 c2 : V → Hp → VK → Prop} (h1 : UnR X f c1) (h2 : UnR X f c2) : UnR X f (fun x H Q => c1 x H Q ∨ c2 x H Q) := fun pins s σ H x v Q I r h => h.elim (h1 pins s σ H x v Q I r) (h2 pins s σ H x v Q I r)
/-- an expression that two readings serve -/
theorem pe_or {e : Expr} {t1 t2 : TE} (h1 : PE X e t1) (h2 : PE X e t2) : PE X e (fun σ H Q => t1 σ H Q ∨ t2 σ H Q) := ⟨fun pins s σ H Q I h => h.elim (h1.run pins s σ H Q I) (h2.run pins s σ H Q I)⟩
theorem ps_or {st : Stmt} {t1 t2 : TS} (h1 : PS X st t1) (h2 : PS X st t2) : PS X st (fun D σ H => t1 D σ H ∨ t2 D σ H) := ⟨fun pins s σ H D I h => h.elim (h1.run pins s σ H D I) (h2.run pins s σ H D I)⟩
end
end Lw
namespace Lw
open PySem PySem.Spec PyProof.Rows L2

abbrev sErr : Stmt := inClass (top 6) 0
def spErr (C : Addr) : Sp := fun vs H Q _ => ∃ (a : Addr) (v : V), vs = [.ref a, v] ∧ H a = some (exo a C none) ∧ ∀ dx, H dx = none → dx ≠ a → Q .non (upd (upd H dx (exd dx [("value", v)])) a (exo a C (some dx)))
section
variable {P : Program} {w : World} {K : PySem.W.Frag} {mg : Str → Option Value} {base : Heap}
theorem scErr : FnScope ["self", "value"] ["self", "value"] (C8.fnScope sErr) := C8.fnScope_by (by decide +kernel)
theorem fn_err {C f : Addr} {fd : FuncData} (F : C8.Fun K "__init__" "BadRatio.__init__" sErr f fd) (T : OexC K C) (no : PySem.W.findIn K (.ref C) "value" = some none) : FnOk P w K mg base C8.CX0 1 f fd ["self", "value"] (spErr C) := by
  refine C8.fn0 F scErr (fun vs H Q E h => ?_) (fun cdv A outer st H vs Q E hr h => ?_)
  · obtain ⟨a, v, rfl, _⟩ := h
    rfl
  · obtain ⟨a, v, rfl, ha, k⟩ := h
    refine ⟨_, (pss_one (ps_ost (pv 0) (pv 1))), ?_⟩
    exact ⟨_, rfl, _, rfl, a, C, rfl, T, no, .inl ⟨ha, fun dx h1 h2 => k dx h1 h2⟩⟩
end
section
variable {X : Cx} {C fI : Addr} {fd : FuncData} {W : WX} {j : Nat} {e : Expr} {te : TE} {p pos pos2 : Pos}
/-- raise X(e), X such a class -/
def tBad (C : Addr) (W : WX) (te : TE) : TS := fun _ σ H => tMkO C (spErr C) [] (tCons te tNil) σ H fun cls d H' => W cls d σ H'
theorem ps_bad {x : Str} (hc : X.calm = true) (tk : Takes X W) (T : OexC X.K C) (iC : PySem.W.findIn X.K (.ref C) "__init__" = some (some (.ref fI))) (tI : PySem.W.typeIn X.K (.ref fI) = some (.type "function")) (F : FnOk X.prog X.w X.K X.mg X.base C8.CX0 1 fI fd ["self", "value"] (spErr C)) (hr : Room (j + 2) X.A) (hb : Binds X.K fd ["self", "value"] [])
    (hg : Gl X x) (hm : X.mg x = some (.ref C)) (he : PE X e te) (hst : starEach [e] X.env = (false, eval e X.env) :: starEach [] X.env := by rfl) (hdb : (x == ("__debug__" : Str)) = false := by decide) (hpl : (backTo pos (starEach [] X.env)).any (·.1) = false := by rfl) :
    PS X (.Raise (some (.Call (.Name x p) [e] [] pos)) none pos2) (tBad C W te) :=
  ps_raise hc tk (pmk_oex T iC tI F (hr.mono (by omega)) hb .nil C8.pass0 hg hm (pa_cons he pa_nil hst) hdb hst hpl)
/-- what is left to show at the leaf: the exception's dict is new, it holds the value -/
theorem bad_leaf {H1 : Hp} {v : V} {Q : XK} (k : ∀ d, H1 d = none → Q (.ref C) (some d) (upd H1 d (.xd [("value", v)]))) :
    ([v] : List V).length ≤ 1000 ∧ ∀ a, H1 a = none → spErr C (.ref a :: ([v] ++ [])) (upd H1 a (exo a C none)) (fun z H2 => z = .non ∧ ∃ (d : Addr) (fs : List (Str × V)), H2 a = some (exo a C (some d)) ∧ H2 d = some (exd d fs) ∧ H1 d = none ∧ Q (.ref C) (some d) (upd (del H2 a) d (.xd fs))) (fun _ _ _ => False) := by
  refine ⟨(by show 1 ≤ 1000; decide), fun a ha => ⟨a, v, rfl, upd_same, fun dx h1 h2 => ?_⟩⟩
  rw [upd_ne h2] at h1
  refine ⟨rfl, dx, [("value", v)], upd_same, by rw [upd_ne h2]; exact upd_same, h1, ?_⟩
  have e : upd (del (upd (upd (upd H1 a (exo a C none)) dx (exd dx [("value", v)])) a (exo a C (some dx))) a) dx (.xd [("value", v)]) = upd H1 dx (.xd [("value", v)]) := by
    funext b
    by_cases q : b = dx
    · rw [q, upd_same, upd_same]
    · rw [upd_ne q, upd_ne q]
      by_cases q2 : b = a
      · rw [q2, del_same, ha]
      · rw [del_ne q2, upd_ne q2, upd_ne q, upd_ne q2]
  rw [e]
  exact k dx h1
end
end Lw
namespace Lw
open PySem PySem.Spec PyProof.Rows L2

/-- i // j, j of any sign, not too long -/
theorem op_fdivS {X : Cx} : OpR X (binaryOp .FloorDiv) (rI (fun _ j => j ≠ 0 ∧ j.natAbs.log2 < 9000) fun i j => .int (i.fdiv j)) := opI fun i j _ _ _ _ _ hc q => by
  exact floordiv_int hc.1 q (.inl (PyProof.noPylong_of_log2 hc.2))
end Lw
namespace Lw
open PySem PySem.Spec PyProof.Rows L2

open LamX
abbrev sRat : Stmt := inClass (top 15) 0
/-- the error's class, ready to be raised -/
structure Err (P : Program) (w : World) (K : PySem.W.Frag) (mg : Str → Option Value) (base : Heap) (D fE : Addr) (fdE : FuncData) : Prop where
  T : OexC K D
  iC : PySem.W.findIn K (.ref D) "__init__" = some (some (.ref fE))
  tI : PySem.W.typeIn K (.ref fE) = some (.type "function")
  F : FnOk P w K mg base C8.CX0 1 fE fdE ["self", "value"] (spErr D)
  b : Binds K fdE ["self", "value"] []
  hm : mg "BadRatio" = some (.ref D)
/-- the divisor that __init__ takes -/
def com (i j : Int) : Int := if 0 < j then ((Nat.gcd i.natAbs j.natAbs : Nat) : Int) else -((Nat.gcd i.natAbs j.natAbs : Nat) : Int)
def flds (o u : Int) : List (Str × V) := putF "under" (.int u) (putF "over" (.int o) [])
/-- Ratio(over, under): what it makes, what it raises -/
def spRat (K : PySem.W.Frag) (C D : Addr) : Sp := fun vs H Q E => ∃ (x dx : Addr) (va vb : V), vs = [.ref x, va, vb] ∧ Anyv K H va ∧ Anyv K H vb ∧ H x = some (.ins C dx []) ∧
  (isI va = false → ∀ d, H d = none → E (.ref D) (some d) (upd H d (.xd [("value", va)]))) ∧
  (isI va = true → isI vb = false ∨ vb = .int 0 → ∀ d, H d = none → E (.ref D) (some d) (upd H d (.xd [("value", vb)]))) ∧
  (∀ i j, va = .int i → vb = .int j → j ≠ 0 → Small i ∧ Small j ∧ Q .non (upd H x (.ins C dx (flds (i.fdiv (com i j)) (j.fdiv (com i j))))))
section
variable {P : Program} {w : World} {K : PySem.W.Frag} {mg : Str → Option Value} {base : Heap}
theorem scRat : FnScope ["self", "over", "under", "common"] ["self", "over", "under"] (C8.fnScope sRat) := C8.fnScope_by (by decide +kernel)
theorem fn_rat {C D f fE : Addr} {fd fdE : FuncData} (F : C8.Fun K "__init__" "Ratio.__init__" sRat f fd) (cl : Cls K C) (n1 : NoAttr K C "over") (n2 : NoAttr K C "under") (hgcd : mg "gcd" = some (.builtin "math.gcd")) (DI : C8.Cal P w K mg base 1 "is_integer" (spIsInt K) [])
    (ER : Err P w K mg base D fE fdE) : FnOk P w K mg base (L2.CX P w) 3 f fd ["self", "over", "under"] (spRat K C D) := by
  obtain ⟨oc, od, dV, kV, doc, pm, an, cdv, ct, osl, rfl, lk, hcd⟩ := F.ex
  refine fn_of lk hcd scRat (fun vs H Q E h => ?_) fun A outer s H vs Q E hr h => ?_
  · obtain ⟨x, dx, va, vb, rfl, _⟩ := h
    rfl
  · obtain ⟨x, dx, va, vb, rfl, aa, ab, hx, k1, k2, k3⟩ := h
    have tk : Takes (cxOf (L2.CX P w) P w K mg base ["self", "over", "under", "common"] "Ratio.__init__" (C8.fnScope sRat) f cdv A outer s H E) (fun cls d _ H' => E cls d H') := takes_of rfl rfl rfl rfl
    refine ⟨_, (pss_cons (ps_if (pt_not (pt_val (C8.pe_c DI hr (by decide) (by rfl) (pa_cons (pv 1) pa_nil)))) (pss_one (ps_bad (x := "BadRatio") rfl tk ER.T ER.iC ER.tI ER.F hr ER.b (by rfl) ER.hm (pv 1))) pss_nil)
  (pss_cons (ps_if (PW.pt (pw_or (pt_not (pt_val (C8.pe_c DI hr (by decide) (by rfl) (pa_cons (pv 2) pa_nil)))) (pw_or1 (pt_cmpR op_eq (pv 2) pe_int (nomark _))))) (pss_one (ps_bad (x := "BadRatio") rfl tk ER.T ER.iC ER.tI ER.F hr ER.b (by rfl) ER.hm (pv 2))) pss_nil)
  (pss_cons (ps_set (i := 3) scRat.nd rfl (Or.inl rfl) (pe_ifExp (pt_cmpR op_gt (pv 2) pe_int (nomark _)) (pe_callBfun cr_gcd (by rfl) hgcd (pa_cons (pv 1) (pa_cons (pv 2) pa_nil))) (pe_un un_neg (pe_callBfun cr_gcd (by rfl) hgcd (pa_cons (pv 1) (pa_cons (pv 2) pa_nil))))))
  (pss_cons (ps_fld (pv 0) (pe_op op_fdivS (pv 1) (pv 3)) rfl)
  (pss_one (ps_fld (pv 0) (pe_op op_fdivS (pv 2) (pv 3)) rfl)))))), ?_⟩
    refine ⟨_, rfl, va, rfl, aa, _, rfl, ?_⟩
    cases hv : isI va with
    | false => exact iteT ⟨_, rfl, bad_leaf (k1 hv)⟩
    | true =>
      obtain ⟨i, rfl⟩ : ∃ i, va = V.int i := by cases va <;> first | exact ⟨_, rfl⟩ | (cases hv)
      refine iteF ⟨_, rfl, vb, rfl, ab, _, rfl, ?_⟩
      cases hw : isI vb with
      | false => exact iteT (iteT ⟨_, rfl, bad_leaf (k2 hv (.inl hw))⟩)
      | true =>
        obtain ⟨j, rfl⟩ : ∃ j, vb = V.int j := by cases vb <;> first | exact ⟨_, rfl⟩ | (cases hw)
        refine iteF ⟨_, rfl, rfl, _, rfl, ite2 (fun c => ⟨_, rfl, bad_leaf (k2 hv (.inr (of_decide_eq_true c)))⟩) (fun c => ?_)⟩
        have j0 : j ≠ 0 := fun e => c (decide_eq_true (by rw [e]))
        obtain ⟨si, sj, k⟩ := k3 i j rfl rfl j0
        have g0 : 0 < Nat.gcd i.natAbs j.natAbs := Nat.gcd_pos_of_pos_right _ (by omega)
        have gs : Small ((Nat.gcd i.natAbs j.natAbs : Nat) : Int) := by
          unfold Small
          rw [Int.natAbs_natCast]
          exact Nat.lt_of_le_of_lt (Nat.gcd_le_right _ (by omega)) sj
        have c0 : com i j ≠ 0 ∧ (com i j).natAbs.log2 < 9000 := by
          have l := small_log gs
          unfold com
          split
          · exact ⟨by omega, by omega⟩
          · exact ⟨by omega, by rw [Int.natAbs_neg]; omega⟩
        dsimp only [tNext, tSeq]
        refine join_any (fun σ' H' => σ' = [some (V.ref x), some (V.int i), some (V.int j), some (V.int (com i j))] ∧ H' = H) ?r (fun go => ?_)
        case r =>
          rintro σ' H' ⟨rfl, rfl⟩
          refine ⟨_, rfl, _, rfl, _, _, rfl, rfl, c0, _, rfl, x, C, dx, [], rfl, hx, cl, n1, (by show 0 < 1000; decide), ?_⟩
          refine ⟨_, rfl, _, rfl, _, _, rfl, rfl, c0, _, rfl, x, C, dx, _, rfl, upd_same, cl, n2, (by show 1 < 1000; decide), ?_⟩
          rw [upd_upd]
          exact k
        refine ⟨_, rfl, _, _, rfl, rfl, _, rfl, ite2 (fun c => ?_) (fun c => ?_)⟩
        · exact ⟨_, rfl, _, rfl, _, _, rfl, go _ _ ⟨by rw [show com i j = _ from if_pos (of_decide_eq_true c)]; rfl, rfl⟩⟩
        · exact ⟨_, rfl, _, rfl, _, _, rfl, _, rfl, go _ _ ⟨by rw [show com i j = _ from if_neg (fun z => c (decide_eq_true z))]; rfl, rfl⟩⟩
end
end Lw
namespace Lw
open PySem PySem.Spec PyProof.Rows L2

theorem fdiv_com {i j k : Int} (hj : j ≠ 0) : k.fdiv (com i j) = sg j * k / ((Nat.gcd i.natAbs j.natAbs : Nat) : Int) := by
  have g0 : 0 < Nat.gcd i.natAbs j.natAbs := Nat.gcd_pos_of_pos_right _ (by omega)
  by_cases c : 0 < j
  · rw [show com i j = _ from if_pos c, show sg j = 1 from if_pos c, Int.one_mul, Int.fdiv_eq_ediv_of_nonneg _ (by omega)]
  · rw [show com i j = _ from if_neg c, show sg j = -1 from if_neg c]
    have e : k.fdiv (-((Nat.gcd i.natAbs j.natAbs : Nat) : Int)) = (-k).fdiv ((Nat.gcd i.natAbs j.natAbs : Nat) : Int) := by
      rw [← Int.neg_fdiv_neg, Int.neg_neg]
    rw [e, Int.fdiv_eq_ediv_of_nonneg _ (by omega)]
    congr 1
    omega
theorem made_over {i j : Int} (hj : j ≠ 0) : i.fdiv (com i j) = lov i j := fdiv_com hj
theorem made_under {i j : Int} (hj : j ≠ 0) : j.fdiv (com i j) = lun i j := fdiv_com hj
/-- a Ratio of the numbers o, u stands at a -/
def RatAt (C : Addr) (H : Hp) (a : Addr) (o u : Int) : Prop := ∃ dx, H a = some (.ins C dx (flds o u))
theorem flds_over (o u : Int) : (flds o u).lookup ("over" : Str) = some (.int o) := by
  unfold flds
  rw [lookup_putF, if_neg (by decide +kernel), lookup_putF, if_pos rfl]
theorem flds_under (o u : Int) : (flds o u).lookup ("under" : Str) = some (.int u) := by
  unfold flds
  rw [lookup_putF, if_pos rfl]
/-- the least form: what is below is positive, and nothing divides both -/
theorem lun_pos {t b : Int} (h : b ≠ 0) : 0 < lun t b := by
  have g0 : 0 < Nat.gcd t.natAbs b.natAbs := Nat.gcd_pos_of_pos_right _ (by omega)
  have hs : sg b * b = (b.natAbs : Int) := by unfold sg; split <;> omega
  unfold lun
  rw [hs]
  have h1 : Nat.gcd t.natAbs b.natAbs ≤ b.natAbs := Nat.gcd_le_right _ (by omega)
  exact Int.ediv_pos_of_pos_of_dvd (by omega) (by omega) (Int.natCast_dvd_natCast.mpr (Nat.gcd_dvd_right _ _))
end Lw
namespace Lw
open PySem PySem.Spec PyProof.Rows L2
theorem TyX.same {K : PySem.W.Frag} {H H' : Hp} {v : V} {t : Value} (s : Same H H') (h : TyX K H v t) : TyX K H' v t := by
  cases h with
  | base h =>
    refine .base ?_
    cases h with
    | non => exact .non
    | bl x => exact .bl x
    | int i => exact .int i
    | str x => exact .str x
    | flt x => exact .flt x
    | lst e => exact .lst (s _ _ e)
    | frz e => exact .frz (s _ _ e)
    | tup e => exact .tup (s _ _ e)
    | dK e => exact .dK (s _ _ e)
    | dT e => exact .dT (s _ _ e)
    | ins e cl ha hn htk hm => exact .ins (s _ _ e) cl ha hn htk hm
  | byt b => exact .byt b
  | set e => exact .set (s _ _ e)
  | kList e c => exact .kList e c
  | kTuple e c => exact .kTuple e c
  | kDict e c => exact .kDict e c
  | fTuple e => exact .fTuple (s _ _ e)
  | fDict e => exact .fDict (s _ _ e)
theorem TyZ.same {K : PySem.W.Frag} {H H' : Hp} {v : V} {t : Value} (s : Same H H') (h : TyZ K H v t) : TyZ K H' v t := by
  cases h with
  | x h => exact .x (Lw.TyX.same s h)
  | fn e => exact .fn (s _ _ e)
theorem Anyv.same {K : PySem.W.Frag} {H H' : Hp} {v : V} (s : Same H H') (h : Anyv K H v) : Anyv K H' v := by
  cases h with
  | int i => exact .int i
  | non => exact .non
  | bl b => exact .bl b
  | str z => exact .str z
  | obj h h1 h2 h3 => exact .obj (Lw.TyZ.same s h) h1 h2 h3
end Lw
namespace Lw
open PySem PySem.Spec PyProof.Rows L2

open LamX
abbrev sOf : Stmt := inClass (top 15) 1
/-- the class of the ratios, ready to be made of one or two values -/
structure RatM (P : Program) (w : World) (K : PySem.W.Frag) (mg : Str → Option Value) (base : Heap) (C D f : Addr) (fd : FuncData) (ds : List Value) : Prop where
  M : Mk K C f
  F : FnOk P w K mg base (L2.CX P w) 3 f fd ["self", "over", "under"] (spRat K C D)
  hm : mg "Ratio" = some (.ref C)
  b1 : Binds K fd ["self", "over", "under"] ds
  d1 : Vals [.int 1] ds
  b2 : Binds K fd ["self", "over", "under"] []
/-- Ratio.of(value) -/
def spOf (K : PySem.W.Frag) (C D : Addr) : Sp := fun vs H Q E => ∃ v : V, vs = [v] ∧
  ((∃ a dx fs, v = .ref a ∧ H a = some (.ins C dx fs) ∧ Q v H) ∨
   (∃ t, Anyv K H v ∧ TyZ K H v t ∧ PySem.W.kitOne K t (.ref C) = some false ∧ (∀ i, v = .int i → Small i ∧ ∀ a H', Same H H' → H a = none → RatAt C H' a (lov i 1) (lun i 1) → Q (.ref a) H') ∧
     (isI v = false → ∀ d H', Same H H' → H' d = none → E (.ref D) (some d) (upd H' d (.xd [("value", v)])))))
section
variable {P : Program} {w : World} {K : PySem.W.Frag} {mg : Str → Option Value} {base : Heap}
theorem scOf : FnScope ["value"] ["value"] (C8.fnScope sOf) := C8.fnScope_by (by decide +kernel)
theorem fn_of' {C D f g : Addr} {fd fdg : FuncData} {ds : List Value} (F : C8.Fun K "of" "Ratio.of" sOf g fdg) (T : Txt mg) (I : C8.InsC K C) (RM : RatM P w K mg base C D f fd ds) : FnOk P w K mg base (L2.CX P w) 5 g fdg ["value"] (spOf K C D) := by
  obtain ⟨oc, od, dV, kV, doc, pm, an, cdv, ct, osl, rfl, lk, hcd⟩ := F.ex
  refine fn_of lk hcd scOf (fun vs H Q E h => ?_) fun A outer s H vs Q E hr h => ?_
  · obtain ⟨v, rfl, _⟩ := h
    rfl
  · obtain ⟨v, rfl, h⟩ := h
    refine ⟨_, (pss_one (ps_ret (pe_ifExp (pt_val (pe_callB call_isz (by rfl) T.n_isinstance (by decide +kernel) (pa_cons (pv 0) (pa_cons (pe_glob (v := .ref C) (by rfl) RM.hm rfl) pa_nil)))) (pv 0) (pe_make RM.M RM.F (hr.mono (by decide)) (by rfl) RM.hm RM.b1 RM.d1 (passes_call (takes_of rfl rfl rfl rfl) (fun _ _ _ _ z => z)) (pa_cons (pv 0) pa_nil))))), ?_⟩
    rcases h with ⟨a, dx, fs, rfl, ha, k⟩ | ⟨t, av, ty, hk, k1, k2⟩
    · refine ⟨_, rfl, _, .ref C, .ref C, .ref C, true, rfl, .own C, .x (.base (.ins ha I.cl I.ha I.hn I.htk I.hm)), I.me, _, rfl, iteT ⟨_, rfl, k⟩⟩
    · refine ⟨_, rfl, _, .ref C, t, .ref C, false, rfl, .own C, ty, hk, _, rfl, iteF ⟨_, rfl, fun x dx hx hdx ne => ?_⟩⟩
      have s1 : Same H (upd H dx (.own x)) := same_new hdx
      have hx1 : upd H dx (.own x) x = none := by rw [upd_ne ne.symm]; exact hx
      have s2 := s1.trans (same_new (o := HO.ins C dx []) hx1)
      refine ⟨x, dx, v, .int 1, rfl, Lw.Anyv.same s2 av, .int 1, upd_same, fun hv d hd => k2 hv d _ s2 hd, fun _ h2 => ?_, fun i j e1 e2 hj => ?_⟩
      · rcases h2 with h2 | h2
        · cases h2
        · cases h2
      · cases e2
        obtain ⟨si, k⟩ := k1 i e1
        refine ⟨si, by show 1 < 2 ^ 4000; exact Nat.one_lt_two_pow (by decide), rfl, ?_⟩
        rw [upd_upd, made_over hj, made_under hj]
        exact k x _ (s1.trans (same_new hx1)) hx ⟨dx, upd_same⟩
end
end Lw
namespace Lw
open PySem PySem.Spec PyProof.Rows L2

open LamX
abbrev sAdd : Stmt := inClass (top 15) 4
/-- Ratio.of, ready to be called -/
structure OfM (P : Program) (w : World) (K : PySem.W.Frag) (mg : Str → Option Value) (base : Heap) (C D p g : Addr) (fdg : FuncData) : Prop where
  S : SMet K C "of" p g
  F : FnOk P w K mg base (L2.CX P w) 5 g fdg ["value"] (spOf K C D)
  b : Binds K fdg ["value"] []
/-- an integer that may be reckoned with once more -/
def Mid (i : Int) : Prop := i.natAbs < 2 ^ 1200
/-- v is the number p / q -/
inductive NumAt (K : PySem.W.Frag) (C : Addr) (H : Hp) : V → Int → Int → Prop where
  | rat {a : Addr} {p q : Int} (h : RatAt C H a p q) (h0 : 0 < q) (hp : Mid p) (hq : Mid q) : NumAt K C H (.ref a) p q
  | int {i : Int} (hi : Mid i) (hk : PySem.W.kitOne K (.type "int") (.ref C) = some false) : NumAt K C H (.int i) i 1
theorem Mid.small {i : Int} (h : Mid i) : Small i := Nat.lt_trans h (Nat.pow_lt_pow_right (by decide) (by decide))
theorem lov_one (i : Int) : lov i 1 = i ∧ lun i 1 = 1 := by
  have g : Nat.gcd i.natAbs (1 : Int).natAbs = 1 := Nat.gcd_one_right _
  unfold lov lun
  rw [g]
  constructor
  · show 1 * i / 1 = i
    omega
  · decide
theorem mul_mid {i j : Int} (h1 : Mid i) (h2 : Mid j) : (i * j).natAbs < 2 ^ 2400 := by
  rw [Int.natAbs_mul, show (2400 : Nat) = 1200 + 1200 from rfl, Nat.pow_add]
  exact Nat.mul_lt_mul'' h1 h2
theorem mid_mul {i j : Int} (h1 : Mid i) (h2 : Mid j) : CMulW i j := by
  have a := small_log h1.small
  have b := small_log h2.small
  show i.natAbs.log2 + j.natAbs.log2 < 1000000
  omega
theorem small_of {i : Int} (h : i.natAbs < 2 ^ 2402) : Small i := Nat.lt_trans h (Nat.pow_lt_pow_right (by decide) (by decide))
/-- what is told when the other value is no number -/
def Refuses (K : PySem.W.Frag) (C D : Addr) (v : V) (H : Hp) (E : XK) : Prop := ∃ t, Anyv K H v ∧ TyZ K H v t ∧ PySem.W.kitOne K t (.ref C) = some false ∧ isI v = false ∧ ∀ d H', Same H H' → H' d = none → E (.ref D) (some d) (upd H' d (.xd [("value", v)]))
/-- a new ratio t / b -/
def News (C : Addr) (H : Hp) (Q : VK) (t b : Int) : Prop := ∀ c H', Same H H' → H c = none → RatAt C H' c (lov t b) (lun t b) → Q (.ref c) H'
def spAdd (K : PySem.W.Frag) (C D : Addr) : Sp := fun vs H Q E => ∃ (a : Addr) (v : V) (o u : Int), vs = [.ref a, v] ∧ NumAt K C H (.ref a) o u ∧
  ((∃ p q, NumAt K C H v p q ∧ News C H Q (o * q + p * u) (u * q)) ∨ Refuses K C D v H E)
section
variable {P : Program} {w : World} {K : PySem.W.Frag} {mg : Str → Option Value} {base : Heap}
theorem scAdd : FnScope ["self", "other", "added"] ["self", "other"] (C8.fnScope sAdd) := C8.fnScope_by (by decide +kernel)
theorem fn_add {C D f g f1 pO : Addr} {fd fdg fd1 : FuncData} {ds : List Value} (F : C8.Fun K "__add__" "Ratio.__add__" sAdd f1 fd1) (RM : RatM P w K mg base C D f fd ds) (OM : OfM P w K mg base C D pO g fdg) (cl : Cls K C) (n1 : NoAttr K C "over") (n2 : NoAttr K C "under") : FnOk P w K mg base (L2.CX P w) 7 f1 fd1 ["self", "other"] (spAdd K C D) := by
  obtain ⟨oc, od, dV, kV, doc, pm, an, cdv, ct, osl, rfl, lk, hcd⟩ := F.ex
  refine fn_of lk hcd scAdd (fun vs H Q E h => ?_) fun A outer s H vs Q E hr h => ?_
  · obtain ⟨a, v, o, u, rfl, _⟩ := h
    rfl
  · obtain ⟨a, v, o, u, rfl, na, h⟩ := h
    obtain ⟨⟨dxa, ha⟩, u0, mo, mu⟩ : RatAt C H a o u ∧ 0 < u ∧ Mid o ∧ Mid u := by
      cases na with
      | rat h h0 hp hq => exact ⟨h, h0, hp, hq⟩
    refine ⟨_, (pss_cons (ps_set (i := 2) scAdd.nd rfl (Or.inl rfl) (pe_static (pe_glob (v := .ref C) (by rfl) RM.hm rfl) OM.S OM.F (hr.mono (by decide)) OM.b .nil (passes_call (takes_of rfl rfl rfl rfl) (fun _ _ _ _ z => z)) (pa_cons (pv 1) pa_nil)))
  (pss_one (ps_ret (pe_make RM.M RM.F (hr.mono (by decide)) (by rfl) RM.hm RM.b2 .nil (passes_call (takes_of rfl rfl rfl rfl) (fun _ _ _ _ z => z)) (pa_cons (pe_op op_add (pe_op op_mulW (pe_fld (pv 0) rfl) (pe_fld (pv 2) rfl)) (pe_op op_mulW (pe_fld (pv 2) rfl) (pe_fld (pv 0) rfl))) (pa_cons (pe_op op_mulW (pe_fld (pv 0) rfl) (pe_fld (pv 2) rfl)) pa_nil)))))), ?_⟩
    dsimp only [tSeq]
    refine join_any (fun σ' H' => ∃ b p q, σ' = [some (V.ref a), some v, some (V.ref b)] ∧ Same H H' ∧ RatAt C H' b p q ∧ 0 < q ∧ Mid p ∧ Mid q ∧ News C H Q (o * q + p * u) (u * q)) ?rest (fun go => ?_)
    case rest =>
      rintro σ' H' ⟨b, p, q, rfl, s1, ⟨dxb, hb⟩, q0, mp, mq, new⟩
      have ha' := s1 _ _ ha
      refine ⟨_, rfl, a, C, dxa, _, _, rfl, ha', cl, n1, flds_over o u, _, rfl, b, C, dxb, _, _, rfl, hb, cl, n2, flds_under p q, _, _, rfl, rfl, mid_mul mo mq, ?_⟩
      refine ⟨_, rfl, b, C, dxb, _, _, rfl, hb, cl, n1, flds_over p q, _, rfl, a, C, dxa, _, _, rfl, ha', cl, n2, flds_under o u, _, _, rfl, rfl, mid_mul mp mu, _, _, rfl, rfl, ?_⟩
      refine ⟨_, rfl, a, C, dxa, _, _, rfl, ha', cl, n2, flds_under o u, _, rfl, b, C, dxb, _, _, rfl, hb, cl, n2, flds_under p q, _, _, rfl, rfl, mid_mul mu mq, fun x dx hx hdx ne => ?_⟩
      have s2 : Same H' (upd H' dx (.own x)) := same_new hdx
      have hx1 : upd H' dx (.own x) x = none := by rw [upd_ne ne.symm]; exact hx
      have b0 : 0 < u * q := Int.mul_pos u0 q0
      have w1 := mul_mid mo mq
      have w2 := mul_mid mp mu
      have w3 := mul_mid mu mq
      refine ⟨x, dx, .int (o * q + p * u), .int (u * q), rfl, .int _, .int _, upd_same, (fun h => by cases h), fun _ h2 => ?_, fun i j e1 e2 hj => ?_⟩
      · rcases h2 with h2 | h2
        · cases h2
        · have := V.int.inj h2
          omega
      · cases e1
        cases e2
        refine ⟨small_of (Nat.lt_of_le_of_lt (Int.natAbs_add_le _ _) (by rw [show (2402 : Nat) = 2400 + 2 from rfl, Nat.pow_add]; omega)), small_of (Nat.lt_trans w3 (Nat.pow_lt_pow_right (by decide) (by decide))), rfl, ?_⟩
        rw [upd_upd, made_over hj, made_under hj]
        exact new x _ ((s1.trans s2).trans (same_new hx1)) (s1.free hx) ⟨dx, upd_same⟩
    refine ⟨rfl, _, rfl, v, rfl, ?_⟩
    rcases h with ⟨p, q, nv, new⟩ | ⟨t, av, ty, hk, hv, k⟩
    · cases nv with
      | rat h h0 hp hq =>
        obtain ⟨dx, hb⟩ := h
        exact .inl ⟨_, dx, _, rfl, hb, go _ _ ⟨_, p, q, rfl, Same.refl _, ⟨dx, hb⟩, h0, hp, hq, new⟩⟩
      | int hi hk =>
        refine .inr ⟨.type "int", .int _, .x (.base (.int _)), hk, fun i e => ?_, fun hv => by cases hv⟩
        cases e
        refine ⟨hi.small, fun c H' s1 hc hr => go _ _ ⟨c, _, _, rfl, s1, hr, ?_, ?_, ?_, ?_⟩⟩
        · rw [(lov_one _).2]; decide
        · rw [(lov_one _).1]; exact hi
        · rw [(lov_one _).2]; show 1 < 2 ^ 1200; exact Nat.one_lt_two_pow (by decide)
        · rw [(lov_one _).1, (lov_one _).2]; exact new
    · exact .inr ⟨t, av, ty, hk, (fun i e => by subst e; cases hv), fun _ => k⟩
end
end Lw
namespace Lw
open PySem PySem.Spec PyProof.Rows L2

open LamX
abbrev sMul : Stmt := inClass (top 15) 8
abbrev sNeg : Stmt := inClass (top 15) 10
def spMul (K : PySem.W.Frag) (C D : Addr) : Sp := fun vs H Q E => ∃ (a : Addr) (v : V) (o u : Int), vs = [.ref a, v] ∧ NumAt K C H (.ref a) o u ∧
  ((∃ p q, NumAt K C H v p q ∧ News C H Q (o * p) (u * q)) ∨ Refuses K C D v H E)
def spNeg (K : PySem.W.Frag) (C : Addr) : Sp := fun vs H Q _ => ∃ (a : Addr) (o u : Int), vs = [.ref a] ∧ NumAt K C H (.ref a) o u ∧ News C H Q (-o) u
theorem NumAt.ref {K : PySem.W.Frag} {C : Addr} {H : Hp} {a : Addr} {o u : Int} (h : NumAt K C H (.ref a) o u) : RatAt C H a o u ∧ 0 < u ∧ Mid o ∧ Mid u := by
  cases h with
  | rat h h0 hp hq => exact ⟨h, h0, hp, hq⟩
theorem RatAt.same {C : Addr} {H H' : Hp} {a : Addr} {o u : Int} (s : Same H H') (h : RatAt C H a o u) : RatAt C H' a o u := by
  obtain ⟨dx, e⟩ := h
  exact ⟨dx, s _ _ e⟩
section
variable {P : Program} {w : World} {K : PySem.W.Frag} {mg : Str → Option Value} {base : Heap}
/-- what __init__ is handed when both are ints and the lower one is positive -/
theorem made {C D : Addr} {H H' : Hp} {E : XK} {Q : VK} {t b : Int} (s1 : Same H H') (b0 : 0 < b) (st : Small t) (sb : Small b) (new : News C H Q t b) {x dx : Addr} (hx : H' x = none) (hdx : H' dx = none) (ne : dx ≠ x) :
    spRat K C D (.ref x :: ([V.int t, V.int b] ++ [])) (upd (upd H' dx (.own x)) x (.ins C dx [])) (fun v H2 => v = .non ∧ Q (.ref x) H2) E := by
  have s2 : Same H' (upd H' dx (.own x)) := same_new hdx
  have hx1 : upd H' dx (.own x) x = none := by rw [upd_ne ne.symm]; exact hx
  refine ⟨x, dx, .int t, .int b, rfl, .int _, .int _, upd_same, (fun h => by cases h), fun _ h2 => ?_, fun i j e1 e2 hj => ?_⟩
  · rcases h2 with h2 | h2
    · cases h2
    · have := V.int.inj h2
      omega
  · cases e1
    cases e2
    refine ⟨st, sb, rfl, ?_⟩
    rw [upd_upd, made_over hj, made_under hj]
    exact new x _ ((s1.trans s2).trans (same_new hx1)) (s1.free hx) ⟨dx, upd_same⟩
/-- what Ratio.of is handed -/
theorem of_ok {C D : Addr} {H : Hp} {E : XK} {Q : VK} {v : V} (h : (∃ p q, NumAt K C H v p q ∧ ∀ b H', Same H H' → RatAt C H' b p q → 0 < q → Mid p → Mid q → Q (.ref b) H') ∨ Refuses K C D v H E) : spOf K C D [v] H Q E := by
  refine ⟨v, rfl, ?_⟩
  rcases h with ⟨p, q, nv, go⟩ | ⟨t, av, ty, hk, hv, k⟩
  · cases nv with
    | rat h h0 hp hq =>
      obtain ⟨dx, hb⟩ := h
      exact .inl ⟨_, dx, _, rfl, hb, go _ _ (Same.refl _) ⟨dx, hb⟩ h0 hp hq⟩
    | int hi hk =>
      refine .inr ⟨.type "int", .int _, .x (.base (.int _)), hk, fun i e => ?_, fun hv => by cases hv⟩
      cases e
      refine ⟨hi.small, fun c H' s1 hc hr => ?_⟩
      rw [(lov_one _).1, (lov_one _).2] at hr
      exact go c H' s1 hr (by decide) hi (by show 1 < 2 ^ 1200; exact Nat.one_lt_two_pow (by decide))
  · exact .inr ⟨t, av, ty, hk, (fun i e => by subst e; cases hv), fun _ => k⟩
theorem scMul : FnScope ["self", "other", "factor"] ["self", "other"] (C8.fnScope sMul) := C8.fnScope_by (by decide +kernel)
theorem fn_mul {C D f g f1 pO : Addr} {fd fdg fd1 : FuncData} {ds : List Value} (F : C8.Fun K "__mul__" "Ratio.__mul__" sMul f1 fd1) (RM : RatM P w K mg base C D f fd ds) (OM : OfM P w K mg base C D pO g fdg) (cl : Cls K C) (n1 : NoAttr K C "over") (n2 : NoAttr K C "under") : FnOk P w K mg base (L2.CX P w) 7 f1 fd1 ["self", "other"] (spMul K C D) := by
  obtain ⟨oc, od, dV, kV, doc, pm, an, cdv, ct, osl, rfl, lk, hcd⟩ := F.ex
  refine fn_of lk hcd scMul (fun vs H Q E h => ?_) fun A outer s H vs Q E hr h => ?_
  · obtain ⟨a, v, o, u, rfl, _⟩ := h
    rfl
  · obtain ⟨a, v, o, u, rfl, na, h⟩ := h
    obtain ⟨⟨dxa, ha⟩, u0, mo, mu⟩ := na.ref
    refine ⟨_, (pss_cons (ps_set (i := 2) scMul.nd rfl (Or.inl rfl) (pe_static (pe_glob (v := .ref C) (by rfl) RM.hm rfl) OM.S OM.F (hr.mono (by decide)) OM.b .nil (passes_call (takes_of rfl rfl rfl rfl) (fun _ _ _ _ z => z)) (pa_cons (pv 1) pa_nil)))
  (pss_one (ps_ret (pe_make RM.M RM.F (hr.mono (by decide)) (by rfl) RM.hm RM.b2 .nil (passes_call (takes_of rfl rfl rfl rfl) (fun _ _ _ _ z => z)) (pa_cons (pe_op op_mulW (pe_fld (pv 0) rfl) (pe_fld (pv 2) rfl)) (pa_cons (pe_op op_mulW (pe_fld (pv 0) rfl) (pe_fld (pv 2) rfl)) pa_nil)))))), ?_⟩
    refine ⟨rfl, _, rfl, of_ok (h.imp (fun ⟨p, q, nv, new⟩ => ⟨p, q, nv, fun b H' s1 ⟨dxb, hb⟩ q0 mp mq => ?_⟩) id)⟩
    have ha' := s1 _ _ ha
    refine ⟨_, rfl, a, C, dxa, _, _, rfl, ha', cl, n1, flds_over o u, _, rfl, b, C, dxb, _, _, rfl, hb, cl, n1, flds_over p q, _, _, rfl, rfl, mid_mul mo mp, ?_⟩
    refine ⟨_, rfl, a, C, dxa, _, _, rfl, ha', cl, n2, flds_under o u, _, rfl, b, C, dxb, _, _, rfl, hb, cl, n2, flds_under p q, _, _, rfl, rfl, mid_mul mu mq, fun x dx hx hdx ne => ?_⟩
    exact made s1 (Int.mul_pos u0 q0) (small_of (Nat.lt_trans (mul_mid mo mp) (Nat.pow_lt_pow_right (by decide) (by decide)))) (small_of (Nat.lt_trans (mul_mid mu mq) (Nat.pow_lt_pow_right (by decide) (by decide)))) new hx hdx ne
theorem scNeg : FnScope ["self"] ["self"] (C8.fnScope sNeg) := C8.fnScope_by (by decide +kernel)
theorem fn_neg {C D f f1 : Addr} {fd fd1 : FuncData} {ds : List Value} (F : C8.Fun K "__neg__" "Ratio.__neg__" sNeg f1 fd1) (RM : RatM P w K mg base C D f fd ds) (cl : Cls K C) (n1 : NoAttr K C "over") (n2 : NoAttr K C "under") : FnOk P w K mg base (L2.CX P w) 5 f1 fd1 ["self"] (spNeg K C) := by
  obtain ⟨oc, od, dV, kV, doc, pm, an, cdv, ct, osl, rfl, lk, hcd⟩ := F.ex
  refine fn_of lk hcd scNeg (fun vs H Q E h => ?_) fun A outer s H vs Q E hr h => ?_
  · obtain ⟨a, o, u, rfl, _⟩ := h
    rfl
  · obtain ⟨a, o, u, rfl, na, new⟩ := h
    obtain ⟨⟨dxa, ha⟩, u0, mo, mu⟩ := na.ref
    refine ⟨_, (pss_one (ps_ret (pe_make RM.M RM.F (hr.mono (by decide)) (by rfl) RM.hm RM.b2 .nil (passes_call (takes_of rfl rfl rfl rfl) (fun _ _ _ _ z => z)) (pa_cons (pe_un un_neg (pe_fld (pv 0) rfl)) (pa_cons (pe_fld (pv 0) rfl) pa_nil))))), ?_⟩
    refine ⟨_, rfl, a, C, dxa, _, _, rfl, ha, cl, n1, flds_over o u, _, rfl, _, rfl, a, C, dxa, _, _, rfl, ha, cl, n2, flds_under o u, fun x dx hx hdx ne => ?_⟩
    exact made (Same.refl _) u0 (by have := mo.small; unfold Small at *; rw [Int.natAbs_neg]; exact this) mu.small new hx hdx ne
end
end Lw
namespace Lw
open PySem PySem.Spec PyProof.Rows L2

/-! ### the same operators, their methods may raise -/
/-- a method of the class that may raise what E tells -/
structure MetX (P : Program) (w : World) (K : PySem.W.Frag) (mg : Str → Option Value) (base : Heap) (k : Nat) (C : Addr) (m : Str) (sp : Sp) : Prop where
  ex : ∃ (g : Addr) (fd : FuncData) (ps : List Str), Meth K C m g ∧ FnOk P w K mg base (L2.CX P w) k g fd ps sp ∧ Binds K fd ps []
section
variable {X : Cx} {C f : Addr} {k j : Nat} {sp : Sp} {E : XK} {pins : List (Addr × Obj)} {σ : L2.St} {H : Hp} {s : Shared}
theorem run_met {m : Str} {us : List Value} {vs : List V} {Q : VK} (M : MetX X.prog X.w X.K X.mg X.base k C m sp) (hx : Passes (L2.CX X.prog X.w) X E) (hr : Room j X.A) (hk : k ≤ j) (I : Inv X pins σ H s) (r : Vals vs us) (q : sp vs H Q E) :
    ∃ g : Addr, Meth X.K C m g ∧ wpAny (model X.prog X.w) X.A (call (.ref g) us) (PySem.W.CmpBack (EP X pins σ Q)) X.xe s ∧ wpAny (model X.prog X.w) X.A (call (.ref g) us) (EP X pins σ Q) X.xe s := by
  obtain ⟨g, fd, ps, hm, F, b⟩ := M.ex
  have q' : sp (vs ++ []) H Q E := by rw [List.append_nil]; exact q
  have ran := run_fn F (hr.mono hk) b .nil hx I r q'
  refine ⟨g, hm, wpAny_mono ran (fun w s' z => ?_) (fun _ _ x => x), ran⟩
  obtain ⟨z', H', I', rz, qz⟩ := z
  exact SlX.cmpback rz ⟨z', H', I', rz, qz⟩
def rSameX (C : Addr) (sp : Sp) (E : XK) : R2 := fun x y H Q => ∃ a dx fs b dy gs, x = .ref a ∧ y = .ref b ∧ H a = some (.ins C dx fs) ∧ H b = some (.ins C dy gs) ∧ sp [x, y] H Q E
theorem op_sameX {op : Operator} (M : MetX X.prog X.w X.K X.mg X.base k C (PySem.dunder op.info.2) sp) (hx : Passes (L2.CX X.prog X.w) X E) (hc : PySem.W.selfFirst X.K C = true) (hr : Room j X.A) (hk : k ≤ j) : OpR X (binaryOp op) (rSameX C sp E) := by
  intro pins s σ H x y v u Q I rx ry h
  obtain ⟨a, dx, fs, b, dy, gs, rfl, rfl, ha, hb, q⟩ := h
  cases (show v = Value.ref a from rx)
  cases (show u = Value.ref b from ry)
  obtain ⟨_, _, J⟩ := ins_at I ha
  obtain ⟨_, _, J'⟩ := ins_at I hb
  obtain ⟨g, hm, w, _⟩ := run_met (us := [.ref a, .ref b]) (vs := [.ref a, .ref b]) M hx hr hk I (.cons rfl (.cons rfl .nil)) q
  obtain ⟨m, hF⟩ := I.fr
  exact PySem.W.binop_K hF I.ok.mod.kin J J'.type hc hm.at_ hm.fn w
def rBesideX (K : PySem.W.Frag) (C : Addr) (op : Operator) (sp : Sp) (E : XK) : R2 := fun x y H Q => ∃ a dx fs T, x = .ref a ∧ H a = some (.ins C dx fs) ∧ Kind y T ∧ Beside K C op T ∧ sp [x, y] H Q E
theorem op_besideX {op : Operator} (M : MetX X.prog X.w X.K X.mg X.base k C (PySem.dunder op.info.2) sp) (hx : Passes (L2.CX X.prog X.w) X E) (hr : Room j X.A) (hk : k ≤ j) : OpR X (binaryOp op) (rBesideX X.K C op sp E) := by
  intro pins s σ H x y v u Q I rx ry h
  obtain ⟨a, dx, fs, T, rfl, ha, hT, hB, q⟩ := h
  cases (show v = Value.ref a from rx)
  obtain ⟨_, _, J⟩ := ins_at I ha
  obtain ⟨g, hm, w, _⟩ := run_met (us := [.ref a, u]) (vs := [.ref a, y]) M hx hr hk I (.cons rfl (.cons ry .nil)) q
  obtain ⟨m, hF⟩ := I.fr
  obtain ⟨rc, r1, r2⟩ := hB.back
  obtain ⟨fo, f1⟩ := hB.ahead
  obtain ⟨ro, o1⟩ := hB.behind
  exact PySem.W.ksp_binT hF I.ok.mod.kin J (hT.type ry) hB.first hm.at_ hm.fn r1 r2 f1 o1 hB.sub w
def rSignX (C : Addr) (sp : Sp) (E : XK) : V → Hp → VK → Prop := fun x H Q => ∃ a dx fs, x = .ref a ∧ H a = some (.ins C dx fs) ∧ sp [x] H Q E
theorem un_signX (M : MetX X.prog X.w X.K X.mg X.base k C "__neg__" sp) (hx : Passes (L2.CX X.prog X.w) X E) (hr : Room j X.A) (hk : k ≤ j) : UnR X (unaryOp .USub) (rSignX C sp E) := by
  intro pins s σ H x v Q I rx h
  obtain ⟨a, dx, fs, rfl, ha, q⟩ := h
  cases (show v = Value.ref a from rx)
  obtain ⟨_, _, J⟩ := ins_at I ha
  obtain ⟨g, hm, _, w⟩ := run_met (us := [.ref a]) (vs := [.ref a]) M hx hr hk I (.cons rfl .nil) q
  obtain ⟨m, hF⟩ := I.fr
  exact PySem.W.ksp_neg hF I.ok.mod.kin J hm.at_ hm.fn w
end
end Lw
namespace Lw
open PySem PySem.Spec PyProof.Rows L2

section
variable {X : Cx} {C f : Addr} {k j : Nat} {sp : Sp} {E : XK}
def rRightX (C : Addr) (P : V → Prop) (sp : Sp) (E : XK) : R2 := fun x y H Q => ∃ a dx fs, P x ∧ y = .ref a ∧ H a = some (.ins C dx fs) ∧ sp [y, x] H Q E
theorem op_rightIX {op : Operator} {id : String} (M : MetX X.prog X.w X.K X.mg X.base k C (dunderR op.info.2) sp) (hx : Passes (L2.CX X.prog X.w) X E) (hc : PySem.W.selfFirst X.K C = true) (hs : PySem.W.findIn X.K (.ref C) (PySem.dunder op.info.2) = some (some (.ref f))) (hL : fillsNumberSlot (.type "int") op.info.2 = pure true)
    (hsub : PySem.W.subIn X.K (.ref C) (.type "int") = some false) (sl : Slot "int" (PySem.dunder op.info.2) id) (hd : ∀ {A : Around} {E : Value → Shared → Prop} {s : Shared} {i : Int} {t : Tok} {x : Addr} {o : Obj} {Q' : Value → Shared → Prop}, s.heap.get? x = some o → o.data = .plain → Q' .notImplemented s → wpAny (model X.prog X.w) A (call (.builtin id) [.int i t, .ref x]) Q' E s)
    (hr : Room j X.A) (hk : k ≤ j) : OpR X (binaryOp op) (rRightX C (fun x => ∃ i, x = .int i) sp E) := by
  intro pins s σ H x y v u Q I rx ry h
  obtain ⟨a, dx, fs, ⟨i, rfl⟩, rfl, ha, q⟩ := h
  cases (show u = Value.ref a from ry)
  obtain ⟨t, rfl⟩ := (show ∃ t, v = Value.int i t from rx)
  obtain ⟨ox, od, J, h1, h2⟩ := ins_plain I ha
  obtain ⟨g, hm, w, _⟩ := run_met (us := [.ref a, .int i t]) (vs := [.ref a, .int i]) M hx hr hk I (.cons rfl (.cons ⟨t, rfl⟩ .nil)) q
  exact Ow.right_number I.kIn J rfl (typeIs_int s i t) hc hs hm.at_ hm.fn hL hsub sl (fun Q' z => hd h1 h2 z) w
theorem op_rightBX {op : Operator} {T : String} (M : MetX X.prog X.w X.K X.mg X.base k C (dunderR op.info.2) sp) (hx : Passes (L2.CX X.prog X.w) X E) (hc : PySem.W.selfFirst X.K C = true) (hs : PySem.W.findIn X.K (.ref C) (PySem.dunder op.info.2) = some (some (.ref f))) (hL : fillsNumberSlot (.type T) op.info.2 = pure false)
    (hr : Room j X.A) (hk : k ≤ j) : OpR X (binaryOp op) (rRightX C (fun x => Kind x T) sp E) := by
  intro pins s σ H x y v u Q I rx ry h
  obtain ⟨a, dx, fs, hT, rfl, ha, q⟩ := h
  cases (show u = Value.ref a from ry)
  obtain ⟨ox, od, J, h1, h2⟩ := ins_plain I ha
  obtain ⟨g, hm, w, _⟩ := run_met (us := [.ref a, v]) (vs := [.ref a, x]) M hx hr hk I (.cons rfl (.cons rx .nil)) q
  exact Ow.right_bare I.kIn J (PySem.W.Looks.of_pure (hT.type rx)) hc hs hm.at_ hm.fn hL w
theorem iop_sameX {op : Operator} (M : MetX X.prog X.w X.K X.mg X.base k C (PySem.dunder op.info.2) sp) (hx : Passes (L2.CX X.prog X.w) X E) (hc : PySem.W.selfFirst X.K C = true) (ni : NoInplace X.K C op) (hr : Room j X.A) (hk : k ≤ j) : OpR X (inplaceOp op) (rSameX C sp E) := by
  intro pins s σ H x y v u Q I rx ry h
  obtain ⟨a, dx, fs, b, dy, gs, rfl, rfl, ha, hb, q⟩ := h
  cases (show v = Value.ref a from rx)
  cases (show u = Value.ref b from ry)
  obtain ⟨_, _, J⟩ := ins_at I ha
  obtain ⟨_, _, J'⟩ := ins_at I hb
  obtain ⟨g, hm, w, _⟩ := run_met (us := [.ref a, .ref b]) (vs := [.ref a, .ref b]) M hx hr hk I (.cons rfl (.cons rfl .nil)) q
  obtain ⟨cd, h1, h2⟩ := ni.mro
  exact Ow.inplace_of I.kIn J h1 h2 ni.own ni.obj (Ow.half_same I.kIn J J'.type hc hm.at_ hm.fn w)
theorem iop_besideX {op : Operator} (M : MetX X.prog X.w X.K X.mg X.base k C (PySem.dunder op.info.2) sp) (hx : Passes (L2.CX X.prog X.w) X E) (ni : NoInplace X.K C op) (hr : Room j X.A) (hk : k ≤ j) : OpR X (inplaceOp op) (rBesideX X.K C op sp E) := by
  intro pins s σ H x y v u Q I rx ry h
  obtain ⟨a, dx, fs, T, rfl, ha, hT, hB, q⟩ := h
  cases (show v = Value.ref a from rx)
  obtain ⟨_, _, J⟩ := ins_at I ha
  obtain ⟨g, hm, w, _⟩ := run_met (us := [.ref a, u]) (vs := [.ref a, y]) M hx hr hk I (.cons rfl (.cons ry .nil)) q
  obtain ⟨cd, h1, h2⟩ := ni.mro
  obtain ⟨rc, r1, r2⟩ := hB.back
  obtain ⟨fo, f1⟩ := hB.ahead
  obtain ⟨ro, o1⟩ := hB.behind
  exact Ow.inplace_of I.kIn J h1 h2 ni.own ni.obj (Ow.half_left I.kIn J (PySem.W.Looks.of_pure (hT.type ry)) hB.first hm.at_ hm.fn r1 r2 f1 o1 hB.sub w)
end
end Lw
namespace Lw.Ow
open PySem PySem.Spec PyProof.Rows PySem.W PySem.Calls

/-! ### the two halves of an operator, any built-in type beside -/
section
variable {prog : Program} {w : World} {A : Around} {E : Value → Shared → Prop} {s : Shared} {K : Frag} {x C f g : Addr} {ox : Obj} {od : Option Obj}
theorem half_bare {nm : String} {a : Value} {T : String} {Q : Value → Shared → Prop} (X : K.In s.heap) (I : InstAt s.heap x ox C od) (ht : Looks (model prog w) s.heap (typeOf a) (.type T)) (hc : selfFirst K C = true) (hs : findIn K (.ref C) (PySem.dunder nm) = some (some (.ref f))) (hr : findIn K (.ref C) (dunderR nm) = some (some (.ref g)))
    (hg : isFn K (.ref g) = true) (hL : fillsNumberSlot (.type T) nm = pure false) (h : wpAny (model prog w) A (call (.ref g) [.ref x, a]) (PySem.W.CmpBack Q) E s) : wpAny (model prog w) A (binaryOp1 nm a (.ref x)) (Told Q) E s := by
  obtain ⟨cd, rest, hcd, hm⟩ := ksp_first hc
  have one := ksp_try X I hr hg h
  obtain ⟨hh, gg, d, tt, os⟩ := s
  have L2 : Looks (model prog w) hh (typeOf (.ref x)) (.ref C) := I.type
  have L3 : Looks (model prog w) hh (fillsNumberSlot (.ref C) nm) true := fills_K X hcd hm hs
  have hne : (Value.type T == Value.ref C) = false := Bool.eq_false_iff.mpr fun q => by cases beq_iff_eq.mp q
  unfold binaryOp1
  refine wpAny_bind (ht.at (wpAny_bind (L2.at (wpAny_bind (wpAny_of_eq hL ?_)))))
  simp only [hne, Bool.false_eq_true, if_false]
  refine wpAny_bind (L3.at ?_)
  simp only [Bool.false_and, Bool.false_eq_true, if_false, pure_bind, Bool.not_false, Bool.and_true, if_true]
  refine wpAny_bind (wpAny_mono one (fun r s' hr' => ?_) fun _ _ e => e)
  obtain ⟨v, rfl, hq⟩ := hr'
  exact wpAny_bind (wpAny_rule (wpAny_pure ⟨v, rfl, hq⟩))
theorem op_half {op : Operator} {a b : Value} {Q : Value → Shared → Prop} (h : wpAny (model prog w) A (binaryOp1 op.info.2 a b) (Told Q) E s) : wpAny (model prog w) A (binaryOp op a b) Q E s := by
  rcases hi : op.info with ⟨sym, nm⟩
  rw [hi] at h
  dsimp only at h
  simp only [binaryOp, hi]
  refine wpAny_holding (wpAny_bind (wpAny_mono h (fun r s' z => ?_) fun _ _ e => e))
  obtain ⟨v, rfl, hq⟩ := z
  exact wpAny_pure hq
theorem inplace_bare {op : Operator} {a b : Value} {T : String} {Q : Value → Shared → Prop} (ht : Looks (model prog w) s.heap (typeOf a) (.type T)) (hI : fillsInplaceSlot (.type T) op.info.2 (op == .Add) = pure false) (h : wpAny (model prog w) A (binaryOp1 op.info.2 a b) (Told Q) E s) : wpAny (model prog w) A (inplaceOp op a b) Q E s := by
  unfold inplaceOp
  refine wpAny_holding ?_
  refine wpAny_bind (ht.here (wpAny_bind (wpAny_of_eq hI ?_)))
  simp only [Bool.false_eq_true, if_false, pure_bind]
  refine wpAny_bind (wpAny_mono h (fun r s' z => ?_) fun _ _ e => e)
  obtain ⟨v, rfl, hq⟩ := z
  exact wpAny_pure hq
theorem binary_noB {nm : String} {f : Int → Int → Sem Fin} {b : Bool} {x : Addr} {o : Obj} {Q : Value → Shared → Prop} (ho : s.heap.get? x = some o) (hp : o.data = .plain) (h : Q .notImplemented s) :
    wpAny (model prog w) A (Builtin.Int.intBinary nm f false ⟨[.bool b, .ref x], []⟩) (fun fin s' => ∃ v, fin = .done (.ret v) ∧ Q v s') E s := by
  unfold Builtin.Int.intBinary
  refine wpAny_bind (wpAny_of_eq (a := (Value.bool b, [Value.ref x])) rfl ?_)
  refine wpAny_bind (wpAny_of_eq (a := (if b = true then (1 : Int) else 0)) (by cases b <;> rfl) ?_)
  refine wpAny_bind ?_
  show wpAny _ _ (load x >>= fun ob => match ob.data with | .prim (.int i _) => pure (some i) | _ => pure none) _ _ _
  refine wpAny_bind (wpAny_load ho ?_)
  rw [hp]
  exact wpAny_pure (wpAny_bind (wpAny_rule (wpAny_pure ⟨_, rfl, h⟩)))
theorem slot_bool_add : Slot "bool" (PySem.dunder "add") "int.__add__" :=
  .of (owner := "int") (n := "__add__") (by rw [typeLookup_type, builtinLookup_eq_fast]; kernel_rfl) (by decide +kernel) (by decide +kernel) (by decide +kernel)
    (by first | exact .inl (by decide +kernel) | exact .inr (by decide +kernel)) (by rw [isSubtype_type]; kernel_rfl)
theorem slot_bool_sub : Slot "bool" (PySem.dunder "sub") "int.__sub__" :=
  .of (owner := "int") (n := "__sub__") (by rw [typeLookup_type, builtinLookup_eq_fast]; kernel_rfl) (by decide +kernel) (by decide +kernel) (by decide +kernel)
    (by first | exact .inl (by decide +kernel) | exact .inr (by decide +kernel)) (by rw [isSubtype_type]; kernel_rfl)
theorem slot_bool_mul : Slot "bool" (PySem.dunder "mul") "int.__mul__" :=
  .of (owner := "int") (n := "__mul__") (by rw [typeLookup_type, builtinLookup_eq_fast]; kernel_rfl) (by decide +kernel) (by decide +kernel) (by decide +kernel)
    (by first | exact .inl (by decide +kernel) | exact .inr (by decide +kernel)) (by rw [isSubtype_type]; kernel_rfl)
theorem noB_add {b : Bool} {x : Addr} {o : Obj} {Q : Value → Shared → Prop} (ho : s.heap.get? x = some o) (hp : o.data = .plain) (h : Q .notImplemented s) : wpAny (model prog w) A (call (.builtin "int.__add__") [.bool b, .ref x]) Q E s :=
  wpAny_call_entry slot_bool_add rfl F.entry_int_add (binary_noB ho hp h) (F.args_int_add_2 _ _)
theorem noB_sub {b : Bool} {x : Addr} {o : Obj} {Q : Value → Shared → Prop} (ho : s.heap.get? x = some o) (hp : o.data = .plain) (h : Q .notImplemented s) : wpAny (model prog w) A (call (.builtin "int.__sub__") [.bool b, .ref x]) Q E s :=
  wpAny_call_entry slot_bool_sub rfl F.entry_int_sub (binary_noB ho hp h) (F.args_int_sub_2 _ _)
theorem noB_mul {b : Bool} {x : Addr} {o : Obj} {Q : Value → Shared → Prop} (ho : s.heap.get? x = some o) (hp : o.data = .plain) (h : Q .notImplemented s) : wpAny (model prog w) A (call (.builtin "int.__mul__") [.bool b, .ref x]) Q E s :=
  wpAny_call_entry slot_bool_mul rfl F.entry_int_mul (binary_noB ho hp h) (F.args_int_mul_2 _ _)
end
/-! ### what the table of built-in types tells -/
def BTs : List String := ["int", "bool", "NoneType", "str", "tuple", "list", "dict"]
def Bares : List String := ["NoneType", "str", "tuple", "list", "dict"]
def Nms : List String := ["add", "sub", "mul"]
theorem bt_find {T nm : String} (h : T ∈ BTs) (h2 : nm ∈ Nms) : (∃ fo, fastLookup T (PySem.dunder nm) = some fo) ∧ ∃ ro, fastLookup T (dunderR nm) = some ro := by
  have all : (BTs.all fun T => Nms.all fun nm => (fastLookup T (PySem.dunder nm)).isSome && (fastLookup T (dunderR nm)).isSome) = true := by decide +kernel
  have z := List.all_eq_true.mp (List.all_eq_true.mp all T h) nm h2
  rw [Bool.and_eq_true] at z
  exact ⟨Option.isSome_iff_exists.mp z.1, Option.isSome_iff_exists.mp z.2⟩
theorem bt_sub {K : Frag} {C : Addr} {T : String} (h : T ∈ BTs) : subIn K (.type T) (.ref C) = some false := by
  simp only [BTs, List.mem_cons, List.not_mem_nil, or_false] at h
  rcases h with rfl | rfl | rfl | rfl | rfl | rfl | rfl <;> kernel_rfl
theorem bt_bare {T nm : String} (h : T ∈ Bares) (h2 : nm ∈ Nms) : fillsNumberSlot (.type T) nm = pure false := by
  simp only [Bares, List.mem_cons, List.not_mem_nil, or_false] at h
  simp only [Nms, List.mem_cons, List.not_mem_nil, or_false] at h2
  rcases h with rfl | rfl | rfl | rfl | rfl <;> rcases h2 with rfl | rfl | rfl <;>
  · simp only [fillsNumberSlot, typeLookup_type, builtinLookup_eq_fast]
    kernel_rfl
theorem bt_number {T nm : String} (h : T = "int" ∨ T = "bool") (h2 : nm ∈ Nms) : fillsNumberSlot (.type T) nm = pure true := by
  simp only [Nms, List.mem_cons, List.not_mem_nil, or_false] at h2
  rcases h with rfl | rfl <;> rcases h2 with rfl | rfl | rfl <;>
  · simp only [fillsNumberSlot, typeLookup_type, builtinLookup_eq_fast]
    kernel_rfl
end Lw.Ow
namespace Lw
open PySem PySem.Spec PyProof.Rows L2
end Lw
namespace Lw
open PySem PySem.Spec PyProof.Rows L2

/-! ### the least form is that of the fraction alone -/
theorem sg_abs (b : Int) : sg b * b = (b.natAbs : Int) := by unfold sg; split <;> omega
theorem sg_nat (b t : Int) : (sg b * t).natAbs = t.natAbs := by unfold sg; split <;> omega
theorem lov_rat {t b : Int} (hb : b ≠ 0) : lov t b = (mkRat (sg b * t) b.natAbs).num ∧ lun t b = ((mkRat (sg b * t) b.natAbs).den : Int) := by
  have hn : b.natAbs ≠ 0 := by omega
  rw [Rat.num_mkRat, Rat.den_mkRat, if_neg hn, if_neg hn, sg_nat, Nat.gcd_comm b.natAbs]
  unfold lov lun
  rw [sg_abs]
  exact ⟨rfl, by rw [Int.natCast_ediv]⟩
theorem lov_eq {t b t' b' : Int} (hb : b ≠ 0) (hb' : b' ≠ 0) (e : t * b' = t' * b) : lov t b = lov t' b' ∧ lun t b = lun t' b' := by
  have z : mkRat (sg b * t) b.natAbs = mkRat (sg b' * t') b'.natAbs := by
    rw [Rat.mkRat_eq_iff (by omega) (by omega), ← sg_abs b, ← sg_abs b']
    grind
  rw [(lov_rat hb).1, (lov_rat hb).2, (lov_rat hb').1, (lov_rat hb').2, z]
  exact ⟨rfl, rfl⟩
theorem lov_cross {t b : Int} (hb : b ≠ 0) : lov t b * b = t * lun t b := by
  have hg : (0 : Int) < ((Nat.gcd t.natAbs b.natAbs : Nat) : Int) := by
    have := Nat.gcd_pos_of_pos_right t.natAbs (show 0 < b.natAbs by omega)
    omega
  obtain ⟨x, hx⟩ : ((Nat.gcd t.natAbs b.natAbs : Nat) : Int) ∣ t := Int.ofNat_dvd_left.mpr (Nat.gcd_dvd_left _ _)
  obtain ⟨y, hy⟩ : ((Nat.gcd t.natAbs b.natAbs : Nat) : Int) ∣ b := Int.ofNat_dvd_left.mpr (Nat.gcd_dvd_right _ _)
  unfold lov lun
  generalize sg b = s
  generalize ((Nat.gcd t.natAbs b.natAbs : Nat) : Int) = g at hg hx hy
  have e1 : s * t / g = s * x := by rw [hx, show s * (g * x) = g * (s * x) by grind, Int.mul_ediv_cancel_left _ (by omega)]
  have e2 : s * b / g = s * y := by rw [hy, show s * (g * y) = g * (s * y) by grind, Int.mul_ediv_cancel_left _ (by omega)]
  rw [e1, e2]
  grind
theorem lov_le (t b : Int) : (lov t b).natAbs ≤ t.natAbs := by
  unfold lov
  have h := Int.natAbs_ediv_le_natAbs (sg b * t) ((Nat.gcd t.natAbs b.natAbs : Nat) : Int)
  rw [sg_nat] at h
  exact h
theorem lun_le (t b : Int) : (lun t b).natAbs ≤ b.natAbs := by
  unfold lun
  have h := Int.natAbs_ediv_le_natAbs (sg b * b) ((Nat.gcd t.natAbs b.natAbs : Nat) : Int)
  rw [sg_nat] at h
  exact h
/-- the least form of a least form is this form -/
theorem lov_idem {t b : Int} (hb : b ≠ 0) : lov (lov t b) (lun t b) = lov t b ∧ lun (lov t b) (lun t b) = lun t b := by
  have := lun_pos (t := t) hb
  obtain ⟨e1, e2⟩ := lov_eq (t := lov t b) (b := lun t b) (t' := t) (b' := b) (by omega) hb (by rw [lov_cross hb])
  exact ⟨e1, e2⟩
end Lw
namespace Lw
open PySem PySem.Spec PyProof.Rows L2

/-- half an operator's reading: what binaryOp1 tells -/
def HalfR (X : Cx) (nm : String) (r : R2) : Prop := ∀ (pins : List (Addr × Obj)) (s : Shared) (σ : L2.St) (H : Hp) (x y : V) (v u : Value) (Q : VK), Inv X pins σ H s → RelV x v → RelV y u → r x y H Q →
  wpAny (model X.prog X.w) X.A (binaryOp1 nm v u) (Ow.Told (EP X pins σ Q)) X.xe s
/-- a value of a built-in type that an own operator may stand beside -/
inductive Bt (K : PySem.W.Frag) (H : Hp) : V → String → Prop where
  | int (i : Int) : Bt K H (.int i) "int"
  | bl (b : Bool) : Bt K H (.bl b) "bool"
  | bare {x : V} {T : String} (h : TyX K H x (.type T)) (hT : T ∈ Ow.Bares) : Bt K H x T
theorem Bt.tyx {K : PySem.W.Frag} {H : Hp} {x : V} {T : String} (h : Bt K H x T) : TyX K H x (.type T) ∧ T ∈ Ow.BTs := by
  cases h with
  | int i => exact ⟨.base (.int i), by decide⟩
  | bl b => exact ⟨.base (.bl b), by decide⟩
  | bare h hT => exact ⟨h, by unfold Ow.Bares at hT; unfold Ow.BTs; simp only [List.mem_cons, List.not_mem_nil, or_false] at hT ⊢; rcases hT with h | h | h | h | h <;> simp [h]⟩
theorem Bt.same {K : PySem.W.Frag} {H H' : Hp} {x : V} {T : String} (s : Same H H') (h : Bt K H x T) : Bt K H' x T := by
  cases h with
  | int i => exact .int i
  | bl b => exact .bl b
  | bare h hT => exact .bare (Lw.TyX.same s h) hT
section
variable {X : Cx} {C f : Addr} {k j : Nat} {sp : Sp} {E : XK} {pins : List (Addr × Obj)} {σ : L2.St} {H : Hp} {s : Shared} {nm : String} {r r1 r2 : R2}
theorem Bt.looks {x : V} {T : String} {u : Value} (I : Inv X pins σ H s) (rx : RelV x u) (h : Bt X.K H x T) : PySem.W.Looks (model X.prog X.w) s.heap (typeOf u) (.type T) := by
  obtain ⟨W, Z, p, _⟩ := kit_of I rx h.tyx.1
  exact Z.ty _ _ I.kIn p
theorem half_or (h1 : HalfR X nm r1) (h2 : HalfR X nm r2) : HalfR X nm (fun x y H Q => r1 x y H Q ∨ r2 x y H Q) := fun pins s σ H x y v u Q I rx ry h => h.elim (h1 pins s σ H x y v u Q I rx ry) (h2 pins s σ H x y v u Q I rx ry)
theorem half_imp {r' : R2} (h : HalfR X nm r) (g : ∀ x y H Q, r' x y H Q → r x y H Q) : HalfR X nm r' := fun pins s σ H x y v u Q I rx ry z => h pins s σ H x y v u Q I rx ry (g _ _ _ _ z)
theorem op_of {op : Operator} (h : HalfR X op.info.2 r) : OpR X (binaryOp op) r := fun pins s σ H x y v u Q I rx ry z => Ow.op_half (h pins s σ H x y v u Q I rx ry z)
/-- what op= asks of the value on the left -/
inductive LeftNo (C : Addr) (H : Hp) : V → Prop where
  | own {a dx : Addr} {fs : List (Str × V)} (h : H a = some (.ins C dx fs)) : LeftNo C H (.ref a)
  | int (i : Int) : LeftNo C H (.int i)
theorem iop_of {op : Operator} (h : HalfR X op.info.2 r) (ni : NoInplace X.K C op) (hI : fillsInplaceSlot (.type "int") op.info.2 (op == .Add) = pure false) : OpR X (inplaceOp op) (fun x y H Q => LeftNo C H x ∧ r x y H Q) := by
  intro pins s σ H x y v u Q I rx ry z
  have w := h pins s σ H x y v u Q I rx ry z.2
  cases z.1 with
  | own ha =>
    cases (show v = Value.ref _ from rx)
    obtain ⟨_, _, J⟩ := ins_at I ha
    obtain ⟨cd, h1, h2⟩ := ni.mro
    exact Ow.inplace_of I.kIn J h1 h2 ni.own ni.obj w
  | int i =>
    obtain ⟨t, rfl⟩ := (show ∃ t, v = Value.int i t from rx)
    exact Ow.inplace_bare (PySem.W.Looks.of_pure rfl) hI w
def rOwn (C : Addr) (sp : Sp) (E : XK) : R2 := fun x y H Q => ∃ a dx fs b dy gs, x = .ref a ∧ y = .ref b ∧ H a = some (.ins C dx fs) ∧ H b = some (.ins C dy gs) ∧ sp [x, y] H Q E
theorem half_own (M : MetX X.prog X.w X.K X.mg X.base k C (PySem.dunder nm) sp) (hx : Passes (L2.CX X.prog X.w) X E) (hc : PySem.W.selfFirst X.K C = true) (hr : Room j X.A) (hk : k ≤ j) : HalfR X nm (rOwn C sp E) := by
  intro pins s σ H x y v u Q I rx ry h
  obtain ⟨a, dx, fs, b, dy, gs, rfl, rfl, ha, hb, q⟩ := h
  cases (show v = Value.ref a from rx)
  cases (show u = Value.ref b from ry)
  obtain ⟨_, _, J⟩ := ins_at I ha
  obtain ⟨_, _, J'⟩ := ins_at I hb
  obtain ⟨g, hm, w, _⟩ := run_met (us := [.ref a, .ref b]) (vs := [.ref a, .ref b]) M hx hr hk I (.cons rfl (.cons rfl .nil)) q
  exact Ow.half_same I.kIn J J'.type hc hm.at_ hm.fn w
def rLeft (K : PySem.W.Frag) (C : Addr) (sp : Sp) (E : XK) : R2 := fun x y H Q => ∃ a dx fs T, x = .ref a ∧ H a = some (.ins C dx fs) ∧ Bt K H y T ∧ sp [x, y] H Q E
theorem half_lft (M : MetX X.prog X.w X.K X.mg X.base k C (PySem.dunder nm) sp) (hx : Passes (L2.CX X.prog X.w) X E) (hc : PySem.W.selfFirst X.K C = true) (hb : ∃ g : Addr, PySem.W.findIn X.K (.ref C) (dunderR nm) = some (some (.ref g))) (hn : nm ∈ Ow.Nms) (hr : Room j X.A) (hk : k ≤ j) : HalfR X nm (rLeft X.K C sp E) := by
  intro pins s σ H x y v u Q I rx ry h
  obtain ⟨a, dx, fs, T, rfl, ha, hT, q⟩ := h
  cases (show v = Value.ref a from rx)
  obtain ⟨_, _, J⟩ := ins_at I ha
  obtain ⟨g, hm, w, _⟩ := run_met (us := [.ref a, u]) (vs := [.ref a, y]) M hx hr hk I (.cons rfl (.cons ry .nil)) q
  obtain ⟨g2, h2⟩ := hb
  have hB := hT.tyx.2
  obtain ⟨⟨fo, h3⟩, ⟨ro, h4⟩⟩ := Ow.bt_find hB hn
  exact Ow.half_left I.kIn J (hT.looks I ry) hc hm.at_ hm.fn h2 (.inr ⟨g2, rfl⟩) h3 h4 (Ow.bt_sub hB) w
def rRght (K : PySem.W.Frag) (C : Addr) (sp : Sp) (E : XK) : R2 := fun x y H Q => ∃ a dx fs T, y = .ref a ∧ H a = some (.ins C dx fs) ∧ Bt K H x T ∧ sp [y, x] H Q E
/-- the int's own methods have no answer -/
structure NoNum (nm : String) : Prop where
  i : ∃ id, Slot "int" (PySem.dunder nm) id ∧ ∀ {prog : Program} {w : World} {A : Around} {E : Value → Shared → Prop} {s : Shared} {i : Int} {t : Tok} {x : Addr} {o : Obj} {Q' : Value → Shared → Prop}, s.heap.get? x = some o → o.data = .plain → Q' .notImplemented s → wpAny (model prog w) A (call (.builtin id) [.int i t, .ref x]) Q' E s
  b : ∃ id, Slot "bool" (PySem.dunder nm) id ∧ ∀ {prog : Program} {w : World} {A : Around} {E : Value → Shared → Prop} {s : Shared} {i : Bool} {x : Addr} {o : Obj} {Q' : Value → Shared → Prop}, s.heap.get? x = some o → o.data = .plain → Q' .notImplemented s → wpAny (model prog w) A (call (.builtin id) [.bool i, .ref x]) Q' E s
theorem nn_add : NoNum "add" := ⟨⟨_, F.slot_int_add, fun h1 h2 q => Ow.no_add h1 h2 q⟩, ⟨_, Ow.slot_bool_add, fun h1 h2 q => Ow.noB_add h1 h2 q⟩⟩
theorem nn_sub : NoNum "sub" := ⟨⟨_, F.slot_int_sub, fun h1 h2 q => Ow.no_sub h1 h2 q⟩, ⟨_, Ow.slot_bool_sub, fun h1 h2 q => Ow.noB_sub h1 h2 q⟩⟩
theorem nn_mul : NoNum "mul" := ⟨⟨_, F.slot_int_mul, fun h1 h2 q => Ow.no_mul h1 h2 q⟩, ⟨_, Ow.slot_bool_mul, fun h1 h2 q => Ow.noB_mul h1 h2 q⟩⟩
theorem half_rgt (M : MetX X.prog X.w X.K X.mg X.base k C (dunderR nm) sp) (hx : Passes (L2.CX X.prog X.w) X E) (hc : PySem.W.selfFirst X.K C = true) (hf : ∃ g : Addr, PySem.W.findIn X.K (.ref C) (PySem.dunder nm) = some (some (.ref g))) (hn : nm ∈ Ow.Nms) (nn : NoNum nm) (hs1 : PySem.W.subIn X.K (.ref C) (.type "int") = some false) (hs2 : PySem.W.subIn X.K (.ref C) (.type "bool") = some false)
    (hr : Room j X.A) (hk : k ≤ j) : HalfR X nm (rRght X.K C sp E) := by
  intro pins s σ H x y v u Q I rx ry h
  obtain ⟨a, dx, fs, T, rfl, ha, hT, q⟩ := h
  cases (show u = Value.ref a from ry)
  obtain ⟨ox, od, J, h1, h2⟩ := ins_plain I ha
  obtain ⟨g, hm, w, _⟩ := run_met (us := [.ref a, v]) (vs := [.ref a, x]) M hx hr hk I (.cons rfl (.cons rx .nil)) q
  obtain ⟨g2, hs⟩ := hf
  have look := hT.looks I rx
  cases hT with
  | int i =>
    obtain ⟨t, rfl⟩ := (show ∃ t, v = Value.int i t from rx)
    obtain ⟨id, sl, hd⟩ := nn.i
    exact Ow.half_number I.kIn J rfl (typeIs_int s i t) hc hs hm.at_ hm.fn (Ow.bt_number (.inl rfl) hn) hs1 sl (fun Q' z => hd h1 h2 z) w
  | bl b =>
    cases (show v = Value.bool b from rx)
    obtain ⟨id, sl, hd⟩ := nn.b
    exact Ow.half_number I.kIn J rfl rfl hc hs hm.at_ hm.fn (Ow.bt_number (.inr rfl) hn) hs2 sl (fun Q' z => hd h1 h2 z) w
  | bare h hB => exact Ow.half_bare I.kIn J look hc hs hm.at_ hm.fn (Ow.bt_bare hB hn) w
end
end Lw
namespace Lw
open PySem PySem.Spec PyProof.Rows L2

open LamX
abbrev sRadd : Stmt := inClass (top 15) 5
abbrev sRmul : Stmt := inClass (top 15) 9
abbrev sSub : Stmt := inClass (top 15) 6
abbrev sRsub : Stmt := inClass (top 15) 7

theorem News.eq {C : Addr} {H : Hp} {Q : VK} {t b t' b' : Int} (n : News C H Q t b) (e : lov t' b' = lov t b ∧ lun t' b' = lun t b) : News C H Q t' b' := fun c H' s hc hr => n c H' s hc (by rw [e.1, e.2] at hr; exact hr)
theorem News.after {C : Addr} {H H' : Hp} {Q : VK} {t b : Int} (n : News C H Q t b) (s : Same H H') : News C H' Q t b := fun c H2 s2 hc hr => n c H2 (s.trans s2) (s.free hc) hr
theorem Mid.of {i j : Int} (h : Mid i) (l : j.natAbs ≤ i.natAbs) : Mid j := Nat.lt_of_le_of_lt l h
section
variable {P : Program} {w : World} {K : PySem.W.Frag} {mg : Str → Option Value} {base : Heap}

def spRadd (K : PySem.W.Frag) (C D : Addr) : Sp := fun vs H Q E => ∃ (a : Addr) (v : V) (o u : Int) (T : String), vs = [.ref a, v] ∧ NumAt K C H (.ref a) o u ∧ Bt K H v T ∧
  ((∃ p q, NumAt K C H v p q ∧ News C H Q (o * q + p * u) (u * q)) ∨ Refuses K C D v H E)
theorem scRadd : FnScope ["self", "other"] ["self", "other"] (C8.fnScope sRadd) := C8.fnScope_by (by decide +kernel)
theorem fn_radd {C D f1 : Addr} {fd1 : FuncData} (F : C8.Fun K "__radd__" "Ratio.__radd__" sRadd f1 fd1) (M : MetX P w K mg base 7 C (PySem.dunder "add") (spAdd K C D)) (hc : PySem.W.selfFirst K C = true) (hb : ∃ g : Addr, PySem.W.findIn K (.ref C) (dunderR "add") = some (some (.ref g))) : FnOk P w K mg base (L2.CX P w) 8 f1 fd1 ["self", "other"] (spRadd K C D) := by
  obtain ⟨oc, od, dV, kV, doc, pm, an, cdv, ct, osl, rfl, lk, hcd⟩ := F.ex
  refine fn_of lk hcd scRadd (fun vs H Q E h => ?_) fun A outer s H vs Q E hr h => ?_
  · obtain ⟨a, v, o, u, T, rfl, _⟩ := h
    rfl
  · obtain ⟨a, v, o, u, T, rfl, na, bt, h⟩ := h
    obtain ⟨⟨dxa, ha⟩, u0, mo, mu⟩ := na.ref
    refine ⟨_, pss_one (ps_ret (pe_op (op_of (op := .Add) (half_lft M (passes_call (takes_of rfl rfl rfl rfl) (fun _ _ _ _ z => z)) hc hb (by decide) hr (by decide))) (pv 0) (pv 1))), ?_⟩
    exact ⟨_, rfl, _, rfl, a, dxa, _, T, rfl, ha, bt, a, v, o, u, rfl, na, h⟩

def spRmul (K : PySem.W.Frag) (C D : Addr) : Sp := fun vs H Q E => ∃ (a : Addr) (v : V) (o u : Int) (T : String), vs = [.ref a, v] ∧ NumAt K C H (.ref a) o u ∧ Bt K H v T ∧
  ((∃ p q, NumAt K C H v p q ∧ News C H Q (o * p) (u * q)) ∨ Refuses K C D v H E)
theorem scRmul : FnScope ["self", "other"] ["self", "other"] (C8.fnScope sRmul) := C8.fnScope_by (by decide +kernel)
theorem fn_rmul {C D f1 : Addr} {fd1 : FuncData} (F : C8.Fun K "__rmul__" "Ratio.__rmul__" sRmul f1 fd1) (M : MetX P w K mg base 7 C (PySem.dunder "mul") (spMul K C D)) (hc : PySem.W.selfFirst K C = true) (hb : ∃ g : Addr, PySem.W.findIn K (.ref C) (dunderR "mul") = some (some (.ref g))) : FnOk P w K mg base (L2.CX P w) 8 f1 fd1 ["self", "other"] (spRmul K C D) := by
  obtain ⟨oc, od, dV, kV, doc, pm, an, cdv, ct, osl, rfl, lk, hcd⟩ := F.ex
  refine fn_of lk hcd scRmul (fun vs H Q E h => ?_) fun A outer s H vs Q E hr h => ?_
  · obtain ⟨a, v, o, u, T, rfl, _⟩ := h
    rfl
  · obtain ⟨a, v, o, u, T, rfl, na, bt, h⟩ := h
    obtain ⟨⟨dxa, ha⟩, u0, mo, mu⟩ := na.ref
    refine ⟨_, pss_one (ps_ret (pe_op (op_of (op := .Mult) (half_lft M (passes_call (takes_of rfl rfl rfl rfl) (fun _ _ _ _ z => z)) hc hb (by decide) hr (by decide))) (pv 0) (pv 1))), ?_⟩
    exact ⟨_, rfl, _, rfl, a, dxa, _, T, rfl, ha, bt, a, v, o, u, rfl, na, h⟩

def spSub (K : PySem.W.Frag) (C D : Addr) : Sp := fun vs H Q E => ∃ (a : Addr) (v : V) (o u : Int), vs = [.ref a, v] ∧ NumAt K C H (.ref a) o u ∧
  ((∃ p q, NumAt K C H v p q ∧ News C H Q (o * q - p * u) (u * q)) ∨ Refuses K C D v H E)
theorem scSub : FnScope ["self", "other", "taken"] ["self", "other"] (C8.fnScope sSub) := C8.fnScope_by (by decide +kernel)
theorem fn_sub {C D f g f1 pO : Addr} {fd fdg fd1 : FuncData} {ds : List Value} (F : C8.Fun K "__sub__" "Ratio.__sub__" sSub f1 fd1) (RM : RatM P w K mg base C D f fd ds) (OM : OfM P w K mg base C D pO g fdg) (cl : Cls K C) (n1 : NoAttr K C "over") (n2 : NoAttr K C "under") : FnOk P w K mg base (L2.CX P w) 8 f1 fd1 ["self", "other"] (spSub K C D) := by
  obtain ⟨oc, od, dV, kV, doc, pm, an, cdv, ct, osl, rfl, lk, hcd⟩ := F.ex
  refine fn_of lk hcd scSub (fun vs H Q E h => ?_) fun A outer s H vs Q E hr h => ?_
  · obtain ⟨a, v, o, u, rfl, _⟩ := h
    rfl
  · obtain ⟨a, v, o, u, rfl, na, h⟩ := h
    obtain ⟨⟨dxa, ha⟩, u0, mo, mu⟩ : RatAt C H a o u ∧ 0 < u ∧ Mid o ∧ Mid u := by
      cases na with
      | rat h h0 hp hq => exact ⟨h, h0, hp, hq⟩
    refine ⟨_, (pss_cons (ps_set (i := 2) scSub.nd rfl (Or.inl rfl) (pe_static (pe_glob (v := .ref C) (by rfl) RM.hm rfl) OM.S OM.F (hr.mono (by decide)) OM.b .nil (passes_call (takes_of rfl rfl rfl rfl) (fun _ _ _ _ z => z)) (pa_cons (pv 1) pa_nil)))
  (pss_one (ps_ret (pe_make RM.M RM.F (hr.mono (by decide)) (by rfl) RM.hm RM.b2 .nil (passes_call (takes_of rfl rfl rfl rfl) (fun _ _ _ _ z => z)) (pa_cons (pe_op op_sub (pe_op op_mulW (pe_fld (pv 0) rfl) (pe_fld (pv 2) rfl)) (pe_op op_mulW (pe_fld (pv 2) rfl) (pe_fld (pv 0) rfl))) (pa_cons (pe_op op_mulW (pe_fld (pv 0) rfl) (pe_fld (pv 2) rfl)) pa_nil)))))), ?_⟩
    dsimp only [tSeq]
    refine join_any (fun σ' H' => ∃ b p q, σ' = [some (V.ref a), some v, some (V.ref b)] ∧ Same H H' ∧ RatAt C H' b p q ∧ 0 < q ∧ Mid p ∧ Mid q ∧ News C H Q (o * q - p * u) (u * q)) ?rest (fun go => ?_)
    case rest =>
      rintro σ' H' ⟨b, p, q, rfl, s1, ⟨dxb, hb⟩, q0, mp, mq, new⟩
      have ha' := s1 _ _ ha
      refine ⟨_, rfl, a, C, dxa, _, _, rfl, ha', cl, n1, flds_over o u, _, rfl, b, C, dxb, _, _, rfl, hb, cl, n2, flds_under p q, _, _, rfl, rfl, mid_mul mo mq, ?_⟩
      refine ⟨_, rfl, b, C, dxb, _, _, rfl, hb, cl, n1, flds_over p q, _, rfl, a, C, dxa, _, _, rfl, ha', cl, n2, flds_under o u, _, _, rfl, rfl, mid_mul mp mu, _, _, rfl, rfl, ?_⟩
      refine ⟨_, rfl, a, C, dxa, _, _, rfl, ha', cl, n2, flds_under o u, _, rfl, b, C, dxb, _, _, rfl, hb, cl, n2, flds_under p q, _, _, rfl, rfl, mid_mul mu mq, fun x dx hx hdx ne => ?_⟩
      have s2 : Same H' (upd H' dx (.own x)) := same_new hdx
      have hx1 : upd H' dx (.own x) x = none := by rw [upd_ne ne.symm]; exact hx
      have b0 : 0 < u * q := Int.mul_pos u0 q0
      have w1 := mul_mid mo mq
      have w2 := mul_mid mp mu
      have w3 := mul_mid mu mq
      refine ⟨x, dx, .int (o * q - p * u), .int (u * q), rfl, .int _, .int _, upd_same, (fun h => by cases h), fun _ h2 => ?_, fun i j e1 e2 hj => ?_⟩
      · rcases h2 with h2 | h2
        · cases h2
        · have := V.int.inj h2
          omega
      · cases e1
        cases e2
        refine ⟨small_of (Nat.lt_of_le_of_lt (Int.natAbs_sub_le _ _) (by rw [show (2402 : Nat) = 2400 + 2 from rfl, Nat.pow_add]; omega)), small_of (Nat.lt_trans w3 (Nat.pow_lt_pow_right (by decide) (by decide))), rfl, ?_⟩
        rw [upd_upd, made_over hj, made_under hj]
        exact new x _ ((s1.trans s2).trans (same_new hx1)) (s1.free hx) ⟨dx, upd_same⟩
    refine ⟨rfl, _, rfl, v, rfl, ?_⟩
    rcases h with ⟨p, q, nv, new⟩ | ⟨t, av, ty, hk, hv, k⟩
    · cases nv with
      | rat h h0 hp hq =>
        obtain ⟨dx, hb⟩ := h
        exact .inl ⟨_, dx, _, rfl, hb, go _ _ ⟨_, p, q, rfl, Same.refl _, ⟨dx, hb⟩, h0, hp, hq, new⟩⟩
      | int hi hk =>
        refine .inr ⟨.type "int", .int _, .x (.base (.int _)), hk, fun i e => ?_, fun hv => by cases hv⟩
        cases e
        refine ⟨hi.small, fun c H' s1 hc hr => go _ _ ⟨c, _, _, rfl, s1, hr, ?_, ?_, ?_, ?_⟩⟩
        · rw [(lov_one _).2]; decide
        · rw [(lov_one _).1]; exact hi
        · rw [(lov_one _).2]; show 1 < 2 ^ 1200; exact Nat.one_lt_two_pow (by decide)
        · rw [(lov_one _).1, (lov_one _).2]; exact new
    · exact .inr ⟨t, av, ty, hk, (fun i e => by subst e; cases hv), fun _ => k⟩
def spRsub (K : PySem.W.Frag) (C D : Addr) : Sp := fun vs H Q E => ∃ (a : Addr) (v : V) (o u : Int) (T : String), vs = [.ref a, v] ∧ NumAt K C H (.ref a) o u ∧ Bt K H v T ∧
  ((∃ p q, NumAt K C H v p q ∧ News C H Q (p * u - o * q) (q * u)) ∨ Refuses K C D v H E)
theorem scRsub : FnScope ["self", "other"] ["self", "other"] (C8.fnScope sRsub) := C8.fnScope_by (by decide +kernel)
theorem fn_rsub {C D f1 g pO : Addr} {fd1 fdg : FuncData} (F : C8.Fun K "__rsub__" "Ratio.__rsub__" sRsub f1 fd1) (hm : mg "Ratio" = some (.ref C)) (OM : OfM P w K mg base C D pO g fdg) (M : MetX P w K mg base 8 C (PySem.dunder "sub") (spSub K C D)) (hc : PySem.W.selfFirst K C = true) : FnOk P w K mg base (L2.CX P w) 9 f1 fd1 ["self", "other"] (spRsub K C D) := by
  obtain ⟨oc, od, dV, kV, doc, pm, an, cdv, ct, osl, rfl, lk, hcd⟩ := F.ex
  refine fn_of lk hcd scRsub (fun vs H Q E h => ?_) fun A outer s H vs Q E hr h => ?_
  · obtain ⟨a, v, o, u, T, rfl, _⟩ := h
    rfl
  · obtain ⟨a, v, o, u, T, rfl, na, bt, h⟩ := h
    obtain ⟨⟨dxa, ha⟩, u0, mo, mu⟩ := na.ref
    refine ⟨_, pss_one (ps_ret (pe_op (op_of (op := .Sub) (half_own M (passes_call (takes_of rfl rfl rfl rfl) (fun _ _ _ _ z => z)) hc hr (by decide))) (pe_static (pe_glob (v := .ref C) (by rfl) hm rfl) OM.S OM.F (hr.mono (by decide)) OM.b .nil (passes_call (takes_of rfl rfl rfl rfl) (fun _ _ _ _ z => z)) (pa_cons (pv 1) pa_nil)) (pv 0))), ?_⟩
    refine ⟨rfl, _, rfl, ?_⟩
    dsimp only [tNil]
    refine of_ok (h.imp (fun ⟨p, q, nv, new⟩ => ⟨p, q, nv, fun b H' s1 hb q0 mp mq => ?_⟩) id)
    have nb : NumAt K C H' (.ref b) p q := .rat hb q0 mp mq
    obtain ⟨dxb, hb⟩ := hb
    exact ⟨_, rfl, b, dxb, _, a, dxa, _, rfl, rfl, hb, s1 _ _ ha, b, .ref a, p, q, rfl, nb, .inl ⟨o, u, .rat ⟨dxa, s1 _ _ ha⟩ u0 mo mu, new.after s1⟩⟩
end
end Lw
namespace Lw
open PySem PySem.Spec PyProof.Rows L2

open LamX
/-- a method that promises less -/
theorem MetX.imp {P : Program} {w : World} {K : PySem.W.Frag} {mg : Str → Option Value} {base : Heap} {k : Nat} {C : Addr} {m : Str} {sp sp' : Sp} (M : MetX P w K mg base k C m sp) (h : ∀ vs H Q E, sp' vs H Q E → sp vs H Q E) : MetX P w K mg base k C m sp' := by
  obtain ⟨g, fd, ps, h1, F, h3⟩ := M.ex
  exact ⟨g, fd, ps, h1, ⟨fun vs H Q E z => F.len vs H Q E (h _ _ _ _ z), fun A outer s H args us vs Q E hr e0 hb r z => F.run A outer s H args us vs Q E hr e0 hb r (h _ _ _ _ z)⟩, h3⟩
/-- what an operator tells of two fractions -/
abbrev Fr := Int → Int → Int → Int → Int × Int
def frAdd : Fr := fun o u p q => (o * q + p * u, u * q)
def frSub : Fr := fun o u p q => (o * q - p * u, u * q)
def frMul : Fr := fun o u p q => (o * p, u * q)
def spF (K : PySem.W.Frag) (C D : Addr) (f : Fr) : Sp := fun vs H Q E => ∃ (a : Addr) (v : V) (o u : Int), vs = [.ref a, v] ∧ NumAt K C H (.ref a) o u ∧ ((∃ p q, NumAt K C H v p q ∧ News C H Q (f o u p q).1 (f o u p q).2) ∨ Refuses K C D v H E)
def spB (K : PySem.W.Frag) (C D : Addr) (f : Fr) : Sp := fun vs H Q E => ∃ (a : Addr) (v : V) (o u : Int) (T : String), vs = [.ref a, v] ∧ NumAt K C H (.ref a) o u ∧ Bt K H v T ∧ ((∃ p q, NumAt K C H v p q ∧ News C H Q (f p q o u).1 (f p q o u).2) ∨ Refuses K C D v H E)
/-- the class as an operator's operand -/
structure OpC (K : PySem.W.Frag) (C : Addr) : Prop where
  first : PySem.W.selfFirst K C = true
  s1 : PySem.W.subIn K (.ref C) (.type "int") = some false
  s2 : PySem.W.subIn K (.ref C) (.type "bool") = some false
/-- an operator of the class -/
structure OpB (P : Program) (w : World) (K : PySem.W.Frag) (mg : Str → Option Value) (base : Heap) (C D : Addr) (nm : String) (f : Fr) : Prop where
  c : OpC K C
  fwd : MetX P w K mg base 9 C (PySem.dunder nm) (spF K C D f)
  bwd : MetX P w K mg base 9 C (dunderR nm) (spB K C D f)
  mem : nm ∈ Ow.Nms
  nn : NoNum nm
theorem OpB.f1 {P : Program} {w : World} {K : PySem.W.Frag} {mg : Str → Option Value} {base : Heap} {C D : Addr} {nm : String} {f : Fr} (M : OpB P w K mg base C D nm f) : ∃ g : Addr, PySem.W.findIn K (.ref C) (PySem.dunder nm) = some (some (.ref g)) := by
  obtain ⟨g, fd, ps, h1, _⟩ := M.fwd.ex
  exact ⟨g, h1.at_⟩
theorem OpB.f2 {P : Program} {w : World} {K : PySem.W.Frag} {mg : Str → Option Value} {base : Heap} {C D : Addr} {nm : String} {f : Fr} (M : OpB P w K mg base C D nm f) : ∃ g : Addr, PySem.W.findIn K (.ref C) (dunderR nm) = some (some (.ref g)) := by
  obtain ⟨g, fd, ps, h1, _⟩ := M.bwd.ex
  exact ⟨g, h1.at_⟩
/-- two numbers, one of them a ratio -/
def rNum (K : PySem.W.Frag) (C : Addr) (f : Fr) : R2 := fun x y H Q => ∃ o u p q, NumAt K C H x o u ∧ NumAt K C H y p q ∧ (isI x = false ∨ isI y = false) ∧ News C H Q (f o u p q).1 (f o u p q).2
/-- a ratio and a value that is no number -/
def rOdd (K : PySem.W.Frag) (C D : Addr) (E : XK) : R2 := fun x y H _ => ∃ a o u v T, NumAt K C H (.ref a) o u ∧ Bt K H v T ∧ Refuses K C D v H E ∧ ((x = .ref a ∧ y = v) ∨ (x = v ∧ y = .ref a))
section
variable {X : Cx} {C D : Addr} {j : Nat} {E : XK} {nm : String} {f : Fr}
theorem NumAt.left {K : PySem.W.Frag} {H : Hp} {x : V} {o u : Int} (h : NumAt K C H x o u) : LeftNo C H x := by
  cases h with
  | rat h => exact .own h.choose_spec
  | int hi => exact .int _
theorem half_num (M : OpB X.prog X.w X.K X.mg X.base C D nm f) (hr : Room j X.A) (hk : 9 ≤ j) : HalfR X nm (rNum X.K C f) := by
  have hx : Passes (L2.CX X.prog X.w) X (fun _ _ _ => False) := passes_call takes0 (fun _ _ _ _ z => z)
  refine half_imp (half_or (half_own M.fwd hx M.c.first hr hk) (half_or (half_lft M.fwd hx M.c.first M.f2 M.mem hr hk) (half_rgt M.bwd hx M.c.first M.f1 M.mem M.nn M.c.s1 M.c.s2 hr hk))) fun x y H Q h => ?_
  obtain ⟨o, u, p, q, nx, ny, hi, new⟩ := h
  cases nx with
  | @rat a _ _ hx h0 mo mu =>
    have na : NumAt X.K C H (.ref a) o u := .rat hx h0 mo mu
    obtain ⟨dx, ha⟩ := hx
    cases ny with
    | @rat b _ _ hy h0' mp mq =>
      have nb : NumAt X.K C H (.ref b) p q := .rat hy h0' mp mq
      obtain ⟨dy, hb⟩ := hy
      exact .inl ⟨a, dx, _, b, dy, _, rfl, rfl, ha, hb, a, .ref b, o, u, rfl, na, .inl ⟨p, q, nb, new⟩⟩
    | int mi hk => exact .inr (.inl ⟨a, dx, _, "int", rfl, ha, .int p, a, .int p, o, u, rfl, na, .inl ⟨p, 1, .int mi hk, new⟩⟩)
  | int mi hk =>
    cases ny with
    | @rat b _ _ hy h0' mp mq =>
      have nb : NumAt X.K C H (.ref b) p q := .rat hy h0' mp mq
      obtain ⟨dy, hb⟩ := hy
      exact .inr (.inr ⟨b, dy, _, "int", rfl, hb, .int o, b, .int o, p, q, "int", rfl, nb, .int o, .inl ⟨o, 1, .int mi hk, new⟩⟩)
    | int _ _ => rcases hi with h | h <;> cases h
theorem op_num {op : Operator} (M : OpB X.prog X.w X.K X.mg X.base C D op.info.2 f) (hr : Room j X.A) (hk : 9 ≤ j) : OpR X (binaryOp op) (rNum X.K C f) := op_of (half_num M hr hk)
theorem iop_num {op : Operator} (M : OpB X.prog X.w X.K X.mg X.base C D op.info.2 f) (ni : NoInplace X.K C op) (hI : fillsInplaceSlot (.type "int") op.info.2 (op == .Add) = pure false) (hr : Room j X.A) (hk : 9 ≤ j) : OpR X (inplaceOp op) (rNum X.K C f) := by
  have z := iop_of (half_num M hr hk) ni hI
  exact fun pins s σ H x y v u Q I rx ry h => z pins s σ H x y v u Q I rx ry ⟨h.choose_spec.choose_spec.choose_spec.choose_spec.1.left, h⟩
theorem op_odd {op : Operator} (M : OpB X.prog X.w X.K X.mg X.base C D op.info.2 f) (hx : Passes (L2.CX X.prog X.w) X E) (hr : Room j X.A) (hk : 9 ≤ j) : OpR X (binaryOp op) (rOdd X.K C D E) := by
  refine op_of (half_imp (half_or (half_lft M.fwd hx M.c.first M.f2 M.mem hr hk) (half_rgt M.bwd hx M.c.first M.f1 M.mem M.nn M.c.s1 M.c.s2 hr hk)) fun x y H Q h => ?_)
  obtain ⟨a, o, u, v, T, na, bt, rf, h⟩ := h
  obtain ⟨dx, ha⟩ := na.ref.1
  rcases h with ⟨rfl, rfl⟩ | ⟨rfl, rfl⟩
  · exact .inl ⟨a, dx, _, T, rfl, ha, bt, a, _, o, u, rfl, na, .inr rf⟩
  · exact .inr ⟨a, dx, _, T, rfl, ha, bt, a, _, o, u, T, rfl, na, bt, .inr rf⟩
end
end Lw
namespace Lw
open PySem PySem.Spec PyProof.Rows L2

open LamX
/-! ### repr of any value of the drawn ones -/
theorem SqL.sames {K : PySem.W.Frag} {a : Addr} {H H' : Hp} {ys : List V} (s : Same H H') (h : SqL K H a ys) : SqL K H' a ys := by
  rcases h with (h | ⟨o, h⟩) | h
  · exact .inl (.inl (s _ _ h))
  · exact .inl (.inr ⟨o, s _ _ h⟩)
  · exact .inr h
theorem SqT.sames {K : PySem.W.Frag} {a : Addr} {H H' : Hp} {ys : List V} (s : Same H H') (h : SqT K H a ys) : SqT K H' a ys := by
  rcases h with (h | ⟨o, h⟩) | h
  · exact .inl (.inl (s _ _ h))
  · exact .inl (.inr ⟨o, s _ _ h⟩)
  · exact .inr h
mutual
theorem Dp.sames {K : PySem.W.Frag} {H H' : Hp} (s : Same H H') : ∀ {v : V} {d : PyData}, Dp K H v d → Dp K H' v d
  | _, _, .non => .non
  | _, _, .bl b => .bl b
  | _, _, .int i => .int i
  | _, _, .str x => .str x
  | _, _, .lst h hs => .lst (SqL.sames s h) (DpAll.sames s hs)
  | _, _, .tup h hs => .tup (SqT.sames s h) (DpAll.sames s hs)
theorem DpAll.sames {K : PySem.W.Frag} {H H' : Hp} (s : Same H H') : ∀ {vs : List V} {ds : List PyData}, DpAll K H vs ds → DpAll K H' vs ds
  | _, _, .nil => .nil
  | _, _, .cons h hs => .cons (Dp.sames s h) (DpAll.sames s hs)
end
inductive Rp (K : PySem.W.Frag) (H : Hp) : V → Str → Prop where
  | non : Rp K H .non "None"
  | bl (b : Bool) : Rp K H (.bl b) (if b then "True" else "False")
  | str (z : Str) (h : (reprText z).length ≤ sizeLine) : Rp K H (.str z) (reprText z)
  | data {a : Addr} {d : PyData} (h : Dp K H (.ref a) d) (h1 : d.showable = true) (h2 : d.hasDict = false) (h3 : d.depth ≤ 100) (h4 : d.shown.length ≤ sizeLine) : Rp K H (.ref a) d.shown
  | dnil {a : Addr} (h : H a = some (.dK [])) : Rp K H (.ref a) (PyData.dict []).shown
theorem Rp.same {K : PySem.W.Frag} {H H' : Hp} {v : V} {r : Str} (s : Same H H') (h : Rp K H v r) : Rp K H' v r := by
  cases h with
  | non => exact .non
  | bl b => exact .bl b
  | str z h => exact .str z h
  | data h h1 h2 h3 h4 => exact .data (Lw.Dp.sames s h) h1 h2 h3 h4
  | dnil h => exact .dnil (s _ _ h)
def rRpx (K : PySem.W.Frag) : List V → Hp → VK → Prop := fun xs H Q => ∃ (v : V) (r : Str), xs = [v] ∧ Rp K H v r ∧ Q (.str r) H
section
variable {X : Cx}
theorem call_reprX (hG : X.A.guards = some []) (hr : Room 0 X.A) : CallR X (.builtin "repr") (rRpx X.K) := by
  intro pins s σ H xs us Q I r h
  obtain ⟨v, z, rfl, hv, q⟩ := h
  obtain ⟨u, rfl, ru⟩ := vals1 r
  have hun := hr.un
  cases hv with
  | non =>
    cases (show u = Value.none from ru)
    exact PySem.P.repr_of_none ⟨.str "None", H, I.tok _, ⟨_, rfl⟩, q⟩
  | bl b =>
    cases (show u = Value.bool b from ru)
    refine PySem.P.repr_of_bool ⟨.str (if b then "True" else "False"), H, I.tok _, ⟨_, rfl⟩, ?_⟩
    cases b <;> exact q
  | str z h =>
    obtain ⟨t, rfl⟩ := (show ∃ t, u = Value.str z t from ru)
    exact PySem.P.repr_of_str ⟨.str (reprText z), H, I.tok _, ⟨_, rfl⟩, q⟩ h
  | @data a d h h1 h2 h3 h4 =>
    cases (show u = Value.ref a from ru)
    obtain ⟨as, rd⟩ := Dp.reads I d _ _ h rfl
    exact repr_of_reads' rd h1 (fun z => by rw [h2] at z; cases z) hG (by omega) (fun _ _ e => e) (fun h' u' tk kp => ⟨.str d.shown, H, I.kept kp, ⟨u', rfl⟩, q⟩) h4
  | @dnil a h =>
    cases (show u = Value.ref a from ru)
    obtain ⟨_, hm, vs, kv, o, es, ep, ho, hx, hd, _, pr, _⟩ := dk_of I.hok h
    have e0 : vs = [] := by cases kv; rfl
    subst e0
    have e1 : es.toList = [] := by
      generalize es.toList = l at pr
      cases pr
      rfl
    have rd : Reads s.heap (.ref a) (.dict []) [a] := Reads.dict (as := []) (bs := []) ho hx.1 hd (by rw [e1]; exact .nil) (by rw [e1]; exact .nil)
    refine repr_of_reads' rd rfl (fun _ z => ?_) hG (by show _ + ((PyData.dict []).depth + 1) < cLine; have : (PyData.dict []).depth ≤ 1 := by decide
                                                        omega) (fun _ _ e => e) (fun h' u' tk kp => ⟨.str _, H, I.kept kp, ⟨u', rfl⟩, q⟩) (by decide)
    rw [List.mem_singleton] at z
    rw [← z] at hm
    simp at hm
end
end Lw
namespace Lw
open PySem PySem.Spec PyProof.Rows L2

open LamX
abbrev sHea : Stmt := top 26
/-- the caught error's class -/
structure Hrd (K : PySem.W.Frag) (mg : Str → Option Value) (D L : Addr) : Prop where
  xf : XfC K D
  no : PySem.W.findIn K (.ref D) "value" = some none
  xc : Hx.XCls K D
  me : PySem.W.kitOne K (.ref D) (.ref D) = some true
  ml : mg "LateError" = some (.ref L)
  md : mg "BadRatio" = some (.ref D)
  ex : PySem.W.exmOne K (.ref D) (.ref L) = some true
def TTheard (K : PySem.W.Frag) (D : Addr) : (XK → Hp → VK → Prop) → Hp → VK → Prop := fun tl H Q => ∃ (v : V) (r : Str),
  tl (fun cls d H1 => cls = .ref D ∧ ∃ dd, d = some dd ∧ H1 dd = some (.xd [("value", v)]) ∧ Rp K H1 v r ∧ ∀ t H3, Same H1 H3 → H1 t = none → H3 t = some (.tup [.str "ratio", .str r]) → Q (.ref t) H3) H
    (fun x H1 => 1 ≤ sizeLine ∧ ∀ l, H1 l = none → Q (.ref l) (upd H1 l (.lst [x])))
abbrev NHea : List Str := ["_law_ask", "_law_caught", "error"]
theorem scHea : FnScope NHea ["_law_ask"] (C8.fnScope sHea) := C8.fnScope_by (by decide +kernel)
theorem heard_gives {X : Cx} {q : Str} {g D L : Addr} {cdg : Value} (R : Hrd X.K X.mg D L) (T : Txt X.mg) (hG : X.A.guards = some []) (hr0 : Room 1 X.A) :
    GivesTo X NHea "_law_heard" (C8.fnScope sHea) g cdg (C8.fnBody sHea) "_law_ask" q (TTheard X.K D) := by
  intro f c' s H Q tl act hc h
  have hr : Room 0 (cxOf C8.CX0 X.prog X.w X.K X.mg X.base NHea "_law_heard" (C8.fnScope sHea) g cdg X.A X.stack s H C8.E0).nox.A := hr0.deeper _
  have hG' : (cxOf C8.CX0 X.prog X.w X.K X.mg X.base NHea "_law_heard" (C8.fnScope sHea) g cdg X.A X.stack s H C8.E0).nox.A.guards = some [] := hG
  refine ⟨_, pss_cons (ps_set (i := 1) scHea.nd rfl (Or.inl rfl) pe_non)
    (pss_cons (ps_try_held (X := (cxOf C8.CX0 X.prog X.w X.K X.mg X.base NHea "_law_heard" (C8.fnScope sHea) g cdg X.A X.stack s H C8.E0).nox) (c := .ref L) (i := 2)
      (tb := fun W Dn σ H => ∃ Ech : XK, (∀ cls d σ' H', Ech cls d H' → W cls d σ' H') ∧ σ[0]? = some (some (.ref f)) ∧ H c' = some (CodeO c' q) ∧ tl Ech H (fun x H1 => 1 ≤ sizeLine ∧ ∀ l, H1 l = none → Dn.rt (.ref l) (upd H1 l (.lst [x]))))
      rfl rfl scHea.nd rfl (by rfl) ⟨by rfl, by decide, .inl R.ml⟩ rfl (fun W pn xe tk _ => ?_) (fun a oe cls d pn _ _ => pss_one (ps_set (i := 1) scHea.nd rfl (Or.inl rfl) (pv 2))))
    (pss_one (ps_ret (pe_ifExp (pt_val (pe_callB call_isw (by rfl) T.n_isinstance (by decide +kernel) (pa_cons (pv 1) (pa_cons (pe_glob (v := .ref D) (by rfl) R.md rfl) pa_nil))))
      (pe_tup (pa_cons pe_str (pa_cons (pe_callB (call_reprX hG' hr) (by rfl) T.n_repr (by decide +kernel) (pa_cons (pe_held R.xf R.no (pv 1)) pa_nil)) pa_nil)))
      (pe_tup (pa_cons pe_str pa_nil)))))), ?_⟩
  · refine ⟨fun pins s' σ H' Dn I h' => ?_⟩
    obtain ⟨Ech, hW, h1, h2, h3⟩ := h'
    refine PSs.run (t := tRet (tLst (tCons (fun σZ HZ Q => σZ[0]? = some (some (V.ref f)) ∧ HZ c' = some (CodeO c' q) ∧ tl Ech HZ Q) tNil))) ?hp pins s' σ H' Dn I ⟨h1, h2, h3⟩
    case hp => exact pss_one (ps_ret (pe_lst (pa_cons (act W pn xe Ech _ _ tk hW) pa_nil)))
  · obtain ⟨v, r, h⟩ := h
    refine ⟨fun cls d H1 => cls = .ref D ∧ ∃ dd, d = some dd ∧ H1 dd = some (.xd [("value", v)]) ∧ Rp X.K H1 v r ∧ ∀ t H3, Same H1 H3 → H1 t = none → H3 t = some (.tup [.str "ratio", .str r]) → Q (.ref t) H3, fun cls d σ' H' z => ?_, rfl, hc, ?_⟩
    · obtain ⟨rfl, dd, rfl, e1, rp, go⟩ := z
      intro hl
      obtain ⟨x0, x1, x2, rfl⟩ : ∃ x0 x1 x2, σ' = [x0, x1, x2] := by
        match σ', hl with
        | [x0, x1, x2], _ => exact ⟨x0, x1, x2, rfl⟩
      refine ⟨R.ex, fun a na => ⟨_, rfl, fun na' => ?_⟩⟩
      have dx : dd ≠ a := fun e => by rw [e, na] at e1; cases e1
      have s1 : Same H' (upd H' a (ExO a (.ref D) (some dd))) := same_new na
      refine ⟨_, rfl, _, .ref D, .ref D, .ref D, true, rfl, .own D, .held upd_same (s1 _ _ e1) R.xc, R.me, _, rfl, iteT ?_⟩
      refine ⟨_, rfl, a, dd, _, v, rfl, upd_same, s1 _ _ e1, rfl, v, r, rfl, Rp.same s1 rp, (by show 2 ≤ sizeLine; decide), fun t ft => ?_⟩
      exact go t _ (s1.trans (same_new ft)) (s1.free ft) upd_same
    · exact h
end Lw
namespace Lw
open PySem PySem.Spec PyProof.Rows L2

open LamX
abbrev sOdd : Stmt := top 27
def good (d : PyData) : Bool := d.showable && !d.hasDict && decide (d.depth ≤ 100) && decide (d.shown.length ≤ sizeLine) && PyData.strOk d.shown
/-- a drawn value that is no number, and its text -/
inductive Oc (H : Hp) : V → Str → Prop where
  | non : Oc H .non "None"
  | bl (b : Bool) : Oc H (.bl b) (if b then "True" else "False")
  | str (z : Str) (h : (reprText z).length ≤ sizeLine ∧ PyData.strOk (reprText z) = true) : Oc H (.str z) (reprText z)
  | tup {a : Addr} (xs : List Int) (h : H a = some (.tup (xs.map V.int))) (g : good (.tuple (xs.map PyData.int)) = true) : Oc H (.ref a) (PyData.tuple (xs.map PyData.int)).shown
  | lst {a : Addr} (xs : List Int) (h : H a = some (.lst (xs.map V.int))) (g : good (.list (xs.map PyData.int)) = true) : Oc H (.ref a) (PyData.list (xs.map PyData.int)).shown
  | dct {a : Addr} (h : H a = some (.dK [])) : Oc H (.ref a) (PyData.dict []).shown
theorem Oc.move {H H' : Hp} {v : V} {r : Str} (h : Oc H v r) (k : ∀ a o, v = .ref a → H a = some o → H' a = some o) : Oc H' v r := by
  cases h with
  | non => exact .non
  | bl b => exact .bl b
  | str z h => exact .str z h
  | tup xs h g => exact .tup xs (k _ _ rfl h) g
  | lst xs h g => exact .lst xs (k _ _ rfl h) g
  | dct h => exact .dct (k _ _ rfl h)
theorem Oc.same {H H' : Hp} {v : V} {r : Str} (s : Same H H') (h : Oc H v r) : Oc H' v r := h.move fun a o _ e => s a o e
theorem Oc.rp {K : PySem.W.Frag} {H : Hp} {v : V} {r : Str} (h : Oc H v r) : Rp K H v r := by
  cases h with
  | non => exact .non
  | bl b => exact .bl b
  | str z h => exact .str z h.1
  | tup xs h g =>
    unfold good at g
    simp only [Bool.and_eq_true, decide_eq_true_eq, Bool.not_eq_true'] at g
    exact .data (.tup (SqT.of h) (dp_ints xs)) g.1.1.1.1 g.1.1.1.2 g.1.1.2 g.1.2
  | lst xs h g =>
    unfold good at g
    simp only [Bool.and_eq_true, decide_eq_true_eq, Bool.not_eq_true'] at g
    exact .data (.lst (SqL.of h) (dp_ints xs)) g.1.1.1.1 g.1.1.1.2 g.1.1.2 g.1.2
  | dct h => exact .dnil h
theorem Oc.sok {H : Hp} {v : V} {r : Str} (h : Oc H v r) : PyData.strOk r = true := by
  cases h with
  | non => decide +kernel
  | bl b => cases b <;> decide +kernel
  | str z h => exact h.2
  | tup xs h g =>
    unfold good at g
    simp only [Bool.and_eq_true] at g
    exact g.2
  | lst xs h g =>
    unfold good at g
    simp only [Bool.and_eq_true] at g
    exact g.2
  | dct h => decide +kernel
theorem Oc.bt {K : PySem.W.Frag} {H : Hp} {v : V} {r : Str} (h : Oc H v r) : ∃ T, Bt K H v T := by
  cases h with
  | non => exact ⟨"NoneType", .bare (.base .non) (by decide)⟩
  | bl b => exact ⟨_, .bl b⟩
  | str z h => exact ⟨"str", .bare (.base (.str z)) (by decide)⟩
  | tup xs h g => exact ⟨"tuple", .bare (.base (.tup h)) (by decide)⟩
  | lst xs h g => exact ⟨"list", .bare (.base (.lst h)) (by decide)⟩
  | dct h => exact ⟨"dict", .bare (.base (.dK h)) (by decide)⟩
/-- the class is none of the built-in types -/
structure Oks (K : PySem.W.Frag) (C : Addr) : Prop where
  i : PySem.W.kitOne K (.type "int") (.ref C) = some false
  n : PySem.W.kitOne K (.type "NoneType") (.ref C) = some false
  b : PySem.W.kitOne K (.type "bool") (.ref C) = some false
  s : PySem.W.kitOne K (.type "str") (.ref C) = some false
  t : PySem.W.kitOne K (.type "tuple") (.ref C) = some false
  l : PySem.W.kitOne K (.type "list") (.ref C) = some false
  d : PySem.W.kitOne K (.type "dict") (.ref C) = some false
theorem Oc.refuses {K : PySem.W.Frag} {C D : Addr} {H : Hp} {v : V} {r : Str} {E : XK} (O : Oks K C) (h : Oc H v r) (k : ∀ d H', Same H H' → H' d = none → E (.ref D) (some d) (upd H' d (.xd [("value", v)]))) : Refuses K C D v H E := by
  have od : ∀ {a : Addr} {T : String}, T = "tuple" ∨ T = "list" ∨ T = "dict" → TyX K H (.ref a) (.type T) → Anyv K H (.ref a) := fun {a T} e z => by
    rcases e with rfl | rfl | rfl <;> exact .obj (.x z) (kit_ty (by decide +kernel)) (kit_ty (by decide +kernel)) (kit_ty (by decide +kernel))
  cases h with
  | non => exact ⟨_, .non, .x (.base .non), O.n, rfl, k⟩
  | bl b => exact ⟨_, .bl b, .x (.base (.bl b)), O.b, rfl, k⟩
  | str z h => exact ⟨_, .str z, .x (.base (.str z)), O.s, rfl, k⟩
  | tup xs h g => exact ⟨_, od (.inl rfl) (.base (.tup h)), .x (.base (.tup h)), O.t, rfl, k⟩
  | lst xs h g => exact ⟨_, od (.inr (.inl rfl)) (.base (.lst h)), .x (.base (.lst h)), O.l, rfl, k⟩
  | dct h => exact ⟨_, od (.inr (.inr rfl)) (.base (.dK h)), .x (.base (.dK h)), O.d, rfl, k⟩
def spOdd : Sp := fun vs H Q _ => ∃ (p pl : Addr) (n : Nat), vs = [.ref p] ∧ Pen H p pl n ∧ n ≤ 900000 ∧ ∀ (v : V) (r : Str) (H' : Hp), Oc H' v r → v ≠ .ref p → Pen H' p pl (n + 1) → Kp p H H' → Q v H'
section
variable {P : Program} {w : World} {K : PySem.W.Frag} {mg : Str → Option Value} {base : Heap}
theorem scOdd : FnScope ["_law_pen_here"] ["_law_pen_here"] (C8.fnScope sOdd) := C8.fnScope_by (by decide +kernel)
theorem cal_odd {f : Addr} {fd : FuncData} (F : C8.Def K mg "_law_odd" sOdd f fd) (b : Binds K fd ["_law_pen_here"] []) (D2 : C8.Cal P w K mg base 2 "_law_pick" (spPick K) []) : C8.Cal P w K mg base 3 "_law_odd" spOdd [] := by
  refine C8.cal0 F b .nil scOdd (fun vs H Q E h => ?_) (fun cdv A outer st H vs Q E hr h => ?_)
  · obtain ⟨p, pl, n, rfl, _⟩ := h
    rfl
  · obtain ⟨p, pl, n, rfl, hp, hn, k⟩ := h
    refine ⟨_, (pss_one (ps_ret (C8.pe_c D2 hr (by decide) (by rfl) (pa_cons (pv 0) (pa_cons (pe_lst (pa_cons pe_non (pa_cons pe_bl (pa_cons pe_bl (pa_cons pe_str (pa_cons pe_str (pa_cons (pe_tup (pa_cons pe_int pa_nil)) (pa_cons (pe_lst (pa_cons pe_int pa_nil)) (pa_cons pe_dnewK (pa_cons (pe_tup (pa_cons pe_int (pa_cons pe_int pa_nil))) (pa_cons pe_str pa_nil))))))))))) pa_nil))))), ?_⟩
    refine ⟨_, rfl, ?_⟩
    refine ⟨(by show 1 ≤ sizeLine; decide), fun q1 f1 => ?_⟩
    refine ⟨(by show 1 ≤ sizeLine; decide), fun q2 f2 => ?_⟩
    intro q3 f3
    refine ⟨(by show 2 ≤ sizeLine; decide), fun q4 f4 => ?_⟩
    refine ⟨(by show 10 ≤ sizeLine; decide), fun l f5 => ?_⟩
    have s1 := same_new (o := HO.tup [V.int 1]) f1
    have s2 := same_new (o := HO.lst [V.int 1]) f2
    have s3 := same_new (o := HO.dK []) f3
    have s4 := same_new (o := HO.tup [V.int 1, V.int 2]) f4
    generalize h1 : upd H q1 _ = H1 at *
    have a1 : H1 q1 = some (.tup [V.int 1]) := by rw [← h1]; exact upd_same
    generalize h2 : upd H1 q2 _ = H2 at *
    have a2 : H2 q2 = some (.lst [V.int 1]) := by rw [← h2]; exact upd_same
    generalize h3 : upd H2 q3 _ = H3 at *
    have a3 : H3 q3 = some (.dK []) := by rw [← h3]; exact upd_same
    generalize h4 : upd H3 q4 _ = H4 at *
    have a4 : H4 q4 = some (.tup [V.int 1, V.int 2]) := by rw [← h4]; exact upd_same
    have p1 := hp.keep s1
    have p2 := p1.keep s2
    have p3 := p2.keep s3
    have p4 := p3.keep s4
    have s5 := same_new (o := HO.lst [V.non, V.bl true, V.bl false, V.str "1", V.str "1/2", V.ref q1, V.ref q2, V.ref q3, V.ref q4, V.str ""]) f5
    refine ⟨p, pl, l, n, _, rfl, p4.keep s5, by omega, SqL.of upd_same, p4.ne_new f5, (by show 0 < 10; decide), (by show 10 < 1000000; decide), fun j v H6 hj hp6 k6 => ?_⟩
    have far : ∀ b o, b ≠ p → H4 b = some o → H6 b = some o := fun b o hb e => k6 b o hb (s5 b o e)
    have kk : Kp p H H6 := fun b o hb e => far b o hb (s4 _ _ (s3 _ _ (s2 _ _ (s1 _ _ e))))
    have n1 : q1 ≠ p := hp.ne_new f1
    have n2 : q2 ≠ p := p1.ne_new f2
    have n3 : q3 ≠ p := p2.ne_new f3
    have n4 : q4 ≠ p := p3.ne_new f4
    have hv := List.mem_of_getElem? hj
    simp only [List.mem_cons, List.not_mem_nil, or_false] at hv
    rcases hv with rfl | rfl | rfl | rfl | rfl | rfl | rfl | rfl | rfl | rfl
    · exact k _ _ H6 .non (by simp) hp6 kk
    · exact k _ _ H6 (.bl true) (by simp) hp6 kk
    · exact k _ _ H6 (.bl false) (by simp) hp6 kk
    · exact k _ _ H6 (.str _ (by decide +kernel)) (by simp) hp6 kk
    · exact k _ _ H6 (.str _ (by decide +kernel)) (by simp) hp6 kk
    · exact k _ _ H6 (.tup [1] (far _ _ n1 (s4 _ _ (s3 _ _ (s2 _ _ a1)))) (by decide +kernel)) (fun e => n1 (V.ref.inj e)) hp6 kk
    · exact k _ _ H6 (.lst [1] (far _ _ n2 (s4 _ _ (s3 _ _ a2))) (by decide +kernel)) (fun e => n2 (V.ref.inj e)) hp6 kk
    · exact k _ _ H6 (.dct (far _ _ n3 (s4 _ _ a3))) (fun e => n3 (V.ref.inj e)) hp6 kk
    · exact k _ _ H6 (.tup [1, 2] (far _ _ n4 a4) (by decide +kernel)) (fun e => n4 (V.ref.inj e)) hp6 kk
    · exact k _ _ H6 (.str _ (by decide +kernel)) (by simp) hp6 kk
end
end Lw
namespace Lw
open PySem PySem.Spec PyProof.Rows L2

open LamX
abbrev sGot : Stmt := top 28
abbrev sNum : Stmt := top 29
abbrev sDue : Stmt := top 30
def spGot (C : Addr) : Sp := fun vs H Q _ => ∃ (a : Addr) (o u : Int), vs = [.ref a] ∧ RatAt C H a o u ∧ ∀ t, H t = none → Q (.ref t) (upd H t (.tup [.int o, .int u]))
/-- a drawn integer -/
def Drn (i : Int) : Prop := i.natAbs ≤ 10 ^ 32
theorem Drn.mid {i : Int} (h : Drn i) : Mid i := Nat.lt_of_le_of_lt h (by decide)
def spNum (K : PySem.W.Frag) (C : Addr) : Sp := fun vs H Q _ => ∃ (p pl a : Addr) (n : Nat) (t b : Int), vs = [.ref p, .ref a] ∧ Pen H p pl n ∧ n ≤ 900000 ∧ H a = some (.tup [.int t, .int b]) ∧ b ≠ 0 ∧ Drn t ∧ Drn b ∧
  ∀ (v : V) (H' : Hp), NumAt K C H' v (lov t b) (lun t b) → v ≠ .ref p → Pen H' p pl (n + 1) → Kp p H H' → Q v H'
def spDue : Sp := fun vs H Q _ => ∃ (a1 a2 : Addr) (t1 b1 t2 b2 : Int), vs = [.ref a1, .ref a2] ∧ H a1 = some (.tup [.int t1, .int b1]) ∧ H a2 = some (.tup [.int t2, .int b2]) ∧ b1 ≠ 0 ∧ b2 ≠ 0 ∧ Drn t1 ∧ Drn b1 ∧ Drn t2 ∧ Drn b2 ∧
  ∀ (l x y z : Addr) (H' : Hp), Same H H' → H l = none → H' l = some (.lst [.ref x, .ref y, .ref z]) → H' x = some (.tup [.int (lov (t1 * b2 + t2 * b1) (b1 * b2)), .int (lun (t1 * b2 + t2 * b1) (b1 * b2))]) →
    H' y = some (.tup [.int (lov (t1 * b2 - t2 * b1) (b1 * b2)), .int (lun (t1 * b2 - t2 * b1) (b1 * b2))]) → H' z = some (.tup [.int (lov (t1 * t2) (b1 * b2)), .int (lun (t1 * t2) (b1 * b2))]) → Q (.ref l) H'
section
variable {P : Program} {w : World} {K : PySem.W.Frag} {mg : Str → Option Value} {base : Heap}
/-- what __init__ is handed when both are ints and the lower one is not 0 -/
theorem makes {C D : Addr} {H' : Hp} {E : XK} {Q : VK} {t b : Int} (b0 : b ≠ 0) (st : Small t) (sb : Small b) {x dx : Addr} (hx : H' x = none) (hdx : H' dx = none) (ne : dx ≠ x)
    (new : ∀ c H2, Same H' H2 → H' c = none → RatAt C H2 c (lov t b) (lun t b) → Q (.ref c) H2) :
    spRat K C D (.ref x :: ([V.int t, V.int b] ++ [])) (upd (upd H' dx (.own x)) x (.ins C dx [])) (fun v H2 => v = .non ∧ Q (.ref x) H2) E := by
  have s2 : Same H' (upd H' dx (.own x)) := same_new hdx
  have hx1 : upd H' dx (.own x) x = none := by rw [upd_ne ne.symm]; exact hx
  refine ⟨x, dx, .int t, .int b, rfl, .int _, .int _, upd_same, (fun h => by cases h), fun _ h2 => ?_, fun i j e1 e2 hj => ?_⟩
  · rcases h2 with h2 | h2
    · cases h2
    · exact absurd (V.int.inj h2) b0
  · cases e1
    cases e2
    refine ⟨st, sb, rfl, ?_⟩
    rw [upd_upd, made_over hj, made_under hj]
    exact new x _ (s2.trans (same_new hx1)) hx ⟨dx, upd_same⟩
theorem scGot : FnScope ["_law_made"] ["_law_made"] (C8.fnScope sGot) := C8.fnScope_by (by decide +kernel)
theorem cal_got {C D f fI : Addr} {fd fdI : FuncData} {ds : List Value} (F : C8.Def K mg "_law_got" sGot f fd) (b : Binds K fd ["_law_made"] []) (T : Txt mg) (I : C8.InsC K C) (n1 : NoAttr K C "over") (n2 : NoAttr K C "under") (RM : RatM P w K mg base C D fI fdI ds) : C8.Cal P w K mg base 1 "_law_got" (spGot C) [] := by
  refine C8.cal0 F b .nil scGot (fun vs H Q E h => ?_) (fun cdv A outer st H vs Q E hr h => ?_)
  · obtain ⟨a, o, u, rfl, _⟩ := h
    rfl
  · obtain ⟨a, o, u, rfl, ⟨dx, ha⟩, k⟩ := h
    refine ⟨_, (pss_one (ps_ret (pe_ifExp (pt_val (pe_callB call_isz (by rfl) T.n_isinstance (by decide +kernel) (pa_cons (pv 0) (pa_cons (pe_glob (v := .ref C) (by rfl) RM.hm rfl) pa_nil)))) (pe_tup (pa_cons (pe_fld (pv 0) rfl) (pa_cons (pe_fld (pv 0) rfl) pa_nil))) pe_non))), ?_⟩
    refine ⟨_, rfl, _, .ref C, .ref C, .ref C, true, rfl, .own C, .x (.base (.ins ha I.cl I.ha I.hn I.htk I.hm)), I.me, _, rfl, iteT ?_⟩
    exact ⟨_, rfl, a, C, dx, _, _, rfl, ha, I.cl, n1, flds_over o u, _, rfl, a, C, dx, _, _, rfl, ha, I.cl, n2, flds_under o u, (by show 2 ≤ sizeLine; decide), k⟩
theorem scNum : FnScope ["_law_pen_here", "_law_pair_here", "_law_top", "_law_bottom"] ["_law_pen_here", "_law_pair_here"] (C8.fnScope sNum) := C8.fnScope_by (by decide +kernel)
theorem cal_num {C D f fI : Addr} {fd fdI : FuncData} {ds : List Value} (F : C8.Def K mg "_law_number" sNum f fd) (b : Binds K fd ["_law_pen_here", "_law_pair_here"] []) (O : Oks K C) (RM : RatM P w K mg base C D fI fdI ds) (D1 : C8.Cal P w K mg base 1 "_law_draw" spDraw []) (D3 : C8.Cal P w K mg base 2 "_law_least" spLea []) : C8.Cal P w K mg base 5 "_law_number" (spNum K C) [] := by
  refine C8.cal0 F b .nil scNum (fun vs H Q E h => ?_) (fun cdv A outer st H vs Q E hr h => ?_)
  · obtain ⟨p, pl, a, n, t, b, rfl, _⟩ := h
    rfl
  · obtain ⟨p, pl, a, n, t, b, rfl, hp, hn, ha, b0, dt, db, k⟩ := h
    refine ⟨_, (pss_cons (ps_asg (C8.pe_c D3 hr (by decide) (by rfl) (pa_cons (pe_ix ix_tup (pv 1) pe_int (fun _ _ => rfl)) (pa_cons (pe_ix ix_tup (pv 1) pe_int (fun _ _ => rfl)) pa_nil))) (pg_tup (by rfl) (pgs_cons (pg_name (i := 2) scNum.nd rfl (Or.inl rfl)) (pgs_cons (pg_name (i := 3) scNum.nd rfl (Or.inl rfl)) pgs_nil))))
  (pss_one (ps_ret (pe_ifExp (PW.pt (pw_and (pt_cmpR op_eq (pv 3) pe_int (nomark _)) (pw_and1 (pt_cmpR op_eq (C8.pe_c D1 hr (by decide) (by rfl) (pa_cons (pv 0) (pa_cons pe_int pa_nil))) pe_int (nomark _))))) (pv 2) (pe_make RM.M RM.F (hr.mono (by decide)) (by rfl) RM.hm RM.b2 .nil (passes_call takes0 (fun _ _ _ _ z => z)) (pa_cons (pe_ix ix_tup (pv 1) pe_int (fun _ _ => rfl)) (pa_cons (pe_ix ix_tup (pv 1) pe_int (fun _ _ => rfl)) pa_nil))))))), ?_⟩
    refine ⟨_, rfl, a, _, _, _, rfl, rfl, SqT.of ha, rfl, _, rfl, a, _, _, _, rfl, rfl, SqT.of ha, rfl, t, b, rfl, b0, dt.mid.small, db.mid.small, fun l fl => ?_⟩
    refine ⟨l, _, rfl, SqT.of upd_same, rfl, _, _, rfl, _, _, rfl, rfl, ?_⟩
    dsimp only [gName]
    have s1 := same_new (o := HO.tup [V.int (lov t b), V.int (lun t b)]) fl
    generalize upd H l _ = H1 at s1 ⊢
    have mk : ∀ (H2 : Hp) (m : Nat), Kp p H H2 → Pen H2 p pl m → m ≤ n + 1 → ∀ x dx, H2 x = none → H2 dx = none → dx ≠ x → spRat K C D (.ref x :: ([V.int t, V.int b] ++ [])) (upd (upd H2 dx (.own x)) x (.ins C dx [])) (fun v H2 => v = .non ∧ Q (.ref x) H2) (fun _ _ _ => False) := fun H2 m k2 p2 l2 x dx hx hdx ne => by
      refine makes b0 dt.mid.small db.mid.small hx hdx ne fun c H3 s3 hc hr3 => ?_
      have nc : c ≠ p := p2.ne_new hc
      refine k _ _ (.rat hr3 (lun_pos b0) (dt.mid.of (lov_le _ _)) (db.mid.of (lun_le _ _))) (fun e => nc (V.ref.inj e)) ((p2.keep s3).more l2) (fun b' o hb e => s3 _ _ (k2 b' o hb e))
    have apn : a ≠ p := fun e => by
      obtain ⟨xs, s, g, hh, _⟩ := hp
      rw [e, hh.at_] at ha
      cases ha
    refine ⟨_, rfl, rfl, _, rfl, ite2 (fun c => ?_) (fun c => ?_)⟩
    · refine ⟨_, rfl, p, pl, n, 2, rfl, by decide, by decide, hp.keep s1, by omega, fun r H2 r0 r1 hp2 k2 => ?_⟩
      have kk : Kp p H H2 := fun b' o hb e => k2 b' o hb (s1 _ _ e)
      refine ⟨rfl, _, rfl, ite2 (fun c2 => ?_) (fun c2 => ?_)⟩
      · have e1 : lun t b = 1 := V.int.inj (of_decide_eq_true c)
        exact ⟨_, rfl, k _ _ (by rw [e1]; exact .int (dt.mid.of (lov_le _ _)) O.i) (by simp) hp2 kk⟩
      · exact ⟨_, rfl, a, _, _, _, rfl, rfl, SqT.of (kk _ _ apn ha), rfl, _, rfl, a, _, _, _, rfl, rfl, SqT.of (kk _ _ apn ha), rfl, mk H2 _ kk hp2 (Nat.le_refl _)⟩
    · exact iteF ⟨_, rfl, a, _, _, _, rfl, rfl, SqT.of (s1 _ _ ha), rfl, _, rfl, a, _, _, _, rfl, rfl, SqT.of (s1 _ _ ha), rfl, mk _ _ (fun b' o _ e => s1 _ _ e) (hp.keep s1) (by omega)⟩
theorem scDue : FnScope ["_law_one_so", "_law_two_so", "_law_below", "_law_some", "_law_mine", "_law_theirs", "_law_top", "_law_bottom"] ["_law_one_so", "_law_two_so"] (C8.fnScope sDue) := C8.fnScope_by (by decide +kernel)
theorem cal_due {f : Addr} {fd : FuncData} (F : C8.Def K mg "_law_due" sDue f fd) (b : Binds K fd ["_law_one_so", "_law_two_so"] []) (D3 : C8.Cal P w K mg base 2 "_law_least" spLea []) : C8.Cal P w K mg base 3 "_law_due" spDue [] := by
  refine C8.cal0 F b .nil scDue (fun vs H Q E h => ?_) (fun cdv A outer st H vs Q E hr h => ?_)
  · obtain ⟨a1, a2, t1, b1, t2, b2, rfl, _⟩ := h
    rfl
  · obtain ⟨a1, a2, t1, b1, t2, b2, rfl, h1, h2, b10, b20, d1, d2, d3, d4, k⟩ := h
    refine ⟨_, (pss_cons (ps_set (i := 2) scDue.nd rfl (Or.inl rfl) (pe_op op_mulW (pe_ix ix_tup (pv 0) pe_int (fun _ _ => rfl)) (pe_ix ix_tup (pv 1) pe_int (fun _ _ => rfl))))
  (pss_cons (ps_par (i := 4) (j := 5) rfl scDue.nd rfl rfl (by decide) rfl rfl (pa_cons (pe_op op_mulW (pe_ix ix_tup (pv 0) pe_int (fun _ _ => rfl)) (pe_ix ix_tup (pv 1) pe_int (fun _ _ => rfl))) (pa_cons (pe_op op_mulW (pe_ix ix_tup (pv 1) pe_int (fun _ _ => rfl)) (pe_ix ix_tup (pv 0) pe_int (fun _ _ => rfl))) pa_nil)) (by rfl))
  (pss_cons (ps_set (i := 3) scDue.nd rfl (Or.inl rfl) (pe_lst (pa_cons (pe_tup (pa_cons (pe_op op_add (pv 4) (pv 5)) (pa_cons (pv 2) pa_nil))) (pa_cons (pe_tup (pa_cons (pe_op op_sub (pv 4) (pv 5)) (pa_cons (pv 2) pa_nil))) pa_nil))))
  (pss_cons (ps_expr (pe_bm PySem.F.plainAttrs_list PySem.F.slot_list_append PySem.F.type_list_append mt_append (pv 3) (pa_cons (pe_tup (pa_cons (pe_op op_mulW (pe_ix ix_tup (pv 0) pe_int (fun _ _ => rfl)) (pe_ix ix_tup (pv 1) pe_int (fun _ _ => rfl))) (pa_cons (pv 2) pa_nil))) pa_nil)))
  (pss_one (ps_ret (pe_lc (own := [("_law_top", 6), ("_law_bottom", 7)]) (g := gTup K 2 (gCons (gName 6) (gCons (gName 7) (gNil)))) (tt := tYes) rfl scDue.nd (pi_list (pv 3)) (blkOk_by (own := [("_law_top", 6), ("_law_bottom", 7)]) (N := ["_law_one_so", "_law_two_so", "_law_below", "_law_some", "_law_mine", "_law_theirs", "_law_top", "_law_bottom"]) (sc := (C8.fnScope sDue)) (by decide +kernel)) (fun _ _ _ _ _ => pg_tup rfl (pgs_cons (pg_name (i := 6) scDue.nd rfl (Or.inl rfl)) (pgs_cons (pg_name (i := 7) scDue.nd rfl (Or.inl rfl)) pgs_nil))) (fun _ _ _ _ _ => pts_nil) (fun _ _ _ _ _ => (C8.pe_c D3 hr (by decide) (by rfl) (pa_cons (pv 6) (pa_cons (pv 7) pa_nil))))))))))), ?_⟩
    have w1 := mul_mid d1.mid d4.mid
    have w2 := mul_mid d3.mid d2.mid
    have w3 := mul_mid d1.mid d3.mid
    have w4 := mul_mid d2.mid d4.mid
    have b0 : b1 * b2 ≠ 0 := Int.mul_ne_zero b10 b20
    have z1 : Small (t1 * b2 + t2 * b1) := small_of (by omega)
    have z2 : Small (t1 * b2 - t2 * b1) := small_of (by omega)
    have z3 : Small (t1 * t2) := small_of (by omega)
    have z4 : Small (b1 * b2) := small_of (by omega)
    refine ⟨_, rfl, a1, _, _, _, rfl, rfl, SqT.of h1, rfl, _, rfl, a2, _, _, _, rfl, rfl, SqT.of h2, rfl, _, _, rfl, rfl, mid_mul d2.mid d4.mid, ?_⟩
    dsimp only [gName, tSeq]
    refine join_any (fun σ' H' => σ' = [some (V.ref a1), some (V.ref a2), some (V.int (b1 * b2)), none, some (V.int (t1 * b2)), some (V.int (t2 * b1)), none, none] ∧ H' = H) ?r1 (fun go => ?_)
    rotate_left
    · refine ⟨_, rfl, a1, _, _, _, rfl, rfl, SqT.of h1, rfl, _, rfl, a2, _, _, _, rfl, rfl, SqT.of h2, rfl, _, _, rfl, rfl, mid_mul d1.mid d4.mid, ?_⟩
      refine ⟨_, rfl, a2, _, _, _, rfl, rfl, SqT.of h2, rfl, _, rfl, a1, _, _, _, rfl, rfl, SqT.of h1, rfl, _, _, rfl, rfl, mid_mul d3.mid d2.mid, ?_⟩
      exact ⟨_, _, rfl, go _ _ ⟨rfl, rfl⟩⟩
    case r1 =>
    rintro σ' H' ⟨rfl, rfl⟩
    dsimp only [tSeq]
    refine join_any (fun σ2 H2 => ∃ l x1 x2, σ2 = [some (V.ref a1), some (V.ref a2), some (V.int (b1 * b2)), some (V.ref l), some (V.int (t1 * b2)), some (V.int (t2 * b1)), none, none] ∧ Same H' H2 ∧ H' l = none ∧ H2 l = some (.lst [V.ref x1, V.ref x2]) ∧ x1 ≠ l ∧ x2 ≠ l ∧ H2 x1 = some (.tup [V.int (t1 * b2 + t2 * b1), V.int (b1 * b2)]) ∧ H2 x2 = some (.tup [V.int (t1 * b2 - t2 * b1), V.int (b1 * b2)])) ?r2 (fun go => ?_)
    rotate_left
    · refine ⟨_, rfl, _, rfl, _, _, rfl, rfl, _, rfl, (by show 2 ≤ sizeLine; decide), fun x1 f1 => ?_⟩
      refine ⟨_, rfl, _, rfl, _, _, rfl, rfl, _, rfl, (by show 2 ≤ sizeLine; decide), fun x2 f2 => ?_⟩
      refine ⟨(by show 2 ≤ sizeLine; decide), fun l fl => ?_⟩
      have n2 : x2 ≠ l := fun e => by rw [← e, upd_same] at fl; cases fl
      have n12 : x1 ≠ x2 := fun e => by rw [← e, upd_same] at f2; cases f2
      have n1 : x1 ≠ l := fun e => by rw [← e, upd_ne n12, upd_same] at fl; cases fl
      have s1 := (same_new (o := HO.tup [V.int (t1 * b2 + t2 * b1), V.int (b1 * b2)]) f1)
      have s2 := (same_new (o := HO.tup [V.int (t1 * b2 - t2 * b1), V.int (b1 * b2)]) f2)
      have s3 := (same_new (o := HO.lst [V.ref x1, V.ref x2]) fl)
      refine go _ _ ⟨l, x1, x2, rfl, (s1.trans s2).trans s3, s1.free (s2.free fl), upd_same, n1, n2, ?_, ?_⟩
      · rw [upd_ne n1, upd_ne n12, upd_same]
      · rw [upd_ne n2, upd_same]
    case r2 =>
    rintro σ2 Ha ⟨l, x1, x2, rfl, sa, nl, el, n1, n2, e1, e2⟩
    dsimp only [tSeq]
    refine join_any (fun σ2 H2 => ∃ x3, σ2 = [some (V.ref a1), some (V.ref a2), some (V.int (b1 * b2)), some (V.ref l), some (V.int (t1 * b2)), some (V.int (t2 * b1)), none, none] ∧ Same H' H2 ∧ H2 l = some (.lst [V.ref x1, V.ref x2, V.ref x3]) ∧ H2 x1 = some (.tup [V.int (t1 * b2 + t2 * b1), V.int (b1 * b2)]) ∧ H2 x2 = some (.tup [V.int (t1 * b2 - t2 * b1), V.int (b1 * b2)]) ∧ H2 x3 = some (.tup [V.int (t1 * t2), V.int (b1 * b2)])) ?r3 (fun go => ?_)
    rotate_left
    · refine ⟨_, rfl, .inl ⟨rfl, _, SqL.of el⟩, _, rfl, a1, _, _, _, rfl, rfl, SqT.of (sa _ _ h1), rfl, _, rfl, a2, _, _, _, rfl, rfl, SqT.of (sa _ _ h2), rfl, _, _, rfl, rfl, mid_mul d1.mid d3.mid, _, rfl, (by show 2 ≤ sizeLine; decide), fun x3 f3 => ?_⟩
      have s4 := same_new (o := HO.tup [V.int (t1 * t2), V.int (b1 * b2)]) f3
      have n3 : x3 ≠ l := fun e => by rw [e, el] at f3; cases f3
      refine ⟨l, _, _, rfl, rfl, s4 _ _ el, (by show 2 < sizeLine; decide), ?_⟩
      refine go _ _ ⟨x3, rfl, fun c o e => ?_, upd_same, ?_, ?_, ?_⟩
      · rw [upd_ne (ne_of_none e nl)]
        exact s4 _ _ (sa _ _ e)
      · rw [upd_ne n1]; exact s4 _ _ e1
      · rw [upd_ne n2]; exact s4 _ _ e2
      · rw [upd_ne n3]; exact upd_same
    case r3 =>
    rintro σ3 Hc ⟨x3, rfl, sH, al', a1', a2', a3'⟩
    have pairs : ∀ (i : Nat) (x : V), [V.ref x1, V.ref x2, V.ref x3][i]? = some x → ∃ (q : Addr) (t b : Int), x = .ref q ∧ Hc q = some (.tup [.int t, .int b]) ∧ [(t1 * b2 + t2 * b1, b1 * b2), (t1 * b2 - t2 * b1, b1 * b2), (t1 * t2, b1 * b2)][i]? = some (t, b) ∧ Small t ∧ Small b ∧ b ≠ 0 := by
      intro i x hx
      match i, hx with
      | 0, hx => cases hx; exact ⟨x1, _, _, rfl, a1', rfl, z1, z4, b0⟩
      | 1, hx => cases hx; exact ⟨x2, _, _, rfl, a2', rfl, z2, z4, b0⟩
      | 2, hx => cases hx; exact ⟨x3, _, _, rfl, a3', rfl, z3, z4, b0⟩
    refine ⟨_, rfl, l, rfl, ⟨_, SqL.of al'⟩, fun D hD => ?_⟩
    refine lc_list (xs := [V.ref x1, V.ref x2, V.ref x3]) (fun i H2 => Same Hc H2 ∧ ∃ ys : List Addr, H2 D = some (.lst (ys.map V.ref)) ∧ ys.length = i ∧ ∀ j q, ys[j]? = some q → ∃ t b : Int, [(t1 * b2 + t2 * b1, b1 * b2), (t1 * b2 - t2 * b1, b1 * b2), (t1 * t2, b1 * b2)][j]? = some (t, b) ∧ H2 q = some (.tup [.int (lov t b), .int (lun t b)]))
      ⟨same_new hD, [], upd_same, rfl, fun j q (hj : (([] : List Addr))[j]? = some q) => by rw [List.getElem?_nil] at hj; cases hj⟩ (fun i H2 _ h => SqL.of (h.1 _ _ al')) ?_ ?_
    · rintro i x H2 hx ⟨sc, ys, yD, yl, yv⟩
      obtain ⟨q, t, b, rfl, hq, hp, zt, zb, zb0⟩ := pairs i x hx
      refine ⟨q, _, rfl, SqT.of (sc _ _ hq), rfl, _, _, rfl, _, _, rfl, rfl, rfl, ?_⟩
      dsimp only [tYes]
      rw [if_pos rfl]
      refine ⟨_, rfl, _, rfl, t, b, rfl, zb0, zt, zb, fun r fr => ?_⟩
      have sr := same_new (o := HO.tup [V.int (lov t b), V.int (lun t b)]) fr
      have rD : r ≠ D := fun e => by rw [e, yD] at fr; cases fr
      refine ⟨_, sr _ _ yD, (by have hi : i < 3 := (List.getElem?_eq_some_iff.mp hx).1
                                rw [List.length_map, yl, sizeLine_eq]; omega), ?_, ys ++ [r], by rw [upd_same, List.map_append]; rfl, by rw [List.length_append, yl]; rfl, fun j z hz => ?_⟩
      · intro c o e
        rw [upd_ne (ne_of_none e hD)]
        exact sr _ _ (sc _ _ e)
      · by_cases hj : j < ys.length
        · rw [List.getElem?_append_left hj] at hz
          obtain ⟨t', b', e1', e2'⟩ := yv j z hz
          refine ⟨t', b', e1', ?_⟩
          rw [upd_ne (fun e => by rw [e, yD] at e2'; cases e2')]
          exact sr _ _ e2'
        · have ej : j = i := by
            have := (List.getElem?_eq_some_iff.mp hz).1
            rw [List.length_append] at this
            simp at this
            omega
          subst ej
          rw [← yl, List.getElem?_append_right (Nat.le_refl _), Nat.sub_self] at hz
          cases hz
          exact ⟨t, b, hp, by rw [upd_ne rD]; exact upd_same⟩
    · rintro H2 ⟨sc, ys, yD, yl, yv⟩
      obtain ⟨y1, y2, y3, rfl⟩ : ∃ y1 y2 y3, ys = [y1, y2, y3] := by
        match ys, yl with
        | [y1, y2, y3], _ => exact ⟨y1, y2, y3, rfl⟩
      obtain ⟨_, _, q1, v1⟩ := yv 0 y1 rfl
      obtain ⟨_, _, q2, v2⟩ := yv 1 y2 rfl
      obtain ⟨_, _, q3, v3⟩ := yv 2 y3 rfl
      cases q1
      cases q2
      cases q3
      exact k D y1 y2 y3 H2 (sH.trans sc) (sH.free hD) yD v1 v2 v3
end
end Lw
namespace Lw
open PySem PySem.Spec PyProof.Rows L2

open LamX
abbrev sRef : Stmt := top 32
/-- a def whose code object is known -/
structure DefC (K : PySem.W.Frag) (mg : Str → Option Value) (x : Str) (st : Stmt) (f : Addr) (fd : FuncData) (c : Addr) : Prop where
  ex : ∃ (oc : Value) (od : Option Addr) (dV kV doc pm : Value) (an : Option Addr) (ct : Value) (osl : Array (Option Value)),
    fd = PySem.W.fnOf x x (C8.fnArgs st) (C8.fnBody st) (C8.fnScope st) dV kV doc pm an (.ref c) ct ∧ K.lookup f = some ⟨oc, od, .func fd, osl⟩ ∧ PySem.W.codeIn K (.ref c) x = true
  mgf : mg x = some (.ref f)
  kp : PySem.W.keepIn K (.ref f) = true
theorem calGC {P : Program} {w : World} {K : PySem.W.Frag} {mg : Str → Option Value} {base : Heap} {x : Str} {st : Stmt} {f c : Addr} {fd : FuncData} {N ps : List Str} {ds : List Value} {dvs : List V} {k : Nat} {sp : Sp} (F : DefC K mg x st f fd c) (b : Binds K fd ps ds) (d : Vals dvs ds) (S : FnScope N ps (C8.fnScope st)) (len : ∀ vs H Q E, sp vs H Q E → vs.length = ps.length)
    (body : ∀ (A : Around) (outer : List Env) (s : Shared) (H : Hp) (vs : List V) (Q : VK) (E : XK), (A.deeper (envOfC x (C8.fnScope st) s.heap.objs.size f (.ref c))).guards = some [] → Room k (A.deeper (envOfC x (C8.fnScope st) s.heap.objs.size f (.ref c))) → sp vs H Q E →
      ∃ t, PSs (cxOf C8.CX0 P w K mg base N x (C8.fnScope st) f (.ref c) A outer s H E).nox (C8.fnBody st) t ∧ t { nx := fun _ H' => Q .non H', rt := Q } (start N vs) H) : CalG P w K mg base (k + 1) x sp dvs := by
  refine ⟨f, fd, ps, ds, ⟨len, ?_⟩, F.mgf, F.kp, b, d⟩
  intro A outer s H args us vs Q E hg hr e0 hb r hs
  obtain ⟨oc, od, dV, kV, doc, pm, an, ct, osl, rfl, lk, hcd⟩ := F.ex
  refine LamX.run_ofS lk hcd S hr e0 hb r (len _ _ _ _ hs) fun hr' => ?_
  obtain ⟨t, h1, h2⟩ := body A outer s H vs Q E hg hr' hs
  exact ⟨t, h1.nox, h2⟩
theorem Tabs.put {T : List (Addr × Str)} {H : Hp} {l : Addr} {o : HO} {xs : List V} (t : Tabs T H) (hl : H l = some (.lst xs)) : Tabs T (upd H l o) := by
  intro q hq
  obtain ⟨ps, h1, h2, h3⟩ := t q hq
  refine ⟨ps, ?_, h2, fun pos cv hc => ?_⟩
  · rw [upd_ne (fun e => by rw [e, hl] at h1; cases h1)]; exact h1
  · obtain ⟨c, e1, e2⟩ := h3 pos cv hc
    refine ⟨c, e1, ?_⟩
    rw [upd_ne (fun e => by rw [e, hl] at e2; unfold CodeO at e2; cases e2)]; exact e2
theorem Tabs.kp {T : List (Addr × Str)} {p pl : Addr} {n : Nat} {H H' : Hp} (t : Tabs T H) (hp : Pen H p pl n) (k : Kp p H H') : Tabs T H' := by
  intro q hq
  obtain ⟨ps, h1, h2, h3⟩ := t q hq
  obtain ⟨xs, a, g, hh, _⟩ := hp
  refine ⟨ps, k _ _ (fun e => ?_) h1, h2, fun pos cv hc => ?_⟩
  · rw [e, hh.at_] at h1; cases h1
  · obtain ⟨c, e1, e2⟩ := h3 pos cv hc
    refine ⟨c, e1, k _ _ (fun e => ?_) e2⟩
    rw [e, hh.at_] at e2
    unfold CodeO at e2
    cases e2
theorem Pen.extn {H H' : Hp} {p l : Addr} {n : Nat} (h : Pen H p l n) (e : ExtN H H') : Pen H' p l n := by
  obtain ⟨xs, a, g, ⟨h1, h2, h3, h4, h5⟩, h6⟩ := h
  have nl : ∀ (ys : List V) ps, HO.lst ys ≠ .tbl ps := fun ys ps z => by cases z
  exact ⟨xs, a, g, ⟨e _ _ h1 (nl _), e _ _ h2 (nl _), h3, h4, h5⟩, h6⟩
theorem NumAt.extn {K : PySem.W.Frag} {C : Addr} {H H' : Hp} {v : V} {o u : Int} (h : NumAt K C H v o u) (e : ExtN H H') : NumAt K C H' v o u := by
  cases h with
  | rat h h0 hp hq =>
    obtain ⟨dx, ha⟩ := h
    exact .rat ⟨dx, e _ _ ha fun ps z => by cases z⟩ h0 hp hq
  | int hi hk => exact .int hi hk
theorem Oc.extn {H H' : Hp} {v : V} {r : Str} (h : Oc H v r) (e : ExtN H H') : Oc H' v r := by
  cases h with
  | non => exact .non
  | bl b => exact .bl b
  | str z h => exact .str z h
  | tup xs h g => exact .tup xs (e _ _ h fun ps z => by cases z) g
  | lst xs h g => exact .lst xs (e _ _ h fun ps z => by cases z) g
  | dct h => exact .dct (e _ _ h fun ps z => by cases z)
theorem Oc.ne_new {H : Hp} {v : V} {r : Str} {l : Addr} (h : Oc H v r) (hl : H l = none) : v ≠ .ref l := by
  intro z
  subst z
  cases h with
  | tup xs h g => rw [hl] at h; cases h
  | lst xs h g => rw [hl] at h; cases h
  | dct h => rw [hl] at h; cases h
/-- `makes` for a promise that is told of any heap -/
theorem makes' {K : PySem.W.Frag} {C D : Addr} {H' : Hp} {E : XK} {R : Hp → Prop} {t b : Int} {x dx : Addr} (b0 : b ≠ 0) (st : Small t) (sb : Small b) (hx : H' x = none) (hdx : H' dx = none) (ne : dx ≠ x)
    (new : ∀ H2, Same H' H2 → RatAt C H2 x (lov t b) (lun t b) → R H2) :
    spRat K C D (.ref x :: ([V.int t, V.int b] ++ [])) (upd (upd H' dx (.own x)) x (.ins C dx [])) (fun v H2 => v = .non ∧ R H2) E := by
  have s2 : Same H' (upd H' dx (.own x)) := same_new hdx
  have hx1 : upd H' dx (.own x) x = none := by rw [upd_ne ne.symm]; exact hx
  refine ⟨x, dx, .int t, .int b, rfl, .int _, .int _, upd_same, (fun h => by cases h), fun _ h2 => ?_, fun i j e1 e2 hj => ?_⟩
  · rcases h2 with h2 | h2
    · cases h2
    · exact absurd (V.int.inj h2) b0
  · cases e1
    cases e2
    refine ⟨st, sb, rfl, ?_⟩
    rw [upd_upd, made_over hj, made_under hj]
    exact new _ (s2.trans (same_new hx1)) ⟨dx, upd_same⟩
theorem heard_odd {K : PySem.W.Frag} {T : List (Addr × Str)} {C D a : Addr} {o u : Int} {v : V} {r : Str} {σ : L2.St} {H : Hp} {Q : VK} {i j : Nat} {x y : V} (O : Oks K C) (tb : Tabs T H) (na : NumAt K C H (.ref a) o u) (oc : Oc H v r)
    (si : σ[i]? = some (some x)) (sj : σ[j]? = some (some y)) (xy : (x = .ref a ∧ y = v) ∨ (x = v ∧ y = .ref a))
    (k : ∀ (t : Addr) (H3 : Hp), ExtN H H3 → Tabs T H3 → (∀ b o, H b = some o → (∀ ps, o ≠ .tbl ps) → b ≠ t) → H3 t = some (.tup [.str "ratio", .str r]) → Q (.ref t) H3) :
    tLam T (TTheard K D) (fun E => tOp (rOdd K C D E) (tVar i) (tVar j)) σ H Q := by
  refine ⟨tb, fun H1 e1 t1 => ?_⟩
  have o1 := Oc.extn oc e1
  obtain ⟨T1, bt⟩ := o1.bt (K := K)
  refine ⟨v, r, x, si, y, sj, a, o, u, v, T1, NumAt.extn na e1, bt, o1.refuses O (fun d H2 s2 hd => ⟨rfl, d, rfl, upd_same, (o1.same (s2.trans (same_new hd))).rp, fun t H3 s3 ft e3 => ?_⟩), xy⟩
  have s12 := s2.trans (same_new (o := HO.xd [("value", v)]) hd)
  have s13 : Same H1 H3 := s12.trans s3
  refine k t H3 (fun b o hb n => s13 _ _ (e1 _ _ hb n)) (t1.ext s13) (fun b o hb n e => ?_) e3
  have z := s12 _ _ (e1 _ _ hb n)
  rw [e, ft] at z
  cases z
/-- what stands while the six are asked -/
structure Iv (K : PySem.W.Frag) (C : Addr) (T : List (Addr × Str)) (p pl a l : Addr) (m : Nat) (o u : Int) (v : V) (r : Str) (H : Hp) (i : Nat) : Prop where
  pen : Pen H p pl m
  lp : l ≠ p
  lpl : l ≠ pl
  lv : v ≠ .ref l
  tab : Tabs T H
  num : NumAt K C H (.ref a) o u
  odd : Oc H v r
  all : ∃ ts : List Addr, H l = some (.lst (ts.map V.ref)) ∧ ts.length = i ∧ ∀ t ∈ ts, H t = some (.tup [.str "ratio", .str r])
section
variable {K : PySem.W.Frag} {C D : Addr} {T : List (Addr × Str)} {p pl a l : Addr} {m : Nat} {o u : Int} {v : V} {r : Str} {H : Hp} {i : Nat}
/-- one more answer stands in the list -/
theorem Iv.put (iv : Iv K C T p pl a l m o u v r H i) {t : Addr} {H3 : Hp} (e : ExtN H H3) (t3 : Tabs T H3) (nt : ∀ b o, H b = some o → (∀ ps, o ≠ .tbl ps) → b ≠ t) (et : H3 t = some (.tup [.str "ratio", .str r])) :
    ∃ ts : List Addr, H3 l = some (.lst (ts.map V.ref)) ∧ ts.length = i ∧ Iv K C T p pl a l m o u v r (upd H3 l (.lst (ts.map V.ref ++ [.ref t]))) (i + 1) := by
  obtain ⟨pen, lp, lpl, lv, tab, num, odd, ts, hl, len, al⟩ := iv
  have nl : ∀ (ys : List V) ps, HO.lst ys ≠ .tbl ps := fun ys ps z => by cases z
  have l3 := e _ _ hl (nl _)
  refine ⟨ts, l3, len, (pen.extn e).over lp lpl, lp, lpl, lv, Lw.Tabs.put t3 l3, ?_, ?_, ts ++ [t], by rw [upd_same, List.map_append]; rfl, by rw [List.length_append, len]; rfl, fun z hz => ?_⟩
  · have n3 := num.extn e
    obtain ⟨⟨dx, ha⟩, h0, mp, mq⟩ := n3.ref
    exact .rat ⟨dx, by rw [upd_ne (fun z => by rw [z, l3] at ha; cases ha)]; exact ha⟩ h0 mp mq
  · exact (odd.extn e).move fun b o ev hb => by rw [upd_ne (fun z => lv (by rw [ev, z]))]; exact hb
  · rcases List.mem_append.mp hz with hz | hz
    · have q := e _ _ (al z hz) (fun ps z => by cases z)
      rw [upd_ne (fun w => by rw [w, l3] at q; cases q)]
      exact q
    · rw [List.mem_singleton.mp hz, upd_ne (fun w => by rw [w, l3] at et; cases et)]
      exact et
theorem Iv.step {σ : L2.St} {En : Ends} {si sj : Nat} {x y : V} (O : Oks K C) (iv : Iv K C T p pl a l m o u v r H i) (hi : i < 6) (s1 : σ[1]? = some (some (.ref l))) (ei : σ[si]? = some (some x)) (ej : σ[sj]? = some (some y)) (xy : (x = .ref a ∧ y = v) ∨ (x = v ∧ y = .ref a))
    (k : ∀ H3, Iv K C T p pl a l m o u v r H3 (i + 1) → En.nx σ H3) :
    tDrop (tBM K "list" rAppend (tVar 1) (tCons (tLam T (TTheard K D) (fun E => tOp (rOdd K C D E) (tVar si) (tVar sj))) tNil)) En σ H := by
  obtain ⟨ts, hl, len, al⟩ := iv.all
  refine ⟨_, s1, .inl ⟨rfl, _, SqL.of hl⟩, heard_odd O iv.tab iv.num iv.odd ei ej xy fun t H3 e t3 nt et => ?_⟩
  obtain ⟨ts3, l3, len3, iv3⟩ := iv.put e t3 nt et
  exact ⟨l, _, _, rfl, rfl, l3, by rw [List.length_map, len3, sizeLine_eq]; omega, k _ iv3⟩
end
abbrev tabOf (B : Addr) : List (Addr × Str) := [(B, (("_law_refused_right" : Str) ++ (".<locals>." : Str)) ++ ("<lambda>" : Str))]
def spRef (B : Addr) : Sp := fun vs H Q _ => ∃ (p pl : Addr) (n : Nat), vs = [.ref p] ∧ Pen H p pl n ∧ n ≤ 900000 ∧ Tabs (tabOf B) H ∧ ∀ H', Pen H' p pl (n + 3) → Tabs (tabOf B) H' → Q (.bl true) H'
section
variable {P : Program} {w : World} {K : PySem.W.Frag} {mg : Str → Option Value} {base : Heap}
theorem scRef : FnScope ["_law_pen_here", "_law_heard_here", "_law_odd_here", "_law_made"] ["_law_pen_here"] (C8.fnScope sRef) := C8.fnScope_by (by decide +kernel)
theorem ten (i : Int) (h : i.natAbs ≤ 10) : Mid i := Nat.lt_of_le_of_lt h (by decide)
theorem cal_ref {f c B C D L gH fI : Addr} {fd fdH fdI : FuncData} {ds : List Value} (F : DefC K mg "_law_refused_right" sRef f fd c) (b : Binds K fd ["_law_pen_here"] []) (FH : C8.Def K mg "_law_heard" sHea gH fdH) (bH : Binds K fdH ["_law_ask"] []) (TB : TabB base mg c B)
    (R : Hrd K mg D L) (T : Txt mg) (O : Oks K C) (RM : RatM P w K mg base C D fI fdI ds) (MA : OpB P w K mg base C D "add" frAdd) (MS : OpB P w K mg base C D "sub" frSub) (MM : OpB P w K mg base C D "mul" frMul) (D1 : C8.Cal P w K mg base 1 "_law_draw" spDraw []) (D4 : C8.Cal P w K mg base 3 "_law_odd" spOdd []) :
    CalG P w K mg base 12 "_law_refused_right" (spRef B) [] := by
  obtain ⟨ocH, odH, dVH, kVH, docH, pmH, anH, cdvH, ctH, oslH, rfl, lkH, cdH⟩ := FH.fn.ex
  refine calGC F b .nil scRef (fun vs H Q E h => ?_) (fun A outer st H vs Q E hG hr h => ?_)
  · obtain ⟨p, pl, n, rfl, _⟩ := h
    rfl
  · obtain ⟨p, pl, n, rfl, hp, hn, ht, k⟩ := h
    refine ⟨_, (pss_cons (ps_asg (pe_tup (pa_cons (C8.pe_c D4 hr (by decide) (by rfl) (pa_cons (pv 0) pa_nil)) (pa_cons (pe_make RM.M RM.F (hr.mono (by decide)) (by rfl) RM.hm RM.b2 .nil (passes_call takes0 (fun _ _ _ _ z => z)) (pa_cons (pe_op op_sub (C8.pe_c D1 hr (by decide) (by rfl) (pa_cons (pv 0) (pa_cons pe_int pa_nil))) pe_int) (pa_cons (pe_op op_add pe_int (C8.pe_c D1 hr (by decide) (by rfl) (pa_cons (pv 0) (pa_cons pe_int pa_nil)))) pa_nil))) pa_nil))) (pg_tup (by rfl) (pgs_cons (pg_name (i := 2) scRef.nd rfl (Or.inr rfl)) (pgs_cons (pg_name (i := 3) scRef.nd rfl (Or.inr rfl)) pgs_nil))))
  (pss_cons (ps_set (i := 1) scRef.nd rfl (Or.inl rfl) (pe_lst (pa_cons (pe_lamcall (k := 9) (T := tabOf B) (t := fun E => tOp (rOdd K C D E) (tVar 3) (tVar 2)) (by rfl) FH.mgf FH.kp lkH cdH bH scHea rfl (.inl rfl) (heard_gives R T hG (hr.mono (by decide))) TB rfl (List.mem_singleton.mpr rfl) (fun p hp _ => by rw [List.mem_singleton.mp hp]; first | rfl | done) hr (lamS_by (by rfl)) rfl (fun _ _ _ _ _ => rfl)
      (fun A outer s H E f c2 hr2 => (pe_op (op_odd (op := .Add) (E := E) (j := 9) MA (passes_call (takes_of rfl rfl rfl rfl) (fun _ _ _ _ z => z)) hr2 (Nat.le_refl _)) (pv 3) (pv 2)))) pa_nil)))
  (pss_cons (ps_expr (pe_bm PySem.F.plainAttrs_list PySem.F.slot_list_append PySem.F.type_list_append mt_append (pv 1) (pa_cons (pe_lamcall (k := 9) (T := tabOf B) (t := fun E => tOp (rOdd K C D E) (tVar 3) (tVar 2)) (by rfl) FH.mgf FH.kp lkH cdH bH scHea rfl (.inl rfl) (heard_gives R T hG (hr.mono (by decide))) TB rfl (List.mem_singleton.mpr rfl) (fun p hp _ => by rw [List.mem_singleton.mp hp]; first | rfl | done) hr (lamS_by (by rfl)) rfl (fun _ _ _ _ _ => rfl)
      (fun A outer s H E f c2 hr2 => (pe_op (op_odd (op := .Sub) (E := E) (j := 9) MS (passes_call (takes_of rfl rfl rfl rfl) (fun _ _ _ _ z => z)) hr2 (Nat.le_refl _)) (pv 3) (pv 2)))) pa_nil)))
  (pss_cons (ps_expr (pe_bm PySem.F.plainAttrs_list PySem.F.slot_list_append PySem.F.type_list_append mt_append (pv 1) (pa_cons (pe_lamcall (k := 9) (T := tabOf B) (t := fun E => tOp (rOdd K C D E) (tVar 3) (tVar 2)) (by rfl) FH.mgf FH.kp lkH cdH bH scHea rfl (.inl rfl) (heard_gives R T hG (hr.mono (by decide))) TB rfl (List.mem_singleton.mpr rfl) (fun p hp _ => by rw [List.mem_singleton.mp hp]; first | rfl | done) hr (lamS_by (by rfl)) rfl (fun _ _ _ _ _ => rfl)
      (fun A outer s H E f c2 hr2 => (pe_op (op_odd (op := .Mult) (E := E) (j := 9) MM (passes_call (takes_of rfl rfl rfl rfl) (fun _ _ _ _ z => z)) hr2 (Nat.le_refl _)) (pv 3) (pv 2)))) pa_nil)))
  (pss_cons (ps_expr (pe_bm PySem.F.plainAttrs_list PySem.F.slot_list_append PySem.F.type_list_append mt_append (pv 1) (pa_cons (pe_lamcall (k := 9) (T := tabOf B) (t := fun E => tOp (rOdd K C D E) (tVar 2) (tVar 3)) (by rfl) FH.mgf FH.kp lkH cdH bH scHea rfl (.inl rfl) (heard_gives R T hG (hr.mono (by decide))) TB rfl (List.mem_singleton.mpr rfl) (fun p hp _ => by rw [List.mem_singleton.mp hp]; first | rfl | done) hr (lamS_by (by rfl)) rfl (fun _ _ _ _ _ => rfl)
      (fun A outer s H E f c2 hr2 => (pe_op (op_odd (op := .Add) (E := E) (j := 9) MA (passes_call (takes_of rfl rfl rfl rfl) (fun _ _ _ _ z => z)) hr2 (Nat.le_refl _)) (pv 2) (pv 3)))) pa_nil)))
  (pss_cons (ps_expr (pe_bm PySem.F.plainAttrs_list PySem.F.slot_list_append PySem.F.type_list_append mt_append (pv 1) (pa_cons (pe_lamcall (k := 9) (T := tabOf B) (t := fun E => tOp (rOdd K C D E) (tVar 2) (tVar 3)) (by rfl) FH.mgf FH.kp lkH cdH bH scHea rfl (.inl rfl) (heard_gives R T hG (hr.mono (by decide))) TB rfl (List.mem_singleton.mpr rfl) (fun p hp _ => by rw [List.mem_singleton.mp hp]; first | rfl | done) hr (lamS_by (by rfl)) rfl (fun _ _ _ _ _ => rfl)
      (fun A outer s H E f c2 hr2 => (pe_op (op_odd (op := .Sub) (E := E) (j := 9) MS (passes_call (takes_of rfl rfl rfl rfl) (fun _ _ _ _ z => z)) hr2 (Nat.le_refl _)) (pv 2) (pv 3)))) pa_nil)))
  (pss_cons (ps_expr (pe_bm PySem.F.plainAttrs_list PySem.F.slot_list_append PySem.F.type_list_append mt_append (pv 1) (pa_cons (pe_lamcall (k := 9) (T := tabOf B) (t := fun E => tOp (rOdd K C D E) (tVar 2) (tVar 3)) (by rfl) FH.mgf FH.kp lkH cdH bH scHea rfl (.inl rfl) (heard_gives R T hG (hr.mono (by decide))) TB rfl (List.mem_singleton.mpr rfl) (fun p hp _ => by rw [List.mem_singleton.mp hp]; first | rfl | done) hr (lamS_by (by rfl)) rfl (fun _ _ _ _ _ => rfl)
      (fun A outer s H E f c2 hr2 => (pe_op (op_odd (op := .Mult) (E := E) (j := 9) MM (passes_call (takes_of rfl rfl rfl rfl) (fun _ _ _ _ z => z)) hr2 (Nat.le_refl _)) (pv 2) (pv 3)))) pa_nil)))
  (pss_one (ps_ret (pe_cmpR (op_eqD hr.units) (pv 1) (pe_op op_rep (pe_lst (pa_cons (pe_tup (pa_cons pe_str (pa_cons (pe_callB (call_reprX hG (hr.mono (by decide))) (by rfl) T.n_repr (by decide +kernel) (pa_cons (pv 2) pa_nil)) pa_nil))) pa_nil)) pe_int) (nomark _))))))))))), ?_⟩
    refine ⟨_, rfl, p, pl, n, rfl, hp, hn, fun v r H1 oc1 nv hp1 k1 => ?_⟩
    refine ⟨_, rfl, p, pl, n + 1, 9, rfl, by decide, by decide, hp1, by omega, fun r1 H2 r10 r11 hp2 k2 => ⟨_, _, rfl, rfl, ?_⟩⟩
    refine ⟨_, rfl, p, pl, n + 2, 5, rfl, by decide, by decide, hp2, by omega, fun r2 H3 r20 r21 hp3 k3 => ⟨_, _, rfl, rfl, ?_⟩⟩
    have oc3 : Oc H3 v r := oc1.move fun a o ev ha => k3 _ _ (fun e => nv (by rw [ev, e])) (k2 _ _ (fun e => nv (by rw [ev, e])) ha)
    have t3 : Tabs (tabOf B) H3 := Lw.Tabs.kp (Lw.Tabs.kp (Lw.Tabs.kp ht hp k1) hp1 k2) hp2 k3
    refine fun a dx hx hdx ne => ?_
    refine makes' (t := r1 - 4) (b := 1 + r2) (by omega) (ten _ (by omega)).small (ten _ (by omega)).small hx hdx ne fun H4 s4 ra => ?_
    have na : NumAt K C H4 (.ref a) (lov (r1 - 4) (1 + r2)) (lun (r1 - 4) (1 + r2)) := .rat ra (lun_pos (by omega)) ((ten _ (Nat.le_trans (lov_le _ _) (by omega)))) ((ten _ (Nat.le_trans (lun_le _ _) (by omega))))
    have oc4 := oc3.same s4
    have t4 := t3.ext s4
    have hp4 := hp3.keep s4
    generalize lov (r1 - 4) (1 + r2) = o at na
    generalize lun (r1 - 4) (1 + r2) = u at na
    have na4 := na
    refine ⟨(by show 2 ≤ sizeLine; decide), fun t ft => ⟨t, _, rfl, SqT.of upd_same, rfl, _, _, rfl, _, _, rfl, rfl, ?_⟩⟩
    have s5 := same_new (o := HO.tup [v, V.ref a]) ft
    generalize upd H4 t _ = H5 at s5 ⊢
    have na5 : NumAt K C H5 (.ref a) o u := by
      obtain ⟨hra, h0, mp, mq⟩ := na.ref
      exact .rat (hra.same s5) h0 mp mq
    have oc5 := oc4.same s5
    have t5 := t4.ext s5
    have hp5 := hp4.keep s5
    dsimp only [gName, tSeq]
    refine heard_odd O t5 na5 oc5 rfl rfl (.inl ⟨rfl, rfl⟩) fun q H6 e6 t6 nq eq => ?_
    refine ⟨(by show 1 ≤ sizeLine; decide), fun l fl => ?_⟩
    have s7 := same_new (o := HO.lst [V.ref q]) fl
    have iv1 : Iv K C (tabOf B) p pl a l (n + 3) o u v r (upd H6 l (.lst [.ref q])) 1 := by
      have hp6 := Pen.extn hp5 e6
      have oc6 := Oc.extn oc5 e6
      have na6 := NumAt.extn na5 e6
      refine ⟨hp6.keep s7, hp6.ne_new fl, hp6.ne_new2 fl, oc6.ne_new fl, t6.ext s7, ?_, oc6.same s7, [q], upd_same, rfl, fun z hz => ?_⟩
      · obtain ⟨hra, h0, mp, mq⟩ := na6.ref
        exact .rat (hra.same s7) h0 mp mq
      · rw [List.mem_singleton.mp hz]; exact s7 _ _ eq
    generalize upd H6 l _ = H7 at iv1 ⊢
    dsimp only [gName, tSeq]
    refine Iv.step O iv1 (by decide) rfl rfl rfl (.inl ⟨rfl, rfl⟩) fun H8 iv2 => ?_
    dsimp only [tSeq]
    refine Iv.step O iv2 (by decide) rfl rfl rfl (.inl ⟨rfl, rfl⟩) fun H9 iv3 => ?_
    dsimp only [tSeq]
    refine Iv.step O iv3 (by decide) rfl rfl rfl (.inr ⟨rfl, rfl⟩) fun H10 iv4 => ?_
    dsimp only [tSeq]
    refine Iv.step O iv4 (by decide) rfl rfl rfl (.inr ⟨rfl, rfl⟩) fun H11 iv5 => ?_
    dsimp only [tSeq]
    refine Iv.step O iv5 (by decide) rfl rfl rfl (.inr ⟨rfl, rfl⟩) fun H12 iv6 => ?_
    obtain ⟨pen, _, _, _, tab, _, odd, ts, hl, len, al⟩ := iv6
    refine ⟨_, rfl, _, rfl, v, r, rfl, odd.rp, (by show 2 ≤ sizeLine; decide), fun z fz => ⟨(by show 1 ≤ sizeLine; decide), fun l4 fl4 => ⟨l4, 6, _, rfl, rfl, upd_same, by decide, by decide, (by show 1 * 6 ≤ sizeLine; decide), fun l5 fl5 => ?_⟩⟩⟩
    have s13 := same_new (o := HO.tup [V.str "ratio", V.str r]) fz
    have s14 := same_new (o := HO.lst [V.ref z]) fl4
    have s15 := same_new (o := HO.lst (List.replicate (Int.toNat 6) [V.ref z]).flatten) fl5
    have ss := (s13.trans s14).trans s15
    obtain ⟨q1, q2, q3, q4, q5, q6, rfl⟩ : ∃ q1 q2 q3 q4 q5 q6, ts = [q1, q2, q3, q4, q5, q6] := by
      match ts, len with
      | [q1, q2, q3, q4, q5, q6], _ => exact ⟨q1, q2, q3, q4, q5, q6, rfl⟩
    have dz : ∀ (H : Hp) (q : Addr), H q = some (.tup [.str "ratio", .str r]) → Dp K H (.ref q) (.tuple [.str "ratio", .str r]) := fun H q e => .tup (SqT.of e) (.cons (.str _) (.cons (.str _) .nil))
    have zz := s15 _ _ (s14 _ _ (upd_same (H := H12) (a := z) (o := HO.tup [V.str "ratio", V.str r])))
    have shp : SeqAt.shaped (.list [.tuple [.str "ratio", .str r], .tuple [.str "ratio", .str r], .tuple [.str "ratio", .str r], .tuple [.str "ratio", .str r], .tuple [.str "ratio", .str r], .tuple [.str "ratio", .str r]]) = true := by simp [SeqAt.shaped, PyData.canLay0, PyData.canLayAll0, PyData.depth, PyData.depthAll, odd.sok]; decide +kernel
    refine ⟨.list [.tuple [.str "ratio", .str r], .tuple [.str "ratio", .str r], .tuple [.str "ratio", .str r], .tuple [.str "ratio", .str r], .tuple [.str "ratio", .str r], .tuple [.str "ratio", .str r]], .list [.tuple [.str "ratio", .str r], .tuple [.str "ratio", .str r], .tuple [.str "ratio", .str r], .tuple [.str "ratio", .str r], .tuple [.str "ratio", .str r], .tuple [.str "ratio", .str r]], .lst (SqL.of (ss _ _ hl)) (.cons (dz _ _ (ss _ _ (al q1 (by simp)))) (.cons (dz _ _ (ss _ _ (al q2 (by simp)))) (.cons (dz _ _ (ss _ _ (al q3 (by simp)))) (.cons (dz _ _ (ss _ _ (al q4 (by simp)))) (.cons (dz _ _ (ss _ _ (al q5 (by simp)))) (.cons (dz _ _ (ss _ _ (al q6 (by simp)))) .nil)))))), .lst (SqL.of upd_same) (.cons (dz _ _ zz) (.cons (dz _ _ zz) (.cons (dz _ _ zz) (.cons (dz _ _ zz) (.cons (dz _ _ zz) (.cons (dz _ _ zz) .nil)))))), shp, shp, ?_⟩
    have eq : PyData.eqv (.list [.tuple [.str "ratio", .str r], .tuple [.str "ratio", .str r], .tuple [.str "ratio", .str r], .tuple [.str "ratio", .str r], .tuple [.str "ratio", .str r], .tuple [.str "ratio", .str r]]) (.list [.tuple [.str "ratio", .str r], .tuple [.str "ratio", .str r], .tuple [.str "ratio", .str r], .tuple [.str "ratio", .str r], .tuple [.str "ratio", .str r], .tuple [.str "ratio", .str r]]) = true := SeqAt.eqv_refl _ (SeqAt.canLay_of_shaped shp)
    rw [eq]
    exact k _ (pen.keep ss) (tab.ext ss)
end
end Lw
namespace Lw
open PySem PySem.Spec PyProof.Rows L2

open LamX
abbrev sRight : Stmt := top 31
/-! ### the sums by least forms -/
theorem fr_add {t1 b1 t2 b2 : Int} (h1 : b1 ≠ 0) (h2 : b2 ≠ 0) : lov (frAdd (lov t1 b1) (lun t1 b1) (lov t2 b2) (lun t2 b2)).1 (frAdd (lov t1 b1) (lun t1 b1) (lov t2 b2) (lun t2 b2)).2 = lov (t1 * b2 + t2 * b1) (b1 * b2) ∧
    lun (frAdd (lov t1 b1) (lun t1 b1) (lov t2 b2) (lun t2 b2)).1 (frAdd (lov t1 b1) (lun t1 b1) (lov t2 b2) (lun t2 b2)).2 = lun (t1 * b2 + t2 * b1) (b1 * b2) := by
  have c1 := lov_cross (t := t1) h1
  have c2 := lov_cross (t := t2) h2
  refine lov_eq (Int.ne_of_gt (Int.mul_pos (lun_pos h1) (lun_pos h2))) (Int.mul_ne_zero h1 h2) ?_
  unfold frAdd
  dsimp only
  generalize lov t1 b1 = o at *
  generalize lun t1 b1 = u at *
  generalize lov t2 b2 = p at *
  generalize lun t2 b2 = q at *
  grind
theorem fr_sub {t1 b1 t2 b2 : Int} (h1 : b1 ≠ 0) (h2 : b2 ≠ 0) : lov (frSub (lov t1 b1) (lun t1 b1) (lov t2 b2) (lun t2 b2)).1 (frSub (lov t1 b1) (lun t1 b1) (lov t2 b2) (lun t2 b2)).2 = lov (t1 * b2 - t2 * b1) (b1 * b2) ∧
    lun (frSub (lov t1 b1) (lun t1 b1) (lov t2 b2) (lun t2 b2)).1 (frSub (lov t1 b1) (lun t1 b1) (lov t2 b2) (lun t2 b2)).2 = lun (t1 * b2 - t2 * b1) (b1 * b2) := by
  have c1 := lov_cross (t := t1) h1
  have c2 := lov_cross (t := t2) h2
  refine lov_eq (Int.ne_of_gt (Int.mul_pos (lun_pos h1) (lun_pos h2))) (Int.mul_ne_zero h1 h2) ?_
  unfold frSub
  dsimp only
  generalize lov t1 b1 = o at *
  generalize lun t1 b1 = u at *
  generalize lov t2 b2 = p at *
  generalize lun t2 b2 = q at *
  grind
theorem fr_mul {t1 b1 t2 b2 : Int} (h1 : b1 ≠ 0) (h2 : b2 ≠ 0) : lov (frMul (lov t1 b1) (lun t1 b1) (lov t2 b2) (lun t2 b2)).1 (frMul (lov t1 b1) (lun t1 b1) (lov t2 b2) (lun t2 b2)).2 = lov (t1 * t2) (b1 * b2) ∧
    lun (frMul (lov t1 b1) (lun t1 b1) (lov t2 b2) (lun t2 b2)).1 (frMul (lov t1 b1) (lun t1 b1) (lov t2 b2) (lun t2 b2)).2 = lun (t1 * t2) (b1 * b2) := by
  have c1 := lov_cross (t := t1) h1
  have c2 := lov_cross (t := t2) h2
  refine lov_eq (Int.ne_of_gt (Int.mul_pos (lun_pos h1) (lun_pos h2))) (Int.mul_ne_zero h1 h2) ?_
  unfold frMul
  dsimp only
  generalize lov t1 b1 = o at *
  generalize lun t1 b1 = u at *
  generalize lov t2 b2 = p at *
  generalize lun t2 b2 = q at *
  grind

theorem NumAt.kp {K : PySem.W.Frag} {C p : Addr} {H H' : Hp} {v : V} {o u : Int} (h : NumAt K C H v o u) (k : Kp p H H') (ne : v ≠ .ref p) : NumAt K C H' v o u := by
  cases h with
  | rat h h0 hp hq =>
    obtain ⟨dx, ha⟩ := h
    exact .rat ⟨dx, k _ _ (fun e => ne (by rw [e])) ha⟩ h0 hp hq
  | int hi hk => exact .int hi hk
theorem NumAt.same {K : PySem.W.Frag} {C : Addr} {H H' : Hp} {v : V} {o u : Int} (h : NumAt K C H v o u) (s : Same H H') : NumAt K C H' v o u := by
  cases h with
  | rat h h0 hp hq => exact .rat (h.same s) h0 hp hq
  | int hi hk => exact .int hi hk
section
variable {K : PySem.W.Frag} {C : Addr} {σ : L2.St} {H : Hp} {Q : VK}
/-- what an expression makes: a ratio of this least form, new -/
def Mks (C : Addr) (te : TE) (σ : L2.St) (H : Hp) (o u : Int) : Prop := ∀ (H1 : Hp) (Q : VK), Same H H1 → (∀ (a : Addr) (H' : Hp), Same H1 H' → RatAt C H' a o u → Q (.ref a) H') → te σ H1 Q
/-- what an expression makes: a pair of ints, new -/
def Prs (te : TE) (σ : L2.St) (H : Hp) (o u : Int) : Prop := ∀ (H1 : Hp) (Q : VK), Same H H1 → (∀ (t : Addr) (H' : Hp), Same H1 H' → H' t = some (.tup [.int o, .int u]) → Q (.ref t) H') → te σ H1 Q
theorem Mks.got {te : TE} {o u : Int} (h : Mks C te σ H o u) : Prs (tCall (spGot C) [] C8.E0 (tCons te tNil)) σ H o u := by
  intro H1 Q s k
  refine h H1 _ s fun a H' s1 ra => ?_
  exact ⟨a, o, u, rfl, ra, fun t ft => k t _ (s1.trans (same_new ft)) upd_same⟩
theorem three {ta tb tc : TE} {x1 y1 x2 y2 x3 y3 : Int} (h1 : Prs ta σ H x1 y1) (h2 : Prs tb σ H x2 y2) (h3 : Prs tc σ H x3 y3)
    (k : ∀ (l x y z : Addr) (H' : Hp), Same H H' → H' l = some (.lst [.ref x, .ref y, .ref z]) → H' x = some (.tup [.int x1, .int y1]) → H' y = some (.tup [.int x2, .int y2]) → H' z = some (.tup [.int x3, .int y3]) → Q (.ref l) H') :
    tLst (tCons ta (tCons tb (tCons tc tNil))) σ H Q := by
  refine h1 H _ (Same.refl H) fun x H1 s1 e1 => ?_
  refine h2 H1 _ s1 fun y H2 s2 e2 => ?_
  refine h3 H2 _ (s1.trans s2) fun z H3 s3 e3 => ?_
  refine ⟨(by show 3 ≤ sizeLine; decide), fun l fl => ?_⟩
  have s4 := same_new (o := HO.lst [V.ref x, V.ref y, V.ref z]) fl
  exact k l x y z _ (((s1.trans s2).trans s3).trans s4) upd_same (s4 _ _ (s3 _ _ (s2 _ _ e1))) (s4 _ _ (s3 _ _ e2)) (s4 _ _ e3)
theorem mks_num {f : Fr} {x y : V} {i j : Nat} {o u p q : Int} (si : σ[i]? = some (some x)) (sj : σ[j]? = some (some y)) (nx : NumAt K C H x o u) (ny : NumAt K C H y p q) (hi : isI x = false ∨ isI y = false) :
    Mks C (tOp (rNum K C f) (tVar i) (tVar j)) σ H (lov (f o u p q).1 (f o u p q).2) (lun (f o u p q).1 (f o u p q).2) := fun H1 Q s k => ⟨x, si, y, sj, o, u, p, q, nx.same s, ny.same s, hi, fun c H' s' _ r => k c H' s' r⟩
theorem mks_var {i : Nat} {a : Addr} {o u : Int} (si : σ[i]? = some (some (.ref a))) (r : RatAt C H a o u) : Mks C (tVar i) σ H o u := fun H1 Q s k => ⟨_, si, k a H1 (Same.refl _) (r.same s)⟩
/-- a list of three pairs, as data -/
def d3 (x1 y1 x2 y2 x3 y3 : Int) : PyData := .list [.tuple [.int x1, .int y1], .tuple [.int x2, .int y2], .tuple [.int x3, .int y3]]
theorem dp2 {x : Addr} {a b : Int} (h : H x = some (.tup [.int a, .int b])) : Dp K H (.ref x) (.tuple [.int a, .int b]) := .tup (SqT.of h) (.cons (.int _) (.cons (.int _) .nil))
theorem dp3 {l x y z : Addr} {x1 y1 x2 y2 x3 y3 : Int} (el : H l = some (.lst [.ref x, .ref y, .ref z])) (e1 : H x = some (.tup [.int x1, .int y1])) (e2 : H y = some (.tup [.int x2, .int y2])) (e3 : H z = some (.tup [.int x3, .int y3])) :
    Dp K H (.ref l) (d3 x1 y1 x2 y2 x3 y3) := .lst (SqL.of el) (.cons (dp2 e1) (.cons (dp2 e2) (.cons (dp2 e3) .nil)))
end
theorem shaped3 (x1 y1 x2 y2 x3 y3 : Int) : SeqAt.shaped (d3 x1 y1 x2 y2 x3 y3) = true := by
  unfold d3
  simp [SeqAt.shaped, PyData.canLay0, PyData.canLayAll0, PyData.depth, PyData.depthAll]
theorem same3 {K : PySem.W.Frag} {σ : L2.St} {H : Hp} {Dn : Ends} {te tk : TS} {ta tb tc : TE} {i : Nat} {l x y z : Addr} {x1 y1 x2 y2 x3 y3 : Int} (h1 : Prs ta σ H x1 y1) (h2 : Prs tb σ H x2 y2) (h3 : Prs tc σ H x3 y3)
    (si : σ[i]? = some (some (.ref l))) (el : H l = some (.lst [.ref x, .ref y, .ref z])) (e1 : H x = some (.tup [.int x1, .int y1])) (e2 : H y = some (.tup [.int x2, .int y2])) (e3 : H z = some (.tup [.int x3, .int y3]))
    (k : ∀ H', Same H H' → tk Dn σ H') : tIfS (tTest (tOp (rNeD K) (tLst (tCons ta (tCons tb (tCons tc tNil)))) (tVar i))) te tk Dn σ H := by
  unfold tIfS tTest tOp
  refine three h1 h2 h3 fun l' x' y' z' H' s el' e1' e2' e3' => ?_
  refine ⟨_, si, d3 x1 y1 x2 y2 x3 y3, d3 x1 y1 x2 y2 x3 y3, dp3 el' e1' e2' e3', dp3 (s _ _ el) (s _ _ e1) (s _ _ e2) (s _ _ e3), shaped3 .., shaped3 .., ?_⟩
  rw [SeqAt.eqv_refl _ (SeqAt.canLay_of_shaped (shaped3 ..))]
  exact ⟨_, rfl, iteF (k _ s)⟩
theorem ne2 {K : PySem.W.Frag} {σ : L2.St} {H : Hp} {Q : VK} {ta tb : TE} {x y : Int} (h1 : Prs ta σ H x y) (h2 : Prs tb σ H x y) (k : ∀ H', Same H H' → Q (.bl false) H') : tOp (rNeD K) ta tb σ H Q := by
  refine h1 H _ (Same.refl H) fun a H1 s1 e1 => ?_
  refine h2 H1 _ s1 fun b H2 s2 e2 => ?_
  refine ⟨_, _, dp2 (s2 _ _ e1), dp2 e2, by simp [SeqAt.shaped, PyData.canLay0, PyData.canLayAll0, PyData.depth, PyData.depthAll], by simp [SeqAt.shaped, PyData.canLay0, PyData.canLayAll0, PyData.depth, PyData.depthAll], ?_⟩
  rw [SeqAt.eqv_refl _ (by simp [PyData.canLay0, PyData.canLayAll0])]
  exact k _ (s1.trans s2)
theorem eq2 {K : PySem.W.Frag} {σ : L2.St} {H : Hp} {Q : VK} {ta tb : TE} {x y : Int} (h1 : Prs ta σ H x y) (h2 : Prs tb σ H x y) (k : ∀ H', Same H H' → Q (.bl true) H') : tOp (rEqD K) ta tb σ H Q := by
  refine h1 H _ (Same.refl H) fun a H1 s1 e1 => ?_
  refine h2 H1 _ s1 fun b H2 s2 e2 => ?_
  refine ⟨_, _, dp2 (s2 _ _ e1), dp2 e2, by simp [SeqAt.shaped, PyData.canLay0, PyData.canLayAll0, PyData.depth, PyData.depthAll], by simp [SeqAt.shaped, PyData.canLay0, PyData.canLayAll0, PyData.depth, PyData.depthAll], ?_⟩
  rw [SeqAt.eqv_refl _ (by simp [PyData.canLay0, PyData.canLayAll0])]
  exact k _ (s1.trans s2)
/-- an int that an expression gives at this heap and all later ones -/
def Gi (te : TE) (σ : L2.St) (H : Hp) (i : Int) : Prop := ∀ (H1 : Hp) (Q : VK), Same H H1 → Q (.int i) H1 → te σ H1 Q
theorem Prs.later {te : TE} {σ : L2.St} {H H' : Hp} {o u : Int} (h : Prs te σ H o u) (s : Same H H') : Prs te σ H' o u := fun H1 Q s1 k => h H1 Q (s.trans s1) k
theorem Prs.lea {σ : L2.St} {H : Hp} {ta tb : TE} {t b : Int} (h1 : Gi ta σ H t) (h2 : Gi tb σ H b) (b0 : b ≠ 0) (st : Small t) (sb : Small b) : Prs (tCall spLea [] C8.E0 (tCons ta (tCons tb tNil))) σ H (lov t b) (lun t b) :=
  fun H1 Q s k => h1 H1 _ s (h2 H1 _ s ⟨t, b, rfl, b0, st, sb, fun l fl => k l _ (same_new fl) upd_same⟩)
theorem Prs.tup {σ : L2.St} {H : Hp} {t b : Int} : Prs (tTup (tCons (tC (.int t)) (tCons (tC (.int b)) tNil))) σ H t b := fun H1 Q s k => ⟨(by show 2 ≤ sizeLine; decide), fun l fl => k l _ (same_new fl) upd_same⟩
theorem Mks.neg {K : PySem.W.Frag} {C : Addr} {σ : L2.St} {H : Hp} {i : Nat} {a : Addr} {o u : Int} (si : σ[i]? = some (some (.ref a))) (na : NumAt K C H (.ref a) o u) : Mks C (tUn (rSignX C (spNeg K C) C8.E0) (tVar i)) σ H (lov (-o) u) (lun (-o) u) := by
  intro H1 Q s k
  have n1 := na.same s
  obtain ⟨⟨dx, ha⟩, _⟩ := n1.ref
  exact ⟨_, si, a, dx, _, rfl, ha, a, o, u, rfl, n1, fun c H' s' _ r => k c H' s' r⟩
theorem lov_neg {t b : Int} (hb : b ≠ 0) : lov (-(lov t b)) (lun t b) = lov (-t) b ∧ lun (-(lov t b)) (lun t b) = lun (-t) b := by
  have c := lov_cross (t := t) hb
  exact lov_eq (Int.ne_of_gt (lun_pos hb)) hb (by grind)
theorem lov_nil {t b : Int} (hb : b ≠ 0) (e : t = 0) : lov t b = 0 ∧ lun t b = 1 := by
  have h := lov_eq (t := t) (t' := 0) hb (show (1 : Int) ≠ 0 by decide) (by rw [e]; omega)
  exact ⟨h.1.trans (by decide), h.2.trans (by decide)⟩
def spRight : Sp := fun vs H Q _ => ∃ (p pl : Addr) (n : Nat), vs = [.ref p] ∧ Pen H p pl n ∧ n ≤ 800000 ∧ ∀ H', Pen H' p pl (n + 10) → Kp p H H' → Q (.bl true) H'
section
variable {P : Program} {w : World} {K : PySem.W.Frag} {mg : Str → Option Value} {base : Heap}
theorem scRight : FnScope ["_law_pen_here", "_law_due_here", "_law_held", "_law_less", "_law_many", "_law_turned", "_law_one_so", "_law_two_so", "_law_first_so", "_law_second_so"] ["_law_pen_here"] (C8.fnScope sRight) := C8.fnScope_by (by decide +kernel)
theorem cal_right {f C D fI : Addr} {fd fdI : FuncData} {ds : List Value} (F : C8.Def K mg "_law_right" sRight f fd) (b : Binds K fd ["_law_pen_here"] []) (O : Oks K C) (RM : RatM P w K mg base C D fI fdI ds)
    (MA : OpB P w K mg base C D "add" frAdd) (MS : OpB P w K mg base C D "sub" frSub) (MM : OpB P w K mg base C D "mul" frMul) (NA : NoInplace K C .Add) (NS : NoInplace K C .Sub) (NM : NoInplace K C .Mult) (MN : MetX P w K mg base 5 C "__neg__" (spNeg K C))
    (D1 : C8.Cal P w K mg base 1 "_law_draw" spDraw []) (D3 : C8.Cal P w K mg base 2 "_law_least" spLea []) (D5 : C8.Cal P w K mg base 3 "_law_pair" spPai []) (D6 : C8.Cal P w K mg base 5 "_law_number" (spNum K C) []) (D7 : C8.Cal P w K mg base 3 "_law_due" spDue []) (D8 : C8.Cal P w K mg base 1 "_law_got" (spGot C) []) :
    C8.Cal P w K mg base 10 "_law_right" spRight [] := by
  refine C8.cal0 F b .nil scRight (fun vs H Q E h => ?_) (fun cdv A outer st H vs Q E hr h => ?_)
  · obtain ⟨p, pl, n, rfl, _⟩ := h
    rfl
  · obtain ⟨p, pl, n, rfl, hp, hn, k⟩ := h
    refine ⟨_, (pss_cons (ps_par (i := 6) (j := 7) rfl scRight.nd rfl rfl (by decide) rfl rfl (pa_cons (C8.pe_c D5 hr (by decide) (by rfl) (pa_cons (pv 0) pa_nil)) (pa_cons (C8.pe_c D5 hr (by decide) (by rfl) (pa_cons (pv 0) pa_nil)) pa_nil)) (by rfl))
  (pss_cons (ps_par (i := 8) (j := 9) rfl scRight.nd rfl rfl (by decide) rfl rfl (pa_cons (pe_make RM.M RM.F (hr.mono (by decide)) (by rfl) RM.hm RM.b2 .nil (passes_call takes0 (fun _ _ _ _ z => z)) (pa_cons (pe_ix ix_tup (pv 6) pe_int (fun _ _ => rfl)) (pa_cons (pe_ix ix_tup (pv 6) pe_int (fun _ _ => rfl)) pa_nil))) (pa_cons (C8.pe_c D6 hr (by decide) (by rfl) (pa_cons (pv 0) (pa_cons (pv 7) pa_nil))) pa_nil)) (by rfl))
  (pss_cons (ps_if (pt_cmpR op_eq (C8.pe_c D1 hr (by decide) (by rfl) (pa_cons (pv 0) (pa_cons pe_int pa_nil))) pe_int (nomark _)) (pss_one (ps_asg (pe_tup (pa_cons (pv 9) (pa_cons (pv 8) (pa_cons (pv 7) (pa_cons (pv 6) pa_nil))))) (pg_tup (by rfl) (pgs_cons (pg_name (i := 8) scRight.nd rfl (Or.inl rfl)) (pgs_cons (pg_name (i := 9) scRight.nd rfl (Or.inl rfl)) (pgs_cons (pg_name (i := 6) scRight.nd rfl (Or.inl rfl)) (pgs_cons (pg_name (i := 7) scRight.nd rfl (Or.inl rfl)) pgs_nil))))))) pss_nil)
  (pss_cons (ps_set (i := 1) scRight.nd rfl (Or.inl rfl) (C8.pe_c D7 hr (by decide) (by rfl) (pa_cons (pv 6) (pa_cons (pv 7) pa_nil))))
  (pss_cons (ps_if (pt_cmpR (op_neD hr.units) (pe_lst (pa_cons (C8.pe_c D8 hr (by decide) (by rfl) (pa_cons (pe_op (op_num (op := .Add) (j := 9) MA hr (Nat.le_refl _)) (pv 8) (pv 9)) pa_nil)) (pa_cons (C8.pe_c D8 hr (by decide) (by rfl) (pa_cons (pe_op (op_num (op := .Sub) (j := 9) MS hr (Nat.le_refl _)) (pv 8) (pv 9)) pa_nil)) (pa_cons (C8.pe_c D8 hr (by decide) (by rfl) (pa_cons (pe_op (op_num (op := .Mult) (j := 9) MM hr (Nat.le_refl _)) (pv 8) (pv 9)) pa_nil)) pa_nil)))) (pv 1) (nomark _)) (pss_one (ps_ret pe_bl)) pss_nil)
  (pss_cons (ps_par3 (i := 2) (j := 3) (l := 4) rfl scRight.nd rfl rfl rfl (by decide) (by decide) (by decide) rfl rfl rfl (pa_cons (pv 8) (pa_cons (pv 8) (pa_cons (pv 8) pa_nil))) (by rfl))
  (pss_cons (ps_aug (i := 2) scRight.nd rfl (Or.inl rfl) (pv 9) (iop_num (op := .Add) (j := 9) MA NA rfl hr (Nat.le_refl _)))
  (pss_cons (ps_aug (i := 3) scRight.nd rfl (Or.inl rfl) (pv 9) (iop_num (op := .Sub) (j := 9) MS NS rfl hr (Nat.le_refl _)))
  (pss_cons (ps_aug (i := 4) scRight.nd rfl (Or.inl rfl) (pv 9) (iop_num (op := .Mult) (j := 9) MM NM rfl hr (Nat.le_refl _)))
  (pss_cons (ps_if (pt_cmpR (op_neD hr.units) (pe_lst (pa_cons (C8.pe_c D8 hr (by decide) (by rfl) (pa_cons (pv 2) pa_nil)) (pa_cons (C8.pe_c D8 hr (by decide) (by rfl) (pa_cons (pv 3) pa_nil)) (pa_cons (C8.pe_c D8 hr (by decide) (by rfl) (pa_cons (pv 4) pa_nil)) pa_nil)))) (pv 1) (nomark _)) (pss_one (ps_ret pe_bl)) pss_nil)
  (pss_cons (ps_set (i := 5) scRight.nd rfl (Or.inl rfl) (pe_make RM.M RM.F (hr.mono (by decide)) (by rfl) RM.hm RM.b2 .nil (passes_call takes0 (fun _ _ _ _ z => z)) (pa_cons (pe_ix ix_tup (pv 6) pe_int (fun _ _ => rfl)) (pa_cons (pe_ix ix_tup (pv 6) pe_int (fun _ _ => rfl)) pa_nil))))
  (pss_cons (ps_if (PW.pt (pw_or (pt_cmpR (op_neD hr.units) (C8.pe_c D8 hr (by decide) (by rfl) (pa_cons (pe_un (un_signX (E := C8.E0) (j := 9) MN (passes_call takes0 (fun _ _ _ _ z => z)) hr (by decide)) (pv 5)) pa_nil)) (C8.pe_c D3 hr (by decide) (by rfl) (pa_cons (pe_un un_neg (pe_ix ix_tup (pv 6) pe_int (fun _ _ => rfl))) (pa_cons (pe_ix ix_tup (pv 6) pe_int (fun _ _ => rfl)) pa_nil))) (nomark _)) (pw_or1 (pt_cmpR (op_neD hr.units) (C8.pe_c D8 hr (by decide) (by rfl) (pa_cons (pv 5) pa_nil)) (C8.pe_c D3 hr (by decide) (by rfl) (pa_cons (pe_ix ix_tup (pv 6) pe_int (fun _ _ => rfl)) (pa_cons (pe_ix ix_tup (pv 6) pe_int (fun _ _ => rfl)) pa_nil))) (nomark _))))) (pss_one (ps_ret pe_bl)) pss_nil)
  (pss_one (ps_ret (pe_and (pe_cmpR (op_eqD hr.units) (C8.pe_c D8 hr (by decide) (by rfl) (pa_cons (pe_op (op_num (op := .Sub) (j := 9) MS hr (Nat.le_refl _)) (pv 5) (pv 5)) pa_nil)) (pe_tup (pa_cons pe_int (pa_cons pe_int pa_nil))) (nomark _)) (pe_one (pe_cmpR (op_eqD hr.units) (C8.pe_c D8 hr (by decide) (by rfl) (pa_cons (pe_op (op_num (op := .Add) (j := 9) MA hr (Nat.le_refl _)) (pv 5) (pe_un (un_signX (E := C8.E0) (j := 9) MN (passes_call takes0 (fun _ _ _ _ z => z)) hr (by decide)) (pv 5))) pa_nil)) (pe_tup (pa_cons pe_int (pa_cons pe_int pa_nil))) (nomark _)))))))))))))))))), ?_⟩
    refine ⟨_, rfl, p, pl, n, rfl, hp, by omega, fun t1 b1 a1 H1 m1 m2 b10 h1 f1 hp1 k1 => ?_⟩
    refine ⟨_, rfl, p, pl, n + 4, rfl, hp1, by omega, fun t2 b2 a2 H2 m3 m4 b20 h2 f2 hp2 k2 => ?_⟩
    have np1 : a1 ≠ p := fun e => by
      obtain ⟨xs, s, g, hh, _⟩ := hp1
      rw [e, hh.at_] at h1
      cases h1
    have np2 : a2 ≠ p := fun e => by
      obtain ⟨xs, s, g, hh, _⟩ := hp2
      rw [e, hh.at_] at h2
      cases h2
    have h12 := k2 _ _ np1 h1
    refine ⟨_, _, rfl, ?_⟩
    dsimp only [tSeq]
    refine ⟨_, rfl, a1, _, _, _, rfl, rfl, SqT.of h12, rfl, _, rfl, a1, _, _, _, rfl, rfl, SqT.of h12, rfl, fun x dx hx hdx ne => ?_⟩
    refine makes' (t := t1) (b := b1) b10 (Drn.mid m1).small (Drn.mid m2).small hx hdx ne fun H3 s3 ra => ?_
    refine ⟨_, rfl, _, rfl, p, pl, a2, n + 8, t2, b2, rfl, hp2.keep s3, by omega, s3 _ _ h2, b20, m3, m4, fun y H4 ny nyp hp4 k4 => ?_⟩
    refine ⟨_, _, rfl, ?_⟩
    dsimp only [tSeq]
    refine join_any (fun σ' H' => ∃ a1 a2 t1 b1 t2 b2 x y, σ' = [some (V.ref p), none, none, none, none, none, some (V.ref a1), some (V.ref a2), some x, some y] ∧ Pen H' p pl (n + 10) ∧ Kp p H H' ∧ H' a1 = some (.tup [.int t1, .int b1]) ∧ H' a2 = some (.tup [.int t2, .int b2]) ∧ b1 ≠ 0 ∧ b2 ≠ 0 ∧ Drn t1 ∧ Drn b1 ∧ Drn t2 ∧ Drn b2 ∧ NumAt K C H' x (lov t1 b1) (lun t1 b1) ∧ NumAt K C H' y (lov t2 b2) (lun t2 b2) ∧ (isI x = false ∨ isI y = false)) ?r1 (fun go => ?_)
    rotate_left
    · have nx3 : NumAt K C H3 (.ref x) (lov t1 b1) (lun t1 b1) := .rat ra (lun_pos b10) ((Drn.mid m1).of (lov_le _ _)) ((Drn.mid m2).of (lun_le _ _))
      have xp : V.ref x ≠ .ref p := fun e => hp2.ne_new hx (V.ref.inj e)
      refine ⟨_, rfl, p, pl, n + 9, 2, rfl, by decide, by decide, hp4, by omega, fun r H5 r0 r1 hp5 k5 => ?_⟩
      have k45 := k4.trans k5
      have k35 : Kp p H2 H5 := fun b o hb e => k45 b o hb (s3 _ _ e)
      have nx5 := nx3.kp k45 xp
      have ny5 := ny.kp k5 nyp
      have kk : Kp p H H5 := (k1.trans k2).trans k35
      refine ⟨rfl, _, rfl, ite2 (fun c => ?_) (fun c => ?_)⟩
      · refine ⟨_, rfl, _, rfl, _, rfl, _, rfl, (by show 4 ≤ sizeLine; decide), fun t ft => ⟨t, _, rfl, SqT.of upd_same, rfl, _, _, rfl, _, _, rfl, _, _, rfl, _, _, rfl, rfl, ?_⟩⟩
        have s6 := same_new (o := HO.tup [y, V.ref x, V.ref a2, V.ref a1]) ft
        exact go _ _ ⟨a2, a1, t2, b2, t1, b1, y, .ref x, rfl, hp5.keep s6, kk.trans (.of s6), s6 _ _ (k35 _ _ np2 h2), s6 _ _ (k35 _ _ np1 h12), b20, b10, m3, m4, m1, m2, ny5.same s6, nx5.same s6, .inr rfl⟩
      · exact go _ _ ⟨a1, a2, t1, b1, t2, b2, .ref x, y, rfl, hp5, kk, k35 _ _ np1 h12, k35 _ _ np2 h2, b10, b20, m1, m2, m3, m4, nx5, ny5, .inl rfl⟩
    case r1 =>
    rintro σ' Ha ⟨a1, a2, t1, b1, t2, b2, x, y, rfl, hpa, ka, h1, h2, b10, b20, m1, m2, m3, m4, nx, ny, hi⟩
    dsimp only [tSeq]
    refine ⟨_, rfl, _, rfl, a1, a2, t1, b1, t2, b2, rfl, h1, h2, b10, b20, m1, m2, m3, m4, fun l q1 q2 q3 Hb sb nl el e1 e2 e3 => ?_⟩
    dsimp only [gName, tSeq]
    have nb := nx.same sb
    have mb := ny.same sb
    have pA := (mks_num (f := frAdd) (σ := [some (V.ref p), some (V.ref l), none, none, none, none, some (V.ref a1), some (V.ref a2), some x, some y]) (i := 8) (j := 9) rfl rfl nb mb hi).got
    rw [(fr_add b10 b20).1, (fr_add b10 b20).2] at pA
    have pS := (mks_num (f := frSub) (σ := [some (V.ref p), some (V.ref l), none, none, none, none, some (V.ref a1), some (V.ref a2), some x, some y]) (i := 8) (j := 9) rfl rfl nb mb hi).got
    rw [(fr_sub b10 b20).1, (fr_sub b10 b20).2] at pS
    have pM := (mks_num (f := frMul) (σ := [some (V.ref p), some (V.ref l), none, none, none, none, some (V.ref a1), some (V.ref a2), some x, some y]) (i := 8) (j := 9) rfl rfl nb mb hi).got
    rw [(fr_mul b10 b20).1, (fr_mul b10 b20).2] at pM
    refine same3 pA pS pM rfl el e1 e2 e3 fun Hc sc => ?_
    have nc := nb.same sc
    have mc := mb.same sc
    refine ⟨_, rfl, _, rfl, _, rfl, _, _, _, rfl, ?_⟩
    dsimp only [gName, tSeq]
    refine ⟨_, rfl, _, rfl, _, _, _, _, nc, mc, hi, fun c1 Hd sd _ r1 => ?_⟩
    have nd := nc.same sd
    have md := mc.same sd
    rw [(fr_add b10 b20).1, (fr_add b10 b20).2] at r1
    dsimp only [gName, tSeq]
    refine ⟨_, rfl, _, rfl, _, _, _, _, nd, md, hi, fun c2 He se _ r2 => ?_⟩
    have ne := nd.same se
    have me := md.same se
    rw [(fr_sub b10 b20).1, (fr_sub b10 b20).2] at r2
    dsimp only [gName, tSeq]
    refine ⟨_, rfl, _, rfl, _, _, _, _, ne, me, hi, fun c3 Hf sf _ r3 => ?_⟩
    rw [(fr_mul b10 b20).1, (fr_mul b10 b20).2] at r3
    dsimp only [gName, tSeq]
    have sbf := ((sc.trans sd).trans se).trans sf
    refine same3 (mks_var rfl ((r1.same se).same sf)).got (mks_var rfl (r2.same sf)).got (mks_var rfl r3).got rfl (sbf _ _ el) (sbf _ _ e1) (sbf _ _ e2) (sbf _ _ e3) fun Hg sg => ?_
    have sag := (sb.trans sbf).trans sg
    have hpg := hpa.keep sag
    have kg := ka.trans (.of sag)
    have h1g := sag _ _ h1
    refine ⟨_, rfl, a1, _, _, _, rfl, rfl, SqT.of h1g, rfl, _, rfl, a1, _, _, _, rfl, rfl, SqT.of h1g, rfl, fun z dz hz hdz ne => ?_⟩
    refine makes' (t := t1) (b := b1) b10 (Drn.mid m1).small (Drn.mid m2).small hz hdz ne fun Hi sj rz => ?_
    have nz : NumAt K C Hi (.ref z) (lov t1 b1) (lun t1 b1) := .rat rz (lun_pos b10) ((Drn.mid m1).of (lov_le _ _)) ((Drn.mid m2).of (lun_le _ _))
    have h1i := sj _ _ h1g
    dsimp only [gName, tSeq]
    have i0 : ∀ (kt : PySem.W.Frag) (σ : L2.St), σ[6]? = some (some (V.ref a1)) → Gi (tOp (rIxT K) (tVar 6) (tC (V.int 0))) σ Hi t1 := fun _ σ e H1 Q s q => ⟨_, e, a1, _, _, _, rfl, rfl, SqT.of (s _ _ h1i), rfl, q⟩
    have i1 : ∀ (kt : PySem.W.Frag) (σ : L2.St), σ[6]? = some (some (V.ref a1)) → Gi (tOp (rIxT K) (tVar 6) (tC (V.int 1))) σ Hi b1 := fun _ σ e H1 Q s q => ⟨_, e, a1, _, _, _, rfl, rfl, SqT.of (s _ _ h1i), rfl, q⟩
    have i0n : ∀ (kt : PySem.W.Frag) (σ : L2.St), σ[6]? = some (some (V.ref a1)) → Gi (tUn (rU fun i => V.int (-i)) (tOp (rIxT K) (tVar 6) (tC (V.int 0)))) σ Hi (-t1) := fun _ σ e H1 Q s q => ⟨_, e, a1, _, _, _, rfl, rfl, SqT.of (s _ _ h1i), rfl, t1, rfl, q⟩
    refine ne2 (by rw [← (lov_neg (t := t1) b10).1, ← (lov_neg (t := t1) b10).2]; exact (Mks.neg rfl nz).got) ((Prs.lea (i0n K _ rfl) (i1 K _ rfl) b10 ?_ (Drn.mid m2).small)) fun Hj sj2 => ?_
    · exact (Drn.mid (show Drn (-t1) by unfold Drn at *; omega)).small
    refine ⟨_, rfl, iteF ?_⟩
    refine ne2 (mks_var rfl (rz.same sj2)).got ((Prs.lea (i0 K _ rfl) (i1 K _ rfl) b10 (Drn.mid m1).small (Drn.mid m2).small).later sj2) fun Hk sk => ?_
    refine ⟨_, rfl, iteF ?_⟩
    have nk := (nz.same sj2).same sk
    have uu : lun t1 b1 * lun t1 b1 ≠ 0 := Int.ne_of_gt (Int.mul_pos (lun_pos b10) (lun_pos b10))
    have z1 := lov_nil (t := (frSub (lov t1 b1) (lun t1 b1) (lov t1 b1) (lun t1 b1)).1) (b := (frSub (lov t1 b1) (lun t1 b1) (lov t1 b1) (lun t1 b1)).2) uu (by unfold frSub; dsimp only; omega)
    have q1 : ∀ (σ : L2.St), σ[5]? = some (some (V.ref z)) → Prs (tCall (spGot C) [] C8.E0 (tCons (tOp (rNum K C frSub) (tVar 5) (tVar 5)) tNil)) σ Hk 0 1 := fun σ e => by
      have q := (mks_num (f := frSub) e e nk nk (.inl rfl)).got
      rw [z1.1, z1.2] at q
      exact q
    refine eq2 (q1 _ rfl) Prs.tup fun Hl sl => ?_
    refine ⟨_, rfl, iteT ?_⟩
    refine eq2 (x := 0) (y := 1) (Mks.got fun H1 Q1 s1 kk => ?_) Prs.tup fun Hm sm => ?_
    · have nl := nk.same sl
      refine ⟨_, rfl, ?_⟩
      refine Mks.neg rfl nl H1 _ s1 fun c H2 s2 rc => ?_
      have mo : Mid (-(lov t1 b1)) := by
        have := (Drn.mid m1).of (lov_le t1 b1)
        unfold Mid at *
        omega
      have mu : Mid (lun t1 b1) := (Drn.mid m2).of (lun_le t1 b1)
      have u0 : lun t1 b1 ≠ 0 := Int.ne_of_gt (lun_pos b10)
      have n2 : NumAt K C H2 (.ref c) (lov (-(lov t1 b1)) (lun t1 b1)) (lun (-(lov t1 b1)) (lun t1 b1)) := .rat rc (lun_pos u0) (mo.of (lov_le _ _)) (mu.of (lun_le _ _))
      refine ⟨_, _, _, _, (nl.same s1).same s2, n2, .inl rfl, fun c' H' s' _ r => ?_⟩
      have cr := lov_cross (t := -(lov t1 b1)) u0
      have z2 := lov_nil (t := (frAdd (lov t1 b1) (lun t1 b1) (lov (-(lov t1 b1)) (lun t1 b1)) (lun (-(lov t1 b1)) (lun t1 b1))).1) (b := (frAdd (lov t1 b1) (lun t1 b1) (lov (-(lov t1 b1)) (lun t1 b1)) (lun (-(lov t1 b1)) (lun t1 b1))).2)
        (Int.ne_of_gt (Int.mul_pos (lun_pos b10) (lun_pos u0))) (by unfold frAdd; dsimp only; grind)
      rw [z2.1, z2.2] at r
      exact kk c' H' (s2.trans s') r
    · exact k _ (((((hpg.keep sj).keep sj2).keep sk).keep sl).keep sm) (((((kg.trans (.of sj)).trans (.of sj2)).trans (.of sk)).trans (.of sl)).trans (.of sm))
end
end Lw
namespace Lw
open PySem PySem.Spec PyProof.Rows L2

open LamX
abbrev sLaw : Stmt := top 33
section
variable {K : PySem.W.Frag} {C D : Addr} {σ : L2.St} {H : Hp} {Q : VK}
theorem mks_make {ta tb : TE} {t b : Int} (h1 : Gi ta σ H t) (h2 : Gi tb σ H b) (b0 : b ≠ 0) (st : Small t) (sb : Small b) : Mks C (tMake C (spRat K C D) [] (fun _ _ _ => False) (tCons ta (tCons tb tNil))) σ H (lov t b) (lun t b) := by
  intro H1 Q s k
  refine h1 H1 _ s (h2 H1 _ s fun x dx hx hdx ne => ?_)
  exact makes' (R := fun H2 => Q (.ref x) H2) b0 st sb hx hdx ne fun H2 s2 r => k x H2 s2 r
theorem mks_il {f : Fr} {tr : TE} {i o u : Int} (h : Mks C tr σ H o u) (u0 : 0 < u) (mo : Mid o) (mu : Mid u) (mi : Mid i) (hk : PySem.W.kitOne K (.type "int") (.ref C) = some false) :
    Mks C (tOp (rNum K C f) (tC (.int i)) tr) σ H (lov (f i 1 o u).1 (f i 1 o u).2) (lun (f i 1 o u).1 (f i 1 o u).2) := fun H1 Q s k => h H1 _ s fun a H2 s2 r => ⟨i, 1, o, u, .int mi hk, .rat r u0 mo mu, .inr rfl, fun c H' s' _ r' => k c H' (s2.trans s') r'⟩
theorem mks_ir {f : Fr} {tr : TE} {i o u : Int} (h : Mks C tr σ H o u) (u0 : 0 < u) (mo : Mid o) (mu : Mid u) (mi : Mid i) (hk : PySem.W.kitOne K (.type "int") (.ref C) = some false) :
    Mks C (tOp (rNum K C f) tr (tC (.int i))) σ H (lov (f o u i 1).1 (f o u i 1).2) (lun (f o u i 1).1 (f o u i 1).2) := fun H1 Q s k => h H1 _ s fun a H2 s2 r => ⟨o, u, i, 1, .rat r u0 mo mu, .int mi hk, .inl rfl, fun c H' s' _ r' => k c H' (s2.trans s') r'⟩
theorem Gi.c {i : Int} : Gi (tC (.int i)) σ H i := fun _ _ _ q => q
theorem Gi.n {i : Int} : Gi (tUn (rU fun i => V.int (-i)) (tC (.int i))) σ H (-i) := fun _ _ _ q => ⟨i, rfl, q⟩
theorem Prs.tupG {ta tb : TE} {t b : Int} (h1 : Gi ta σ H t) (h2 : Gi tb σ H b) : Prs (tTup (tCons ta (tCons tb tNil))) σ H t b := fun H1 Q s k => h1 H1 _ s (h2 H1 _ s ⟨(by show 2 ≤ sizeLine; decide), fun l fl => k l _ (same_new fl) upd_same⟩)
theorem Prs.is {te : TE} {o u o' u' : Int} (h : Prs te σ H o u) (e1 : o = o') (e2 : u = u') : Prs te σ H o' u' := by
  subst e1
  subst e2
  exact h
def d4 (x1 y1 x2 y2 x3 y3 x4 y4 : Int) : PyData := .list [.tuple [.int x1, .int y1], .tuple [.int x2, .int y2], .tuple [.int x3, .int y3], .tuple [.int x4, .int y4]]
theorem shaped4 (x1 y1 x2 y2 x3 y3 x4 y4 : Int) : SeqAt.shaped (d4 x1 y1 x2 y2 x3 y3 x4 y4) = true := by
  unfold d4
  simp [SeqAt.shaped, PyData.canLay0, PyData.canLayAll0, PyData.depth, PyData.depthAll]
theorem four {i : Nat} {ta tb tc td : TE} {l x y z v : Addr} {x1 y1 x2 y2 x3 y3 x4 y4 : Int} (h1 : Prs ta σ H x1 y1) (h2 : Prs tb σ H x2 y2) (h3 : Prs tc σ H x3 y3) (h4 : Prs td σ H x4 y4)
    (si : σ[i]? = some (some (.ref l))) (el : H l = some (.lst [.ref x, .ref y, .ref z, .ref v])) (e1 : H x = some (.tup [.int x1, .int y1])) (e2 : H y = some (.tup [.int x2, .int y2])) (e3 : H z = some (.tup [.int x3, .int y3])) (e4 : H v = some (.tup [.int x4, .int y4]))
    (k : ∀ H', Q (.bl true) H') : tOp (rEqD K) (tVar i) (tLst (tCons ta (tCons tb (tCons tc (tCons td tNil))))) σ H Q := by
  refine ⟨_, si, ?_⟩
  refine h1 H _ (Same.refl H) fun a1 H1 s1 f1 => ?_
  refine h2 H1 _ s1 fun a2 H2 s2 f2 => ?_
  refine h3 H2 _ (s1.trans s2) fun a3 H3 s3 f3 => ?_
  refine h4 H3 _ ((s1.trans s2).trans s3) fun a4 H4 s4 f4 => ?_
  refine ⟨(by show 4 ≤ sizeLine; decide), fun q fq => ?_⟩
  have s5 := same_new (o := HO.lst [V.ref a1, V.ref a2, V.ref a3, V.ref a4]) fq
  have sa := (((s1.trans s2).trans s3).trans s4).trans s5
  refine ⟨d4 x1 y1 x2 y2 x3 y3 x4 y4, d4 x1 y1 x2 y2 x3 y3 x4 y4, .lst (SqL.of (sa _ _ el)) (.cons (dp2 (sa _ _ e1)) (.cons (dp2 (sa _ _ e2)) (.cons (dp2 (sa _ _ e3)) (.cons (dp2 (sa _ _ e4)) .nil)))),
    .lst (SqL.of upd_same) (.cons (dp2 (s5 _ _ (s4 _ _ (s3 _ _ (s2 _ _ f1))))) (.cons (dp2 (s5 _ _ (s4 _ _ (s3 _ _ f2)))) (.cons (dp2 (s5 _ _ (s4 _ _ f3))) (.cons (dp2 (s5 _ _ f4)) .nil)))), shaped4 .., shaped4 .., ?_⟩
  rw [SeqAt.eqv_refl _ (SeqAt.canLay_of_shaped (shaped4 ..))]
  exact k _
end
def spLaw (K : PySem.W.Frag) (B : Addr) : Sp := fun vs H Q _ => ∃ (a : Addr) (ns : List Int), vs = [.ref a] ∧ SqL K H a (ns.map V.int) ∧ ns.length ≤ 63 ∧ Tabs (tabOf B) H ∧ ∀ H', Q (.bl true) H'
section
variable {P : Program} {w : World} {K : PySem.W.Frag} {mg : Str → Option Value} {base : Heap}
theorem scLaw : FnScope ["_law_script", "_law_pen_here", "_law_lap", "_law_told_so"] ["_law_script"] (C8.fnScope sLaw) := C8.fnScope_by (by decide +kernel)
theorem fnG {x : Str} {st : Stmt} {f : Addr} {fd : FuncData} {N ps : List Str} {k : Nat} {sp : Sp} (F : C8.Fun K x x st f fd) (S : FnScope N ps (C8.fnScope st))
    (len : ∀ vs H Q E, sp vs H Q E → vs.length = ps.length)
    (body : ∀ (cdv : Value) (A : Around) (outer : List Env) (s : Shared) (H : Hp) (vs : List V) (Q : VK) (E : XK), (A.deeper (envOfC x (C8.fnScope st) s.heap.objs.size f cdv)).guards = some [] → Room k (A.deeper (envOfC x (C8.fnScope st) s.heap.objs.size f cdv)) → sp vs H Q E →
      ∃ t, PSs (cxOf C8.CX0 P w K mg base N x (C8.fnScope st) f cdv A outer s H E).nox (C8.fnBody st) t ∧ t { nx := fun _ H' => Q .non H', rt := Q } (start N vs) H) : FnG P w K mg base (k + 1) f fd ps sp := by
  refine ⟨len, ?_⟩
  intro A outer s H args us vs Q E hg hr e0 hb r hs
  obtain ⟨oc, od, dV, kV, doc, pm, an, cdv, ct, osl, rfl, lk, hcd⟩ := F.ex
  refine LamX.run_ofS lk hcd S hr e0 hb r (len _ _ _ _ hs) fun hr' => ?_
  obtain ⟨t, h1, h2⟩ := body cdv A outer s H vs Q E hg hr' hs
  exact ⟨t, h1.nox, h2⟩
theorem fn_law {f B C D fI : Addr} {fd fdI : FuncData} {ds : List Value} (F : C8.Fun K "law" "law" sLaw f fd) (T : Txt mg) (O : Oks K C) (RM : RatM P w K mg base C D fI fdI ds)
    (MA : OpB P w K mg base C D "add" frAdd) (MS : OpB P w K mg base C D "sub" frSub) (MM : OpB P w K mg base C D "mul" frMul)
    (D0 : C8.Cal P w K mg base 1 "_law_pen" (spPen K) []) (D8 : C8.Cal P w K mg base 1 "_law_got" (spGot C) []) (D9 : C8.Cal P w K mg base 10 "_law_right" spRight []) (DR : CalG P w K mg base 12 "_law_refused_right" (spRef B) []) :
    FnG P w K mg base 13 f fd ["_law_script"] (spLaw K B) := by
  refine fnG F scLaw (fun vs H Q E h => ?_) (fun cdv A outer st H vs Q E hG hr h => ?_)
  · obtain ⟨a, ns, rfl, _⟩ := h
    rfl
  · obtain ⟨a, ns, rfl, hs, hl, ht, k⟩ := h
    refine ⟨_, (pss_cons (ps_set (i := 1) scLaw.nd rfl (Or.inl rfl) (C8.pe_c D0 hr (by decide) (by rfl) (pa_cons (pv 0) pa_nil)))
  (pss_cons (ps_for PassesOwn.never rfl (pi_range1 (by rfl) T.n_range (pa_cons pe_int pa_nil)) (pg_name (i := 2) scLaw.nd rfl (Or.inl rfl)) (pss_one (ps_if (PW.pt (pw_or (pt_not (pt_val (C8.pe_c D9 hr (by decide) (by rfl) (pa_cons (pv 1) pa_nil)))) (pw_or1 (pt_not (pt_val (pe_g DR hG hr (by decide) (by rfl) (pa_cons (pv 1) pa_nil))))))) (pss_one (ps_ret pe_bl)) pss_nil)))
  (pss_cons (ps_set (i := 3) scLaw.nd rfl (Or.inl rfl) (pe_lst (pa_cons (C8.pe_c D8 hr (by decide) (by rfl) (pa_cons (pe_op (op_num (op := .Sub) (j := 12) MS hr (by decide)) pe_int (pe_make RM.M RM.F (hr.mono (by decide)) (by rfl) RM.hm RM.b2 .nil (passes_call takes0 (fun _ _ _ _ z => z)) (pa_cons pe_int (pa_cons pe_int pa_nil)))) pa_nil)) (pa_cons (C8.pe_c D8 hr (by decide) (by rfl) (pa_cons (pe_op (op_num (op := .Mult) (j := 12) MM hr (by decide)) (pe_make RM.M RM.F (hr.mono (by decide)) (by rfl) RM.hm RM.b2 .nil (passes_call takes0 (fun _ _ _ _ z => z)) (pa_cons pe_int (pa_cons pe_int pa_nil))) pe_int) pa_nil)) (pa_cons (C8.pe_c D8 hr (by decide) (by rfl) (pa_cons (pe_op (op_num (op := .Add) (j := 12) MA hr (by decide)) pe_int (pe_make RM.M RM.F (hr.mono (by decide)) (by rfl) RM.hm RM.b2 .nil (passes_call takes0 (fun _ _ _ _ z => z)) (pa_cons (pe_un un_neg pe_int) (pa_cons pe_int pa_nil)))) pa_nil)) pa_nil)))))
  (pss_cons (ps_expr (pe_bm PySem.F.plainAttrs_list PySem.F.slot_list_append PySem.F.type_list_append mt_append (pv 3) (pa_cons (C8.pe_c D8 hr (by decide) (by rfl) (pa_cons (pe_op (op_num (op := .Mult) (j := 12) MM hr (by decide)) pe_int (pe_make RM.M RM.F (hr.mono (by decide)) (by rfl) RM.hm RM.b2 .nil (passes_call takes0 (fun _ _ _ _ z => z)) (pa_cons pe_int (pa_cons pe_int pa_nil)))) pa_nil)) pa_nil)))
  (pss_one (ps_ret (pe_cmpR (op_eqD hr.units) (pv 3) (pe_lst (pa_cons (pe_tup (pa_cons pe_int (pa_cons pe_int pa_nil))) (pa_cons (pe_tup (pa_cons pe_int (pa_cons pe_int pa_nil))) (pa_cons (pe_tup (pa_cons (pe_un un_neg pe_int) (pa_cons pe_int pa_nil))) (pa_cons (pe_tup (pa_cons pe_int (pa_cons pe_int pa_nil))) pa_nil))))) (nomark _)))))))), ?_⟩
    refine ⟨_, rfl, a, ns, rfl, hs, hl, fun p pl H1 hp1 s1 _ => ?_⟩
    have ht1 := ht.ext s1
    refine ⟨_, rfl, by decide, by decide, for_range (fun i σ' H' => ∃ x2, σ' = [some (V.ref a), some (V.ref p), x2, none] ∧ Pen H' p pl (13 * i) ∧ Tabs (tabOf B) H') ⟨_, rfl, hp1, ht1⟩ ?_ ?_⟩
    · rintro i σ1 H2 hi ⟨x2, rfl, hp2, ht2⟩
      have hi9 : i < 9 := hi
      refine ⟨_, rfl, p, pl, 13 * i, rfl, hp2, by omega, fun H3 hp3 k3 => ⟨_, rfl, iteF ?_⟩⟩
      refine ⟨_, rfl, p, pl, 13 * i + 10, rfl, hp3, by omega, Lw.Tabs.kp ht2 hp2 k3, fun H4 hp4 ht4 => ⟨_, rfl, iteF ⟨_, rfl, hp4, ht4⟩⟩⟩
    · rintro σ3 H3 ⟨x2, rfl, hp3, ht3⟩
      have g1 : ∀ (σ : L2.St) (H : Hp), Prs (tCall (spGot C) [] C8.E0 (tCons (tOp (rNum K C frSub) (tC (V.int 1)) (tMake C (spRat K C D) [] (fun _ _ _ => False) (tCons (tC (V.int 1)) (tCons (tC (V.int 2)) tNil)))) tNil)) σ H (1) 2 := fun σ H =>
        (Mks.got (mks_il (mks_make Gi.c Gi.c (by decide) (ten _ (by decide)).small (ten _ (by decide)).small) (lun_pos (by decide)) (ten _ (by decide +kernel)) (ten _ (by decide +kernel)) (ten _ (by decide)) O.i)).is (by decide +kernel) (by decide +kernel)
      have g2 : ∀ (σ : L2.St) (H : Hp), Prs (tCall (spGot C) [] C8.E0 (tCons (tOp (rNum K C frMul) (tMake C (spRat K C D) [] (fun _ _ _ => False) (tCons (tC (V.int 6)) (tCons (tC (V.int 4)) tNil))) (tC (V.int 2))) tNil)) σ H (3) 1 := fun σ H =>
        (Mks.got (mks_ir (mks_make Gi.c Gi.c (by decide) (ten _ (by decide)).small (ten _ (by decide)).small) (lun_pos (by decide)) (ten _ (by decide +kernel)) (ten _ (by decide +kernel)) (ten _ (by decide)) O.i)).is (by decide +kernel) (by decide +kernel)
      have g3 : ∀ (σ : L2.St) (H : Hp), Prs (tCall (spGot C) [] C8.E0 (tCons (tOp (rNum K C frAdd) (tC (V.int 3)) (tMake C (spRat K C D) [] (fun _ _ _ => False) (tCons (tUn (rU fun i => V.int (-i)) (tC (V.int 7))) (tCons (tC (V.int 2)) tNil)))) tNil)) σ H (-1) 2 := fun σ H =>
        (Mks.got (mks_il (mks_make Gi.n Gi.c (by decide) (ten _ (by decide)).small (ten _ (by decide)).small) (lun_pos (by decide)) (ten _ (by decide +kernel)) (ten _ (by decide +kernel)) (ten _ (by decide)) O.i)).is (by decide +kernel) (by decide +kernel)
      have g4 : ∀ (σ : L2.St) (H : Hp), Prs (tCall (spGot C) [] C8.E0 (tCons (tOp (rNum K C frMul) (tC (V.int 0)) (tMake C (spRat K C D) [] (fun _ _ _ => False) (tCons (tC (V.int 5)) (tCons (tC (V.int 3)) tNil)))) tNil)) σ H (0) 1 := fun σ H =>
        (Mks.got (mks_il (mks_make Gi.c Gi.c (by decide) (ten _ (by decide)).small (ten _ (by decide)).small) (lun_pos (by decide)) (ten _ (by decide +kernel)) (ten _ (by decide +kernel)) (ten _ (by decide)) O.i)).is (by decide +kernel) (by decide +kernel)
      dsimp only [tSeq, tAsg]
      refine three (g1 _ _) (g2 _ _) (g3 _ _) fun l q1 q2 q3 H4 s4 el e1 e2 e3 => ?_
      dsimp only [gName, tSeq]
      refine ⟨_, rfl, .inl ⟨rfl, _, SqL.of el⟩, ?_⟩
      refine g4 _ H4 H4 _ (Same.refl H4) fun q4 H5 s5 e4 => ?_
      have el5 := s5 _ _ el
      refine ⟨l, _, _, rfl, rfl, el5, (by show 3 < sizeLine; decide), ?_⟩
      have far : ∀ {q : Addr} {a b : Int}, H5 q = some (.tup [.int a, .int b]) → upd H5 l (.lst ([V.ref q1, V.ref q2, V.ref q3] ++ [V.ref q4])) q = some (.tup [.int a, .int b]) := fun {q a b} e => by
        rw [upd_ne (fun z => by rw [z, el5] at e; cases e)]
        exact e
      refine four (Prs.tupG Gi.c Gi.c) (Prs.tupG Gi.c Gi.c) (Prs.tupG Gi.n Gi.c) (Prs.tupG Gi.c Gi.c) rfl upd_same (far (s5 _ _ e1)) (far (s5 _ _ e2)) (far (s5 _ _ e3)) (far e4) fun H' => k H'
end
end Lw
namespace Lw
open PySem PySem.Spec PyProof.Rows L2

open LamX
/-! ### the call of the law where nothing is being shown, with one table of code objects -/
/-- what is tracked when the law is entered: the table at B, and the script unless it is written -/
def Entry (K : PySem.W.Frag) (h : Heap) (a B : Addr) (ns : List Int) (H : Hp) : Prop :=
  H B = some (.tbl #[]) ∧ SqL K H a (ns.map V.int) ∧ (∀ b u, H b = some u → (b = B ∧ u = .tbl #[]) ∨ (b = a ∧ K.lookup a = none ∧ ∃ o xs, u = .frz o (.lst xs) ∧ h.get? a = some o))
theorem entry {P : Program} {w : World} {K : PySem.W.Frag} {h : Heap} {a B : Addr} {vs : List Value} {ns : List Int} (KX : K.In h) (hT : h.get? B = some { cls := .none, data := .fields #[] }) (ha : h.get? a = some { cls := .type "list", data := .seq vs.toArray }) (hi : IntsAre vs ns) (hl : ns.length ≤ sizeLine) :
    a ≠ B ∧ ∃ H, Entry K h a B ns H ∧ HOk P w H h := by
  have rv := vals_ints hi
  have lv := hi.length
  have ne : a ≠ B := fun e => by
    rw [e, hT] at ha
    have z : Data.fields #[] = Data.seq vs.toArray _ := congrArg Obj.data (Option.some.inj ha)
    cases z
  refine ⟨ne, ?_⟩
  cases hk : K.lookup a with
  | some o =>
    have e := KX a o hk
    rw [ha] at e
    cases e
    refine ⟨fun b => if b = B then some (.tbl #[]) else none, ⟨if_pos rfl, .inr ⟨_, vs.toArray, _, hk, rfl, rfl, rfl, by rw [List.size_toArray, lv]; exact hl, by simpa using rv⟩, fun b u z => ?_⟩, fun b u z => ?_⟩
    · by_cases q : b = B
      · exact .inl ⟨q, (Option.some.inj ((if_pos q).symm.trans z)).symm⟩
      · cases (if_neg q).symm.trans z
    · by_cases q : b = B
      · cases (if_pos q).symm.trans z
        rw [q]
        exact hT
      · cases (if_neg q).symm.trans z
  | none =>
    refine ⟨fun b => if b = B then some (.tbl #[]) else if b = a then some (.frz { cls := .type "list", data := .seq vs.toArray } (.lst (ns.map V.int))) else none,
      ⟨if_pos rfl, .inl (.inr ⟨_, (if_neg ne).trans (if_pos rfl)⟩), fun b u z => ?_⟩, fun b u z => ?_⟩
    · by_cases q : b = B
      · exact .inl ⟨q, (Option.some.inj ((if_pos q).symm.trans z)).symm⟩
      · have z2 := (if_neg q).symm.trans z
        by_cases q2 : b = a
        · exact .inr ⟨q2, hk, _, _, (Option.some.inj ((if_pos q2).symm.trans z2)).symm, ha⟩
        · cases (if_neg q2).symm.trans z2
    · by_cases q : b = B
      · cases (if_pos q).symm.trans z
        rw [q]
        exact hT
      · have z2 := (if_neg q).symm.trans z
        by_cases q2 : b = a
        · cases (if_pos q2).symm.trans z2
          rw [q2]
          exact ⟨ha, by rw [List.length_map]; exact hl, vs, _, rv, ha⟩
        · cases (if_neg q2).symm.trans z2
theorem law_end {P : Program} {w : World} {K : PySem.W.Frag} {mg mb : Str → Option Value} {k : Nat} {fa a c B : Addr} {fd : FuncData} {x : Str} {sp : Sp} {s₁ : Shared} {vs : List Value} {ns : List Int}
    (KX : K.In s₁.heap) (hns : s₁.heap.Ns mainGlobals mg) (hb : s₁.heap.Ns builtinsNs mb) (hbb : ∀ x : Str, x ≠ "__name__" → mb x = bootBuiltins x) (hlim : s₁.heap.NoLimit) (hg : s₁.gens = #[])
    (hT : s₁.heap.get? B = some { cls := .none, data := .fields #[] }) (nT : K.lookup B = none) (C : PySem.W.CodeHd s₁.heap c B)
    (hbm : ∃ (bm : Addr) (ob : Obj), mg "__builtins__" = some (.ref bm) ∧ bm ≠ builtinsNs ∧ s₁.heap.get? bm = some ob ∧ ob.cls = .type "module" ∧ ob.dict = some builtinsNs ∧ ob.data = .plain)
    (ha : s₁.heap.get? a = some { cls := .type "list", data := .seq vs.toArray }) (hi : IntsAre vs ns) (hl : ns.length ≤ sizeLine) (hr : Room k callerA)
    (F : ∀ base : Heap, K.In base → base.Ns mainGlobals mg → TabB base mg c B → FnG P w K mg base k fa fd [x] sp) (hbind : ∀ (s : Shared) (u : Value), BindsTo s fd ⟨[u], []⟩ [(x, u)])
    (hsp : ∀ H : Hp, H B = some (.tbl #[]) → SqL K H a (ns.map V.int) → sp [.ref a] H (fun v _ => v = .bl true) C8.E0) :
    codeAny (model P w) callerA (.call (.ref fa) ⟨[.ref a], []⟩) (fun r s' => r = .ok (.ret (.bool true)) ∧ OldK s₁.heap s'.heap ∧ s'.os = s₁.os ∧ AllBare s'.gens) s₁ := by
  obtain ⟨ne, H, ⟨hB, hS, hA⟩, hok⟩ := entry (P := P) (w := w) KX hT ha hi hl
  -- what is neither the table nor the script is untracked
  have free : ∀ {b : Addr} {o : Obj}, s₁.heap.get? b = some o → (∀ vs n, o.data ≠ .seq vs n) → o.data ≠ .fields #[] → H b = none := fun {b o} e h1 h2 => by
    cases q : H b with
    | none => rfl
    | some u =>
      rcases hA b u q with ⟨e', _⟩ | ⟨e', _⟩
      · rw [e', hT] at e
        cases e
        exact absurd rfl h2
      · rw [e', ha] at e
        cases e
        exact absurd rfl (h1 _ _)
  have through : ∀ {b : Addr} {o : Obj}, s₁.heap.get? b = some o → H b = none → (hidT s₁.heap H).get? b = some o := fun e n => hidT_get e n
  have nsT : ∀ {b : Addr} {m : Str → Option Value}, s₁.heap.Ns b m → (hidT s₁.heap H).Ns b m := fun {b m} ⟨o, es, ep, e, d, r⟩ => by
    refine ⟨o, es, ep, through e (free e (fun vs n z => ?_) fun z => ?_), d, r⟩ <;> · rw [d] at z; cases z
  have inT : K.In (hidT s₁.heap H) := fun b o e => by
    refine through (KX b o e) ?_
    cases q : H b with
    | none => rfl
    | some u =>
      rcases hA b u q with ⟨e', _⟩ | ⟨e', n, _⟩
      · rw [e', nT] at e; cases e
      · rw [e', n] at e; cases e
  have modT : L2.Mod K mg (hidT s₁.heap H) := by
    obtain ⟨mc, h1, h2⟩ := hlim
    exact ⟨inT, nsT hns, ⟨mb, nsT hb, hbb⟩, ⟨mc, nsT h1, h2⟩⟩
  have tabT : TabB (hidT s₁.heap H) mg c B := by
    refine ⟨?_, ?_, fun z => ?_⟩
    · obtain ⟨o, us, file, tf, flags, tg, inF, text, tt, e1, r1, r2, r3, r4⟩ := C
      refine ⟨o, us, file, tf, flags, tg, inF, text, tt, through e1 (free e1 (fun vs n z => ?_) fun z => ?_), r1, r2, r3, r4⟩
      · rw [r2] at z; cases z
      · rw [r2] at z; cases z
        simp at r3
    · obtain ⟨bm, ob, b1, b2, b3, b4, b5, b6⟩ := hbm
      refine ⟨bm, ob, b1, b2, fun q => ?_, fun q => ?_, through b3 (free b3 (fun vs n z => ?_) fun z => ?_), b4, b5, b6⟩
      · obtain ⟨o, es, ep, e, d, _⟩ := hns
        rw [q, e] at b3
        cases b3
        rw [d] at b6
        cases b6
      · rw [q, hT] at b3
        cases b3
        cases b6
      · rw [b6] at z; cases z
      · rw [b6] at z; cases z
    · obtain ⟨o, es, ep, e, d, _⟩ := hns
      rw [z, hT] at e
      cases e
      cases d
  have e0 : Env0 P w K mg (hidT s₁.heap H) callerA [] s₁ H := ⟨rfl, modT, fun b o e => of_hidT e, Nat.le_of_eq (hidT_size _ _), trivial, fun b hb => absurd (show b ∈ ([] : List Addr) from hb) (by simp), hok, .of_eq hg⟩
  refine codeAny_mono ((F _ inT (nsT hns) tabT).run callerA [] s₁ H ⟨[.ref a], []⟩ [.ref a] [.ref a] _ _ rfl hr e0 (hbind s₁ (.ref a)) (.cons rfl .nil) (hsp H hB hS)) fun r s' q => ?_
  match r, q with
  | .error e, q => exact (show False from q).elim
  | .ok .next, q => exact (show False from q).elim
  | .ok .brk, q => exact (show False from q).elim
  | .ok .cont, q => exact (show False from q).elim
  | .ok (.ret u), q =>
    obtain ⟨v, H', os, bare, un, hok', r', qv⟩ := q
    have qv' : v = .bl true := qv
    subst qv'
    obtain rfl : u = Value.bool true := r'
    obtain ⟨more, hmore⟩ := un.tbls B #[] hB
    have atB := hok' B _ hmore
    have same : ∀ b o, b ≠ B → s₁.heap.get? b = some o → s'.heap.get? b = some o := fun b o nb e => by
      cases q : H b with
      | none => exact un.keep b o e q (by intro z; exact absurd (show b ∈ ([] : List Addr) from z) (by simp)) (by simp)
      | some u =>
        rcases hA b u q with ⟨z, _⟩ | ⟨e', _, ob, xs, rfl, hob⟩
        · exact absurd z nb
        · obtain ⟨e2, _⟩ := hok' b _ (un.frzs b ob _ q)
          rw [e', hob] at e
          cases e
          exact e2
    refine ⟨rfl, ⟨fun b o e => ?_, fun b o e => ?_⟩, os, bare⟩
    · by_cases hb : b = B
      · rw [hb] at e ⊢
        rw [hT] at e
        cases e
        exact .inr (.inl ⟨(C.tab hT).isCodeTable, rfl, #[], _, rfl, atB⟩)
      · exact .inl (same b o hb e)
    · by_cases hb : b = B
      · rw [hb]
        exact ⟨_, atB⟩
      · exact ⟨o, same b o hb e⟩
theorem tabIn_of {K : PySem.W.Frag} {x : Str} {f c B : Addr} {oc occ : Value} {od odc : Option Addr} {fd : FuncData} {sl slc : Array (Option Value)} {us : Array Value} (h1 : PySem.W.nsIn K mainGlobals x = some (some (.ref f))) (h2 : K.lookup f = some ⟨oc, od, .func fd, sl⟩) (hc : fd.code = .ref c)
    (h3 : K.lookup c = some ⟨occ, odc, .fields us, slc⟩) (h4 : us[11]? = some (.ref B)) : PySem.W.tabIn K x = some (c, B) := by
  unfold PySem.W.tabIn
  rw [h1]
  dsimp only
  rw [h2]
  dsimp only
  rw [hc]
  dsimp only
  rw [h3]
  dsimp only
  rw [h4]
theorem walk_end {l : PySem.W.OpenLaw} {n k : Nat} {q : Program} {loose : List Str} {XP : (Str → Option Value) → Heap → Prop} {YP : World → Heap → Prop} {d : DefRec} {K : Params → PySem.W.Frag} {x : Str} {xt : Str}
    (hn : l.most = some n) (hn2 : n ≤ 63) (hdf : d.params.defaults = []) (hr : Room k callerA) (hY : ∀ (w : World) (h : Heap), YP w h → (K w.params).In h) (hrec : ((recsOf q).find? fun e => e.name == xt).isSome = true)
    (F : ∀ (w : World) (mg : Str → Option Value) (fa : Addr) (h : Heap), (K w.params).In h → h.Ns mainGlobals mg → mg d.name = some (.ref fa) → ∃ (fd : FuncData) (c B : Addr), PySem.W.tabIn (K w.params) xt = some (c, B) ∧ (K w.params).lookup B = none ∧ (∀ (s : Shared) (u : Value), BindsTo s fd ⟨[u], []⟩ [(x, u)]) ∧
      ∀ base : Heap, (K w.params).In base → base.Ns mainGlobals mg → TabB base mg c B → FnG l.prog w (K w.params) mg base k fa fd [x] (spLaw (K w.params) B)) :
    PySem.W.WalkO q loose XP YP l.row.toRowW d [] (fun f vs => PySem.call f vs) := by
  refine Att.attach_callB hn hdf fun w s₀ s₁ mg mb fa o pm cd doc a vs ns G Y ho hd hcd hmg hobj hints hlen hbits hg => ?_
  have KX := hY w _ Y
  obtain ⟨fd, c, B, ht, nT, hb, hF⟩ := F w mg fa _ KX G.T.g hmg
  obtain ⟨dr, hdr⟩ := Option.isSome_iff_exists.mp hrec
  obtain ⟨hC, hT⟩ := PySem.W.tab_of G.T KX hdr ht
  exact law_end KX G.T.g G.T.b G.T.builtins G.T.nolimit hg hT nT hC G.T.bmain hobj hints (Nat.le_trans (Nat.le_trans hlen hn2) (by decide)) hr hF hb fun H hB hS =>
    ⟨a, ns, rfl, hS, Nat.le_trans hlen hn2, fun p hp => by rw [List.mem_singleton.mp hp]; exact TabS.nil hB, fun _ => rfl⟩
end Lw
namespace Lw
open PySem PySem.Spec PyProof.Rows L2

open LamX

theorem MetX.up {P : Program} {w : World} {K : PySem.W.Frag} {mg : Str → Option Value} {base : Heap} {k j : Nat} {C : Addr} {m : Str} {sp : Sp} (M : MetX P w K mg base k C m sp) (h : k ≤ j) : MetX P w K mg base j C m sp := by
  obtain ⟨g, fd, ps, h1, F, h3⟩ := M.ex
  exact ⟨g, fd, ps, h1, F.mono h, h3⟩
theorem all_known {l : PySem.W.OpenLaw} {w : World} {K : PySem.W.Frag} {h : Heap} {mg : Str → Option Value} {fa : Addr} (X : K.In h) (G : h.Ns mainGlobals mg) (hfa : mg "law" = some (.ref fa))
    {C : Addr}
    {fii : Addr} {ocii kVii dcii pmii ctii cdii : Value} {odii anii : Option Addr} {slii : Array (Option Value)}
    {flp : Addr} {oclp kVlp dclp pmlp ctlp cdlp : Value} {odlp anlp : Option Addr} {sllp : Array (Option Value)}
    {fld : Addr} {ocld kVld dcld pmld ctld cdld : Value} {odld anld : Option Addr} {slld : Array (Option Value)}
    {flk : Addr} {oclk kVlk dclk pmlk ctlk cdlk : Value} {odlk anlk : Option Addr} {sllk : Array (Option Value)}
    {flc : Addr} {oclc kVlc dclc pmlc ctlc cdlc : Value} {odlc anlc : Option Addr} {sllc : Array (Option Value)}
    {fll : Addr} {ocll kVll dcll pmll ctll cdll : Value} {odll anll : Option Addr} {slll : Array (Option Value)}
    {flq : Addr} {oclq kVlq dclq pmlq ctlq cdlq : Value} {odlq anlq : Option Addr} {sllq : Array (Option Value)}
    {flh : Addr} {oclh kVlh dclh pmlh ctlh cdlh : Value} {odlh anlh : Option Addr} {sllh : Array (Option Value)}
    {flo : Addr} {oclo kVlo dclo pmlo ctlo cdlo : Value} {odlo anlo : Option Addr} {sllo : Array (Option Value)}
    {flg : Addr} {oclg kVlg dclg pmlg ctlg cdlg : Value} {odlg anlg : Option Addr} {sllg : Array (Option Value)}
    {fln : Addr} {ocln kVln dcln pmln ctln cdln : Value} {odln anln : Option Addr} {slln : Array (Option Value)}
    {flu : Addr} {oclu kVlu dclu pmlu ctlu cdlu : Value} {odlu anlu : Option Addr} {sllu : Array (Option Value)}
    {flr : Addr} {oclr kVlr dclr pmlr ctlr cdlr : Value} {odlr anlr : Option Addr} {sllr : Array (Option Value)}
    {flt : Addr} {oclt kVlt dclt pmlt ctlt : Value} {odlt anlt : Option Addr} {sllt : Array (Option Value)}
    {fla : Addr} {ocla kVla dcla pmla ctla cdla : Value} {odla anla : Option Addr} {slla : Array (Option Value)}
    {fmo : Addr} {ocmo kVmo dcmo pmmo ctmo cdmo : Value} {odmo anmo : Option Addr} {slmo : Array (Option Value)}
    {fma : Addr} {ocma kVma dcma pmma ctma cdma : Value} {odma anma : Option Addr} {slma : Array (Option Value)}
    {fmb : Addr} {ocmb kVmb dcmb pmmb ctmb cdmb : Value} {odmb anmb : Option Addr} {slmb : Array (Option Value)}
    {fms : Addr} {ocms kVms dcms pmms ctms cdms : Value} {odms anms : Option Addr} {slms : Array (Option Value)}
    {fmt : Addr} {ocmt kVmt dcmt pmmt ctmt cdmt : Value} {odmt anmt : Option Addr} {slmt : Array (Option Value)}
    {fmm : Addr} {ocmm kVmm dcmm pmmm ctmm cdmm : Value} {odmm anmm : Option Addr} {slmm : Array (Option Value)}
    {fmn : Addr} {ocmn kVmn dcmn pmmn ctmn cdmn : Value} {odmn anmn : Option Addr} {slmn : Array (Option Value)}
    {fmg : Addr} {ocmg kVmg dcmg pmmg ctmg cdmg : Value} {odmg anmg : Option Addr} {slmg : Array (Option Value)}
    {pO : Addr} {mcC : Value} {restO : List Value}
    {fI Td : Addr} {ocI kVI dcI pmI cdI ctI ocD : Value} {odI anI odD : Option Addr} {slI slD : Array (Option Value)} {tD : Tok} {nD : Nat} {clsC : ClassData}
    {D L fE : Addr} {ocE kVE dcE pmE cdE ctE : Value} {odE anE : Option Addr} {slE : Array (Option Value)} {nmD qD : Str} {ND : Addr} {bsD bmD : List Value} {snD : List Str} {subD : List Value} {abD : Bool} {colD : Option Bool} {ddD : Option Addr} {e0 e1 e2 e3 e5 : Option Value}
    {cT B : Addr} {ocT : Value} {odT : Option Addr} {usT : Array Value} {slT : Array (Option Value)}
    (aii : PySem.W.nsIn K mainGlobals "is_integer" = some (some (.ref fii)))
    (lii : K.lookup fii = some ⟨ocii, odii, .func (PySem.W.fnOf "is_integer" "is_integer" (C8.fnArgs sIsInt) (C8.fnBody sIsInt) (C8.fnScope sIsInt) .none kVii dcii pmii anii cdii ctii), slii⟩)
    (cii : PySem.W.codeIn K cdii "is_integer" = true)
    (kii : PySem.W.keepIn K (.ref fii) = true)
    (alp : PySem.W.nsIn K mainGlobals "_law_pen" = some (some (.ref flp)))
    (llp : K.lookup flp = some ⟨oclp, odlp, .func (PySem.W.fnOf "_law_pen" "_law_pen" (C8.fnArgs sPen) (C8.fnBody sPen) (C8.fnScope sPen) .none kVlp dclp pmlp anlp cdlp ctlp), sllp⟩)
    (clp : PySem.W.codeIn K cdlp "_law_pen" = true)
    (klp : PySem.W.keepIn K (.ref flp) = true)
    (ald : PySem.W.nsIn K mainGlobals "_law_draw" = some (some (.ref fld)))
    (lld : K.lookup fld = some ⟨ocld, odld, .func (PySem.W.fnOf "_law_draw" "_law_draw" (C8.fnArgs sDraw) (C8.fnBody sDraw) (C8.fnScope sDraw) .none kVld dcld pmld anld cdld ctld), slld⟩)
    (cld : PySem.W.codeIn K cdld "_law_draw" = true)
    (kld : PySem.W.keepIn K (.ref fld) = true)
    (alk : PySem.W.nsIn K mainGlobals "_law_pick" = some (some (.ref flk)))
    (llk : K.lookup flk = some ⟨oclk, odlk, .func (PySem.W.fnOf "_law_pick" "_law_pick" (C8.fnArgs sPick) (C8.fnBody sPick) (C8.fnScope sPick) .none kVlk dclk pmlk anlk cdlk ctlk), sllk⟩)
    (clk : PySem.W.codeIn K cdlk "_law_pick" = true)
    (klk : PySem.W.keepIn K (.ref flk) = true)
    (alc : PySem.W.nsIn K mainGlobals "_law_common" = some (some (.ref flc)))
    (llc : K.lookup flc = some ⟨oclc, odlc, .func (PySem.W.fnOf "_law_common" "_law_common" (C8.fnArgs sCom) (C8.fnBody sCom) (C8.fnScope sCom) .none kVlc dclc pmlc anlc cdlc ctlc), sllc⟩)
    (clc : PySem.W.codeIn K cdlc "_law_common" = true)
    (klc : PySem.W.keepIn K (.ref flc) = true)
    (all : PySem.W.nsIn K mainGlobals "_law_least" = some (some (.ref fll)))
    (lll : K.lookup fll = some ⟨ocll, odll, .func (PySem.W.fnOf "_law_least" "_law_least" (C8.fnArgs sLea) (C8.fnBody sLea) (C8.fnScope sLea) .none kVll dcll pmll anll cdll ctll), slll⟩)
    (cll : PySem.W.codeIn K cdll "_law_least" = true)
    (kll : PySem.W.keepIn K (.ref fll) = true)
    (alq : PySem.W.nsIn K mainGlobals "_law_pair" = some (some (.ref flq)))
    (llq : K.lookup flq = some ⟨oclq, odlq, .func (PySem.W.fnOf "_law_pair" "_law_pair" (C8.fnArgs sPai) (C8.fnBody sPai) (C8.fnScope sPai) .none kVlq dclq pmlq anlq cdlq ctlq), sllq⟩)
    (clq : PySem.W.codeIn K cdlq "_law_pair" = true)
    (klq : PySem.W.keepIn K (.ref flq) = true)
    (alh : PySem.W.nsIn K mainGlobals "_law_heard" = some (some (.ref flh)))
    (llh : K.lookup flh = some ⟨oclh, odlh, .func (PySem.W.fnOf "_law_heard" "_law_heard" (C8.fnArgs sHea) (C8.fnBody sHea) (C8.fnScope sHea) .none kVlh dclh pmlh anlh cdlh ctlh), sllh⟩)
    (clh : PySem.W.codeIn K cdlh "_law_heard" = true)
    (klh : PySem.W.keepIn K (.ref flh) = true)
    (alo : PySem.W.nsIn K mainGlobals "_law_odd" = some (some (.ref flo)))
    (llo : K.lookup flo = some ⟨oclo, odlo, .func (PySem.W.fnOf "_law_odd" "_law_odd" (C8.fnArgs sOdd) (C8.fnBody sOdd) (C8.fnScope sOdd) .none kVlo dclo pmlo anlo cdlo ctlo), sllo⟩)
    (clo : PySem.W.codeIn K cdlo "_law_odd" = true)
    (klo : PySem.W.keepIn K (.ref flo) = true)
    (alg : PySem.W.nsIn K mainGlobals "_law_got" = some (some (.ref flg)))
    (llg : K.lookup flg = some ⟨oclg, odlg, .func (PySem.W.fnOf "_law_got" "_law_got" (C8.fnArgs sGot) (C8.fnBody sGot) (C8.fnScope sGot) .none kVlg dclg pmlg anlg cdlg ctlg), sllg⟩)
    (clg : PySem.W.codeIn K cdlg "_law_got" = true)
    (klg : PySem.W.keepIn K (.ref flg) = true)
    (aln : PySem.W.nsIn K mainGlobals "_law_number" = some (some (.ref fln)))
    (lln : K.lookup fln = some ⟨ocln, odln, .func (PySem.W.fnOf "_law_number" "_law_number" (C8.fnArgs sNum) (C8.fnBody sNum) (C8.fnScope sNum) .none kVln dcln pmln anln cdln ctln), slln⟩)
    (cln : PySem.W.codeIn K cdln "_law_number" = true)
    (kln : PySem.W.keepIn K (.ref fln) = true)
    (alu : PySem.W.nsIn K mainGlobals "_law_due" = some (some (.ref flu)))
    (llu : K.lookup flu = some ⟨oclu, odlu, .func (PySem.W.fnOf "_law_due" "_law_due" (C8.fnArgs sDue) (C8.fnBody sDue) (C8.fnScope sDue) .none kVlu dclu pmlu anlu cdlu ctlu), sllu⟩)
    (clu : PySem.W.codeIn K cdlu "_law_due" = true)
    (klu : PySem.W.keepIn K (.ref flu) = true)
    (alr : PySem.W.nsIn K mainGlobals "_law_right" = some (some (.ref flr)))
    (llr : K.lookup flr = some ⟨oclr, odlr, .func (PySem.W.fnOf "_law_right" "_law_right" (C8.fnArgs sRight) (C8.fnBody sRight) (C8.fnScope sRight) .none kVlr dclr pmlr anlr cdlr ctlr), sllr⟩)
    (clr : PySem.W.codeIn K cdlr "_law_right" = true)
    (klr : PySem.W.keepIn K (.ref flr) = true)
    (alt : PySem.W.nsIn K mainGlobals "_law_refused_right" = some (some (.ref flt)))
    (llt : K.lookup flt = some ⟨oclt, odlt, .func (PySem.W.fnOf "_law_refused_right" "_law_refused_right" (C8.fnArgs sRef) (C8.fnBody sRef) (C8.fnScope sRef) .none kVlt dclt pmlt anlt (.ref cT) ctlt), sllt⟩)
    (clt : PySem.W.codeIn K (.ref cT) "_law_refused_right" = true)
    (klt : PySem.W.keepIn K (.ref flt) = true)
    (ala : PySem.W.nsIn K mainGlobals "law" = some (some (.ref fla)))
    (lla : K.lookup fla = some ⟨ocla, odla, .func (PySem.W.fnOf "law" "law" (C8.fnArgs sLaw) (C8.fnBody sLaw) (C8.fnScope sLaw) .none kVla dcla pmla anla cdla ctla), slla⟩)
    (cla : PySem.W.codeIn K cdla "law" = true)
    (kla : PySem.W.keepIn K (.ref fla) = true)
    (lmo : K.lookup fmo = some ⟨ocmo, odmo, .func (PySem.W.fnOf "of" "Ratio.of" (C8.fnArgs sOf) (C8.fnBody sOf) (C8.fnScope sOf) .none kVmo dcmo pmmo anmo cdmo ctmo), slmo⟩)
    (cmo : PySem.W.codeIn K cdmo "Ratio.of" = true)
    (kmo : PySem.W.keepIn K (.ref fmo) = true)
    (ama : PySem.W.findIn K (.ref C) (PySem.dunder "add") = some (some (.ref fma)))
    (ima : PySem.W.isFn K (.ref fma) = true)
    (lma : K.lookup fma = some ⟨ocma, odma, .func (PySem.W.fnOf "__add__" "Ratio.__add__" (C8.fnArgs sAdd) (C8.fnBody sAdd) (C8.fnScope sAdd) .none kVma dcma pmma anma cdma ctma), slma⟩)
    (cma : PySem.W.codeIn K cdma "Ratio.__add__" = true)
    (kma : PySem.W.keepIn K (.ref fma) = true)
    (amb : PySem.W.findIn K (.ref C) (dunderR "add") = some (some (.ref fmb)))
    (imb : PySem.W.isFn K (.ref fmb) = true)
    (lmb : K.lookup fmb = some ⟨ocmb, odmb, .func (PySem.W.fnOf "__radd__" "Ratio.__radd__" (C8.fnArgs sRadd) (C8.fnBody sRadd) (C8.fnScope sRadd) .none kVmb dcmb pmmb anmb cdmb ctmb), slmb⟩)
    (cmb : PySem.W.codeIn K cdmb "Ratio.__radd__" = true)
    (kmb : PySem.W.keepIn K (.ref fmb) = true)
    (ams : PySem.W.findIn K (.ref C) (PySem.dunder "sub") = some (some (.ref fms)))
    (ims : PySem.W.isFn K (.ref fms) = true)
    (lms : K.lookup fms = some ⟨ocms, odms, .func (PySem.W.fnOf "__sub__" "Ratio.__sub__" (C8.fnArgs sSub) (C8.fnBody sSub) (C8.fnScope sSub) .none kVms dcms pmms anms cdms ctms), slms⟩)
    (cms : PySem.W.codeIn K cdms "Ratio.__sub__" = true)
    (kms : PySem.W.keepIn K (.ref fms) = true)
    (amt : PySem.W.findIn K (.ref C) (dunderR "sub") = some (some (.ref fmt)))
    (imt : PySem.W.isFn K (.ref fmt) = true)
    (lmt : K.lookup fmt = some ⟨ocmt, odmt, .func (PySem.W.fnOf "__rsub__" "Ratio.__rsub__" (C8.fnArgs sRsub) (C8.fnBody sRsub) (C8.fnScope sRsub) .none kVmt dcmt pmmt anmt cdmt ctmt), slmt⟩)
    (cmt : PySem.W.codeIn K cdmt "Ratio.__rsub__" = true)
    (kmt : PySem.W.keepIn K (.ref fmt) = true)
    (amm : PySem.W.findIn K (.ref C) (PySem.dunder "mul") = some (some (.ref fmm)))
    (imm : PySem.W.isFn K (.ref fmm) = true)
    (lmm : K.lookup fmm = some ⟨ocmm, odmm, .func (PySem.W.fnOf "__mul__" "Ratio.__mul__" (C8.fnArgs sMul) (C8.fnBody sMul) (C8.fnScope sMul) .none kVmm dcmm pmmm anmm cdmm ctmm), slmm⟩)
    (cmm : PySem.W.codeIn K cdmm "Ratio.__mul__" = true)
    (kmm : PySem.W.keepIn K (.ref fmm) = true)
    (amn : PySem.W.findIn K (.ref C) (dunderR "mul") = some (some (.ref fmn)))
    (imn : PySem.W.isFn K (.ref fmn) = true)
    (lmn : K.lookup fmn = some ⟨ocmn, odmn, .func (PySem.W.fnOf "__rmul__" "Ratio.__rmul__" (C8.fnArgs sRmul) (C8.fnBody sRmul) (C8.fnScope sRmul) .none kVmn dcmn pmmn anmn cdmn ctmn), slmn⟩)
    (cmn : PySem.W.codeIn K cdmn "Ratio.__rmul__" = true)
    (kmn : PySem.W.keepIn K (.ref fmn) = true)
    (amg : PySem.W.findIn K (.ref C) ("__neg__") = some (some (.ref fmg)))
    (img : PySem.W.isFn K (.ref fmg) = true)
    (lmg : K.lookup fmg = some ⟨ocmg, odmg, .func (PySem.W.fnOf "__neg__" "Ratio.__neg__" (C8.fnArgs sNeg) (C8.fnBody sNeg) (C8.fnScope sNeg) .none kVmg dcmg pmmg anmg cdmg ctmg), slmg⟩)
    (cmg : PySem.W.codeIn K cdmg "Ratio.__neg__" = true)
    (kmg : PySem.W.keepIn K (.ref fmg) = true)
    (sT : PySem.W.typeIn K (.ref C) = some mcC)
    (sR : PySem.W.readsIn K C mcC = true)
    (sF : PySem.W.findCls K (.ref C) mcC "of" = some (.get (.builtin "staticmethod.__get__") (.ref pO) .none (.ref C)))
    (sG : PySem.W.specialIn K (.ref C) "__getattribute__" = some (some (.builtin "type.__getattribute__")))
    (sO : PySem.W.recIn K pO "staticmethod" = some (.ref fmo :: restO))
    (aC : PySem.W.nsIn K mainGlobals "Ratio" = some (some (.ref C)))
    (aI : PySem.W.findIn K (.ref C) "__init__" = some (some (.ref fI)))
    (iI : PySem.W.isFn K (.ref fI) = true)
    (lI : K.lookup fI = some ⟨ocI, odI, .func (PySem.W.fnOf "__init__" "Ratio.__init__" (C8.fnArgs sRat) (C8.fnBody sRat) (C8.fnScope sRat) (.ref Td) kVI dcI pmI anI cdI ctI), slI⟩)
    (cI : PySem.W.codeIn K cdI "Ratio.__init__" = true)
    (kI : PySem.W.keepIn K (.ref fI) = true)
    (lD : K.lookup Td = some ⟨ocD, odD, .seq #[.int 1 tD] nD, slD⟩)
    (pg : PySem.W.plainGet K C Str.empty = true)
    (hd : PySem.W.hasDictIn K C = true)
    (po : PySem.W.plainOver K C = true)
    (sa : PySem.W.findIn K (.ref C) "__setattr__" = some (some (.builtin "object.__setattr__")))
    (mk : PySem.W.makesIn K C = true)
    (kC : PySem.W.keepIn K (.ref C) = true)
    (nO : PySem.W.findIn K (.ref C) "over" = some none)
    (nU : PySem.W.findIn K (.ref C) "under" = some none)
    (hC : PySem.W.findIn K (.ref C) "__class__" = some (some (.builtin "object.__class__")))
    (hG : PySem.W.specialIn K (.builtin "object.__class__") "__get__" = some (some (.builtin "getset_descriptor.__get__")))
    (hK : PySem.W.takesIn K (.builtin "object.__class__") = some true)
    (hM : PySem.W.mroIn K C (.type "object") = some true)
    (first : PySem.W.selfFirst K C = true)
    (s1 : PySem.W.subIn K (.ref C) (.type "int") = some false)
    (s2 : PySem.W.subIn K (.ref C) (.type "bool") = some false)
    (mC : PySem.W.clsIn K C = some clsC)
    (mro : clsC.mro = [.ref C, .type "object"])
    (xA : PySem.W.findIn K (.ref C) (dunderI "add") = some none)
    (yA : PySem.W.findIn K (.type "object") (dunderI "add") = some none)
    (xS : PySem.W.findIn K (.ref C) (dunderI "sub") = some none)
    (yS : PySem.W.findIn K (.type "object") (dunderI "sub") = some none)
    (xM : PySem.W.findIn K (.ref C) (dunderI "mul") = some none)
    (yM : PySem.W.findIn K (.type "object") (dunderI "mul") = some none)
    (qi : PySem.W.kitOne K (.type "int") (.ref C) = some false)
    (qn : PySem.W.kitOne K (.type "NoneType") (.ref C) = some false)
    (qb : PySem.W.kitOne K (.type "bool") (.ref C) = some false)
    (qs : PySem.W.kitOne K (.type "str") (.ref C) = some false)
    (qt : PySem.W.kitOne K (.type "tuple") (.ref C) = some false)
    (ql : PySem.W.kitOne K (.type "list") (.ref C) = some false)
    (qd : PySem.W.kitOne K (.type "dict") (.ref C) = some false)
    (aD : PySem.W.nsIn K mainGlobals "BadRatio" = some (some (.ref D)))
    (aL : PySem.W.nsIn K mainGlobals "LateError" = some (some (.ref L)))
    (xD : K.lookup D = some (excClassObj nmD qD D ND bsD bmD true snD subD abD colD ddD e0 e1 e2 e3 e5 "ValueError.__new__"))
    (xB : PySem.HandSPX.refsVE bmD = true)
    (xs : PySem.W.findIn K (.ref D) "__setattr__" = some (some (.builtin "object.__setattr__")))
    (xe : PySem.W.subIn K (.ref D) (.type "BaseException") = some true)
    (xt : PySem.W.typeIn K (.ref D) = some (.type "type"))
    (xk : PySem.W.keepIn K (.ref D) = true)
    (xi : PySem.W.findIn K (.ref D) "__init__" = some (some (.ref fE)))
    (xf : PySem.W.typeIn K (.ref fE) = some (.type "function"))
    (lE : K.lookup fE = some ⟨ocE, odE, .func (PySem.W.fnOf "__init__" "BadRatio.__init__" (C8.fnArgs sErr) (C8.fnBody sErr) (C8.fnScope sErr) .none kVE dcE pmE anE cdE ctE), slE⟩)
    (cE : PySem.W.codeIn K cdE "BadRatio.__init__" = true)
    (xv : PySem.W.findIn K (.ref D) "value" = some none)
    (xg : PySem.W.findIn K (.ref D) "__getattribute__" = some (some (.builtin "BaseException.__getattribute__")))
    (xn : PySem.W.findIn K (.ref D) "__getattr__" = some none)
    (xd : PySem.W.hasDictIn K D = true)
    (xc : PySem.W.findIn K (.ref D) "__class__" = some (some (.builtin "object.__class__")))
    (xm : PySem.W.mroIn K D (.type "object") = some true)
    (xo : PySem.W.kitOne K (.ref D) (.ref D) = some true)
    (xL : PySem.W.exmOne K (.ref D) (.ref L) = some true)
    (lT : K.lookup cT = some ⟨ocT, odT, .fields usT, slT⟩)
    (vT : usT[11]? = some (.ref B))
    (nT : K.lookup B = none)
    (z_int : PySem.W.nsIn K mainGlobals "int" = some none)
    (z_list : PySem.W.nsIn K mainGlobals "list" = some none)
    (z_len : PySem.W.nsIn K mainGlobals "len" = some none)
    (z_abs : PySem.W.nsIn K mainGlobals "abs" = some none)
    (z_bool : PySem.W.nsIn K mainGlobals "bool" = some none)
    (z_str : PySem.W.nsIn K mainGlobals "str" = some none)
    (z_isinstance : PySem.W.nsIn K mainGlobals "isinstance" = some none)
    (z_range : PySem.W.nsIn K mainGlobals "range" = some none)
    (z_repr : PySem.W.nsIn K mainGlobals "repr" = some none)
    (z_all : PySem.W.nsIn K mainGlobals "all" = some none)
    (gG : PySem.W.nsIn K mainGlobals "gcd" = some (some (.builtin "math.gcd"))) :
    ∃ (fd : FuncData) (c B : Addr), PySem.W.tabIn K "_law_refused_right" = some (c, B) ∧ K.lookup B = none ∧ (∀ (s : Shared) (u : Value), BindsTo s fd ⟨[u], []⟩ [("_law_script", u)]) ∧
      ∀ base : Heap, K.In base → base.Ns mainGlobals mg → TabB base mg c B → FnG l.prog w K mg base 13 fa fd ["_law_script"] (spLaw K B) := by
  have e := hfa.symm.trans (PySem.W.mg_of X G ala)
  cases e
  have Fii : C8.Def K mg "is_integer" sIsInt fii _ := ⟨⟨_, _, _, _, _, _, _, _, _, _, rfl, lii, cii⟩, PySem.W.mg_of X G aii, kii⟩
  have bii : Binds K _ ["value"] [] := Fii.fn.binds rfl fun _ _ _ _ _ _ us hl => match us, hl with | [_], _ => rfl
  have Flp : C8.Def K mg "_law_pen" sPen flp _ := ⟨⟨_, _, _, _, _, _, _, _, _, _, rfl, llp, clp⟩, PySem.W.mg_of X G alp, klp⟩
  have blp : Binds K _ ["_law_script"] [] := Flp.fn.binds rfl fun _ _ _ _ _ _ us hl => match us, hl with | [_], _ => rfl
  have Fld : C8.Def K mg "_law_draw" sDraw fld _ := ⟨⟨_, _, _, _, _, _, _, _, _, _, rfl, lld, cld⟩, PySem.W.mg_of X G ald, kld⟩
  have bld : Binds K _ ["_law_pen_here", "_law_many"] [] := Fld.fn.binds rfl fun _ _ _ _ _ _ us hl => match us, hl with | [_, _], _ => rfl
  have Flk : C8.Def K mg "_law_pick" sPick flk _ := ⟨⟨_, _, _, _, _, _, _, _, _, _, rfl, llk, clk⟩, PySem.W.mg_of X G alk, klk⟩
  have blk : Binds K _ ["_law_pen_here", "_law_some"] [] := Flk.fn.binds rfl fun _ _ _ _ _ _ us hl => match us, hl with | [_, _], _ => rfl
  have Flc : C8.Def K mg "_law_common" sCom flc _ := ⟨⟨_, _, _, _, _, _, _, _, _, _, rfl, llc, clc⟩, PySem.W.mg_of X G alc, klc⟩
  have blc : Binds K _ ["_law_one_so", "_law_two_so"] [] := Flc.fn.binds rfl fun _ _ _ _ _ _ us hl => match us, hl with | [_, _], _ => rfl
  have Fll : C8.Def K mg "_law_least" sLea fll _ := ⟨⟨_, _, _, _, _, _, _, _, _, _, rfl, lll, cll⟩, PySem.W.mg_of X G all, kll⟩
  have bll : Binds K _ ["_law_top", "_law_bottom"] [] := Fll.fn.binds rfl fun _ _ _ _ _ _ us hl => match us, hl with | [_, _], _ => rfl
  have Flq : C8.Def K mg "_law_pair" sPai flq _ := ⟨⟨_, _, _, _, _, _, _, _, _, _, rfl, llq, clq⟩, PySem.W.mg_of X G alq, klq⟩
  have blq : Binds K _ ["_law_pen_here"] [] := Flq.fn.binds rfl fun _ _ _ _ _ _ us hl => match us, hl with | [_], _ => rfl
  have Flh : C8.Def K mg "_law_heard" sHea flh _ := ⟨⟨_, _, _, _, _, _, _, _, _, _, rfl, llh, clh⟩, PySem.W.mg_of X G alh, klh⟩
  have blh : Binds K _ ["_law_ask"] [] := Flh.fn.binds rfl fun _ _ _ _ _ _ us hl => match us, hl with | [_], _ => rfl
  have Flo : C8.Def K mg "_law_odd" sOdd flo _ := ⟨⟨_, _, _, _, _, _, _, _, _, _, rfl, llo, clo⟩, PySem.W.mg_of X G alo, klo⟩
  have blo : Binds K _ ["_law_pen_here"] [] := Flo.fn.binds rfl fun _ _ _ _ _ _ us hl => match us, hl with | [_], _ => rfl
  have Flg : C8.Def K mg "_law_got" sGot flg _ := ⟨⟨_, _, _, _, _, _, _, _, _, _, rfl, llg, clg⟩, PySem.W.mg_of X G alg, klg⟩
  have blg : Binds K _ ["_law_made"] [] := Flg.fn.binds rfl fun _ _ _ _ _ _ us hl => match us, hl with | [_], _ => rfl
  have Fln : C8.Def K mg "_law_number" sNum fln _ := ⟨⟨_, _, _, _, _, _, _, _, _, _, rfl, lln, cln⟩, PySem.W.mg_of X G aln, kln⟩
  have bln : Binds K _ ["_law_pen_here", "_law_pair_here"] [] := Fln.fn.binds rfl fun _ _ _ _ _ _ us hl => match us, hl with | [_, _], _ => rfl
  have Flu : C8.Def K mg "_law_due" sDue flu _ := ⟨⟨_, _, _, _, _, _, _, _, _, _, rfl, llu, clu⟩, PySem.W.mg_of X G alu, klu⟩
  have blu : Binds K _ ["_law_one_so", "_law_two_so"] [] := Flu.fn.binds rfl fun _ _ _ _ _ _ us hl => match us, hl with | [_, _], _ => rfl
  have Flr : C8.Def K mg "_law_right" sRight flr _ := ⟨⟨_, _, _, _, _, _, _, _, _, _, rfl, llr, clr⟩, PySem.W.mg_of X G alr, klr⟩
  have blr : Binds K _ ["_law_pen_here"] [] := Flr.fn.binds rfl fun _ _ _ _ _ _ us hl => match us, hl with | [_], _ => rfl
  have Flt : DefC K mg "_law_refused_right" sRef flt _ cT := ⟨⟨_, _, _, _, _, _, _, _, _, rfl, llt, clt⟩, PySem.W.mg_of X G alt, klt⟩
  have blt : Binds K _ ["_law_pen_here"] [] := C8.Fun.binds (st := sRef) (x := "_law_refused_right") (qual := "_law_refused_right") (f := flt) ⟨_, _, _, _, _, _, _, _, _, _, rfl, llt, clt⟩ rfl fun _ _ _ _ _ _ us hl => match us, hl with | [_], _ => rfl
  have Fla : C8.Def K mg "law" sLaw fa _ := ⟨⟨_, _, _, _, _, _, _, _, _, _, rfl, lla, cla⟩, PySem.W.mg_of X G ala, kla⟩
  have bla : Binds K _ ["_law_script"] [] := Fla.fn.binds rfl fun _ _ _ _ _ _ us hl => match us, hl with | [_], _ => rfl
  have Fmo : C8.Fun K "of" "Ratio.of" sOf fmo _ := ⟨_, _, _, _, _, _, _, _, _, _, rfl, lmo, cmo⟩
  have bmo : Binds K _ ["value"] [] := Fmo.binds rfl fun _ _ _ _ _ _ us hl => match us, hl with | [_], _ => rfl
  have Fma : C8.Fun K "__add__" "Ratio.__add__" sAdd fma _ := ⟨_, _, _, _, _, _, _, _, _, _, rfl, lma, cma⟩
  have bma : Binds K _ ["self", "other"] [] := Fma.binds rfl fun _ _ _ _ _ _ us hl => match us, hl with | [_, _], _ => rfl
  have tma : Meth K C (PySem.dunder "add") fma := ⟨ama, ima, kma⟩
  have Fmb : C8.Fun K "__radd__" "Ratio.__radd__" sRadd fmb _ := ⟨_, _, _, _, _, _, _, _, _, _, rfl, lmb, cmb⟩
  have bmb : Binds K _ ["self", "other"] [] := Fmb.binds rfl fun _ _ _ _ _ _ us hl => match us, hl with | [_, _], _ => rfl
  have tmb : Meth K C (dunderR "add") fmb := ⟨amb, imb, kmb⟩
  have Fms : C8.Fun K "__sub__" "Ratio.__sub__" sSub fms _ := ⟨_, _, _, _, _, _, _, _, _, _, rfl, lms, cms⟩
  have bms : Binds K _ ["self", "other"] [] := Fms.binds rfl fun _ _ _ _ _ _ us hl => match us, hl with | [_, _], _ => rfl
  have tms : Meth K C (PySem.dunder "sub") fms := ⟨ams, ims, kms⟩
  have Fmt : C8.Fun K "__rsub__" "Ratio.__rsub__" sRsub fmt _ := ⟨_, _, _, _, _, _, _, _, _, _, rfl, lmt, cmt⟩
  have bmt : Binds K _ ["self", "other"] [] := Fmt.binds rfl fun _ _ _ _ _ _ us hl => match us, hl with | [_, _], _ => rfl
  have tmt : Meth K C (dunderR "sub") fmt := ⟨amt, imt, kmt⟩
  have Fmm : C8.Fun K "__mul__" "Ratio.__mul__" sMul fmm _ := ⟨_, _, _, _, _, _, _, _, _, _, rfl, lmm, cmm⟩
  have bmm : Binds K _ ["self", "other"] [] := Fmm.binds rfl fun _ _ _ _ _ _ us hl => match us, hl with | [_, _], _ => rfl
  have tmm : Meth K C (PySem.dunder "mul") fmm := ⟨amm, imm, kmm⟩
  have Fmn : C8.Fun K "__rmul__" "Ratio.__rmul__" sRmul fmn _ := ⟨_, _, _, _, _, _, _, _, _, _, rfl, lmn, cmn⟩
  have bmn : Binds K _ ["self", "other"] [] := Fmn.binds rfl fun _ _ _ _ _ _ us hl => match us, hl with | [_, _], _ => rfl
  have tmn : Meth K C (dunderR "mul") fmn := ⟨amn, imn, kmn⟩
  have Fmg : C8.Fun K "__neg__" "Ratio.__neg__" sNeg fmg _ := ⟨_, _, _, _, _, _, _, _, _, _, rfl, lmg, cmg⟩
  have bmg : Binds K _ ["self"] [] := Fmg.binds rfl fun _ _ _ _ _ _ us hl => match us, hl with | [_], _ => rfl
  have tmg : Meth K C ("__neg__") fmg := ⟨amg, img, kmg⟩
  have T : Txt mg := { n_int := PySem.W.mg_none_of X G z_int, n_list := PySem.W.mg_none_of X G z_list, n_len := PySem.W.mg_none_of X G z_len, n_abs := PySem.W.mg_none_of X G z_abs, n_bool := PySem.W.mg_none_of X G z_bool, n_str := PySem.W.mg_none_of X G z_str, n_isinstance := PySem.W.mg_none_of X G z_isinstance, n_range := PySem.W.mg_none_of X G z_range, n_repr := PySem.W.mg_none_of X G z_repr, n_all := PySem.W.mg_none_of X G z_all }
  have cl : Cls K C := ⟨pg, hd, po, sa⟩
  have IC : C8.InsC K C := ⟨cl, hC, hG, hK, hM, by unfold PySem.W.kitOne; rw [if_pos (by simp)]⟩
  have O : Oks K C := ⟨qi, qn, qb, qs, qt, ql, qd⟩
  have oc : OpC K C := ⟨first, s1, s2⟩
  have NA : NoInplace K C .Add := ⟨⟨_, mC, mro⟩, xA, yA⟩
  have NS : NoInplace K C .Sub := ⟨⟨_, mC, mro⟩, xS, yS⟩
  have NM : NoInplace K C .Mult := ⟨⟨_, mC, mro⟩, xM, yM⟩
  have FI : C8.Fun K "__init__" "Ratio.__init__" sRat fI _ := ⟨_, _, _, _, _, _, _, _, _, _, rfl, lI, cI⟩
  have FD : FunD K "__init__" "Ratio.__init__" (C8.fnArgs sRat) (C8.fnBody sRat) (C8.fnScope sRat) [.int 1] [] fI _ := ⟨⟨_, _, _, _, _, _, _, _, _, _, rfl, lI, cI, .inr ⟨by simp, Td, _, [.int 1 tD], nD, rfl, lD, rfl, .cons ⟨_, rfl⟩ .nil⟩, .inl rfl⟩, kI⟩
  obtain ⟨ds3, vd3, bI3⟩ := FD.binds1 (ps := ["self", "over", "under"]) 3 1 (by simp) rfl (fun Tq kVq dcq pmq anq cdq ctq us its h1 h2 => match us, its, h1, h2 with | [_, _, _], [_], _, _ => ⟨_, rfl, rfl⟩)
  obtain ⟨ds2, vd2, bI2⟩ := FD.binds1 (ps := ["self", "over", "under"]) 2 0 (by simp) rfl (fun Tq kVq dcq pmq anq cdq ctq us its h1 h2 => match us, its, h1, h2 with | [_, _], [_], _, _ => ⟨_, rfl, rfl⟩)
  cases vd3
  have FE : C8.Fun K "__init__" "BadRatio.__init__" sErr fE _ := ⟨_, _, _, _, _, _, _, _, _, _, rfl, lE, cE⟩
  have bE : Binds K _ ["self", "value"] [] := FE.binds rfl fun _ _ _ _ _ _ us hl => match us, hl with | [_, _], _ => rfl
  have OX : OexC K D := ⟨⟨_, _, _, _, _, _, _, _, _, _, _, _, _, _, _, xD, xB⟩, xs, xe, xt, xk⟩
  have R : Hrd K mg D L := { xf := ⟨xg, xn, xe, xd⟩, no := xv, xc := ⟨xg, xn, xe, xd, xc, hG, hK, xm⟩, me := xo, ml := PySem.W.mg_of X G aL, md := PySem.W.mg_of X G aD, ex := xL }
  refine ⟨PySem.W.fnOf "law" "law" (C8.fnArgs sLaw) (C8.fnBody sLaw) (C8.fnScope sLaw) .none kVla dcla pmla anla cdla ctla, cT, B, tabIn_of alt llt rfl lT vT, nT, fun s u => .of_eq rfl, fun base KB GB TB => ?_⟩
  have ER : Err l.prog w K mg base D fE _ := ⟨OX, xi, xf, fn_err FE OX xv, bE, PySem.W.mg_of X G aD⟩
  have Dii := cal_isint (P := l.prog) (w := w) (base := base) Fii bii T
  have mI : Mk K C fI := ⟨mk, aI, iI, kC⟩
  have RM : RatM l.prog w K mg base C D fI _ ds2 := ⟨mI, fn_rat FI cl nO nU (PySem.W.mg_of X G gG) Dii ER, PySem.W.mg_of X G aC, bI2, vd2, bI3⟩
  have OM : OfM l.prog w K mg base C D pO fmo _ := ⟨⟨⟨_, sT, sR, sF⟩, sG, ⟨_, sO⟩, kmo⟩, fn_of' Fmo T IC RM, bmo⟩
  have Ma : MetX l.prog w K mg base 7 C (PySem.dunder "add") (spAdd K C D) := ⟨_, _, _, tma, fn_add Fma RM OM cl nO nU, bma⟩
  have Mm : MetX l.prog w K mg base 7 C (PySem.dunder "mul") (spMul K C D) := ⟨_, _, _, tmm, fn_mul Fmm RM OM cl nO nU, bmm⟩
  have Mg : MetX l.prog w K mg base 5 C "__neg__" (spNeg K C) := ⟨_, _, _, tmg, fn_neg Fmg RM cl nO nU, bmg⟩
  have Mb : MetX l.prog w K mg base 8 C (dunderR "add") (spRadd K C D) := ⟨_, _, _, tmb, fn_radd Fmb Ma first ⟨_, amb⟩, bmb⟩
  have Mn : MetX l.prog w K mg base 8 C (dunderR "mul") (spRmul K C D) := ⟨_, _, _, tmn, fn_rmul Fmn Mm first ⟨_, amn⟩, bmn⟩
  have Ms : MetX l.prog w K mg base 8 C (PySem.dunder "sub") (spSub K C D) := ⟨_, _, _, tms, fn_sub Fms RM OM cl nO nU, bms⟩
  have Mt : MetX l.prog w K mg base 9 C (dunderR "sub") (spRsub K C D) := ⟨_, _, _, tmt, fn_rsub Fmt (PySem.W.mg_of X G aC) OM Ms first, bmt⟩
  have OA : OpB l.prog w K mg base C D "add" frAdd := ⟨oc, Ma.up (by decide), (Mb.up (by decide)).imp (fun vs H Q E ⟨a, v, o, u, t, e1, e2, e3, e4⟩ => ⟨a, v, o, u, t, e1, e2, e3, e4.imp (fun ⟨p, q, z1, z2⟩ => ⟨p, q, z1, by have z3 := z2; unfold frAdd at z3; dsimp only at z3; rw [Int.add_comm, Int.mul_comm q u] at z3; exact z3⟩) id⟩), by decide, nn_add⟩
  have OS : OpB l.prog w K mg base C D "sub" frSub := ⟨oc, Ms.up (by decide), Mt, by decide, nn_sub⟩
  have OM' : OpB l.prog w K mg base C D "mul" frMul := ⟨oc, Mm.up (by decide), (Mn.up (by decide)).imp (fun vs H Q E ⟨a, v, o, u, t, e1, e2, e3, e4⟩ => ⟨a, v, o, u, t, e1, e2, e3, e4.imp (fun ⟨p, q, z1, z2⟩ => ⟨p, q, z1, by have z3 := z2; unfold frMul at z3; dsimp only at z3; rw [Int.mul_comm p o, Int.mul_comm q u] at z3; exact z3⟩) id⟩), by decide, nn_mul⟩
  have D1 := cal_draw (P := l.prog) (w := w) (K := K) (base := base) Fld bld T.toTxt0
  have D2 := cal_pick Flk blk T.toTxt0 D1
  have D0 := cal_pen (P := l.prog) (w := w) (base := base) Flp blp T.toTxt0
  have Dc := cal_com (P := l.prog) (w := w) (base := base) Flc blc T.toTxt0
  have D3 := cal_lea Fll bll T.toTxt0 Dc
  have D5 := cal_pai Flq blq T.toTxt0 D1 D2
  have D4 := cal_odd Flo blo D2
  have D8 := cal_got Flg blg T IC nO nU RM
  have D6 := cal_num Fln bln O RM D1 D3
  have D7 := cal_due Flu blu D3
  have D9 := cal_right Flr blr O RM OA OS OM' NA NS NM Mg D1 D3 D5 D6 D7 D8
  have DR := cal_ref Flt blt Flh blh TB R T O RM OA OS OM' D1 D4
  exact fn_law Fla.fn T O RM OA OS OM' D0 D8 D9 DR
end Lw
open PySem PySem.W PyProof.Rows
set_option maxRecDepth 100000 in
set_option maxHeartbeats 0 in
theorem PySem.Challenge.cw_latechunks_k05_ratios_reckoned_holds : PySem.Challenge.rw_latechunks_k05_ratios_reckoned.Holds := by
  w_on; o_law; k_head; (case hw => w_witness2)
  k_fill
  refine Lw.walk_end (l := PySem.Challenge.rw_latechunks_k05_ratios_reckoned) (x := "_law_script") (xt := "_law_refused_right") (k := 13) rfl (by decide) rfl ⟨rfl, by decide, by decide⟩ (fun w h Y => PySem.W.km_in_of Y) ?hrec ?F
  case hrec => first | rfl | decide +kernel
  case F =>
    intro w mg fa h KX G hmg
    refine' Lw.all_known KX G hmg ?aii ?lii ?cii ?kii ?alp ?llp ?clp ?klp ?ald ?lld ?cld ?kld ?alk ?llk ?clk ?klk ?alc ?llc ?clc ?klc ?all ?lll ?cll ?kll ?alq ?llq ?clq ?klq ?alh ?llh ?clh ?klh ?alo ?llo ?clo ?klo ?alg ?llg ?clg ?klg ?aln ?lln ?cln ?kln ?alu ?llu ?clu ?klu ?alr ?llr ?clr ?klr ?alt ?llt ?clt ?klt ?ala ?lla ?cla ?kla ?lmo ?cmo ?kmo ?ama ?ima ?lma ?cma ?kma ?amb ?imb ?lmb ?cmb ?kmb ?ams ?ims ?lms ?cms ?kms ?amt ?imt ?lmt ?cmt ?kmt ?amm ?imm ?lmm ?cmm ?kmm ?amn ?imn ?lmn ?cmn ?kmn ?amg ?img ?lmg ?cmg ?kmg ?sT ?sR ?sF ?sG ?sO ?aC ?aI ?iI ?lI ?cI ?kI ?lD ?pg ?hd ?po ?sa ?mk ?kC ?nO ?nU ?hC ?hG ?hK ?hM ?first ?s1 ?s2 ?mC ?mro ?xA ?yA ?xS ?yS ?xM ?yM ?qi ?qn ?qb ?qs ?qt ?ql ?qd ?aD ?aL ?xD ?xB ?xs ?xe ?xt ?xk ?xi ?xf ?lE ?cE ?xv ?xg ?xn ?xd ?xc ?xm ?xo ?xL ?lT ?vT ?nT ?z_int ?z_list ?z_len ?z_abs ?z_bool ?z_str ?z_isinstance ?z_range ?z_repr ?z_all ?gG
    (case aC => k_is); (case aD => k_is); (case aL => k_is); (case sT => k_is)
    (case sR => k_is); (case sF => k_is); (case sG => k_is); (case sO => k_is)
    (case aii => k_is); (case lii => k_is); (case cii => k_is); (case kii => k_is)
    (case alp => k_is); (case llp => k_is); (case clp => k_is); (case klp => k_is)
    (case ald => k_is); (case lld => k_is); (case cld => k_is); (case kld => k_is)
    (case alk => k_is); (case llk => k_is); (case clk => k_is); (case klk => k_is)
    (case alc => k_is); (case llc => k_is); (case clc => k_is); (case klc => k_is)
    (case all => k_is); (case lll => k_is); (case cll => k_is); (case kll => k_is)
    (case alq => k_is); (case llq => k_is); (case clq => k_is); (case klq => k_is)
    (case alh => k_is); (case llh => k_is); (case clh => k_is); (case klh => k_is)
    (case alo => k_is); (case llo => k_is); (case clo => k_is); (case klo => k_is)
    (case alg => k_is); (case llg => k_is); (case clg => k_is); (case klg => k_is)
    (case aln => k_is); (case lln => k_is); (case cln => k_is); (case kln => k_is)
    (case alu => k_is); (case llu => k_is); (case clu => k_is); (case klu => k_is)
    (case alr => k_is); (case llr => k_is); (case clr => k_is); (case klr => k_is)
    (case alt => k_is); (case llt => k_is); (case clt => k_is); (case klt => k_is)
    (case ala => k_is); (case lla => k_is); (case cla => k_is); (case kla => k_is)
    (case lmo => k_is); (case cmo => k_is); (case kmo => k_is); (case ama => k_is)
    (case ima => k_is); (case lma => k_is); (case cma => k_is); (case kma => k_is)
    (case amb => k_is); (case imb => k_is); (case lmb => k_is); (case cmb => k_is)
    (case kmb => k_is); (case ams => k_is); (case ims => k_is); (case lms => k_is)
    (case cms => k_is); (case kms => k_is); (case amt => k_is); (case imt => k_is)
    (case lmt => k_is); (case cmt => k_is); (case kmt => k_is); (case amm => k_is)
    (case imm => k_is); (case lmm => k_is); (case cmm => k_is); (case kmm => k_is)
    (case amn => k_is); (case imn => k_is); (case lmn => k_is); (case cmn => k_is)
    (case kmn => k_is); (case amg => k_is); (case img => k_is); (case lmg => k_is)
    (case cmg => k_is); (case kmg => k_is); (case aI => k_is); (case iI => k_is)
    (case lI => k_is); (case cI => k_is); (case kI => k_is); (case lD => k_is)
    (case pg => k_is); (case hd => k_is); (case po => k_is); (case sa => k_is)
    (case mk => k_is); (case kC => k_is); (case nO => k_is); (case nU => k_is)
    (case hC => k_is); (case hG => k_is); (case hK => k_is); (case hM => k_is)
    (case first => k_is); (case s1 => k_is); (case s2 => k_is); (case mC => k_is)
    (case mro => first | rfl | decide +kernel); (case xA => k_is); (case yA => k_is); (case xS => k_is)
    (case yS => k_is); (case xM => k_is); (case yM => k_is); (case qi => first | kernel_rfl | rfl | decide +kernel)
    (case qn => first | kernel_rfl | rfl | decide +kernel); (case qb => first | kernel_rfl | rfl | decide +kernel); (case qs => first | kernel_rfl | rfl | decide +kernel); (case qt => first | kernel_rfl | rfl | decide +kernel)
    (case ql => first | kernel_rfl | rfl | decide +kernel); (case qd => first | kernel_rfl | rfl | decide +kernel); (case xD => k_is); (case xB => first | rfl | decide +kernel)
    (case xs => k_is); (case xe => k_is); (case xt => k_is); (case xk => k_is)
    (case xi => k_is); (case xf => k_is); (case lE => k_is); (case cE => k_is)
    (case xv => k_is); (case xg => k_is); (case xn => k_is); (case xd => k_is)
    (case xc => k_is); (case xm => k_is); (case xo => first | kernel_rfl | rfl | decide +kernel); (case xL => first | kernel_rfl | rfl | decide +kernel)
    (case lT => k_is); (case vT => first | rfl | decide +kernel); (case nT => first | kernel_rfl | rfl); (case z_int => k_is)
    (case z_list => k_is); (case z_len => k_is); (case z_abs => k_is); (case z_bool => k_is)
    (case z_str => k_is); (case z_isinstance => k_is); (case z_range => k_is); (case z_repr => k_is)
    (case z_all => k_is); (case gG => k_is)
