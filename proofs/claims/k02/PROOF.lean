import PyProof.Rows.All
import Wide.All
import OpenK.AllK
import Wide.FinOn
import HandS.ForMost
import HandS.Wide
import HandS.Codes
import HandS.EndBits
import HandS.Lambda
import HandS.IsInst
import PyProof.IsiBase
import KE.KIsAll
import HandS.Walk
import HandS.StrMore
import PyProof.StrOps2
import KE.IntTextText
import PyProof.ReprLen
import HandS.More
import PyProof.StrWalks
import HandS.Gcd
import HandS.Words
import HandS.Dict
import HandS.Defaults
import HandS.Style
import HandS.EndTab
import PySem.Challenge.RW_latechunks_k02_looks_at_any_values
set_option Elab.async false
set_option linter.all false
set_option maxRecDepth 100000
set_option maxHeartbeats 4000000
namespace Lw
open PySem PySem.Spec PyProof.Rows L2
def top (i : Nat) : Stmt := PySem.Challenge.pw_latechunks_k02_looks_at_any_values.main.body.getD i (.Pass ⟨0, 0, 0, 0⟩)

theorem stir {x s : Int} (hx0 : 0 ≤ x) (hx : x < 2147483648) (hs0 : 0 ≤ s) (hs : s ≤ 1000000) (e f g : Int) (he0 : 0 ≤ e) (he : e ≤ 1000) (hf0 : 0 ≤ f) (hf : f ≤ 1000000) (hg0 : 0 ≤ g) (hg : g ≤ 1000000) :
    (x * (2 * s + e) + f * s * s + g).natAbs < 2 ^ 64 := by
  have a0 : 0 ≤ x * (2 * s + e) := Int.mul_nonneg hx0 (by omega)
  have a1 : x * (2 * s + e) ≤ 2147483648 * 2001000 := Int.mul_le_mul (by omega) (by omega) (by omega) (by omega)
  have b0 : 0 ≤ f * s := Int.mul_nonneg hf0 hs0
  have b1 : f * s ≤ 1000000 * 1000000 := Int.mul_le_mul hf hs hs0 (by omega)
  have c0 : 0 ≤ f * s * s := Int.mul_nonneg b0 hs0
  have c1 : f * s * s ≤ 1000000 * 1000000 * 1000000 := Int.mul_le_mul b1 hs hs0 (by omega)
  omega
theorem fsmall {f s : Int} (hf0 : 0 ≤ f) (hf : f ≤ 1000000) (hs0 : 0 ≤ s) (hs : s ≤ 1000000) : -(2 ^ 64) < f * s ∧ f * s < 2 ^ 64 := by
  have b0 : 0 ≤ f * s := Int.mul_nonneg hf0 hs0
  have b1 : f * s ≤ 1000000 * 1000000 := Int.mul_le_mul hf hs hs0 (by omega)
  omega
theorem fm0 {a d : Int} (hd : 0 < d) : 0 ≤ Int.fmod a d := Int.fmod_nonneg_of_pos _ hd
theorem fm1 {a d : Int} (hd : 0 < d) (h : d ≤ 2147483648) : Int.fmod a d < 2147483648 := Int.lt_of_lt_of_le (Int.fmod_lt_of_pos _ hd) h
theorem fm64 {a d : Int} (hd : 0 < d) (h : d ≤ 2147483648) : -(2 ^ 64) < Int.fmod a d ∧ Int.fmod a d < 2 ^ 64 := by
  have h0 := fm0 (a := a) hd
  have h1 := fm1 (a := a) hd h
  omega
theorem ite_false_of {c : Bool} {A B : Prop} (h : ¬ c = true) (hb : B) : if c = true then A else B := by rw [if_neg h]; exact hb
/-- behind an if: what both ways end in -/
theorem join_if {t u : TS} {D : Ends} {b : Bool} {σ : L2.St} {H : Hp} (Pj : L2.St → Hp → Prop) (hr : ∀ σ' H', Pj σ' H' → D.nx σ' H') (h : (∀ σ' H', Pj σ' H' → D.nx σ' H') → if b = true then t D σ H else u D σ H) : if b = true then t D σ H else u D σ H := h hr
theorem lay_ints : ∀ xs : List Int, PyData.canLayAll0 (xs.map PyData.int) = true
  | [] => rfl
  | x :: r => by
    show (PyData.canLay0 (.int x) && PyData.canLayAll0 (r.map PyData.int)) = true
    rw [lay_ints r]; rfl
theorem depth_ints : ∀ xs : List Int, PyData.depthAll (xs.map PyData.int) = 0
  | [] => rfl
  | x :: r => by
    show max (PyData.depth (.int x)) (PyData.depthAll (r.map PyData.int)) = 0
    rw [depth_ints r]; rfl
theorem shaped_ints (xs : List Int) : SeqAt.shaped (.list (xs.map PyData.int)) = true := by
  unfold SeqAt.shaped
  have h1 : PyData.canLay0 (.list (xs.map PyData.int)) = true := lay_ints xs
  have h2 : PyData.depth (.list (xs.map PyData.int)) = 1 := by
    show PyData.depthAll (xs.map PyData.int) + 1 = 1
    rw [depth_ints]
  rw [h1, h2]; rfl
theorem dp_ints {K : PySem.W.Frag} {H : Hp} : ∀ xs : List Int, DpAll K H (xs.map V.int) (xs.map PyData.int)
  | [] => .nil
  | x :: r => .cons (.int x) (dp_ints r)
theorem eqv_nil (xs : List Int) : PyData.eqv (.list (xs.map PyData.int)) (.list []) = decide (xs = []) := by
  cases xs <;> rfl
abbrev sPen : Stmt := top 28
abbrev sDraw : Stmt := top 29
abbrev sPick : Stmt := top 30
/-- all but what stands at p is as it was -/
def Kp (p : Addr) (H H' : Hp) : Prop := ∀ b o, b ≠ p → H b = some o → H' b = some o
/-- a pen at p: its numbers at l, its place, its rest -/
structure PenAt (H : Hp) (p l : Addr) (xs : List Int) (s g : Int) : Prop where
  at_ : H p = some (.lst [.ref l, .int s, .int g])
  ls : H l = some (.lst (xs.map V.int))
  ne : p ≠ l
  s0 : 0 ≤ s
  g0 : 0 ≤ g
def Pen (H : Hp) (p l : Addr) (n : Nat) : Prop := ∃ xs s g, PenAt H p l xs s g ∧ s ≤ n
def spDraw : Sp := fun vs H Q _ => ∃ (p l : Addr) (n : Nat) (m : Int), vs = [.ref p, .int m] ∧ 0 < m ∧ m < 2 ^ 200 ∧ Pen H p l n ∧ n ≤ 1000000 ∧
  ∀ (r : Int) (H' : Hp), 0 ≤ r → r < m → Pen H' p l (n + 1) → Kp p H H' → Q (.int r) H'
structure Txt0 (mg : Str → Option Value) : Prop where
  n_int : mg "int" = none
  n_list : mg "list" = none
  n_len : mg "len" = none
  n_abs : mg "abs" = none
section
variable {P : Program} {w : World} {K : PySem.W.Frag} {mg : Str → Option Value} {base : Heap}
theorem scDraw : FnScope ["_law_pen_here", "_law_many", "_law_digit", "_law_spot", "_law_cell", "_law_great", "_law_stirred"] ["_law_pen_here", "_law_many"] (C8.fnScope sDraw) := C8.fnScope_by (by decide +kernel)
theorem cal_draw {f : Addr} {fd : FuncData} (F : C8.Def K mg "_law_draw" sDraw f fd) (b : Binds K fd ["_law_pen_here", "_law_many"] []) (T : Txt0 mg) : C8.Cal P w K mg base 1 "_law_draw" spDraw [] := by
  refine C8.cal0 F b .nil scDraw (fun vs H Q E h => ?_) (fun cdv A outer st H vs Q E hr h => ?_)
  · obtain ⟨p, l, n, m, rfl, _⟩ := h
    rfl
  · obtain ⟨p, l, n, m, rfl, hm, hm2, ⟨xs, s, g, ⟨hp, hl, ne, s0, g0⟩, hs⟩, hn, k⟩ := h
    refine ⟨_, (pss_cons (ps_if (pt_cmpR op_gt (pe_ix ix_list (pv 0) pe_int (fun _ _ => rfl)) pe_int (nomark _)) (pss_cons (ps_set (i := 2) scDraw.nd rfl (Or.inl rfl) (pe_op op_modN (pe_callTy call_int1 (by rfl) T.n_int (by decide +kernel) (pa_cons (pe_ix ix_list (pv 0) pe_int (fun _ _ => rfl)) pa_nil)) (pv 1)))
  (pss_cons (ps_asg (pe_op op_fdivW (pe_callTy call_int1 (by rfl) T.n_int (by decide +kernel) (pa_cons (pe_ix ix_list (pv 0) pe_int (fun _ _ => rfl)) pa_nil)) (pv 1)) (pg_sub (pv 0) pe_int set_list))
  (pss_one (ps_ret (pv 2))))) pss_nil)
  (pss_cons (ps_set (i := 3) scDraw.nd rfl (Or.inl rfl) (pe_ix ix_list (pv 0) pe_int (fun _ _ => rfl)))
  (pss_cons (ps_asg (pe_op op_add (pv 3) pe_int) (pg_sub (pv 0) pe_int set_list))
  (pss_cons (ps_set (i := 4) scDraw.nd rfl (Or.inl rfl) (pe_op op_add (pe_op op_mul pe_int (pv 3)) pe_int))
  (pss_cons (ps_if (pt_cmpR (op_neD hr.units) (pe_ix ix_list (pv 0) pe_int (fun _ _ => rfl)) (pe_lst pa_nil) (nomark _)) (pss_one (ps_set (i := 4) scDraw.nd rfl (Or.inl rfl) (pe_ix ix_list (pe_ix ix_list (pv 0) pe_int (fun _ _ => rfl)) (pe_op op_modN (pe_callTy call_int1 (by rfl) T.n_int (by decide +kernel) (pa_cons (pv 3) pa_nil)) (pe_callB call_len_seq (by rfl) T.n_len (by decide +kernel) (pa_cons (pe_ix ix_list (pv 0) pe_int (fun _ _ => rfl)) pa_nil))) (fun _ _ => rfl)))) pss_nil)
  (pss_cons (ps_if (PW.pt (pw_and (pt_cmpR op_lt (pv 3) (pe_callB call_len_seq (by rfl) T.n_len (by decide +kernel) (pa_cons (pe_ix ix_list (pv 0) pe_int (fun _ _ => rfl)) pa_nil)) (nomark _)) (pw_and1 (pt_cmpR op_ge (pe_callB call_abs (by rfl) T.n_abs (by decide +kernel) (pa_cons (pv 4) pa_nil)) (pe_op op_pow pe_int pe_int) (nomark _))))) (pss_cons (ps_set (i := 5) scDraw.nd rfl (Or.inl rfl) (pe_op op_add (pe_op op_mul pe_int (pe_op op_sub (pe_callB call_abs (by rfl) T.n_abs (by decide +kernel) (pa_cons (pv 4) pa_nil)) (pe_op op_pow pe_int pe_int))) (pe_callTy call_int1 (by rfl) T.n_int (by decide +kernel) (pa_cons (pe_cmpR op_lt (pv 4) pe_int (nomark _)) pa_nil))))
  (pss_cons (ps_asg (pe_op op_fdivW (pe_callTy call_int1 (by rfl) T.n_int (by decide +kernel) (pa_cons (pv 5) pa_nil)) (pv 1)) (pg_sub (pv 0) pe_int set_list))
  (pss_one (ps_ret (pe_op op_modN (pe_callTy call_int1 (by rfl) T.n_int (by decide +kernel) (pa_cons (pv 5) pa_nil)) (pv 1)))))) pss_nil)
  (pss_cons (ps_set (i := 6) scDraw.nd rfl (Or.inl rfl) (pe_op op_modN (pe_callTy call_int1 (by rfl) T.n_int (by decide +kernel) (pa_cons (pe_op op_pow (pe_op op_add (pe_op op_add (pe_op op_modN (pe_callTy call_int1 (by rfl) T.n_int (by decide +kernel) (pa_cons (pv 4) pa_nil)) pe_int) (pe_op op_mul pe_int (pv 3))) pe_int) pe_int) pa_nil)) pe_int))
  (pss_cons (ps_set (i := 6) scDraw.nd rfl (Or.inl rfl) (pe_op op_modN (pe_callTy call_int1 (by rfl) T.n_int (by decide +kernel) (pa_cons (pe_op op_pow (pe_op op_add (pe_op op_add (pe_op op_mul (pv 6) (pe_op op_add (pe_op op_mul pe_int (pv 3)) pe_int)) (pe_op op_mul (pe_op op_mul pe_int (pv 3)) (pv 3))) pe_int) pe_int) pa_nil)) pe_int))
  (pss_one (ps_ret (pe_op op_modN (pe_callTy call_int1 (by rfl) T.n_int (by decide +kernel) (pa_cons (pe_op op_fdivW (pv 6) pe_int) pa_nil)) (pv 1)))))))))))), ?_⟩
    have hmb : CDivW 0 m := wide_div (b := 200) hm (by omega) (by decide) (by decide)
    refine ⟨_, rfl, p, _, _, _, rfl, rfl, SqL.of hp, rfl, _, _, rfl, rfl, _, rfl, ite2 (fun c => ?_) (fun c => ?_)⟩
    · -- the rest is above 0: a digit of it
      refine ⟨_, rfl, p, _, _, _, rfl, rfl, SqL.of hp, rfl, Or.inl ⟨_, rfl, ?_⟩⟩
      refine ⟨_, rfl, _, _, rfl, rfl, (by omega), ?_⟩
      refine ⟨_, rfl, p, _, _, _, rfl, rfl, SqL.of hp, rfl, Or.inl ⟨_, rfl, ?_⟩⟩
      refine ⟨_, rfl, _, _, rfl, rfl, hmb, ?_⟩
      refine ⟨_, rfl, p, _, _, _, rfl, rfl, hp, rfl, ?_⟩
      refine ⟨_, rfl, ?_⟩
      refine k _ _ (Int.fmod_nonneg_of_pos _ hm) (Int.fmod_lt_of_pos _ hm) ⟨xs, s, g / m, ⟨?_, ?_, ne, s0, Int.ediv_nonneg g0 (Int.le_of_lt hm)⟩, by omega⟩ fun b o hb e => ?_
      · rw [upd_same]; rfl
      · rw [upd_ne (Ne.symm ne)]; exact hl
      · rw [upd_ne hb]; exact e
    · -- the next place
      refine ⟨_, rfl, p, _, _, _, rfl, rfl, SqL.of hp, rfl, ?_⟩
      refine ⟨_, rfl, _, _, rfl, rfl, _, rfl, p, _, _, _, rfl, rfl, hp, rfl, ?_⟩
      have hp1 : upd H p (.lst [V.ref l, V.int (s + 1), V.int g]) p = some (.lst [V.ref l, V.int (s + 1), V.int g]) := upd_same
      have hl1 : upd H p (.lst [V.ref l, V.int (s + 1), V.int g]) l = some (.lst (xs.map V.int)) := by rw [upd_ne (Ne.symm ne)]; exact hl
      have k1 : Kp p H (upd H p (.lst [V.ref l, V.int (s + 1), V.int g])) := fun b o hb e => by rw [upd_ne hb]; exact e
      show tSeq _ _ _ _ (upd H p (.lst [V.ref l, V.int (s + 1), V.int g]))
      generalize upd H p (.lst [V.ref l, V.int (s + 1), V.int g]) = H1 at hp1 hl1 k1 ⊢
      have fin : ∀ (r g' : Int) (H' : Hp), 0 ≤ r → r < m → 0 ≤ g' → H' p = some (.lst [V.ref l, V.int (s + 1), V.int g']) → Kp p H1 H' → Q (.int r) H' := fun r g' H' h0 h1 h2 h3 h4 =>
        k r H' h0 h1 ⟨xs, s + 1, g', ⟨h3, h4 _ _ (Ne.symm ne) hl1, ne, by omega, h2⟩, by omega⟩ fun b o hb e => h4 b o hb (k1 b o hb e)
      refine ⟨_, rfl, _, _, rfl, rfl, Or.inl (by decide), _, _, rfl, rfl, ?_⟩
      refine ⟨_, rfl, p, _, _, _, rfl, rfl, SqL.of hp1, rfl, (by show 0 ≤ sizeLine; decide), fun q hq => ?_⟩
      have lq : l ≠ q := ne_of_none hl1 hq
      have pq : p ≠ q := ne_of_none hp1 hq
      have hl2 : upd H1 q (.lst []) l = some (.lst (xs.map V.int)) := by rw [upd_ne lq]; exact hl1
      have hp2 : upd H1 q (.lst []) p = some (.lst [V.ref l, V.int (s + 1), V.int g]) := by rw [upd_ne pq]; exact hp1
      have k2 : Kp p H1 (upd H1 q (.lst [])) := fun b o hb e => by rw [upd_ne (ne_of_none e hq)]; exact e
      refine ⟨.list (xs.map PyData.int), .list [], .lst (SqL.of hl2) (dp_ints xs), .lst (SqL.of upd_same) .nil, shaped_ints xs, rfl, _, rfl, ?_⟩
      generalize upd H1 q (.lst []) = H2 at hl2 hp2 k2 ⊢
      refine join_if (fun σ' H' => ∃ cell : Int, σ' = [some (V.ref p), some (V.int m), none, some (V.int s), some (V.int cell), none, none] ∧ H' = H2) ?rest (fun go => ?_)
      case rest =>
        rintro σ' H' ⟨cell, rfl, rfl⟩
        refine ⟨_, rfl, _, rfl, p, _, _, _, rfl, rfl, SqL.of hp2, rfl, l, xs.map V.int, rfl, .inl (SqL.of hl2), _, _, rfl, rfl, _, rfl, ?_⟩
        refine ite2 (fun c2 => ?_) (fun c2 => ?_)
        · refine ⟨_, rfl, _, rfl, _, _, rfl, rfl, ⟨by decide, by decide, by decide⟩, _, _, rfl, rfl, _, rfl, ?_⟩
          refine ite2 (fun c3 => ?_) (fun c3 => ?_)
          · refine ⟨_, rfl, _, rfl, _, _, rfl, rfl, ⟨by decide, by decide, by decide⟩, _, _, rfl, rfl, _, _, rfl, rfl, Or.inl (by decide), _, rfl, _, _, rfl, rfl, Or.inr ⟨_, rfl, _, _, rfl, rfl, ?_⟩⟩
            have hge : (10 : Int) ^ (18 : Int).toNat ≤ (if cell < 0 then -cell else cell) := of_decide_eq_true c3
            generalize hG : 2 * ((if cell < 0 then -cell else cell) - 10 ^ (18 : Int).toNat) + (if decide (cell < 0) = true then (1 : Int) else 0) = G
            have hG0 : 0 ≤ G := by
              rw [← hG]
              have h1 : 0 ≤ (if decide (cell < 0) = true then (1 : Int) else 0) := by split <;> decide
              omega
            refine ⟨_, rfl, Or.inl ⟨_, rfl, _, rfl, _, _, rfl, rfl, (by exact hmb), _, rfl, p, _, _, _, rfl, rfl, hp2, rfl, ?_⟩⟩
            refine ⟨_, rfl, Or.inl ⟨_, rfl, _, rfl, _, _, rfl, rfl, (by show ¬ (_ = _); omega), ?_⟩⟩
            refine fin _ (G / m) _ (fm0 hm) (Int.fmod_lt_of_pos _ hm) (Int.ediv_nonneg hG0 (Int.le_of_lt hm)) ?_ fun b o hb e => ?_
            · rw [upd_same, ← hG]; rfl
            · rw [upd_ne hb]; exact k2 b o hb e
          · refine ⟨_, rfl, Or.inl ⟨_, rfl, ?_⟩⟩
            refine ⟨_, _, rfl, rfl, (by show ¬ (_ = _); decide), _, rfl, _, _, rfl, rfl, Or.inl (by decide), _, _, rfl, rfl, _, _, rfl, rfl, ?_⟩
            generalize hz : Int.fmod cell _ = z
            have hz0 : 0 ≤ z := by rw [← hz]; exact fm0 (by decide)
            have hz1 : z < 2147483648 := by rw [← hz]; exact fm1 (by decide) (by decide)
            refine ⟨_, _, rfl, rfl, ⟨by decide, by decide, by omega⟩, Or.inl ⟨_, rfl, ?_⟩⟩
            refine ⟨_, _, rfl, rfl, (by show ¬ (_ = _); decide), ?_⟩
            refine ⟨_, rfl, _, rfl, _, _, rfl, rfl, Or.inl (by decide), _, _, rfl, rfl, _, _, rfl, rfl, Or.inl (by exact fm64 (by decide) (by decide)), ?_⟩
            refine ⟨_, rfl, _, _, rfl, rfl, Or.inl (by decide), _, rfl, _, _, rfl, rfl, Or.inl (by exact fsmall (by decide) (by decide) s0 (by omega)), _, _, rfl, rfl, _, _, rfl, rfl, ?_⟩
            refine ⟨_, _, rfl, rfl, ⟨by decide, by decide, by exact stir (fm0 (by decide)) (fm1 (by decide) (by decide)) s0 (by omega) _ _ _ (by decide) (by decide) (by decide) (by decide) (by decide) (by decide)⟩, Or.inl ⟨_, rfl, ?_⟩⟩
            refine ⟨_, _, rfl, rfl, (by show ¬ (_ = _); decide), ?_⟩
            refine ⟨_, rfl, _, _, rfl, rfl, ⟨by decide, by decide⟩, Or.inl ⟨_, rfl, _, rfl, _, _, rfl, rfl, (by show ¬ (_ = _); omega), ?_⟩⟩
            exact fin _ g _ (fm0 hm) (Int.fmod_lt_of_pos _ hm) g0 hp2 k2
        · refine iteF ?_
          refine ⟨_, rfl, Or.inl ⟨_, rfl, ?_⟩⟩
          refine ⟨_, _, rfl, rfl, (by show ¬ (_ = _); decide), _, rfl, _, _, rfl, rfl, Or.inl (by decide), _, _, rfl, rfl, _, _, rfl, rfl, ?_⟩
          generalize hz : Int.fmod cell _ = z
          have hz0 : 0 ≤ z := by rw [← hz]; exact fm0 (by decide)
          have hz1 : z < 2147483648 := by rw [← hz]; exact fm1 (by decide) (by decide)
          refine ⟨_, _, rfl, rfl, ⟨by decide, by decide, by omega⟩, Or.inl ⟨_, rfl, ?_⟩⟩
          refine ⟨_, _, rfl, rfl, (by show ¬ (_ = _); decide), ?_⟩
          refine ⟨_, rfl, _, rfl, _, _, rfl, rfl, Or.inl (by decide), _, _, rfl, rfl, _, _, rfl, rfl, Or.inl (by exact fm64 (by decide) (by decide)), ?_⟩
          refine ⟨_, rfl, _, _, rfl, rfl, Or.inl (by decide), _, rfl, _, _, rfl, rfl, Or.inl (by exact fsmall (by decide) (by decide) s0 (by omega)), _, _, rfl, rfl, _, _, rfl, rfl, ?_⟩
          refine ⟨_, _, rfl, rfl, ⟨by decide, by decide, by exact stir (fm0 (by decide)) (fm1 (by decide) (by decide)) s0 (by omega) _ _ _ (by decide) (by decide) (by decide) (by decide) (by decide) (by decide)⟩, Or.inl ⟨_, rfl, ?_⟩⟩
          refine ⟨_, _, rfl, rfl, (by show ¬ (_ = _); decide), ?_⟩
          refine ⟨_, rfl, _, _, rfl, rfl, ⟨by decide, by decide⟩, Or.inl ⟨_, rfl, _, rfl, _, _, rfl, rfl, (by show ¬ (_ = _); omega), ?_⟩⟩
          exact fin _ g _ (fm0 hm) (Int.fmod_lt_of_pos _ hm) g0 hp2 k2
      refine ite2 (fun c1 => ?_) (fun c1 => ?_)
      · rw [eqv_nil] at c1
        have hx : xs ≠ [] := by simpa using c1
        have hlen : 0 < xs.length := List.length_pos_iff.mpr hx
        refine ⟨_, rfl, p, _, _, _, rfl, rfl, SqL.of hp2, rfl, ?_⟩
        refine ⟨_, rfl, Or.inl ⟨_, rfl, ?_⟩⟩
        refine ⟨_, rfl, p, _, _, _, rfl, rfl, SqL.of hp2, rfl, l, xs.map V.int, rfl, .inl (SqL.of hl2), ?_⟩
        have hL : ((xs.map V.int).length : Int) = (xs.length : Int) := by rw [List.length_map]
        have hb1 : 0 ≤ s.fmod ((xs.map V.int).length : Int) := Int.fmod_nonneg_of_pos _ (by omega)
        have hb2 : s.fmod ((xs.map V.int).length : Int) < ((xs.map V.int).length : Int) := Int.fmod_lt_of_pos _ (by omega)
        obtain ⟨j, hj⟩ : ∃ j : Nat, s.fmod ((xs.map V.int).length : Int) = (j : Int) := ⟨(s.fmod ((xs.map V.int).length : Int)).toNat, by omega⟩
        have hjl : j < xs.length := by omega
        have hat : atI (xs.map V.int) (s.fmod ((xs.map V.int).length : Int)) = some (V.int xs[j]) := by
          rw [hj]; exact atI_nat (by simp [hjl])
        refine ⟨_, _, rfl, rfl, (by omega), ?_⟩
        refine ⟨l, _, _, V.int xs[j], rfl, rfl, SqL.of hl2, hat, ?_⟩
        exact go _ _ ⟨xs[j], rfl, rfl⟩
      · exact go _ _ ⟨_, rfl, rfl⟩
end
end Lw
namespace Lw
open PySem PySem.Spec PyProof.Rows L2

theorem Kp.refl (p : Addr) (H : Hp) : Kp p H H := fun _ _ _ e => e
theorem Kp.trans {p : Addr} {H H1 H2 : Hp} (a : Kp p H H1) (b : Kp p H1 H2) : Kp p H H2 := fun c o hc e => b c o hc (a c o hc e)
theorem Kp.of {p : Addr} {H H' : Hp} (s : Same H H') : Kp p H H' := fun b o _ e => s b o e
theorem Kp.seq {K : PySem.W.Frag} {p a : Addr} {H H' : Hp} {ys : List V} (k : Kp p H H') (ne : a ≠ p) (h : SqL K H a ys) : SqL K H' a ys := by
  rcases h with (h | ⟨o, h⟩) | h
  · exact .inl (.inl (k _ _ ne h))
  · exact .inl (.inr ⟨o, k _ _ ne h⟩)
  · exact .inr h
theorem same_new {H : Hp} {q : Addr} {o : HO} (hq : H q = none) : Same H (upd H q o) := fun b u e => by rw [upd_ne (ne_of_none e hq)]; exact e
theorem Pen.keep {H H' : Hp} {p l : Addr} {n : Nat} (h : Pen H p l n) (s : Same H H') : Pen H' p l n := by
  obtain ⟨xs, a, g, ⟨h1, h2, h3, h4, h5⟩, h6⟩ := h
  exact ⟨xs, a, g, ⟨s _ _ h1, s _ _ h2, h3, h4, h5⟩, h6⟩
theorem Pen.at {H : Hp} {p l : Addr} {n : Nat} (h : Pen H p l n) : ∃ o, H p = some o := by
  obtain ⟨xs, a, g, h, _⟩ := h
  exact ⟨_, h.at_⟩
theorem Pen.ne_new {H : Hp} {p l q : Addr} {n : Nat} (h : Pen H p l n) (hq : H q = none) : q ≠ p := by
  obtain ⟨o, h1⟩ := h.at
  exact (ne_of_none h1 hq).symm
theorem Pen.more {H : Hp} {p l : Addr} {n m : Nat} (h : Pen H p l n) (hm : n ≤ m) : Pen H p l m := by
  obtain ⟨xs, a, g, h1, h2⟩ := h
  exact ⟨xs, a, g, h1, by omega⟩
def spPick (K : PySem.W.Frag) : Sp := fun vs H Q _ => ∃ (p l a : Addr) (n : Nat) (ys : List V), vs = [.ref p, .ref a] ∧ Pen H p l n ∧ n ≤ 1000000 ∧ SqL K H a ys ∧ a ≠ p ∧ 0 < ys.length ∧ ys.length < 1000000 ∧
  ∀ (j : Nat) (v : V) (H' : Hp), ys[j]? = some v → Pen H' p l (n + 1) → Kp p H H' → Q v H'
def spPen (K : PySem.W.Frag) : Sp := fun vs H Q _ => ∃ (a : Addr) (ns : List Int), vs = [.ref a] ∧ SqL K H a (ns.map V.int) ∧ ns.length ≤ 63 ∧ ∀ (p l : Addr) (H' : Hp), Pen H' p l 0 → Same H H' → H p = none → Q (.ref p) H'
theorem Pen.over {H : Hp} {p l q : Addr} {n : Nat} {o : HO} (h : Pen H p l n) (h1 : q ≠ p) (h2 : q ≠ l) : Pen (upd H q o) p l n := by
  obtain ⟨xs, a, g, ⟨e1, e2, e3, e4, e5⟩, h6⟩ := h
  exact ⟨xs, a, g, ⟨by rw [upd_ne h1.symm]; exact e1, by rw [upd_ne h2.symm]; exact e2, e3, e4, e5⟩, h6⟩
theorem Pen.ne_new2 {H : Hp} {p l q : Addr} {n : Nat} (h : Pen H p l n) (hq : H q = none) : q ≠ l := by
  obtain ⟨xs, a, g, h, _⟩ := h
  exact (ne_of_none h.ls hq).symm
section
variable {P : Program} {w : World} {K : PySem.W.Frag} {mg : Str → Option Value} {base : Heap}
theorem scPick : FnScope ["_law_pen_here", "_law_some"] ["_law_pen_here", "_law_some"] (C8.fnScope sPick) := C8.fnScope_by (by decide +kernel)
theorem cal_pick {f : Addr} {fd : FuncData} (F : C8.Def K mg "_law_pick" sPick f fd) (b : Binds K fd ["_law_pen_here", "_law_some"] []) (T : Txt0 mg) (D : C8.Cal P w K mg base 1 "_law_draw" spDraw []) : C8.Cal P w K mg base 2 "_law_pick" (spPick K) [] := by
  refine C8.cal0 F b .nil scPick (fun vs H Q E h => ?_) (fun cdv A outer st H vs Q E hr h => ?_)
  · obtain ⟨p, l, a, n, ys, rfl, _⟩ := h
    rfl
  · obtain ⟨p, l, a, n, ys, rfl, hp, hn, hs, ne, h0, h1, k⟩ := h
    refine ⟨_, (pss_one (ps_ret (pe_ix ix_list (pv 1) (C8.pe_c D hr (by decide) (by rfl) (pa_cons (pv 0) (pa_cons (pe_callB call_len_seq (by rfl) T.n_len (by decide +kernel) (pa_cons (pv 1) pa_nil)) pa_nil))) (fun _ _ => rfl)))), ?_⟩
    refine ⟨_, rfl, _, rfl, _, rfl, a, ys, rfl, .inl hs, ?_⟩
    refine ⟨p, l, n, _, rfl, (by omega), (by omega), hp, hn, fun r H' r0 r1 hp' k' => ?_⟩
    obtain ⟨j, hj⟩ : ∃ j : Nat, r = (j : Int) := ⟨r.toNat, by omega⟩
    subst hj
    have hjl : j < ys.length := by omega
    refine ⟨a, ys, _, ys[j], rfl, rfl, k'.seq ne hs, atI_nat (by simp [hjl]), ?_⟩
    exact k j _ H' (by simp [hjl]) hp' k'
theorem scPen : FnScope ["_law_script"] ["_law_script"] (C8.fnScope sPen) := C8.fnScope_by (by decide +kernel)
theorem cut_ints (xs : List Int) (lo hi : Option Int) : cutV (xs.map V.int) lo hi = ((xs.drop (HT.sIx xs.length 0 lo)).take (HT.sIx xs.length xs.length hi - HT.sIx xs.length 0 lo)).map V.int := by
  unfold cutV
  rw [List.length_map, List.map_take, List.map_drop]
theorem cal_pen {f : Addr} {fd : FuncData} (F : C8.Def K mg "_law_pen" sPen f fd) (b : Binds K fd ["_law_script"] []) (T : Txt0 mg) : C8.Cal P w K mg base 1 "_law_pen" (spPen K) [] := by
  refine C8.cal0 F b .nil scPen (fun vs H Q E h => ?_) (fun cdv A outer st H vs Q E hr h => ?_)
  · obtain ⟨a, ns, rfl, _⟩ := h
    rfl
  · obtain ⟨a, ns, rfl, hs, hl, k⟩ := h
    refine ⟨_, (pss_one (ps_ret (pe_lst (pa_cons (pe_callTy call_list_of (by rfl) T.n_list (by decide +kernel) (pa_cons (pe_slice sl_list (pv 0) po_none (po_some pe_int)) pa_nil)) (pa_cons pe_int (pa_cons pe_int pa_nil)))))), ?_⟩
    refine ⟨_, rfl, _, rfl, a, _, rfl, hs, fun c hc => ?_⟩
    refine ⟨c, _, rfl, .inl (SqL.of upd_same), fun l hl2 => ?_⟩
    refine ⟨(by show 3 ≤ sizeLine; decide), fun p hp => ?_⟩
    have s1 := same_new (o := HO.lst (cutV (ns.map V.int) none (some 63))) hc
    have s2 := same_new (o := HO.lst (cutV (ns.map V.int) none (some 63))) hl2
    have s3 := same_new (o := HO.lst [V.ref l, V.int 0, V.int 0]) hp
    have pl : p ≠ l := fun e => by rw [e, upd_same] at hp; cases hp
    refine k p l _ ⟨((ns.drop (HT.sIx ns.length 0 none)).take (HT.sIx ns.length ns.length (some 63) - HT.sIx ns.length 0 none)), 0, 0, ⟨upd_same, ?_, pl, by omega, by omega⟩, by omega⟩ ((s1.trans s2).trans s3) ((s1.trans s2).free hp)
    rw [upd_ne pl.symm, upd_same, cut_ints]
end
end Lw
namespace Lw
open PySem PySem.Spec PyProof.Rows L2

/-! ### defs that are called where no repr runs -/
/-- a def's promise where nothing is being shown -/
structure FnG (P : Program) (w : World) (K : PySem.W.Frag) (mg : Str → Option Value) (base : Heap) (k : Nat) (f : Addr) (fd : FuncData) (ps : List Str) (sp : Sp) : Prop where
  len : ∀ vs H Q E, sp vs H Q E → vs.length = ps.length
  run : ∀ (A : Around) (outer : List Env) (s : Shared) (H : Hp) (args : Args) (us : List Value) (vs : List V) (Q : VK) (E : XK), A.guards = some [] → Room k A → Env0 P w K mg base A outer s H →
    BindsTo s fd args (ps.zip us) → Vals vs us → sp vs H Q E → codeAny (model P w) A (.call (.ref f) args) (CR C8.CX0 outer P w H s Q E) s
structure CalG (P : Program) (w : World) (K : PySem.W.Frag) (mg : Str → Option Value) (base : Heap) (k : Nat) (x : Str) (sp : Sp) (dvs : List V) : Prop where
  ex : ∃ (f : Addr) (fd : FuncData) (ps : List Str) (ds : List Value), FnG P w K mg base k f fd ps sp ∧ mg x = some (.ref f) ∧ PySem.W.keepIn K (.ref f) = true ∧ Binds K fd ps ds ∧ Vals dvs ds
section
variable {P : Program} {w : World} {K : PySem.W.Frag} {mg : Str → Option Value} {base : Heap}
theorem calG {x : Str} {st : Stmt} {f : Addr} {fd : FuncData} {N ps : List Str} {ds : List Value} {dvs : List V} {k : Nat} {sp : Sp} (F : C8.Def K mg x st f fd) (b : Binds K fd ps ds) (d : Vals dvs ds) (S : FnScope N ps (C8.fnScope st))
    (len : ∀ vs H Q E, sp vs H Q E → vs.length = ps.length)
    (body : ∀ (cdv : Value) (A : Around) (outer : List Env) (s : Shared) (H : Hp) (vs : List V) (Q : VK) (E : XK), (A.deeper (envOfC x (C8.fnScope st) s.heap.objs.size f cdv)).guards = some [] → Room k (A.deeper (envOfC x (C8.fnScope st) s.heap.objs.size f cdv)) → sp vs H Q E →
      ∃ t, PSs (cxOf C8.CX0 P w K mg base N x (C8.fnScope st) f cdv A outer s H E).nox (C8.fnBody st) t ∧ t { nx := fun _ H' => Q .non H', rt := Q } (start N vs) H) : CalG P w K mg base (k + 1) x sp dvs := by
  refine ⟨f, fd, ps, ds, ⟨len, ?_⟩, F.mgf, F.kp, b, d⟩
  intro A outer s H args us vs Q E hg hr e0 hb r hs
  obtain ⟨oc, od, dV, kV, doc, pm, an, cdv, ct, osl, rfl, lk, hcd⟩ := F.fn.ex
  refine LamX.run_ofS lk hcd S hr e0 hb r (len _ _ _ _ hs) fun hr' => ?_
  obtain ⟨t, h1, h2⟩ := body cdv A outer s H vs Q E hg hr' hs
  exact ⟨t, h1.nox, h2⟩
end
section
variable {X : Cx} {k j : Nat} {x : Str} {sp : Sp} {dvs : List V} {p pos : Pos} {e : Expr} {es : List Expr} {t : TA}
theorem pe_g (c : CalG X.prog X.w X.K X.mg X.base k x sp dvs) (hG : X.A.guards = some []) (hr : Room j X.A) (hk : k ≤ j) (hg : Gl X x) (ha : PA X (e :: es) t)
    (hdb : (x == ("__debug__" : Str)) = false := by decide) (he : starEach (e :: es) X.env = (false, eval e X.env) :: starEach es X.env := by rfl) (hpl : (backTo pos (starEach es X.env)).any (·.1) = false := by rfl) :
    PE X (.Call (.Name x p) (e :: es) [] pos) (tCall sp dvs C8.E0 t) := by
  obtain ⟨f, fd, ps, ds, F, hm, kp, b, d⟩ := c.ex
  refine ⟨fun pins s σ H Q I h => ?_⟩
  refine wpAny_Call_Name_kw (ld_glob I hg hm ?_ hdb)
  refine PySem.W.callWith_K (h₀ := X.base) I.ok.mod.kin kp (thn (ha.run pos pins s σ H _ I h) fun us s1 g => ?_) he hpl
  obtain ⟨vs, H1, I1, r, q⟩ := g
  refine ⟨I1.kIn, ?_⟩
  have r2 := r.append d
  have hl : (us ++ ds).length = ps.length := r2.length.symm.trans (F.len _ _ _ _ q)
  refine wpAny_call (codeAny_mono (F.run X.A X.stack s1 H1 ⟨us, []⟩ (us ++ ds) (vs ++ dvs) Q C8.E0 hG (hr.mono hk) I1.env0 (b s1 us I1.kIn hl) r2 q) fun r s' hq => ?_)
  match r, hq with
  | .error e, hq => exact hq.elim
  | .ok (.ret u), hq => exact I1.after hq
  | .ok .next, hq => exact hq.elim
  | .ok .brk, hq => exact hq.elim
  | .ok .cont, hq => exact hq.elim
/-! ### repr of data -/
def rRepr (K : PySem.W.Frag) : List V → Hp → VK → Prop := fun xs H Q => ∃ (a : Addr) (d : PyData), xs = [.ref a] ∧ Dp K H (.ref a) d ∧ d.showable = true ∧ d.hasDict = false ∧ d.depth ≤ 100 ∧ d.shown.length ≤ sizeLine ∧ Q (.str d.shown) H
theorem call_reprD (hG : X.A.guards = some []) (hr : Room 0 X.A) : CallR X (.builtin "repr") (rRepr X.K) := by
  intro pins s σ H xs us Q I r h
  obtain ⟨a, d, rfl, hd, h1, h2, h3, h4, q⟩ := h
  obtain ⟨u, rfl, ru⟩ := vals1 r
  have e : u = Value.ref a := ru
  subst e
  obtain ⟨as, rd⟩ := Dp.reads I d _ _ hd rfl
  have hun := hr.un
  exact repr_of_reads' rd h1 (fun z => by rw [h2] at z; cases z) hG (by omega) (fun _ _ e => e) (fun h' u' tk kp => ⟨.str d.shown, H, I.kept kp, ⟨u', rfl⟩, q⟩) h4
end
end Lw
namespace Lw
open PySem PySem.Spec PyProof.Rows L2

open LamX
/-! ### a lambda as a value -/
def FnO (f : Addr) : HO := .ext fun h => ∃ o : Obj, h.get? f = some o ∧ o.cls = .type "function"
section
variable {X : Cx} {pins : List (Addr × Obj)} {σ : L2.St} {H : Hp} {s : Shared}
theorem lay_fn {h' : Heap} {t' : Nat} {o : Obj} (I : Inv X pins σ H { s with heap := h', toks := t' }) (ho : o.cls = .type "function") (hs : o.isFreed = false) :
    Inv X pins σ (upd H h'.objs.size (FnO h'.objs.size)) { s with heap := h'.push o, toks := t' } := by
  refine I.laid (h' := h'.push o) (t' := t') (fun b u e => Heap.get?_push_of_some _ e) (Nat.le_refl _) ?_
  have g : (h'.push o).get? h'.objs.size = some o := Heap.get?_push_size _ hs
  refine ⟨⟨o, g, ho⟩, ⟨o, g⟩, ?_⟩
  rintro h1 h2 ⟨u, e1, e2⟩ st
  exact ⟨u, st u e1, e2⟩
theorem lam_val {T : List (Addr × Str)} {c B : Addr} {params : Arguments} {body : Expr} {scope : Scope} {pos : Pos} {E Q : Value → Shared → Prop} (I : Inv X pins σ H s) (TB : TabB X.base X.mg c B) (hcode : X.env.code = .ref c)
    (hm : (B, X.env.qual ++ "<lambda>") ∈ T) (hu : ∀ p ∈ T, p.1 = B → p.2 = X.env.qual ++ "<lambda>") (hT : Tabs T H) (hdef : defaultsOf params X.env = ([], []))
    (hfree : ∀ y ∈ scope.names, y.2 = .free → ∃ c, X.env.cells.lookup y.1 = some c)
    (h : ∀ (f : Addr) (H1 : Hp) (s' : Shared), Inv X pins σ (upd H1 f (FnO f)) s' → ExtN H H1 → Tabs T H1 → H1 f = none → Q (.ref f) s') :
    wpAny (model X.prog X.w) X.A (eval (.Lambda params body scope pos) X.env) Q E s := by
  have known := hT _ hm
  obtain ⟨ps, hB, trip, amg⟩ := known
  refine PySem.W.kla_eval hdef ?_
  have hat : s.heap.get? B = some { cls := .none, data := .fields ps } := I.hok B _ hB
  have blt := TB.bm.keeps I.bk
  have hdc := TB.code.keeps I.bk
  have glb := I.mod.glob.keeps I.bk
  rcases hc : codeAmong pos ps.toList with _ | cv
  · refine PySem.W.kla_makeFunction (mg := X.mg) (c := c) (P := B) (ps := ps) (closure_ok hfree) I.ok.glob glb hcode hdc hat trip hc TB.gP blt ?_
    intro c2 ctv h' tk hx hge hlt hrec htb
    obtain ⟨c3, oc, vs, t, e3, g1, g2, g3⟩ := hrec
    cases e3
    have nC : H c2 = none := I.hok.fresh hge
    have I0 := inv_table (t' := tk) (more := #[rawInt pos.line, rawInt pos.col, .ref c2]) (h' := h') I hB hx htb hge ⟨oc, vs, t, g1, g2, g3⟩
    have stays : ExtN H (upd (upd H B (.tbl (ps ++ #[rawInt pos.line, rawInt pos.col, .ref c2]))) c2 (CodeO c2 (X.env.qual ++ "<lambda>"))) := by
      intro b o e n
      rw [upd_ne (ne_of_none e nC)]
      by_cases hb : b = B
      · subst hb
        rw [hB] at e
        exact absurd (Option.some.inj e).symm (n ps)
      · rw [upd_ne hb]; exact e
    refine h h'.objs.size _ _ (lay_fn (t' := tk) I0 rfl rfl) stays ?_ ?_
    · intro p hp
      by_cases hb : p.1 = B
      · rw [hu p hp hb, hb]
        refine ⟨ps ++ #[rawInt pos.line, rawInt pos.col, .ref c2], ?_, ?_, ?_⟩
        · rw [upd_ne (ne_of_none hB nC), upd_same]
        · rw [show (ps ++ #[rawInt pos.line, rawInt pos.col, .ref c2]).toList = ps.toList ++ [rawInt pos.line, rawInt pos.col, .ref c2] by simp]
          exact PySem.TriplesOk_snoc _ _ _ _ trip
        · intro p' cv' hcv
          rw [show (ps ++ #[rawInt pos.line, rawInt pos.col, .ref c2]).toList = ps.toList ++ [rawInt pos.line, rawInt pos.col, .ref c2] by simp] at hcv
          rcases among_app _ trip hcv with z | z
          · obtain ⟨c0, a1, a2⟩ := amg p' cv' z
            exact ⟨c0, a1, stays _ _ a2 codeO_ne⟩
          · exact ⟨c2, z, upd_same⟩
      · obtain ⟨qs, a1, a2, a3⟩ := hT p hp
        refine ⟨qs, ?_, a2, ?_⟩
        · rw [upd_ne (ne_of_none a1 nC), upd_ne hb]; exact a1
        · intro p' cv' hcv
          obtain ⟨c0, b1, b2⟩ := a3 p' cv' hcv
          exact ⟨c0, b1, stays _ _ b2 codeO_ne⟩
    · have n1 : h'.objs.size ≠ c2 := Nat.ne_of_gt hlt
      have n2 : h'.objs.size ≠ B := Nat.ne_of_gt (Nat.lt_of_lt_of_le (Heap.lt_size hat) (Nat.le_trans hge (Nat.le_of_lt hlt)))
      rw [upd_ne n1, upd_ne n2]
      exact I.hok.fresh (Nat.le_trans hge (Nat.le_of_lt hlt))
  · obtain ⟨c2, e, hco⟩ := amg pos cv hc
    subst e
    refine PySem.W.kla_makeFunctionHit (mg := X.mg) (c := c) (P := B) (ps := ps) (closure_ok hfree) I.ok.glob glb hcode hdc hat trip hc blt ?_
    intro ctv h' tk hx hsz
    have I0 : Inv X pins σ H { s with heap := h', toks := tk } := I.kept hx
    exact h h'.objs.size H _ (lay_fn (t' := tk) I0 rfl rfl) (ExtN.refl H) hT (I.hok.fresh hsz)
end
def tLamV (T : List (Addr × Str)) : TE := fun _ H Q => Tabs T H ∧ ∀ (f : Addr) (H1 : Hp), ExtN H H1 → Tabs T H1 → H1 f = none → Q (.ref f) (upd H1 f (FnO f))
section
variable {X : Cx}
theorem pe_lamV {T : List (Addr × Str)} {c B : Addr} {params : Arguments} {body : Expr} {scope : Scope} {pos : Pos} (TB : TabB X.base X.mg c B) (hcode : X.env.code = .ref c)
    (hm : (B, X.env.qual ++ "<lambda>") ∈ T) (hu : ∀ p ∈ T, p.1 = B → p.2 = X.env.qual ++ "<lambda>") (hdef : defaultsOf params X.env = ([], [])) (L : ∀ y ∈ scope.names, y.2 ≠ .free) :
    PE X (.Lambda params body scope pos) (tLamV T) := by
  refine ⟨fun pins s σ H Q I h => ?_⟩
  refine lam_val I TB hcode hm hu h.1 hdef (fun y hy e => absurd e (L y hy)) fun f H1 s' I1 eN T1 nf => ?_
  exact ⟨.ref f, _, I1, rfl, h.2 f H1 eN T1 nf⟩
end
end Lw
namespace Lf
open PySem
open Sem (wp)

theorem ga : Slot "function" "__getattribute__" "object.__getattribute__" := by
  refine .of (owner := "object") (n := "__getattribute__") ?_ (by decide +kernel) (by decide +kernel) (by decide +kernel) ?_ ?_
  · rw [typeLookup_type, builtinLookup_eq_fast]
    kernel_rfl
  · first
      | exact .inl (by decide +kernel)
      | exact .inr (by decide +kernel)
  · rw [isSubtype_type]
    kernel_rfl
theorem lkc : typeLookup (.type "function") "__class__" = pure (some (.builtin "object.__class__")) := by
  rw [typeLookup_type, builtinLookup_eq_fast]
  kernel_rfl
theorem sub_own : isSubtype (.type "function") (.type (".".intercalate ("object.__class__".cutAt '.').dropLast)) = pure true := by
  rw [F.owner_object_class]
  rw [isSubtype_type]
  kernel_rfl
section
variable {prog : Program} {w : World} {A : Around} {E : Value → Shared → Prop} {h : Heap} {g : Array GenState} {d : Drawn} {t : Nat} {os : OsState} {a : Addr} {o : Obj}
theorem fn_get {R : Result → Shared → Prop} (hx : h.get? a = some o) (hc : o.cls = .type "function")
    (hq : R (.ok (.ret (.type "function"))) ⟨h, g, d, t, os⟩) :
    codeAny (model prog w) A (.call (.builtin "getset_descriptor.__get__") ⟨[.builtin "object.__class__", .ref a, .type "function"], []⟩) R ⟨h, g, d, t, os⟩ := by
  have i1 : (⟨h, g, d, t, os⟩ : Shared).TypeIs (.ref a) "function" := ⟨o, hx, hc⟩
  have i2 : (⟨h, g, d, t, os⟩ : Shared).TypeIs (.builtin "object.__class__") "getset_descriptor" := F.typeOf_object_class
  have i3 := sub_own
  refine codeAny_call_builtin F.slot_gs_get.plain F.entry_gs_get ?_
  refine F.slot_gs_get.check _ _ _ _ _ _ _ _ i2 (F.args_gs_get _ _ _) ?_
  repeat (any_goals (first | assumption | wp_step))
  refine ⟨Code.quiet_builtin _ (by decide +kernel), ?_⟩
  refine codeAny_builtin F.entry_object_class ?_
  repeat (any_goals (first | assumption | wp_step))
theorem fn_ga {tk : Tok} {Q : Fin → Shared → Prop} (hx : h.get? a = some o) (hc : o.cls = .type "function")
    (hq : Q (.done (.ret (.type "function"))) ⟨h, g, d, t, os⟩) :
    wpAny (model prog w) A (Builtin.«object.__getattribute__» ⟨[.ref a, .str "__class__" tk], []⟩) Q E ⟨h, g, d, t, os⟩ := by
  have i1 : (⟨h, g, d, t, os⟩ : Shared).TypeIs (.ref a) "function" := ⟨o, hx, hc⟩
  have i2 : (⟨h, g, d, t, os⟩ : Shared).TypeIs (.builtin "object.__class__") "getset_descriptor" := F.typeOf_object_class
  have i3 := lkc
  have i4 := F.typeOf_object_class
  have i5 := F.slot_gs_get.lookup
  have i6 := F.slot_gs_set.lookup
  repeat (any_goals (first | assumption | wp_step))
  refine fn_get hx hc ?_
  repeat (any_goals (first | assumption | wp_step))
theorem fn_call {tk : Tok} {R : Result → Shared → Prop} (hx : h.get? a = some o) (hc : o.cls = .type "function")
    (hq : R (.ok (.ret (.type "function"))) ⟨h, g, d, t, os⟩) :
    codeAny (model prog w) A (.call (.builtin "object.__getattribute__") ⟨[.ref a, .str "__class__" tk], []⟩) R ⟨h, g, d, t, os⟩ := by
  refine codeAny_call_builtin ga.plain F.entry_object_getattribute ?_
  exact ga.check _ _ _ _ _ _ _ _ (show (⟨h, g, d, t, os⟩ : Shared).TypeIs (.ref a) "function" from ⟨o, hx, hc⟩) (F.args_object_getattribute_2 _ _) (fn_ga hx hc hq)
theorem fn_by {tk : Tok} {Q : Value → Shared → Prop} (hx : h.get? a = some o) (hc : o.cls = .type "function") (hq : Q (.type "function") ⟨h, g, d, t, os⟩) :
    wpAny (model prog w) A (getAttrBy (.ref a) (.str "__class__" tk) false) Q E ⟨h, g, d, t, os⟩ := by
  have i1 : (⟨h, g, d, t, os⟩ : Shared).TypeIs (.ref a) "function" := ⟨o, hx, hc⟩
  have i2 := ga.lookup
  have i3 := ga.bind (.ref a)
  repeat (any_goals (first | assumption | wp_step))
  refine fn_call hx hc ?_
  repeat (any_goals (first | assumption | wp_step))
theorem fn_attr {Q : Option Value → Shared → Prop} (hx : h.get? a = some o) (hc : o.cls = .type "function") (hq : Q (some (.type "function")) ⟨h, g, d, t + 1, os⟩) :
    wpAny (model prog w) A (getAttr? (.ref a) "__class__") Q E ⟨h, g, d, t, os⟩ := by
  unfold getAttr? getAttrBy?
  repeat (any_goals (first | assumption | with_reducible apply fn_by hx hc | wp_step))
end
end Lf
namespace Lw
open PySem PySem.Spec PyProof.Rows L2

open LamX
theorem kitx_fn {K : PySem.W.Frag} {a : Addr} : PySem.W.KitX K (.ref a) (.type "function") (PySem.W.KitAt a "function") := PySem.W.kitx_of PySem.W.kitAt_ty (fun {_ _ _ _ _ s} p k => by
  obtain ⟨h, g, d, t, os⟩ := s
  obtain ⟨o, h1, h2⟩ := p
  exact Lf.fn_attr h1 h2 k)
/-- a value's type: a def's, too -/
inductive TyZ (K : PySem.W.Frag) (H : Hp) : V → Value → Prop where
  | x {v : V} {t : Value} (h : TyX K H v t) : TyZ K H v t
  | fn {a : Addr} (e : H a = some (FnO a)) : TyZ K H (.ref a) (.type "function")
def rIsz (K : PySem.W.Frag) : List V → Hp → VK → Prop := fun xs H Q => ∃ (x c : V) (t u : Value) (b : Bool), xs = [x, c] ∧ ClsV c u ∧ TyZ K H x t ∧ PySem.W.kitOne K t u = some b ∧ Q (.bl b) H
theorem call_isz {X : Cx} : CallR X (.builtin "isinstance") (rIsz X.K) := by
  intro pins s σ H xs us Q I r h
  obtain ⟨x, c, t, u, b, rfl, k, ty, e, q⟩ := h
  obtain ⟨u1, u2, rfl, r1, r2⟩ := vals2 r
  have e2 := k.eq r2
  subst e2
  cases ty with
  | x ty =>
    obtain ⟨W, Z, p, hx⟩ := kit_of I r1 ty
    exact PySem.W.kia_one Z I.kIn p e hx fun tk => ⟨.bl b, H, I.tok tk, rfl, q⟩
  | @fn a ea =>
    have e3 : u1 = Value.ref a := r1
    subst e3
    obtain ⟨⟨o, h1, h2⟩, _⟩ := I.hok a _ ea
    exact PySem.W.kia_one kitx_fn I.kIn ⟨o, h1, h2⟩ e (fun z => by cases z) fun tk => ⟨.bl b, H, I.tok tk, rfl, q⟩
end Lw
namespace Lw
open PySem PySem.Spec PyProof.Rows L2

open LamX
abbrev sIsInt : Stmt := top 7
abbrev sWithin : Stmt := top 8
abbrev sSize : Stmt := top 9
/-- what the top has told of the module's names -/
structure Txt (mg : Str → Option Value) : Prop extends Txt0 mg where
  n_bool : mg "bool" = none
  n_str : mg "str" = none
  n_isinstance : mg "isinstance" = none
  n_range : mg "range" = none
  n_repr : mg "repr" = none
  n_all : mg "all" = none
  c_GS : ∃ t, mg "GREATEST_SIZE" = some (.int (10 ^ 30) t)
/-- any value that a caller may pass here -/
inductive Anyv (K : PySem.W.Frag) (H : Hp) : V → Prop where
  | int (i : Int) : Anyv K H (.int i)
  | non : Anyv K H .non
  | bl (b : Bool) : Anyv K H (.bl b)
  | str (z : Str) : Anyv K H (.str z)
  | obj {a : Addr} {t : Value} (h : TyZ K H (.ref a) t) (h1 : PySem.W.kitOne K t (.type "int") = some false) (h2 : PySem.W.kitOne K t (.type "bool") = some false) (h3 : PySem.W.kitOne K t (.type "str") = some false) : Anyv K H (.ref a)
def isI : V → Bool
  | .int _ => true
  | _ => false
def clsI : V → Bool
  | .int _ => true
  | .bl _ => true
  | _ => false
def clsB : V → Bool
  | .bl _ => true
  | _ => false
def isS : V → Bool
  | .str _ => true
  | _ => false
def inB (x : V) (lo hi : Int) : Bool := match x with
  | .int i => decide (lo ≤ i) && decide (i ≤ hi)
  | _ => false
def spIsInt (K : PySem.W.Frag) : Sp := fun vs H Q _ => ∃ x, vs = [x] ∧ Anyv K H x ∧ Q (.bl (isI x)) H
def spWithin (K : PySem.W.Frag) : Sp := fun vs H Q _ => ∃ x lo hi, vs = [x, .int lo, .int hi] ∧ Anyv K H x ∧ Q (.bl (inB x lo hi)) H
def spSize (K : PySem.W.Frag) : Sp := fun vs H Q _ => ∃ x, vs = [x] ∧ Anyv K H x ∧ Q (.bl (inB x 1 (10 ^ 30))) H
section
variable {P : Program} {w : World} {K : PySem.W.Frag} {mg : Str → Option Value} {base : Heap}
theorem isz_int {H : Hp} {x : V} {Q : V → Hp → Prop} (a : Anyv K H x) (q : Q (.bl (clsI x)) H) : rIsz K [x, .ty "int"] H Q := by
  cases a with
  | int i => exact ⟨_, _, .type "int", .type "int", true, rfl, .ty "int", .x (.base (.int i)), kit_ty (r := true) (by decide +kernel), q⟩
  | non => exact ⟨_, _, .type "NoneType", .type "int", false, rfl, .ty "int", .x (.base .non), kit_ty (r := false) (by decide +kernel), q⟩
  | bl b => exact ⟨_, _, .type "bool", .type "int", true, rfl, .ty "int", .x (.base (.bl b)), kit_ty (r := true) (by decide +kernel), q⟩
  | str z => exact ⟨_, _, .type "str", .type "int", false, rfl, .ty "int", .x (.base (.str z)), kit_ty (r := false) (by decide +kernel), q⟩
  | obj h h1 h2 h3 => exact ⟨_, _, _, .type "int", _, rfl, .ty "int", h, h1, q⟩
theorem isz_bool {H : Hp} {x : V} {Q : V → Hp → Prop} (a : Anyv K H x) (q : Q (.bl (clsB x)) H) : rIsz K [x, .ty "bool"] H Q := by
  cases a with
  | int i => exact ⟨_, _, .type "int", .type "bool", false, rfl, .ty "bool", .x (.base (.int i)), kit_ty (r := false) (by decide +kernel), q⟩
  | non => exact ⟨_, _, .type "NoneType", .type "bool", false, rfl, .ty "bool", .x (.base .non), kit_ty (r := false) (by decide +kernel), q⟩
  | bl b => exact ⟨_, _, .type "bool", .type "bool", true, rfl, .ty "bool", .x (.base (.bl b)), kit_ty (r := true) (by decide +kernel), q⟩
  | str z => exact ⟨_, _, .type "str", .type "bool", false, rfl, .ty "bool", .x (.base (.str z)), kit_ty (r := false) (by decide +kernel), q⟩
  | obj h h1 h2 h3 => exact ⟨_, _, _, .type "bool", _, rfl, .ty "bool", h, h2, q⟩
theorem isz_str {H : Hp} {x : V} {Q : V → Hp → Prop} (a : Anyv K H x) (q : Q (.bl (isS x)) H) : rIsz K [x, .ty "str"] H Q := by
  cases a with
  | int i => exact ⟨_, _, .type "int", .type "str", false, rfl, .ty "str", .x (.base (.int i)), kit_ty (r := false) (by decide +kernel), q⟩
  | non => exact ⟨_, _, .type "NoneType", .type "str", false, rfl, .ty "str", .x (.base .non), kit_ty (r := false) (by decide +kernel), q⟩
  | bl b => exact ⟨_, _, .type "bool", .type "str", false, rfl, .ty "str", .x (.base (.bl b)), kit_ty (r := false) (by decide +kernel), q⟩
  | str z => exact ⟨_, _, .type "str", .type "str", true, rfl, .ty "str", .x (.base (.str z)), kit_ty (r := true) (by decide +kernel), q⟩
  | obj h h1 h2 h3 => exact ⟨_, _, _, .type "str", _, rfl, .ty "str", h, h3, q⟩
theorem scIsInt : FnScope ["value"] ["value"] (C8.fnScope sIsInt) := C8.fnScope_by (by decide +kernel)
theorem fn_isint {f : Addr} {fd : FuncData} (F : C8.Def K mg "is_integer" sIsInt f fd) (T : Txt mg) : FnOk P w K mg base C8.CX0 1 f fd ["value"] (spIsInt K) := by
  refine C8.fn0 F.fn scIsInt (fun vs H Q E h => ?_) (fun cdv A outer st H vs Q E hr h => ?_)
  · obtain ⟨x, rfl, _⟩ := h
    rfl
  · obtain ⟨x, rfl, a, k⟩ := h
    refine ⟨_, (pss_one (ps_ret (pe_and (pe_callB call_isz (by rfl) T.n_isinstance (by decide +kernel) (pa_cons (pv 0) (pa_cons (pe_bltn (v := .ty "int") (by rfl) T.n_int (by decide +kernel) rfl) pa_nil))) (pe_one (pe_not (pe_callB call_isz (by rfl) T.n_isinstance (by decide +kernel) (pa_cons (pv 0) (pa_cons (pe_bltn (v := .ty "bool") (by rfl) T.n_bool (by decide +kernel) rfl) pa_nil)))))))), ?_⟩
    refine ⟨_, rfl, ?_⟩
    dsimp only [tCons, tC, tNil]
    refine isz_int a ⟨_, rfl, ?_⟩
    cases a with
    | int i =>
      refine iteT ⟨_, rfl, ?_⟩
      dsimp only [tCons, tC, tNil]
      exact isz_bool (.int i) ⟨_, rfl, k⟩
    | bl b =>
      refine iteT ⟨_, rfl, ?_⟩
      dsimp only [tCons, tC, tNil]
      exact isz_bool (.bl b) ⟨_, rfl, k⟩
    | non => exact iteF k
    | str z => exact iteF k
    | obj h h1 h2 h3 => exact iteF k
theorem cal_isint {f : Addr} {fd : FuncData} (F : C8.Def K mg "is_integer" sIsInt f fd) (b : Binds K fd ["value"] []) (T : Txt mg) : C8.Cal P w K mg base 1 "is_integer" (spIsInt K) [] :=
  ⟨f, fd, _, [], fn_isint F T, F.mgf, F.kp, b, .nil⟩
theorem scWithin : FnScope ["value", "least", "most"] ["value", "least", "most"] (C8.fnScope sWithin) := C8.fnScope_by (by decide +kernel)
theorem fn_within {f : Addr} {fd : FuncData} (F : C8.Def K mg "is_within" sWithin f fd) (T : Txt mg) (D : C8.Cal P w K mg base 1 "is_integer" (spIsInt K) []) : FnOk P w K mg base C8.CX0 2 f fd ["value", "least", "most"] (spWithin K) := by
  refine C8.fn0 F.fn scWithin (fun vs H Q E h => ?_) (fun cdv A outer st H vs Q E hr h => ?_)
  · obtain ⟨x, lo, hi, rfl, _⟩ := h
    rfl
  · obtain ⟨x, lo, hi, rfl, a, k⟩ := h
    refine ⟨_, (pss_one (ps_ret (pe_and (C8.pe_c D hr (by decide) (by rfl) (pa_cons (pv 0) pa_nil)) (pe_one (pe_chain op_le op_le (pv 1) (pv 0) (pv 2)))))), ?_⟩
    refine ⟨_, rfl, x, rfl, a, _, rfl, ?_⟩
    cases a with
    | int i =>
      refine iteT ⟨_, rfl, _, rfl, _, _, rfl, rfl, _, rfl, ite2 (fun c => ?_) (fun c => ?_)⟩
      · refine ⟨_, rfl, _, _, rfl, rfl, ?_⟩
        rw [show inB (.int i) lo hi = decide (i ≤ hi) by simp [inB, of_decide_eq_true c]] at k
        exact k
      · rw [show inB (.int i) lo hi = false by simp [inB, of_decide_eq_false (Bool.eq_false_iff.mpr c)]] at k
        exact k
    | bl b => exact iteF k
    | non => exact iteF k
    | str z => exact iteF k
    | obj h h1 h2 h3 => exact iteF k
theorem cal_within {f : Addr} {fd : FuncData} (F : C8.Def K mg "is_within" sWithin f fd) (b : Binds K fd ["value", "least", "most"] []) (T : Txt mg) (D : C8.Cal P w K mg base 1 "is_integer" (spIsInt K) []) : C8.Cal P w K mg base 2 "is_within" (spWithin K) [] :=
  ⟨f, fd, _, [], fn_within F T D, F.mgf, F.kp, b, .nil⟩
theorem scSize : FnScope ["value"] ["value"] (C8.fnScope sSize) := C8.fnScope_by (by decide +kernel)
theorem fn_size {f : Addr} {fd : FuncData} (F : C8.Def K mg "is_size" sSize f fd) (T : Txt mg) (D : C8.Cal P w K mg base 2 "is_within" (spWithin K) []) : FnOk P w K mg base C8.CX0 3 f fd ["value"] (spSize K) := by
  refine C8.fn0 F.fn scSize (fun vs H Q E h => ?_) (fun cdv A outer st H vs Q E hr h => ?_)
  · obtain ⟨x, rfl, _⟩ := h
    rfl
  · obtain ⟨x, rfl, a, k⟩ := h
    obtain ⟨tk, hGS⟩ := T.c_GS
    refine ⟨_, (pss_one (ps_ret (C8.pe_c D hr (by decide) (by rfl) (pa_cons (pv 0) (pa_cons pe_int (pa_cons (pe_glob (v := .int (10 ^ 30)) rfl hGS ⟨_, rfl⟩) pa_nil)))))), ?_⟩
    exact ⟨_, rfl, x, _, _, rfl, a, k⟩
theorem cal_size {f : Addr} {fd : FuncData} (F : C8.Def K mg "is_size" sSize f fd) (b : Binds K fd ["value"] []) (T : Txt mg) (D : C8.Cal P w K mg base 2 "is_within" (spWithin K) []) : C8.Cal P w K mg base 3 "is_size" (spSize K) [] :=
  ⟨f, fd, _, [], fn_size F T D, F.mgf, F.kp, b, .nil⟩
end
end Lw
namespace Lw
open PySem PySem.Spec PyProof.Rows L2

open LamX
abbrev sIsName : Stmt := top 10
abbrev sIsName2 : Stmt := top 33
def letters : Str := "abcdefghijklmnopqrstuvwxyz"
def resW : List Str := ["cost", "fee", "none", "order", "ready", "self", "chunks", "crew", "late", "at"]
/-- a comprehension over a text, whose tests and element leave the heap as it is -/
theorem lc_text {z : Str} {g : TG} {tt : TT} {te : TE} {vs : List Nat} {σ : L2.St} {H1 : Hp} {D : Addr} {Qd : Hp → Prop} (σc : Nat → L2.St) (flt : Nat → Bool) (f : Nat → V)
    (hg : ∀ c H (R : L2.St → Hp → Prop), R (σc c) H → g (.str ⟨#[c]⟩) (wipe σ vs) H R) (hw : ∀ c, wipe (σc c) vs = wipe σ vs) (ht : ∀ c H (R : Bool → Hp → Prop), R (flt c) H → tt (σc c) H R)
    (he : ∀ c H (R : V → Hp → Prop), flt c = true → R (f c) H → te (σc c) H R) (hz : z.cps.size ≤ 1000000) (hd : Qd (upd H1 D (.lst ((z.cps.toList.filter flt).map f)))) :
    ∃ W : Nat → Nat → Hp → Prop, (∃ m, W 0 m (upd H1 D (.lst []))) ∧ ∀ i m H, W i m H →
      ((Its z).stop i H ∧ Qd H) ∨ ((Its z).go i H ∧ ∃ Nx : Hp → Prop, (∀ H', Nx H' → ∃ m', m' < m ∧ W (i + 1) m' H') ∧ ∀ x H', (Its z).yld i H x H' → g x (wipe σ vs) H' fun σ2 H2 => wipe σ2 vs = wipe σ vs ∧ tt σ2 H2 fun b H3 =>
        if b = true then te σ2 H3 fun y H4 => ∃ acc, H4 D = some (.lst acc) ∧ acc.length < sizeLine ∧ Nx (upd H4 D (.lst (acc ++ [y]))) else Nx H3) := by
  refine lc_it (walk_str (z := z)) (fun i H => H = upd H1 D (.lst (((z.cps.toList.take i).filter flt).map f))) (by simp) (fun _ _ _ _ => trivial) ?_ ?_
  · intro i x H H' hi hP hY
    obtain ⟨rfl, c, hc, rfl⟩ := hY
    have hc' : z.cps.toList[i]? = some c := by rw [Array.getElem?_toList]; exact hc
    have htake : z.cps.toList.take (i + 1) = z.cps.toList.take i ++ [c] := by
      rw [List.take_add_one, hc']; rfl
    refine hg c _ _ ⟨hw c, ht c _ _ ?_⟩
    rw [hP]
    cases hf : flt c with
    | true =>
      refine iteT (he c _ _ hf ⟨_, upd_same, ?_, ?_⟩)
      · have h1 : (((z.cps.toList.take i).filter flt).map f).length ≤ z.cps.toList.length := by
          rw [List.length_map]
          exact Nat.le_trans (List.length_filter_le _ _) (List.length_take_le' _ _)
        rw [Array.length_toList] at h1
        exact Nat.lt_of_le_of_lt (Nat.le_trans h1 hz) (by show 1000000 < sizeLine; decide)
      · rw [upd_upd, htake, List.filter_append, List.map_append]
        simp [hf]
    | false =>
      refine iteF ?_
      rw [htake, List.filter_append, List.map_append]
      simp [hf]
  · rintro H rfl
    have e : z.cps.toList.take z.cps.size = z.cps.toList := List.take_of_length_le (by rw [Array.length_toList]; exact Nat.le_refl _)
    rw [e]
    exact hd
/-- whether a text is a name -/
def nameT (z : Str) : Bool := !decide (z ∈ resW) && (decide (1 ≤ z.length) && decide (z.length ≤ 8) && z.cps.toList.all fun c => decide (c ∈ letters.cps.toList))
def nameB : V → Bool
  | .str z => nameT z
  | _ => false
def resV : List V := resW.map V.str
theorem inV_str (z : Str) : ∀ ws : List Str, inV (.str z) (ws.map V.str) = decide (z ∈ ws)
  | [] => rfl
  | x :: r => by
    show (eqV (.str x) (.str z) || inV (.str z) (r.map V.str)) = decide (z ∈ x :: r)
    rw [inV_str z r]
    show ((x == z) || decide (z ∈ r)) = _
    by_cases h : z = x
    · subst h; simp
    · have h2 : ¬ x = z := fun e => h e.symm
      simp [h, h2]
theorem flat_strs (ws : List Str) : (ws.map V.str).all flatV = true := by
  induction ws with
  | nil => rfl
  | cons x r ih => show (true && (r.map V.str).all flatV) = true; rw [ih]; rfl
structure TxtK (K : PySem.W.Frag) (mg : Str → Option Value) : Prop extends Txt mg where
  c_LN : ∃ t, mg "LONGEST_NAME" = some (.int 8 t)
  c_LE : ∃ t, mg "LETTERS" = some (.str letters t)
  c_TW : ∃ a, mg "TEXT_WORDS" = some (.ref a) ∧ ∀ H, SqT K H a resV
def spName (K : PySem.W.Frag) : Sp := fun vs H Q _ => ∃ x, vs = [x] ∧ Anyv K H x ∧ (∀ z, x = .str z → z.length ≤ 1000000) ∧ ∀ H', Same H H' → Q (.bl (nameB x)) H'
section
variable {P : Program} {w : World} {K : PySem.W.Frag} {mg : Str → Option Value} {base : Heap}
theorem scIsName : FnScope ["value", "letter"] ["value"] (C8.fnScope sIsName) := C8.fnScope_by (by decide +kernel)
theorem fn_isname {f : Addr} {fd : FuncData} (F : C8.Def K mg "is_name" sIsName f fd) (T : TxtK K mg) : FnOk P w K mg base C8.CX0 1 f fd ["value"] (spName K) := by
  refine C8.fn0 F.fn scIsName (fun vs H Q E h => ?_) (fun cdv A outer st H vs Q E hr h => ?_)
  · obtain ⟨x, rfl, _⟩ := h
    rfl
  · obtain ⟨x, rfl, a, hl, k⟩ := h
    obtain ⟨t1, hLN⟩ := T.c_LN
    obtain ⟨t2, hLE⟩ := T.c_LE
    obtain ⟨aW, hW, hS⟩ := T.c_TW
    refine ⟨_, (pss_cons (ps_if (PW.pt (pw_or (pt_not (pt_val (pe_callB call_isz (by rfl) T.n_isinstance (by decide +kernel) (pa_cons (pv 0) (pa_cons (pe_bltn (v := .ty "str") (by rfl) T.n_str (by decide +kernel) rfl) pa_nil))))) (pw_or1 (pt_cmpR op_in_seq (pv 0) (pe_glob (v := .ref aW) rfl hW rfl) (by rfl))))) (pss_one (ps_ret pe_bl)) pss_nil)
  (pss_one (ps_ret (pe_and (pe_chain op_le op_le pe_int (pe_callB call_len_str (by rfl) T.n_len (by decide +kernel) (pa_cons (pv 0) pa_nil)) (pe_glob (v := .int 8) rfl hLN ⟨_, rfl⟩)) (pe_one (pe_callB (cr_all rfl) (by rfl) T.n_all (by decide +kernel) (pa_cons (pe_lc (own := [("letter", 1)]) (g := gName 1) (tt := tYes) rfl scIsName.nd (pi_str (pv 0)) (blkOk_by (own := [("letter", 1)]) (N := ["value", "letter"]) (sc := (C8.fnScope sIsName)) (by decide +kernel)) (fun _ _ _ _ _ => pg_name (i := 1) scIsName.nd rfl (Or.inl rfl)) (fun _ _ _ _ _ => pts_nil) (fun _ _ _ _ _ => (pe_cmpR op_in_sign (pv 1) (pe_glob (v := .str letters) rfl hLE ⟨_, rfl⟩) (by rfl)))) pa_nil))))))), ?_⟩
    refine ⟨_, rfl, ?_⟩
    dsimp only [tCons, tC, tNil]
    refine isz_str a ⟨_, rfl, ?_⟩
    cases a with
    | str z =>
      have hz := hl z rfl
      have hzl : z.length ≤ sizeLine := Nat.le_trans hz (by decide)
      refine iteF ?_
      refine ⟨_, rfl, aW, resV, rfl, .inr (hS _), rfl, flat_strs _, _, rfl, ite2 (fun c => ?_) (fun c => ?_)⟩
      · have e : nameT z = false := by
          unfold nameT
          rw [show (if false = true then !inV (.str z) resV else inV (.str z) resV) = inV (.str z) resV from rfl, resV, inV_str] at c
          rw [c]; rfl
        have := k H (Same.refl H)
        rw [show nameB (.str z) = nameT z from rfl, e] at this
        exact this
      · have c0 : decide (z ∈ resW) = false := by
          rw [show (if false = true then !inV (.str z) resV else inV (.str z) resV) = inV (.str z) resV from rfl, resV, inV_str] at c
          exact Bool.eq_false_iff.mpr c
        have kk : ∀ (bb : Bool) (H' : Hp), Same H H' → bb = nameT z → Q (.bl bb) H' := fun bb H' s e => by rw [e]; exact k H' s
        refine ⟨_, rfl, _, rfl, hzl, _, _, rfl, rfl, _, rfl, ite2 (fun c1 => ?_) (fun c1 => ?_)⟩
        · refine ⟨_, _, rfl, rfl, _, rfl, ite2 (fun c2 => ?_) (fun c2 => ?_)⟩
          · refine ⟨_, rfl, z, rfl, fun D hD => lc_text (fun c => [some (.str z), some (.str ⟨#[c]⟩)]) (fun _ => true) (fun c => .bl (decide (c ∈ letters.cps.toList))) (fun _ _ _ h => h) (fun _ => rfl) (fun _ _ _ h => h) (fun c _ _ _ h => ⟨_, rfl, c, letters, rfl, rfl, h⟩) hz ?_⟩
            refine ⟨D, z.cps.toList.map fun c => decide (c ∈ letters.cps.toList), rfl, SqL.of ?_, ?_⟩
            · rw [upd_same, List.filter_eq_self.mpr (fun _ _ => rfl), List.map_map]; rfl
            · refine kk _ _ (same_new hD) ?_
              unfold nameT
              rw [c0]
              have e1 : decide (1 ≤ z.length) = true := decide_eq_true (by have := of_decide_eq_true c1; omega)
              have e2 : decide (z.length ≤ 8) = true := decide_eq_true (by have := of_decide_eq_true c2; omega)
              rw [e1, e2, List.all_map]; rfl
          · refine kk _ _ (Same.refl H) ?_
            unfold nameT
            have e2 : decide (z.length ≤ 8) = false := decide_eq_false (by have := of_decide_eq_false (Bool.eq_false_iff.mpr c2); omega)
            rw [e2]; simp
        · refine ⟨_, rfl, iteF (kk _ _ (Same.refl H) ?_)⟩
          unfold nameT
          have e1 : decide (1 ≤ z.length) = false := decide_eq_false (by have := of_decide_eq_false (Bool.eq_false_iff.mpr c1); omega)
          rw [e1]; simp
    | int i => exact iteT (k H (Same.refl H))
    | bl b => exact iteT (k H (Same.refl H))
    | non => exact iteT (k H (Same.refl H))
    | obj h h1 h2 h3 => exact iteT (k H (Same.refl H))
theorem cal_isname {f : Addr} {fd : FuncData} (F : C8.Def K mg "is_name" sIsName f fd) (b : Binds K fd ["value"] []) (T : TxtK K mg) : C8.Cal P w K mg base 1 "is_name" (spName K) [] :=
  ⟨f, fd, _, [], fn_isname F T, F.mgf, F.kp, b, .nil⟩
theorem scIsName2 : FnScope ["_law_wordy", "_law_reserved", "_law_sign"] ["_law_wordy"] (C8.fnScope sIsName2) := C8.fnScope_by (by decide +kernel)
theorem dp_signs {K : PySem.W.Frag} {H : Hp} : ∀ cs : List Nat, DpAll K H (cs.map fun c => V.str ⟨#[c]⟩) (cs.map fun c => PyData.str ⟨#[c]⟩)
  | [] => .nil
  | c :: r => .cons (.str _) (dp_signs r)
theorem lay_signs : ∀ cs : List Nat, (∀ c ∈ cs, c < 1114112) → PyData.canLayAll0 (cs.map fun c => PyData.str ⟨#[c]⟩) = true
  | [], _ => rfl
  | c :: r, h => by
    have h1 : PyData.canLay0 (.str ⟨#[c]⟩) = true := by
      show (#[c] : Array Nat).all (· < 1114112) = true
      simp [h c List.mem_cons_self]
    show (PyData.canLay0 (.str ⟨#[c]⟩) && PyData.canLayAll0 (r.map fun c => PyData.str ⟨#[c]⟩)) = true
    rw [h1, lay_signs r fun d hd => h d (List.mem_cons_of_mem _ hd)]; rfl
theorem depth_signs : ∀ cs : List Nat, PyData.depthAll (cs.map fun c => PyData.str ⟨#[c]⟩) = 0
  | [] => rfl
  | c :: r => by
    show max 0 (PyData.depthAll (r.map fun c => PyData.str ⟨#[c]⟩)) = 0
    rw [depth_signs r]; rfl
theorem shaped_signs (cs : List Nat) (h : ∀ c ∈ cs, c < 1114112) : SeqAt.shaped (.list (cs.map fun c => PyData.str ⟨#[c]⟩)) = true := by
  unfold SeqAt.shaped
  have h1 : PyData.canLay0 (.list (cs.map fun c => PyData.str ⟨#[c]⟩)) = true := lay_signs cs h
  have h2 : PyData.depth (.list (cs.map fun c => PyData.str ⟨#[c]⟩)) = 1 := by
    show PyData.depthAll (cs.map fun c => PyData.str ⟨#[c]⟩) + 1 = 1
    rw [depth_signs]
  rw [h1, h2]; rfl
theorem eqv_signs (cs : List Nat) : PyData.eqv (.list (cs.map fun c => PyData.str ⟨#[c]⟩)) (.list []) = cs.isEmpty := by
  cases cs <;> rfl
theorem filt_nil (p : Nat → Bool) : ∀ l : List Nat, (l.filter fun c => !p c).isEmpty = l.all p
  | [] => rfl
  | c :: r => by
    have ih := filt_nil p r
    cases h : p c with
    | true => simp only [List.filter_cons, h, Bool.not_true, List.all_cons, Bool.true_and]; exact ih
    | false => simp [h]
def spName2 : Sp := fun vs H Q _ => ∃ z, vs = [.str z] ∧ z.length ≤ 1000000 ∧ (∀ c ∈ z.cps.toList, c < 1114112) ∧ ∀ H', Same H H' → Q (.bl (nameT z)) H'
theorem cal_isname2 {f : Addr} {fd : FuncData} (F : C8.Def K mg "_law_is_name" sIsName2 f fd) (b : Binds K fd ["_law_wordy"] []) (T : TxtK K mg) : C8.Cal P w K mg base 1 "_law_is_name" spName2 [] := by
  refine C8.cal0 F b .nil scIsName2 (fun vs H Q E h => ?_) (fun cdv A outer st H vs Q E hr h => ?_)
  · obtain ⟨z, rfl, _⟩ := h
    rfl
  · obtain ⟨z, rfl, hz, hk, k⟩ := h
    have hzl : z.length ≤ sizeLine := Nat.le_trans hz (by decide)
    refine ⟨_, (pss_cons (ps_set (i := 1) scIsName2.nd rfl (Or.inl rfl) (pe_lst (pa_cons pe_str (pa_cons pe_str (pa_cons pe_str (pa_cons pe_str (pa_cons pe_str (pa_cons pe_str (pa_cons pe_str (pa_cons pe_str (pa_cons pe_str (pa_cons pe_str pa_nil))))))))))))
  (pss_cons (ps_if (PW.pt (pw_or (pt_cmpR op_lt (pe_callB call_len_str (by rfl) T.n_len (by decide +kernel) (pa_cons (pv 0) pa_nil)) pe_int (nomark _)) (pw_or (pt_cmpR op_gt (pe_callB call_len_str (by rfl) T.n_len (by decide +kernel) (pa_cons (pv 0) pa_nil)) pe_int (nomark _)) (pw_or1 (pt_cmpR op_in_seq (pv 0) (pv 1) (by rfl)))))) (pss_one (ps_ret pe_bl)) pss_nil)
  (pss_one (ps_ret (pe_cmpR (op_eqD hr.units) (pe_lc (own := [("_law_sign", 2)]) (g := gName 2) rfl scIsName2.nd (pi_str (pv 0)) (blkOk_by (own := [("_law_sign", 2)]) (N := ["_law_wordy", "_law_reserved", "_law_sign"]) (sc := (C8.fnScope sIsName2)) (by decide +kernel)) (fun _ _ _ _ _ => pg_name (i := 2) scIsName2.nd rfl (Or.inl rfl)) (fun _ _ _ _ _ => pts_one (pt_cmpR op_notIn_sign (pv 2) pe_str (by rfl))) (fun _ _ _ _ _ => (pv 2))) (pe_lst pa_nil) (nomark _)))))), ?_⟩
    refine ⟨(by show 10 ≤ sizeLine; decide), fun a ha => ?_⟩
    have s1 := same_new (o := HO.lst resV) ha
    have hl : upd H a (HO.lst resV) a = some (.lst resV) := upd_same
    show tSeq _ _ _ _ (upd H a (HO.lst resV))
    generalize upd H a (HO.lst resV) = H1 at s1 hl ⊢
    have kk : ∀ (bb : Bool) (H' : Hp), Same H1 H' → bb = nameT z → Q (.bl bb) H' := fun bb H' s e => by rw [e]; exact k H' (s1.trans s)
    have no1 : ∀ (H' : Hp), nameT z = false → Same H1 H' → Q (.bl false) H' := fun H' e s => kk _ H' s e.symm
    have yes : z.length ≤ 8 → 1 ≤ z.length → decide (z ∈ resW) = false → nameT z = z.cps.toList.all fun c => decide (c ∈ letters.cps.toList) := fun h1 h2 h3 => by
      unfold nameT
      rw [h3, decide_eq_true h1, decide_eq_true h2]; rfl
    have nores : decide (z ∈ resW) = true → nameT z = false := fun h => by
      unfold nameT
      rw [h]; rfl
    refine ⟨_, rfl, _, rfl, hzl, _, _, rfl, rfl, _, rfl, ite2 (fun c1 => ?_) (fun c1 => ?_)⟩
    · refine iteT (no1 _ ?_ (Same.refl _))
      unfold nameT
      rw [decide_eq_false (show ¬ 1 ≤ z.length by have := of_decide_eq_true c1; omega)]
      simp
    · have d1 : 1 ≤ z.length := by have := of_decide_eq_false (Bool.eq_false_iff.mpr c1); omega
      refine ⟨_, rfl, _, rfl, hzl, _, _, rfl, rfl, _, rfl, ite2 (fun c2 => ?_) (fun c2 => ?_)⟩
      · refine iteT (no1 _ ?_ (Same.refl _))
        unfold nameT
        rw [decide_eq_false (show ¬ z.length ≤ 8 by have := of_decide_eq_true c2; omega)]
        simp
      · have d2 : z.length ≤ 8 := by have := of_decide_eq_false (Bool.eq_false_iff.mpr c2); omega
        refine ⟨_, rfl, _, rfl, a, resV, rfl, .inl (SqL.of hl), rfl, flat_strs _, _, rfl, ite2 (fun c3 => ?_) (fun c3 => ?_)⟩
        · rw [show (if false = true then !inV (.str z) resV else inV (.str z) resV) = inV (.str z) resV from rfl, resV, inV_str] at c3
          exact no1 _ (nores c3) (Same.refl _)
        · rw [show (if false = true then !inV (.str z) resV else inV (.str z) resV) = inV (.str z) resV from rfl, resV, inV_str] at c3
          have e3 := yes d2 d1 (Bool.eq_false_iff.mpr c3)
          refine ⟨_, rfl, z, rfl, fun D hD => lc_text (fun c => [some (.str z), some (.ref a), some (.str ⟨#[c]⟩)]) (fun c => !decide (c ∈ letters.cps.toList)) (fun c => .str ⟨#[c]⟩) (fun _ _ _ h => h) (fun _ => rfl)
            (fun c _ _ h => ⟨_, rfl, c, letters, rfl, rfl, _, rfl, h⟩) (fun c _ _ _ h => ⟨_, rfl, h⟩) hz ?_⟩
          refine ⟨(by show 0 ≤ sizeLine; decide), fun q hq => ?_⟩
          have sD := same_new (o := HO.lst ((z.cps.toList.filter fun c => !decide (c ∈ letters.cps.toList)).map fun c => V.str ⟨#[c]⟩)) hD
          have nq : D ≠ q := fun e => by rw [← e, upd_same] at hq; cases hq
          have okc : ∀ c ∈ (z.cps.toList.filter fun c => !decide (c ∈ letters.cps.toList)), c < 1114112 := fun c hc => hk c (List.mem_filter.mp hc).1
          refine ⟨_, _, .lst (SqL.of ?_) (dp_signs _), .lst (SqL.of upd_same) .nil, shaped_signs _ okc, rfl, ?_⟩
          · rw [upd_ne nq, upd_same]
          · refine kk _ _ (sD.trans (same_new hq)) ?_
            rw [e3, eqv_signs]
            exact filt_nil _ _
end
end Lw
namespace Lw
open PySem PySem.Spec PyProof.Rows L2

open SX PySem.NumText
/-! ### texts as lists of signs -/
def figs : List Nat → List Nat
  | 45 :: r => r
  | cs => cs
theorem figs_minus (r : List Nat) : figs (45 :: r) = r := rfl
theorem figs_other {c : Nat} (r : List Nat) (h : c ≠ 45) : figs (c :: r) = c :: r := by
  unfold figs
  split
  · rename_i e
    exact absurd (List.cons.inj e).1 h
  · rfl
theorem len1 : Str.length (S [45]) = 1 := rfl
theorem sub_head (c d : Nat) (r : List Nat) : Builtin.Str.subAt (S (c :: r)) (S [d]) 0 = decide (c = d) := by
  unfold Builtin.Str.subAt
  show ((c :: r).toArray.extract 0 (0 + 1) == #[d]) = _
  simp
  by_cases h : c = d <;> simp [h]
theorem rm_minus (cs : List Nat) : Txt.removeprefix (S cs) (S [45]) = S (figs cs) := by
  unfold Txt.removeprefix
  cases cs with
  | nil => rfl
  | cons c r =>
    rw [sub_head]
    by_cases h : c = 45
    · subst h
      rw [figs_minus]
      simp only [decide_true, if_true]
      show (if (((45 :: r).toArray.size - 1) == (45 :: r).toArray.size) = true then S (45 :: r) else Builtin.Str.strSub (S (45 :: r)) 1 ((45 :: r).toArray.size)) = S r
      have e : ((45 :: r).toArray.size - 1 == (45 :: r).toArray.size) = false := by simp
      rw [e]
      simp [Builtin.Str.strSub, S]
    · rw [figs_other r h]
      simp only [decide_eq_false h, Bool.false_eq_true, if_false]
      rfl
theorem sw_head (c d : Nat) (r : List Nat) : Txt.startswith (S (c :: r)) (S [d]) = decide (c = d) := by
  unfold Txt.startswith
  rw [sub_head]
  have e : decide (0 + (S [d]).length ≤ (S (c :: r)).length) = true := decide_eq_true (by rw [S_len, S_len]; simp)
  rw [e, Bool.true_and]
theorem sw_nil (d : Nat) : Txt.startswith (S []) (S [d]) = false := by
  unfold Txt.startswith
  have e : decide (0 + (S [d]).length ≤ (S []).length) = false := decide_eq_false (by rw [S_len, S_len]; simp)
  rw [e, Bool.false_and]
theorem ascii_S {cs : List Nat} (h : ∀ c ∈ cs, c < 128) : Txt.isascii (S cs) = true := by
  unfold Txt.isascii
  show cs.toArray.all (· < 128) = true
  simp only [List.all_toArray, List.all_eq_true, decide_eq_true_eq]
  exact h
theorem dig128 : ∀ c, c < 128 → Unicode.isDigit c = (decide (48 ≤ c) && decide (c ≤ 57)) := by decide +kernel
/-- all are figures, and there is one -/
def digB (cs : List Nat) : Bool := !cs.isEmpty && cs.all fun c => decide (48 ≤ c) && decide (c ≤ 57)
theorem isdigit_S {cs : List Nat} (h : ∀ c ∈ cs, c < 128) : Txt.isdigit (S cs) = digB cs := by
  unfold Txt.isdigit digB
  have e1 : decide ((S cs).length > 0) = !cs.isEmpty := by
    rw [S_len]
    cases cs <;> simp
  have e2 : (S cs).cps.all Unicode.isDigit = cs.all fun c => decide (48 ≤ c) && decide (c ≤ 57) := by
    show cs.toArray.all Unicode.isDigit = _
    rw [List.all_toArray]
    induction cs with
    | nil => rfl
    | cons c r ih =>
      rw [List.all_cons, List.all_cons, dig128 c (h c List.mem_cons_self), ih (fun d hd => h d (List.mem_cons_of_mem _ hd)) (by rw [S_len]; cases r <;> simp)]
  rw [e1, e2]
theorem digB_all {cs : List Nat} (h : digB cs = true) : AllDigits cs ∧ cs ≠ [] := by
  unfold digB at h
  rw [Bool.and_eq_true] at h
  refine ⟨fun c hc => ?_, fun e => by rw [e] at h; exact absurd h.1 (by decide)⟩
  have := List.all_eq_true.mp h.2 c hc
  rw [Bool.and_eq_true, decide_eq_true_eq, decide_eq_true_eq] at this
  exact this
theorem figs_sub {cs : List Nat} {c : Nat} (h : c ∈ figs cs) : c ∈ cs := by
  unfold figs at h
  split at h
  · exact List.mem_cons_of_mem _ h
  · exact h
theorem figs_len (cs : List Nat) : (figs cs).length ≤ cs.length := by
  unfold figs
  split
  · simp
  · exact Nat.le_refl _
/-! ### what figures are worth -/
theorem fold_app (a b : List Nat) (x : Nat) : (a ++ b).foldl (fun acc c => acc * 10 + (c - 48)) x = b.foldl (fun acc c => acc * 10 + (c - 48)) (a.foldl (fun acc c => acc * 10 + (c - 48)) x) := List.foldl_append
theorem fold_from : ∀ (b : List Nat) (x : Nat), b.foldl (fun acc c => acc * 10 + (c - 48)) x = x * 10 ^ b.length + digitsVal b
  | [], x => by simp [digitsVal]
  | c :: r, x => by
    show r.foldl _ (x * 10 + (c - 48)) = x * 10 ^ (r.length + 1) + r.foldl _ (0 * 10 + (c - 48))
    rw [fold_from r, fold_from r (0 * 10 + (c - 48)), Nat.pow_succ, Nat.zero_mul, Nat.zero_add, Nat.add_mul, Nat.mul_assoc, Nat.mul_comm 10 (10 ^ r.length), Nat.add_assoc]
theorem val_app (a b : List Nat) : digitsVal (a ++ b) = digitsVal a * 10 ^ b.length + digitsVal b := by
  show (a ++ b).foldl _ 0 = _
  rw [fold_app, fold_from b]; rfl
theorem val_zeros : ∀ k : Nat, digitsVal (List.replicate k 48) = 0
  | 0 => rfl
  | k + 1 => val_zeros k
theorem val_lt : ∀ cs : List Nat, AllDigits cs → digitsVal cs < 10 ^ cs.length
  | [], _ => by decide
  | c :: r, h => by
    have h1 := h c List.mem_cons_self
    have ih := val_lt r fun d hd => h d (List.mem_cons_of_mem _ hd)
    have e : digitsVal (c :: r) = (c - 48) * 10 ^ r.length + digitsVal r := by
      rw [show c :: r = [c] ++ r from rfl, val_app]
      show (0 * 10 + (c - 48)) * _ + _ = _
      rw [Nat.zero_mul, Nat.zero_add]
    rw [e, List.length_cons, Nat.pow_succ]
    have h2 : (c - 48) * 10 ^ r.length ≤ 9 * 10 ^ r.length := Nat.mul_le_mul_right _ (by omega)
    omega
theorem ten_two (n : Nat) : 10 ^ n ≤ 2 ^ (4 * n) := by
  rw [Nat.pow_mul]
  exact Nat.pow_le_pow_left (by decide) n
theorem all_zeros (k : Nat) : AllDigits (List.replicate k 48) := fun c hc => by
  rw [List.eq_of_mem_replicate hc]
  decide
theorem AllDigits.app {a b : List Nat} (ha : AllDigits a) (hb : AllDigits b) : AllDigits (a ++ b) := fun c hc => (List.mem_append.mp hc).elim (ha c) (hb c)
/-- the integer that a text writes just as str does -/
def intOf (cs : List Nat) : Option Int :=
  if digB (figs cs) = true then
    if (figs cs).head? = some 48 ∧ cs ≠ [48] then none
    else if cs.head? = some 45 then some (-((digitsVal (figs cs) : Nat) : Int)) else some ((digitsVal (figs cs) : Nat) : Int)
  else none
def optV : Option Int → V
  | none => .non
  | some i => .int i
end Lw
namespace Lw
open PySem PySem.Spec PyProof.Rows L2

open SX PySem.NumText
abbrev sIntOf : Stmt := top 19
theorem rep_list (z : Array Nat) : ∀ n : Nat, ∀ acc : Array Nat, ((List.replicate n z).foldl (· ++ ·) acc).toList = acc.toList ++ (List.replicate n z.toList).flatten
  | 0, acc => by simp
  | n + 1, acc => by
    rw [List.replicate_succ, List.foldl_cons, rep_list z n, List.replicate_succ, List.flatten_cons, Array.toList_append, List.append_assoc]
/-- a text, so many times -/
theorem op_mulS {X : Cx} : OpR X (binaryOp .Mult) (fun x y H Q => ∃ (cs : List Nat) (n : Int), x = .str (S cs) ∧ y = .int n ∧ 0 ≤ n ∧ n ≤ 10000 ∧ cs.length ≤ 1000 ∧ Q (.str (S (List.replicate n.toNat cs).flatten)) H) := by
  intro pins s σ H x y v u Q I rx ry h
  obtain ⟨cs, n, rfl, rfl, h0, h1, h2, q⟩ := h
  obtain ⟨t, rfl⟩ := rx
  obtain ⟨t2, rfl⟩ := ry
  refine PySem.P.mul_str ?_ ?_ ?_ ?_
  · rw [decide_eq_false (show ¬ n < -(2 ^ 63 : Int) by omega), decide_eq_false (show ¬ n ≥ 2 ^ 63 by omega)]; rfl
  · intro hn _ hz
    rw [S_len] at hz
    have : (9223372036854775807 : Int) / n ≥ 922337203685477 := by
      rw [ge_iff_le, Int.le_ediv_iff_mul_le (by omega)]
      omega
    have e : ((2 : Int) ^ 63 - 1) = 9223372036854775807 := by decide
    rw [e] at hz
    omega
  · intro hn _
    rw [S_len]
    have : cs.length * n.toNat ≤ 1000 * 10000 := Nat.mul_le_mul h2 (by omega)
    refine decide_eq_false ?_
    exact Nat.not_lt.mpr (Nat.le_trans this (by rw [sizeLine_eq]; decide))
  · by_cases hn : n < 1
    · rw [if_pos hn]
      have e : n.toNat = 0 := by omega
      rw [e] at q
      exact ⟨by decide, ⟨.str (S []), H, I.tok _, ⟨_, rfl⟩, q⟩⟩
    · rw [if_neg hn]
      by_cases hc : (n == 1 || (S cs).length == 0) = true
      · rw [if_pos hc]
        have e : (List.replicate n.toNat cs).flatten = cs := by
          rw [Bool.or_eq_true, beq_iff_eq, beq_iff_eq, S_len] at hc
          rcases hc with e | e
          · subst e; simp
          · rw [List.length_eq_zero_iff.mp e]; simp
        rw [e] at q
        exact ⟨.str (S cs), H, I, ⟨t, rfl⟩, q⟩
      · rw [if_neg hc]
        have e : (⟨(List.replicate n.toNat (S cs).cps).foldl (· ++ ·) #[]⟩ : Str) = S (List.replicate n.toNat cs).flatten := by
          refine congrArg Str.mk ?_
          refine Array.toList_inj.mp ?_
          rw [rep_list]; simp [S]
        rw [e]
        refine ⟨?_, ⟨.str _, H, I.tok _, ⟨_, rfl⟩, q⟩⟩
        rw [S_len, List.length_flatten, List.map_replicate, List.sum_replicate_nat]
        exact Nat.le_trans (Nat.mul_le_mul (show n.toNat ≤ 10000 by omega) h2) (by rw [sizeLine_eq]; decide)
theorem join_ifS {c : TT} {t u : TS} {D : Ends} {σ : L2.St} {H : Hp} (Pj : L2.St → Hp → Prop) (hr : ∀ σ' H', Pj σ' H' → D.nx σ' H') (h : (∀ σ' H', Pj σ' H' → D.nx σ' H') → tIfS c t u D σ H) : tIfS c t u D σ H := h hr
theorem nxt {t u : TS} {D D' : Ends} {σ : L2.St} {H : Hp} (e : D'.nx = tSeq t u D) (h : t { D with nx := u D } σ H) : tNext D' σ H := by
  show D'.nx σ H
  rw [e]; exact h
theorem slice_mid {a : List Nat} {i j : Int} (h0 : 0 ≤ i) (h1 : i ≤ j) (h2 : j ≤ (a.length : Int)) : Txt.slice (S a) (some i) (some j) = S ((a.drop i.toNat).take (j - i).toNat) :=
  beq_iff_eq.mp (PyProof.Rows.slice_closesL (x := S a) h0 h1 (by rw [S_len]; exact h2))
theorem rg60 (m : Nat) (hm : m ≤ 1000) : RgC 0 ((60 * m : Nat) : Int) 60 m := by
  refine ⟨by decide, by decide, ?_, ?_⟩
  · have key : ∀ x : Int, 0 ≤ x → x ≤ 100000 → Builtin.Range.rangeFitsLong x = true := fun x h0 h1 => by
      unfold Builtin.Range.rangeFitsLong
      rw [decide_eq_true (show -(2 ^ 63) ≤ x by omega), decide_eq_true (show x < 2 ^ 63 by omega)]; rfl
    have size : Builtin.Range.rangeSize 0 ((60 * m : Nat) : Int) 60 = (m : Int) := by
      unfold Builtin.Range.rangeSize
      rw [if_pos (show (60 : Int) > 0 by decide)]
      split <;> omega
    unfold Builtin.Range.small
    rw [size, if_pos (show (60 : Int) > 0 by decide), key 0 (by omega) (by omega), key _ (by omega) (by omega), key 60 (by omega) (by omega), key _ (by omega) (by omega), key _ (by omega) (by omega)]
    simp
  · unfold Builtin.Range.rangeSize
    rw [if_pos (show (60 : Int) > 0 by decide)]
    split <;> omega
structure TxtN (K : PySem.W.Frag) (mg : Str → Option Value) : Prop extends TxtK K mg where
  c_PF : ∃ t, mg "PIECE_FIGURES" = some (.int 60 t)
  c_PW : ∃ t, mg "PIECE_WORTH" = some (.int (10 ^ 60) t)
def TextOk (x : V) : Prop := ∀ z, x = .str z → ∃ cs, z = S cs ∧ (∀ c ∈ cs, c < 128) ∧ cs.length ≤ 3000
def intV : V → Option Int
  | .str z => intOf z.cps.toList
  | _ => none
def spIntOf (K : PySem.W.Frag) : Sp := fun vs H Q _ => ∃ x, vs = [x] ∧ Anyv K H x ∧ TextOk x ∧ Q (optV (intV x)) H
section
variable {P : Program} {w : World} {K : PySem.W.Frag} {mg : Str → Option Value} {base : Heap}
theorem scIntOf : FnScope ["word", "figures", "filled", "worth", "at"] ["word"] (C8.fnScope sIntOf) := C8.fnScope_by (by decide +kernel)
theorem cal_intof {f : Addr} {fd : FuncData} (F : C8.Def K mg "integer_of" sIntOf f fd) (b : Binds K fd ["word"] []) (T : TxtN K mg) : C8.Cal P w K mg base 1 "integer_of" (spIntOf K) [] := by
  refine C8.cal0 F b .nil scIntOf (fun vs H Q E h => ?_) (fun cdv A outer st H vs Q E hr h => ?_)
  · obtain ⟨x, rfl, _⟩ := h
    rfl
  · obtain ⟨x, rfl, a, ok, k⟩ := h
    obtain ⟨t1, hPF⟩ := T.c_PF
    obtain ⟨t2, hPW⟩ := T.c_PW
    refine ⟨_, (pss_cons (ps_if (pt_not (pt_val (pe_callB call_isz (by rfl) T.n_isinstance (by decide +kernel) (pa_cons (pv 0) (pa_cons (pe_bltn (v := .ty "str") (by rfl) T.n_str (by decide +kernel) rfl) pa_nil))))) (pss_one (ps_ret pe_non)) pss_nil)
  (pss_cons (ps_set (i := 1) scIntOf.nd rfl (Or.inl rfl) (pe_m1 PySem.F.slot_str_removeprefix PySem.F.type_str_removeprefix mt_removeprefix (pv 0) pe_str))
  (pss_cons (ps_if (PW.pt (pw_or (pt_not (pt_val (pe_m0 PySem.F.slot_str_isascii PySem.F.type_str_isascii mt_isascii (pv 1)))) (pw_or1 (pt_not (pt_val (pe_m0 PySem.F.slot_str_isdigit PySem.F.type_str_isdigit mt_isdigit (pv 1))))))) (pss_one (ps_ret pe_non)) pss_nil)
  (pss_cons (ps_if (PW.pt (pw_and (pt_val (pe_m1 PySem.F.slot_str_startswith PySem.F.type_str_startswith mt_startswith (pv 1) pe_str)) (pw_and1 (pt_cmpR op_ne (pv 0) pe_str (nomark _))))) (pss_one (ps_ret pe_non)) pss_nil)
  (pss_cons (ps_set (i := 2) scIntOf.nd rfl (Or.inl rfl) (pe_op op_add_str (pe_op op_mulS pe_str (pe_op op_modN (pe_un un_neg (pe_callB call_len_str (by rfl) T.n_len (by decide +kernel) (pa_cons (pv 1) pa_nil))) (pe_glob (v := .int 60) rfl hPF ⟨_, rfl⟩))) (pv 1)))
  (pss_cons (ps_set (i := 3) scIntOf.nd rfl (Or.inl rfl) pe_int)
  (pss_cons (ps_for PassesOwn.never rfl (pi_range3 (by rfl) T.n_range (pa_cons pe_int (pa_cons (pe_callB call_len_str (by rfl) T.n_len (by decide +kernel) (pa_cons (pv 2) pa_nil)) (pa_cons (pe_glob (v := .int 60) rfl hPF ⟨_, rfl⟩) pa_nil)))) (pg_name (i := 4) scIntOf.nd rfl (Or.inl rfl)) (pss_one (ps_set (i := 3) scIntOf.nd rfl (Or.inl rfl) (pe_op op_add (pe_op op_mulW (pv 3) (pe_glob (v := .int (10 ^ 60)) rfl hPW ⟨_, rfl⟩)) (pe_callTy call_int_str (by rfl) T.n_int (by decide +kernel) (pa_cons (pe_slice C8.sl_txt (pv 2) (po_some (pv 4)) (po_some (pe_op op_add (pv 4) (pe_glob (v := .int 60) rfl hPF ⟨_, rfl⟩)))) pa_nil))))))
  (pss_one (ps_ret (pe_ifExp (pt_val (pe_m1 PySem.F.slot_str_startswith PySem.F.type_str_startswith mt_startswith (pv 0) pe_str)) (pe_un un_neg (pv 3)) (pv 3))))))))))), ?_⟩
    refine ⟨_, rfl, ?_⟩
    dsimp only [tCons, tC, tNil]
    refine isz_str a ⟨_, rfl, ?_⟩
    cases a with
    | str z =>
      obtain ⟨cs, rfl, h128, hlen⟩ := ok z rfl
      refine iteF ?_
      have hl : (S cs).length ≤ sizeLine := by rw [S_len]; exact Nat.le_trans hlen (by decide)
      have f128 : ∀ c ∈ figs cs, c < 128 := fun c hc => h128 c (figs_sub hc)
      have flen : (figs cs).length ≤ 3000 := Nat.le_trans (figs_len cs) hlen
      refine ⟨_, rfl, ⟨_, rfl⟩, _, _, rfl, rfl, hl, ?_⟩
      rw [show (Str.ofString "-") = S [45] from rfl, rm_minus]
      refine ⟨_, rfl, ⟨_, rfl⟩, _, rfl, rfl, trivial, _, rfl, ?_⟩
      rw [ascii_S f128]
      refine iteF ⟨_, rfl, ⟨_, rfl⟩, _, rfl, rfl, trivial, _, rfl, ?_⟩
      rw [isdigit_S f128]
      have kk : ∀ o : Option Int, o = intOf cs → Q (optV o) H := fun o e => by rw [e]; exact k
      cases hd : digB (figs cs) with
      | false =>
        refine iteT (kk none ?_)
        unfold intOf
        rw [hd]; rfl
      | true =>
        refine iteF ?_
        obtain ⟨hall, hne⟩ := digB_all hd
        obtain ⟨f, fr, hfig⟩ : ∃ f fr, figs cs = f :: fr := by
          cases e : figs cs with
          | nil => exact absurd e hne
          | cons f fr => exact ⟨f, fr, rfl⟩
        have bad : ¬ ((figs cs).head? = some 48 ∧ cs ≠ [48]) → ∀ o : Option Int, (o = if cs.head? = some 45 then some (-((digitsVal (figs cs) : Nat) : Int)) else some ((digitsVal (figs cs) : Nat) : Int)) → Q (optV o) H := fun hb o e => by
          refine kk o ?_
          unfold intOf
          rw [if_pos hd, if_neg hb]; exact e
        have s0 : Str.ofString "0" = S [48] := rfl
        dsimp only [tNext, tSeq]
        refine join_ifS (fun σ' H' => σ' = [some (.str (S cs)), some (.str (S (figs cs))), none, none, none] ∧ H' = H ∧ ¬ ((figs cs).head? = some 48 ∧ cs ≠ [48])) ?rest (fun go => ?_)
        case rest =>
          rintro σ' H' ⟨rfl, rfl, hb⟩
          have fl : ((S (figs cs)).length : Int) = ((figs cs).length : Int) := by rw [S_len]
          obtain ⟨pad, hpad⟩ : ∃ pad : Nat, Int.fmod (-((S (figs cs)).length : Int)) 60 = (pad : Int) := ⟨(Int.fmod (-((S (figs cs)).length : Int)) 60).toNat, by have := fm0 (a := -((S (figs cs)).length : Int)) (d := 60) (by decide); omega⟩
          have hpad' : (-((figs cs).length : Int)) % 60 = (pad : Int) := by rw [← fl, ← hpad, Int.fmod_eq_emod_of_nonneg _ (by decide)]
          obtain ⟨m, hm⟩ : ∃ m : Nat, pad + (figs cs).length = 60 * m := ⟨(pad + (figs cs).length) / 60, by omega⟩
          have hfl : (S (figs cs)).length ≤ sizeLine := by rw [S_len]; exact Nat.le_trans flen (by decide)
          refine ⟨_, rfl, _, rfl, hfl, _, rfl, _, _, rfl, rfl, (by show ¬ (_ = _); decide), [48], _, s0 ▸ rfl, rfl, ?_⟩
          rw [hpad]
          have pl : pad < 60 := by omega
          have ez : (List.replicate ((pad : Int).toNat) [48]).flatten = List.replicate pad 48 := by
            rw [Int.toNat_natCast]
            induction pad with
            | zero => rfl
            | succ p ih => rw [List.replicate_succ, List.flatten_cons, List.replicate_succ]; simp
          rw [ez]
          obtain ⟨fill, hfill⟩ : ∃ fill, fill = List.replicate pad 48 ++ figs cs := ⟨_, rfl⟩
          have flenF : fill.length = 60 * m := by rw [hfill, List.length_append, List.length_replicate]; exact hm
          have allF : AllDigits fill := by rw [hfill]; exact AllDigits.app (all_zeros pad) hall
          have valF : digitsVal fill = digitsVal (figs cs) := by rw [hfill, val_app, val_zeros, Nat.zero_mul, Nat.zero_add]
          have hm60 : m ≤ 60 := by omega
          have lF : (S fill).length ≤ sizeLine := by rw [S_len, flenF]; exact Nat.le_trans (show 60 * m ≤ 3600 by omega) (by decide)
          refine ⟨by omega, by omega, by decide, _, rfl, _, _, rfl, rfl, ?_, ?_⟩
          · rw [S_len, S_len, List.length_replicate]; exact Nat.le_trans (show pad + (figs cs).length ≤ 3600 by omega) (by decide)
          rw [S_cat, ← hfill]
          refine ⟨_, rfl, _, rfl, lF, 0, _, 60, m, rfl, ?_, for_rangeC (fun i σ' H2 => ∃ at_, σ' = [some (V.str (S cs)), some (V.str (S (figs cs))), some (V.str (S fill)), some (V.int ((digitsVal (fill.take (60 * i)) : Nat) : Int)), at_] ∧ H2 = H') ⟨none, rfl, rfl⟩ ?_ ?_⟩
          · rw [show ((S fill).length : Int) = ((60 * m : Nat) : Int) by rw [S_len, flenF]]
            exact rg60 m (by omega)
          · rintro i σ' H2 hi ⟨at_, rfl, rfl⟩
            have h60 : 60 * i + 60 ≤ 60 * m := by omega
            have sl : Txt.slice (S fill) (some (0 + ((i : Nat) : Int) * 60)) (some (0 + ((i : Nat) : Int) * 60 + 60)) = S ((fill.drop (60 * i)).take 60) := by
              rw [slice_mid (by omega) (by omega) (by rw [flenF]; omega)]
              rw [show (0 + ((i : Nat) : Int) * 60).toNat = 60 * i by omega, show (0 + ((i : Nat) : Int) * 60 + 60 - (0 + ((i : Nat) : Int) * 60)).toNat = 60 by omega]
            have cl : ((fill.drop (60 * i)).take 60).length = 60 := by rw [List.length_take, List.length_drop, flenF]; omega
            have cd : AllDigits ((fill.drop (60 * i)).take 60) := fun c hc => allF c (List.mem_of_mem_drop (List.mem_of_mem_take hc))
            have tk : fill.take (60 * (i + 1)) = fill.take (60 * i) ++ (fill.drop (60 * i)).take 60 := by rw [Nat.mul_succ, List.take_add]
            have td : AllDigits (fill.take (60 * i)) := fun c hc => allF c (List.mem_of_mem_take hc)
            have tl : (fill.take (60 * i)).length = 60 * i := by rw [List.length_take, flenF]; omega
            have big : (((digitsVal (fill.take (60 * i)) : Nat) : Int)).natAbs < 2 ^ (4 * (60 * i) + 1) := by
              have h1 := val_lt _ td
              rw [tl] at h1
              have h2 := ten_two (60 * i)
              have h3 : (2 : Nat) ^ (4 * (60 * i)) < 2 ^ (4 * (60 * i) + 1) := Nat.pow_lt_pow_right (by decide) (by omega)
              rw [Int.natAbs_natCast]
              omega
            refine ⟨_, rfl, _, _, rfl, rfl, wide_mul big (show ((10 : Int) ^ 60).natAbs < 2 ^ 240 by decide) (by omega) (by decide) (by omega), ?_⟩
            have hint : intText? (Txt.slice (S fill) (some (0 + ((i : Nat) : Int) * 60)) (some (0 + ((i : Nat) : Int) * 60 + 60))) = some ((digitsVal ((fill.drop (60 * i)).take 60) : Nat) : Int) := by
              rw [sl]
              exact intText_digits (x := S ((fill.drop (60 * i)).take 60)) cd (fun e => by rw [show (fill.drop (60 * i)).take 60 = [] from e] at cl; exact absurd cl (by decide)) (by rw [S_len, cl]; decide)
            have hsl : (Txt.slice (S fill) (some (0 + ((i : Nat) : Int) * 60)) (some (0 + ((i : Nat) : Int) * 60 + 60))).length ≤ 640 := by rw [sl, S_len, cl]; decide
            have val : ((digitsVal (fill.take (60 * i)) : Nat) : Int) * 10 ^ 60 + ((digitsVal ((fill.drop (60 * i)).take 60) : Nat) : Int) = ((digitsVal (fill.take (60 * (i + 1))) : Nat) : Int) := by
              rw [tk, val_app, cl]
              rw [Int.natCast_add, Int.natCast_mul, Int.natCast_pow]; rfl
            refine ⟨_, rfl, ⟨_, rfl, _, rfl, ⟨_, rfl, _, _, rfl, rfl, _, rfl, _, rfl, lF, _, _, rfl, hint, hsl, _, _, rfl, rfl, some (V.int (0 + ((i : Nat) : Int) * 60)), ?_, rfl⟩⟩⟩
            rw [← val]; rfl
          · rintro σ' H2 ⟨at_, rfl, rfl⟩
            have full : fill.take (60 * m) = fill := List.take_of_length_le (by omega)
            rw [full, valF]
            refine ⟨_, rfl, ⟨_, rfl⟩, _, _, rfl, rfl, _, rfl, ?_⟩
            obtain ⟨c, r, hcs⟩ : ∃ c r, cs = c :: r := by
              cases e : cs with
              | nil => rw [e] at hfig; cases hfig
              | cons c r => exact ⟨c, r, rfl⟩
            have esw : Txt.startswith (S cs) (S [45]) = decide (c = 45) := by rw [hcs]; exact sw_head c 45 r
            rw [esw]
            refine ite2 (fun c2 => ?_) (fun c2 => ?_)
            · have e2 : c = 45 := of_decide_eq_true c2
              refine ⟨_, rfl, _, rfl, bad hb (some (-((digitsVal (figs cs) : Nat) : Int))) ?_⟩
              rw [if_pos (show cs.head? = some 45 by rw [hcs, e2]; rfl)]
            · have e2 : c ≠ 45 := of_decide_eq_false (Bool.eq_false_iff.mpr c2)
              refine ⟨_, rfl, bad hb (some ((digitsVal (figs cs) : Nat) : Int)) ?_⟩
              rw [if_neg (show ¬ cs.head? = some 45 by rw [hcs]; exact fun z => e2 (Option.some.inj z))]
        refine ⟨_, rfl, ⟨_, rfl⟩, _, _, rfl, rfl, _, rfl, ?_⟩
        rw [hfig, s0, sw_head]
        refine ite2 (fun c0 => ?_) (fun c0 => ?_)
        · refine ⟨_, rfl, rfl, _, rfl, ite2 (fun c1 => ?_) (fun c1 => ?_)⟩
          · refine kk none ?_
            unfold intOf
            rw [if_pos hd, if_pos]
            refine ⟨by rw [hfig, of_decide_eq_true c0]; rfl, fun e => ?_⟩
            rw [e] at c1
            exact absurd c1 (by decide)
          · refine go _ _ ⟨by rw [hfig]; rfl, rfl, fun hb => hb.2 ?_⟩
            have e : V.str (S cs) = V.str (S [48]) := by simpa using c1
            exact S_inj (V.str.inj e)
        · refine iteF (go _ _ ⟨by rw [hfig]; rfl, rfl, fun hb => ?_⟩)
          rw [hfig] at hb
          have e : f = 48 := Option.some.inj hb.1
          exact c0 (decide_eq_true e)
    | int i => exact iteT k
    | bl b => exact iteT k
    | non => exact iteT k
    | obj h h1 h2 h3 => exact iteT k
end
end Lw
namespace Lw
open PySem PySem.Spec PyProof.Rows L2

open SX PySem.NumText TL
abbrev sNumOf : Stmt := top 20
abbrev sWri : Stmt := top 34
/-! ### numbers as texts -/
theorem dig_back : ∀ cs : List Nat, AllDigits cs → (cs.map Char.ofNat).map Char.toNat = cs
  | [], _ => rfl
  | c :: r, h => by
    have h1 := h c List.mem_cons_self
    have e : (Char.ofNat c).toNat = c := by
      have k : ∀ d : Nat, d < 58 → (Char.ofNat d).toNat = d := by decide
      exact k c (by omega)
    rw [List.map_cons, List.map_cons, e, dig_back r fun d hd => h d (List.mem_cons_of_mem _ hd)]
theorem num_back {c : Nat} {r : List Nat} (h : AllDigits (c :: r)) (hc : 49 ≤ c ∨ r = []) : numL (digitsVal (c :: r)) = c :: r := by
  unfold numL
  rw [toDigits_digitsVal r.length (c :: r) rfl h (hc.elim (fun h => .inr ⟨c, r, rfl, h⟩) fun e => .inl (by rw [e]; rfl)), dig_back _ h]
theorem num_head : ∀ n : Nat, 0 < n → ∃ c r, numL n = c :: r ∧ 49 ≤ c := by
  intro n
  induction n using Nat.strongRecOn with
  | _ n ih =>
    intro h0
    by_cases h : n < 10
    · exact ⟨48 + n, [], numL_lt h, by omega⟩
    · obtain ⟨c, r, e, hc⟩ := ih (n / 10) (by omega) (by omega)
      exact ⟨c, r ++ [48 + n % 10], by rw [numL_step (by omega), e]; rfl, hc⟩
theorem tl_neg {n : Nat} (h : 0 < n) : (Str.ofString (toString (-((n : Nat) : Int)))).cps.toList = 45 :: numL n := by
  obtain ⟨m, rfl⟩ : ∃ m, n = m + 1 := ⟨n - 1, by omega⟩
  rw [PyProof.Rows.signs_ofString]
  have e : toString (-(((m + 1 : Nat) : Int))) = "-" ++ Nat.repr (m + 1) := rfl
  rw [e, String.toList_append, List.map_append, Nat.toList_repr]
  rfl
theorem str_nat (n : Nat) : Str.ofString (toString ((n : Nat) : Int)) = S (numL n) := C8x n
  where C8x (n : Nat) : Str.ofString (toString ((n : Nat) : Int)) = S (numL n) := SX.num_S n
theorem str_neg {n : Nat} (h : 0 < n) : Str.ofString (toString (-((n : Nat) : Int))) = S (45 :: numL n) := TL.ext_tl (tl_neg h)
def numV (x : V) (lo hi : Int) : Option Int := match intV x with
  | some i => if lo ≤ i ∧ i ≤ hi then some i else none
  | none => none
def figures : List Nat := [48, 49, 50, 51, 52, 53, 54, 55, 56, 57]
theorem join_any {t : TS} {D : Ends} {σ : L2.St} {H : Hp} (Pj : L2.St → Hp → Prop) (hr : ∀ σ' H', Pj σ' H' → D.nx σ' H') (h : (∀ σ' H', Pj σ' H' → D.nx σ' H') → t D σ H) : t D σ H := h hr
theorem fig_iff (c : Nat) : decide (c ∈ figures) = (decide (48 ≤ c) && decide (c ≤ 57)) := by
  rw [← Bool.decide_and]
  refine decide_eq_decide.mpr ?_
  simp only [figures, List.mem_cons, List.not_mem_nil, or_false]
  omega
theorem log_small {n k : Nat} (h : n < 10 ^ k) (hk : k ≤ 480) : n.log2 < 1920 := by
  have h1 : n < 2 ^ 1920 := Nat.lt_of_lt_of_le h (Nat.le_trans (ten_two k) (Nat.pow_le_pow_right (by decide) (by omega)))
  by_cases z : n = 0
  · rw [z]; decide
  · exact (Nat.log2_lt z).mpr h1
theorem wri_math {cs : List Nat} (hd : digB (figs cs) = true) (hl : cs.length ≤ 480) : ∃ n : Int, intText? (S cs) = some n ∧ n.natAbs.log2 < 1920 ∧ ((Str.ofString (toString n) = S cs ∧ intOf cs = some n) ∨ (Str.ofString (toString n) ≠ S cs ∧ intOf cs = none)) := by
  obtain ⟨hall, hne⟩ := digB_all hd
  have hv := val_lt _ hall
  have hlog := log_small hv (Nat.le_trans (figs_len cs) hl)
  obtain ⟨c, r, hf⟩ : ∃ c r, figs cs = c :: r := by
    cases e : figs cs with
    | nil => exact absurd e hne
    | cons c r => exact ⟨c, r, rfl⟩
  have hc : 48 ≤ c ∧ c ≤ 57 := hall c (by rw [hf]; exact List.mem_cons_self)
  by_cases h45 : cs.head? = some 45
  · obtain ⟨ds, rfl⟩ : ∃ ds, cs = 45 :: ds := by
      cases e : cs with
      | nil => rw [e] at h45; cases h45
      | cons d ds => rw [e] at h45; exact ⟨ds, by rw [Option.some.inj h45]⟩
    rw [figs_minus] at hall hne hf hlog hv
    refine ⟨-((digitsVal ds : Nat) : Int), intText_neg (x := S (45 :: ds)) rfl hall hne (by rw [S_len]; omega), by rw [Int.natAbs_neg, Int.natAbs_natCast]; exact hlog, ?_⟩
    by_cases h48 : c = 48
    · refine .inr ⟨fun e => ?_, ?_⟩
      · by_cases z : digitsVal ds = 0
        · rw [z] at e
          have e2 : S [48] = S (45 :: ds) := e
          exact absurd (List.cons.inj (S_inj e2)).1 (by decide)
        · rw [str_neg (by omega)] at e
          have e2 := (List.cons.inj (S_inj e)).2
          obtain ⟨d, q, e3, hq⟩ := num_head (digitsVal ds) (by omega)
          rw [e3, hf] at e2
          have := (List.cons.inj e2).1
          omega
      · unfold intOf
        rw [if_pos hd, if_pos ⟨by rw [figs_minus, hf, h48]; rfl, fun e => by cases e⟩]
    · refine .inl ⟨?_, ?_⟩
      · have hp : 0 < digitsVal ds := by rw [hf]; exact digitsVal_pos (by omega)
        rw [str_neg hp]
        refine congrArg S (congrArg (45 :: ·) ?_)
        rw [hf]
        exact num_back (hf ▸ hall) (.inl (by omega))
      · unfold intOf
        rw [if_pos hd, if_neg (fun z => h48 (Option.some.inj (by rw [figs_minus, hf] at z; exact z.1))), if_pos h45, figs_minus]
  · have hfc : figs cs = cs := by
      cases e : cs with
      | nil => rfl
      | cons d ds => exact figs_other ds fun z => h45 (by rw [e, z]; rfl)
    rw [hfc] at hall hne hf hlog hv
    refine ⟨((digitsVal cs : Nat) : Int), intText_digits (x := S cs) hall hne (by rw [S_len]; omega), by rw [Int.natAbs_natCast]; exact hlog, ?_⟩
    by_cases h48 : c = 48 ∧ r ≠ []
    · refine .inr ⟨fun e => ?_, ?_⟩
      · rw [str_nat] at e
        have e2 := S_inj e
        by_cases z : digitsVal cs = 0
        · rw [z, numL_lt (by decide), hf] at e2
          exact h48.2 (List.cons.inj e2).2.symm
        · obtain ⟨d, q, e3, hq⟩ := num_head (digitsVal cs) (by omega)
          rw [e3, hf] at e2
          have := (List.cons.inj e2).1
          omega
      · unfold intOf
        rw [if_pos hd, if_pos ⟨by rw [hfc, hf, h48.1]; rfl, fun e => by rw [e] at hf; exact h48.2 (List.cons.inj hf).2.symm⟩]
    · refine .inl ⟨?_, ?_⟩
      · rw [str_nat]
        refine congrArg S ?_
        rw [hf]
        refine num_back (hf ▸ hall) ?_
        by_cases z : c = 48
        · exact .inr (Classical.byContradiction fun q => h48 ⟨z, q⟩)
        · exact .inl (by omega)
      · unfold intOf
        rw [if_pos hd, if_neg (fun z => ?_), if_neg h45, hfc]
        rw [hfc, hf] at z
        refine h48 ⟨Option.some.inj z.1, fun q => z.2 ?_⟩
        rw [q, Option.some.inj z.1]
def spNumOf (K : PySem.W.Frag) : Sp := fun vs H Q _ => ∃ x lo hi, vs = [x, .int lo, .int hi] ∧ Anyv K H x ∧ TextOk x ∧ Q (optV (numV x lo hi)) H
def spWri : Sp := fun vs H Q _ => ∃ cs : List Nat, vs = [.str (S cs)] ∧ (∀ c ∈ cs, c < 128) ∧ cs.length ≤ 480 ∧ ∀ H', Same H H' → Q (optV (intOf cs)) H'
section
variable {P : Program} {w : World} {K : PySem.W.Frag} {mg : Str → Option Value} {base : Heap}
theorem scNumOf : FnScope ["word", "least", "most", "value"] ["word", "least", "most"] (C8.fnScope sNumOf) := C8.fnScope_by (by decide +kernel)
theorem fn_numof {f : Addr} {fd : FuncData} (F : C8.Def K mg "number_of" sNumOf f fd) (DI : C8.Cal P w K mg base 1 "integer_of" (spIntOf K) []) (DW : C8.Cal P w K mg base 2 "is_within" (spWithin K) []) :
    FnOk P w K mg base C8.CX0 3 f fd ["word", "least", "most"] (spNumOf K) := by
  refine C8.fn0 F.fn scNumOf (fun vs H Q E h => ?_) (fun cdv A outer st H vs Q E hr h => ?_)
  · obtain ⟨x, lo, hi, rfl, _⟩ := h
    rfl
  · obtain ⟨x, lo, hi, rfl, a, ok, k⟩ := h
    refine ⟨_, (pss_cons (ps_set (i := 3) scNumOf.nd rfl (Or.inl rfl) (C8.pe_c DI hr (by decide) (by rfl) (pa_cons (pv 0) pa_nil)))
  (pss_one (ps_ret (pe_ifExp (pt_val (C8.pe_c DW hr (by decide) (by rfl) (pa_cons (pv 3) (pa_cons (pv 1) (pa_cons (pv 2) pa_nil))))) (pv 3) pe_non)))), ?_⟩
    refine ⟨_, rfl, x, rfl, a, ok, ?_⟩
    have av : Anyv K H (optV (intV x)) := by cases intV x with | none => exact .non | some i => exact .int i
    refine ⟨_, rfl, _, rfl, _, rfl, _, _, _, rfl, av, _, rfl, ?_⟩
    unfold numV at k
    cases e : intV x with
    | none =>
      rw [e] at k
      exact iteF k
    | some i =>
      rw [e] at k
      refine ite2 (fun c => ?_) (fun c => ?_)
      · have h2 : lo ≤ i ∧ i ≤ hi := by
          have c' : (decide (lo ≤ i) && decide (i ≤ hi)) = true := c
          rw [Bool.and_eq_true, decide_eq_true_eq, decide_eq_true_eq] at c'
          exact c'
        refine ⟨_, rfl, ?_⟩
        simp only [h2, and_self, if_true] at k
        exact k
      · have h2 : ¬ (lo ≤ i ∧ i ≤ hi) := fun z => c (by
          show (decide (lo ≤ i) && decide (i ≤ hi)) = true
          rw [decide_eq_true z.1, decide_eq_true z.2]; rfl)
        simp only [h2, if_false] at k
        exact k
theorem cal_numof {f : Addr} {fd : FuncData} (F : C8.Def K mg "number_of" sNumOf f fd) (b : Binds K fd ["word", "least", "most"] []) (DI : C8.Cal P w K mg base 1 "integer_of" (spIntOf K) []) (DW : C8.Cal P w K mg base 2 "is_within" (spWithin K) []) :
    C8.Cal P w K mg base 3 "number_of" (spNumOf K) [] :=
  ⟨f, fd, _, [], fn_numof F DI DW, F.mgf, F.kp, b, .nil⟩
theorem scWri : FnScope ["_law_wordy", "_law_figures", "_law_sign"] ["_law_wordy"] (C8.fnScope sWri) := C8.fnScope_by (by decide +kernel)
theorem cal_wri {f : Addr} {fd : FuncData} (F : C8.Def K mg "_law_written" sWri f fd) (b : Binds K fd ["_law_wordy"] []) (T : TxtN K mg) : C8.Cal P w K mg base 1 "_law_written" spWri [] := by
  refine C8.cal0 F b .nil scWri (fun vs H Q E h => ?_) (fun cdv A outer st H vs Q E hr h => ?_)
  · obtain ⟨cs, rfl, _⟩ := h
    rfl
  · obtain ⟨cs, rfl, h128, hlen, k⟩ := h
    refine ⟨_, (pss_cons (ps_set (i := 1) scWri.nd rfl (Or.inl rfl) (pe_ifExp (pt_cmpR op_eq (pe_slice C8.sl_txt (pv 0) po_none (po_some pe_int)) pe_str (nomark _)) (pe_slice C8.sl_txt (pv 0) (po_some pe_int) po_none) (pv 0)))
  (pss_cons (ps_if (PW.pt (pw_or (pt_cmpR op_eq (pv 1) pe_str (nomark _)) (pw_or1 (pt_cmpR (op_neD hr.units) (pe_lc (own := [("_law_sign", 2)]) (g := gName 2) rfl scWri.nd (pi_str (pv 1)) (blkOk_by (own := [("_law_sign", 2)]) (N := ["_law_wordy", "_law_figures", "_law_sign"]) (sc := (C8.fnScope sWri)) (by decide +kernel)) (fun _ _ _ _ _ => pg_name (i := 2) scWri.nd rfl (Or.inl rfl)) (fun _ _ _ _ _ => pts_one (pt_cmpR op_notIn_sign (pv 2) pe_str (by rfl))) (fun _ _ _ _ _ => (pv 2))) (pe_lst pa_nil) (nomark _))))) (pss_one (ps_ret pe_non)) pss_nil)
  (pss_one (ps_ret (pe_ifExp (pt_cmpR op_eq (pe_callTy call_str_int (by rfl) T.n_str (by decide +kernel) (pa_cons (pe_callTy call_int_str (by rfl) T.n_int (by decide +kernel) (pa_cons (pv 0) pa_nil)) pa_nil)) (pv 0) (nomark _)) (pe_callTy call_int_str (by rfl) T.n_int (by decide +kernel) (pa_cons (pv 0) pa_nil)) pe_non))))), ?_⟩
    have hl : (S cs).length ≤ sizeLine := by rw [S_len]; exact Nat.le_trans hlen (by decide)
    dsimp only [tSeq]
    refine join_any (fun σ' H' => σ' = [some (V.str (S cs)), some (V.str (S (figs cs))), none] ∧ H' = H) ?rest (fun go => ?_)
    case rest =>
      rintro σ' H' ⟨rfl, rfl⟩
      have flen : (figs cs).length ≤ 480 := Nat.le_trans (figs_len cs) hlen
      have f128 : ∀ c ∈ figs cs, c < 128 := fun c hc => h128 c (figs_sub hc)
      have kk : ∀ (o : Option Int) (H2 : Hp), Same H' H2 → o = intOf cs → Q (optV o) H2 := fun o H2 s e => by rw [e]; exact k H2 s
      dsimp only [tSeq]
      refine join_any (fun σ2 H2 => σ2 = [some (V.str (S cs)), some (V.str (S (figs cs))), none] ∧ Same H' H2 ∧ digB (figs cs) = true) ?rest2 (fun go2 => ?_)
      case rest2 =>
        rintro σ2 H2 ⟨rfl, s2, hd⟩
        obtain ⟨n, h1, h2, h3⟩ := wri_math hd hlen
        refine ⟨_, rfl, _, n, rfl, h1, by rw [S_len]; omega, _, rfl, h2, _, rfl, rfl, _, rfl, ?_⟩
        rcases h3 with ⟨e1, e2⟩ | ⟨e1, e2⟩
        · rw [e1]
          refine ite2 (fun c => ?_) (fun c => absurd (decide_eq_true rfl) c)
          exact ⟨_, rfl, _, n, rfl, h1, by rw [S_len]; omega, kk (some n) _ s2 e2.symm⟩
        · refine ite2 (fun c => absurd (V.str.inj (of_decide_eq_true c)) e1) (fun c => ?_)
          exact kk none _ s2 e2.symm
      have bad : ∀ (H2 : Hp), Same H' H2 → digB (figs cs) = false → Q .non H2 := fun H2 s h => kk none H2 s (by unfold intOf; rw [h]; rfl)
      refine ⟨_, rfl, rfl, _, rfl, ite2 (fun c0 => ?_) (fun c0 => ?_)⟩
      · refine iteT (bad _ (Same.refl _) ?_)
        have e : V.str (S (figs cs)) = V.str (S []) := of_decide_eq_true c0
        rw [S_inj (V.str.inj e)]; rfl
      · have hne : figs cs ≠ [] := fun e => c0 (by rw [e]; rfl)
        refine ⟨_, rfl, S (figs cs), rfl, fun D hD => lc_text (fun c => [some (.str (S cs)), some (.str (S (figs cs))), some (.str ⟨#[c]⟩)]) (fun c => !decide (c ∈ figures)) (fun c => .str ⟨#[c]⟩) (fun _ _ _ h => h) (fun _ => rfl)
          (fun c _ _ h => ⟨_, rfl, c, _, rfl, rfl, _, rfl, h⟩) (fun c _ _ _ h => ⟨_, rfl, h⟩) (by show (figs cs).toArray.size ≤ _; simp; omega) ?_⟩
        refine ⟨(by show 0 ≤ sizeLine; decide), fun q hq => ?_⟩
        have sD := same_new (o := HO.lst (((figs cs).filter fun c => !decide (c ∈ figures)).map fun c => V.str ⟨#[c]⟩)) hD
        have nq : D ≠ q := fun e => by rw [← e, upd_same] at hq; cases hq
        have okc : ∀ c ∈ ((figs cs).filter fun c => !decide (c ∈ figures)), c < 1114112 := fun c hc => Nat.lt_trans (f128 c (List.mem_filter.mp hc).1) (by decide)
        refine ⟨_, _, .lst (SqL.of ?_) (dp_signs _), .lst (SqL.of upd_same) .nil, shaped_signs _ okc, rfl, _, rfl, ?_⟩
        · rw [upd_ne nq, upd_same]
        · rw [eqv_signs, filt_nil]
          have ed : digB (figs cs) = (figs cs).all fun c => decide (c ∈ figures) := by
            unfold digB
            have e1 : (!(figs cs).isEmpty) = true := by cases h : figs cs with | nil => exact absurd h hne | cons _ _ => rfl
            rw [e1, Bool.true_and]
            refine List.all_congr rfl fun c => ?_
            exact (fig_iff c).symm
          rw [← ed]
          have s3 := sD.trans (same_new (o := HO.lst []) hq)
          cases hd : digB (figs cs) with
          | true => exact iteF (go2 _ _ ⟨rfl, s3, hd⟩)
          | false => exact iteT (bad _ s3 hd)
    refine ⟨_, rfl, _, rfl, S cs, rfl, hl, ?_⟩
    rw [slice_to (by decide)]
    refine ⟨rfl, _, rfl, ?_⟩
    rw [show (Str.ofString "-") = S [45] from rfl]
    refine ite2 (fun c0 => ?_) (fun c0 => ?_)
    · have e : V.str (S (cs.take (1 : Int).toNat)) = V.str (S [45]) := of_decide_eq_true c0
      have e2 : cs.take 1 = [45] := S_inj (V.str.inj e)
      obtain ⟨r, hr⟩ : ∃ r, cs = 45 :: r := by
        cases h : cs with
        | nil => rw [h] at e2; cases e2
        | cons c r =>
          rw [h] at e2
          have e3 : c = 45 := (List.cons.inj e2).1
          exact ⟨r, by rw [e3]⟩
      refine ⟨_, rfl, _, rfl, S cs, rfl, hl, ?_⟩
      rw [slice_from (by decide)]
      refine go _ _ ⟨?_, rfl⟩
      rw [hr]; rfl
    · have e2 : ¬ cs.take 1 = [45] := fun e => c0 (decide_eq_true (by rw [show (1 : Int).toNat = 1 from rfl, e]))
      have e3 : figs cs = cs := by
        cases h : cs with
        | nil => rfl
        | cons c r =>
          refine figs_other r fun e => e2 ?_
          rw [h, e]; rfl
      refine ⟨_, rfl, ?_⟩
      refine go _ _ ⟨?_, rfl⟩
      rw [e3]; rfl
end
end Lw
namespace Lw
open PySem PySem.Spec PyProof.Rows L2

open SX PySem.NumText TL LamX
abbrev sThr : Stmt := top 35
abbrev sWor : Stmt := top 36
/-- what the program's and the law's small defs promise -/
structure Defs (P : Program) (w : World) (K : PySem.W.Frag) (mg : Str → Option Value) (base : Heap) : Prop where
  isint : C8.Cal P w K mg base 1 "is_integer" (spIsInt K) []
  within : C8.Cal P w K mg base 2 "is_within" (spWithin K) []
  size : C8.Cal P w K mg base 3 "is_size" (spSize K) []
  isname : C8.Cal P w K mg base 1 "is_name" (spName K) []
  isname2 : C8.Cal P w K mg base 1 "_law_is_name" spName2 []
  numof : C8.Cal P w K mg base 3 "number_of" (spNumOf K) []
  wri : C8.Cal P w K mg base 1 "_law_written" spWri []
theorem TyX.same {K : PySem.W.Frag} {H H' : Hp} {v : V} {t : Value} (s : Same H H') (h : TyX K H v t) : TyX K H' v t := by
  cases h with
  | base h =>
    refine .base ?_
    cases h with
    | non => exact .non
    | bl x => exact .bl x
    | int i => exact .int i
    | str x => exact .str x
    | flt x => exact .flt x
    | lst e => exact .lst (s _ _ e)
    | frz e => exact .frz (s _ _ e)
    | tup e => exact .tup (s _ _ e)
    | dK e => exact .dK (s _ _ e)
    | dT e => exact .dT (s _ _ e)
    | ins e cl ha hn htk hm => exact .ins (s _ _ e) cl ha hn htk hm
  | byt b => exact .byt b
  | set e => exact .set (s _ _ e)
  | kList e c => exact .kList e c
  | kTuple e c => exact .kTuple e c
  | kDict e c => exact .kDict e c
  | fTuple e => exact .fTuple (s _ _ e)
  | fDict e => exact .fDict (s _ _ e)
theorem TyZ.same {K : PySem.W.Frag} {H H' : Hp} {v : V} {t : Value} (s : Same H H') (h : TyZ K H v t) : TyZ K H' v t := by
  cases h with
  | x h => exact .x (Lw.TyX.same s h)
  | fn e => exact .fn (s _ _ e)
theorem Anyv.same {K : PySem.W.Frag} {H H' : Hp} {v : V} (s : Same H H') (h : Anyv K H v) : Anyv K H' v := by
  cases h with
  | int i => exact .int i
  | non => exact .non
  | bl b => exact .bl b
  | str z => exact .str z
  | obj h h1 h2 h3 => exact .obj (Lw.TyZ.same s h) h1 h2 h3
def spThr (K : PySem.W.Frag) : Sp := fun vs H Q _ => ∃ x lo hi, vs = [x, .int lo, .int hi] ∧ Anyv K H x ∧ isS x = false ∧ ∀ H', Same H H' → Q (.bl true) H'
def dFive (a b c d : Bool) (e : PyData) : PyData := .list [.bool a, .bool b, .bool c, .bool d, e]
theorem dp_five {K : PySem.W.Frag} {H : Hp} {l : Addr} {a b c d : Bool} {v : V} {e : PyData} (h : H l = some (.lst [.bl a, .bl b, .bl c, .bl d, v])) (he : Dp K H v e) : Dp K H (.ref l) (dFive a b c d e) :=
  .lst (SqL.of h) (.cons (.bl a) (.cons (.bl b) (.cons (.bl c) (.cons (.bl d) (.cons he .nil)))))
theorem shown_five' (a b c d : Bool) (e : PyData) (h : e.shown.length ≤ 1000) : (dFive a b c d e).shown.length ≤ sizeLine := by
  have hb : ∀ b, (PyData.bool b).shown.length ≤ 5 := by decide
  refine Nat.le_trans (listText_len_le [(PyData.bool a).shown, (PyData.bool b).shown, (PyData.bool c).shown, (PyData.bool d).shown, e.shown]) ?_
  have h1 := hb a
  have h2 := hb b
  have h3 := hb c
  have h4 := hb d
  simp only [List.map_cons, List.map_nil, List.sum_cons, List.sum_nil, List.length_cons, List.length_nil]
  rw [sizeLine_eq]
  omega
theorem shown_five (a b c d : Bool) : (dFive a b c d .none).shown.length ≤ sizeLine := by
  cases a <;> cases b <;> cases c <;> cases d <;> decide
section
variable {P : Program} {w : World} {K : PySem.W.Frag} {mg : Str → Option Value} {base : Heap}
theorem scThr : FnScope ["_law_thing_here", "_law_low", "_law_high", "_law_is_plain", "_law_told_so", "_law_due"] ["_law_thing_here", "_law_low", "_law_high"] (C8.fnScope sThr) := C8.fnScope_by (by decide +kernel)
theorem cal_thr {f : Addr} {fd : FuncData} (F : C8.Def K mg "_law_thing_right" sThr f fd) (b : Binds K fd ["_law_thing_here", "_law_low", "_law_high"] []) (T : TxtN K mg) (D : Defs P w K mg base) : CalG P w K mg base 4 "_law_thing_right" (spThr K) [] := by
  refine calG F b .nil scThr (fun vs H Q E h => ?_) (fun cdv A outer st H vs Q E hG hr h => ?_)
  · obtain ⟨x, lo, hi, rfl, _⟩ := h
    rfl
  · obtain ⟨x, lo, hi, rfl, a, ns, k⟩ := h
    refine ⟨_, (pss_cons (ps_set (i := 3) scThr.nd rfl (Or.inl rfl) (pe_and (pe_callB call_isz (by rfl) T.n_isinstance (by decide +kernel) (pa_cons (pv 0) (pa_cons (pe_bltn (v := .ty "int") (by rfl) T.n_int (by decide +kernel) rfl) pa_nil))) (pe_one (pe_not (pe_callB call_isz (by rfl) T.n_isinstance (by decide +kernel) (pa_cons (pv 0) (pa_cons (pe_bltn (v := .ty "bool") (by rfl) T.n_bool (by decide +kernel) rfl) pa_nil)))))))
  (pss_cons (ps_set (i := 4) scThr.nd rfl (Or.inl rfl) (pe_lst (pa_cons (C8.pe_c D.isint hr (by decide) (by rfl) (pa_cons (pv 0) pa_nil)) (pa_cons (C8.pe_c D.within hr (by decide) (by rfl) (pa_cons (pv 0) (pa_cons (pv 1) (pa_cons (pv 2) pa_nil)))) (pa_cons (C8.pe_c D.size hr (by decide) (by rfl) (pa_cons (pv 0) pa_nil)) (pa_cons (C8.pe_c D.isname hr (by decide) (by rfl) (pa_cons (pv 0) pa_nil)) pa_nil))))))
  (pss_cons (ps_expr (pe_bm PySem.F.plainAttrs_list PySem.F.slot_list_append PySem.F.type_list_append mt_append (pv 4) (pa_cons (C8.pe_c D.numof hr (by decide) (by rfl) (pa_cons (pv 0) (pa_cons (pv 1) (pa_cons (pv 2) pa_nil)))) pa_nil)))
  (pss_cons (ps_set (i := 5) scThr.nd rfl (Or.inl rfl) (pe_lst (pa_cons (pv 3) (pa_cons (pe_and (pv 3) (pe_one (pe_chain op_le op_le (pv 1) (pv 0) (pv 2)))) (pa_cons (pe_and (pv 3) (pe_one (pe_chain op_le op_le pe_int (pv 0) (pe_op op_pow pe_int pe_int)))) (pa_cons pe_bl (pa_cons pe_non pa_nil)))))))
  (pss_one (ps_ret (pe_cmpR op_eq (pe_callB (call_reprD hG (hr.mono (by decide))) (by rfl) T.n_repr (by decide +kernel) (pa_cons (pv 4) pa_nil)) (pe_callB (call_reprD hG (hr.mono (by decide))) (by rfl) T.n_repr (by decide +kernel) (pa_cons (pv 5) pa_nil)) (nomark _)))))))), ?_⟩
    have plain : isI x = (clsI x && !clsB x) := by cases x <;> rfl
    dsimp only [tSeq]
    refine join_any (fun σ' H' => σ' = [some x, some (V.int lo), some (V.int hi), some (V.bl (isI x)), none, none] ∧ H' = H) ?rest (fun go => ?_)
    case rest =>
      rintro σ' H' ⟨rfl, rfl⟩
      have nx : numV x lo hi = none := by cases a <;> first | rfl | (cases ns)
      have nn : nameB x = false := by cases a <;> first | rfl | (cases ns)
      refine ⟨_, rfl, x, rfl, a, _, rfl, _, rfl, _, rfl, x, lo, hi, rfl, a, _, rfl, x, rfl, a, _, rfl, x, rfl, a, (fun z e => by subst e; cases ns), fun H1 s1 => ?_⟩
      rw [nn]
      refine ⟨(by show 4 ≤ sizeLine; decide), fun l hl => ?_⟩
      have s2 := s1.trans (same_new (o := HO.lst [V.bl (isI x), V.bl (inB x lo hi), V.bl (inB x 1 (10 ^ 30)), V.bl false]) hl)
      refine ⟨_, rfl, .inl ⟨rfl, _, SqL.of upd_same⟩, ?_⟩
      refine ⟨_, rfl, _, rfl, _, rfl, x, lo, hi, rfl, Lw.Anyv.same s2 a, (fun z e => by subst e; cases ns), ?_⟩
      rw [nx]
      refine ⟨l, _, _, rfl, rfl, upd_same, (by show 4 < sizeLine; decide), ?_⟩
      rw [upd_upd]
      have s3 := s1.trans (same_new (o := HO.lst [V.bl (isI x), V.bl (inB x lo hi), V.bl (inB x 1 (10 ^ 30)), V.bl false, V.non]) hl)
      have hl3 : upd H1 l (HO.lst [V.bl (isI x), V.bl (inB x lo hi), V.bl (inB x 1 (10 ^ 30)), V.bl false, V.non]) l = some (.lst [V.bl (isI x), V.bl (inB x lo hi), V.bl (inB x 1 (10 ^ 30)), V.bl false, V.non]) := upd_same
      show tSeq _ _ _ _ (upd H1 l (HO.lst [V.bl (isI x), V.bl (inB x lo hi), V.bl (inB x 1 (10 ^ 30)), V.bl false, V.non]))
      generalize upd H1 l (HO.lst [V.bl (isI x), V.bl (inB x lo hi), V.bl (inB x 1 (10 ^ 30)), V.bl false, V.non]) = H2 at s3 hl3 ⊢
      dsimp only [tSeq]
      refine join_any (fun σ' H3 => ∃ q, σ' = [some x, some (V.int lo), some (V.int hi), some (V.bl (isI x)), some (V.ref l), some (V.ref q)] ∧ H2 q = none ∧ H3 = upd H2 q (HO.lst [V.bl (isI x), V.bl (inB x lo hi), V.bl (inB x 1 (10 ^ 30)), V.bl false, V.non])) ?rest2 (fun go2 => ?_)
      case rest2 =>
        rintro σ' H3 ⟨q, rfl, hq, rfl⟩
        have s4 := same_new (o := HO.lst [V.bl (isI x), V.bl (inB x lo hi), V.bl (inB x 1 (10 ^ 30)), V.bl false, V.non]) hq
        refine ⟨_, rfl, l, _, rfl, dp_five (s4 _ _ hl3) .non, rfl, rfl, (by show 1 ≤ 100; decide), shown_five _ _ _ _, _, rfl, q, _, rfl, dp_five upd_same .non, rfl, rfl, (by show 1 ≤ 100; decide), shown_five _ _ _ _, rfl, ?_⟩
        rw [decide_eq_true rfl]
        exact k _ (s3.trans s4)
      refine ⟨_, rfl, _, rfl, _, rfl, ?_⟩
      have go3 : ∀ (b1 b2 b3 : Bool) (q : Addr), b1 = isI x → b2 = inB x lo hi → b3 = inB x 1 (10 ^ 30) → H2 q = none → (∃ q2, [some x, some (V.int lo), some (V.int hi), some (V.bl (isI x)), some (V.ref l), some (V.ref q)] = [some x, some (V.int lo), some (V.int hi), some (V.bl (isI x)), some (V.ref l), some (V.ref q2)] ∧ H2 q2 = none ∧ upd H2 q (HO.lst [V.bl b1, V.bl b2, V.bl b3, V.bl false, V.non]) = upd H2 q2 (HO.lst [V.bl (isI x), V.bl (inB x lo hi), V.bl (inB x 1 (10 ^ 30)), V.bl false, V.non])) :=
        fun b1 b2 b3 q e1 e2 e3 hq => ⟨q, rfl, hq, by rw [e1, e2, e3]⟩
      cases a with
      | int i =>
        have e1 : ∀ l2 h2 : Int, inB (.int i) l2 h2 = (decide (l2 ≤ i) && decide (i ≤ h2)) := fun _ _ => rfl
        refine iteT ⟨_, rfl, _, rfl, _, _, rfl, rfl, _, rfl, ?_⟩
        refine ite2 (fun c1 => ?_) (fun c1 => ?_)
        · refine ⟨_, rfl, _, _, rfl, rfl, _, rfl, _, rfl, iteT ⟨_, rfl, _, _, rfl, rfl, _, rfl, ?_⟩⟩
          refine ite2 (fun c2 => ?_) (fun c2 => ?_)
          · refine ⟨_, _, rfl, rfl, ⟨by decide, by decide, by decide⟩, _, _, rfl, rfl, (by show 5 ≤ sizeLine; decide), fun q hq => ?_⟩
            exact go2 _ _ (go3 _ _ _ q rfl (by rw [e1, c1, Bool.true_and]) (by rw [e1, c2, Bool.true_and]; rfl) hq)
          · refine ⟨(by show 5 ≤ sizeLine; decide), fun q hq => ?_⟩
            exact go2 _ _ (go3 _ _ _ q rfl (by rw [e1, c1, Bool.true_and]) (by rw [e1, Bool.eq_false_iff.mpr c2, Bool.false_and]) hq)
        · refine ⟨_, rfl, _, rfl, iteT ⟨_, rfl, _, _, rfl, rfl, _, rfl, ?_⟩⟩
          refine ite2 (fun c2 => ?_) (fun c2 => ?_)
          · refine ⟨_, _, rfl, rfl, ⟨by decide, by decide, by decide⟩, _, _, rfl, rfl, (by show 5 ≤ sizeLine; decide), fun q hq => ?_⟩
            exact go2 _ _ (go3 _ _ _ q rfl (by rw [e1, Bool.eq_false_iff.mpr c1, Bool.false_and]) (by rw [e1, c2, Bool.true_and]; rfl) hq)
          · refine ⟨(by show 5 ≤ sizeLine; decide), fun q hq => ?_⟩
            exact go2 _ _ (go3 _ _ _ q rfl (by rw [e1, Bool.eq_false_iff.mpr c1, Bool.false_and]) (by rw [e1, Bool.eq_false_iff.mpr c2, Bool.false_and]) hq)
      | non => exact iteF ⟨_, rfl, _, rfl, iteF ⟨(by show 5 ≤ sizeLine; decide), fun q hq => go2 _ _ (go3 _ _ _ q rfl rfl rfl hq)⟩⟩
      | bl b => exact iteF ⟨_, rfl, _, rfl, iteF ⟨(by show 5 ≤ sizeLine; decide), fun q hq => go2 _ _ (go3 _ _ _ q rfl rfl rfl hq)⟩⟩
      | str z => cases ns
      | obj h h1 h2 h3 => exact iteF ⟨_, rfl, _, rfl, iteF ⟨(by show 5 ≤ sizeLine; decide), fun q hq => go2 _ _ (go3 _ _ _ q rfl rfl rfl hq)⟩⟩
    refine ⟨_, rfl, ?_⟩
    dsimp only [tCons, tC, tNil]
    refine isz_int a ⟨_, rfl, ?_⟩
    rw [plain] at go
    cases hc : clsI x with
    | false =>
      rw [hc, Bool.false_and] at go
      exact iteF (go _ _ ⟨rfl, rfl⟩)
    | true =>
      refine iteT ⟨_, rfl, ?_⟩
      dsimp only [tCons, tC, tNil]
      refine isz_bool a ⟨_, rfl, ?_⟩
      rw [hc, Bool.true_and] at go
      exact go _ _ ⟨rfl, rfl⟩
def spWor : Sp := fun vs H Q _ => ∃ (cs : List Nat) (lo hi : Int), vs = [.str (S cs), .int lo, .int hi] ∧ (∀ c ∈ cs, c < 128) ∧ cs.length ≤ 480 ∧ ∀ H', Same H H' → Q (.bl true) H'
def dOpt : Option Int → PyData
  | none => .none
  | some i => .int i
theorem dp_opt {K : PySem.W.Frag} {H : Hp} (o : Option Int) : Dp K H (optV o) (dOpt o) := by
  cases o with
  | none => exact .non
  | some i => exact .int i
theorem opt_facts {cs : List Nat} {lo hi : Int} {o : Option Int} (hl : cs.length ≤ 480) (ho : o = numV (.str (S cs)) lo hi) : (dOpt o).showable = true ∧ (dOpt o).shown.length ≤ 1000 := by
  cases o with
  | none => exact ⟨rfl, by decide⟩
  | some i =>
    have e : intOf cs = some i := by
      have e2 : numV (.str (S cs)) lo hi = match intOf cs with
        | some i => if lo ≤ i ∧ i ≤ hi then some i else none
        | none => none := by unfold numV; rfl
      rw [e2] at ho
      cases h : intOf cs with
      | none => rw [h] at ho; cases ho
      | some j =>
        rw [h] at ho
        replace ho : some i = if lo ≤ j ∧ j ≤ hi then some j else none := ho
        by_cases c : lo ≤ j ∧ j ≤ hi
        · rw [if_pos c] at ho; rw [ho]
        · rw [if_neg c] at ho; cases ho
    have hd : digB (figs cs) = true := by
      cases h : digB (figs cs) with
      | true => rfl
      | false => unfold intOf at e; rw [h] at e; cases e
    obtain ⟨n, h1, h2, h3⟩ := wri_math hd hl
    rcases h3 with ⟨e1, e2⟩ | ⟨e1, e2⟩
    · rw [e] at e2
      cases e2
      refine ⟨?_, ?_⟩
      · show (PyData.int i).showable = true
        simp only [PyData.showable]
        exact decide_eq_true h2
      · show (PyData.int i).shown.length ≤ 1000
        simp only [PyData.shown]
        have e3 : (Str.ofString (toString i)).length = cs.length := by rw [e1, S_len]
        exact Nat.le_trans (Nat.le_of_eq e3) (by omega)
    · rw [e] at e2; cases e2
theorem five_facts {cs : List Nat} {lo hi : Int} {o : Option Int} (hl : cs.length ≤ 480) (ho : o = numV (.str (S cs)) lo hi) (nb : Bool) : (dFive false false false nb (dOpt o)).showable = true ∧ (dFive false false false nb (dOpt o)).shown.length ≤ sizeLine ∧ (dFive false false false nb (dOpt o)).hasDict = false ∧ (dFive false false false nb (dOpt o)).depth ≤ 100 := by
  obtain ⟨h1, h2⟩ := opt_facts hl ho
  refine ⟨?_, shown_five' _ _ _ _ _ h2, ?_, ?_⟩
  · simp only [dFive, PyData.showable, PyData.showableAll, h1, Bool.and_true]
  · cases o <;> rfl
  · cases o <;> (show 1 ≤ 100; decide)
theorem scWor : FnScope ["_law_wordy", "_law_low", "_law_high", "_law_written_here", "_law_inside", "_law_told_so"] ["_law_wordy", "_law_low", "_law_high"] (C8.fnScope sWor) := C8.fnScope_by (by decide +kernel)
theorem cal_wor {f : Addr} {fd : FuncData} (F : C8.Def K mg "_law_word_right" sWor f fd) (b : Binds K fd ["_law_wordy", "_law_low", "_law_high"] []) (T : TxtN K mg) (D : Defs P w K mg base) : CalG P w K mg base 4 "_law_word_right" spWor [] := by
  refine calG F b .nil scWor (fun vs H Q E h => ?_) (fun cdv A outer st H vs Q E hG hr h => ?_)
  · obtain ⟨cs, lo, hi, rfl, _⟩ := h
    rfl
  · obtain ⟨cs, lo, hi, rfl, h128, hlen, k⟩ := h
    refine ⟨_, (pss_cons (ps_set (i := 3) scWor.nd rfl (Or.inl rfl) (C8.pe_c D.wri hr (by decide) (by rfl) (pa_cons (pv 0) pa_nil)))
  (pss_cons (ps_set (i := 4) scWor.nd rfl (Or.inl rfl) (pe_ifExp (PW.pt (pw_and (pt_cmpR op_notN (pv 3) pe_non (nomark _)) (pw_and1 (pt_chain op_le op_le (pv 1) (pv 3) (pv 2))))) (pv 3) pe_non))
  (pss_cons (ps_set (i := 5) scWor.nd rfl (Or.inl rfl) (pe_lst (pa_cons (C8.pe_c D.isint hr (by decide) (by rfl) (pa_cons (pv 0) pa_nil)) (pa_cons (C8.pe_c D.within hr (by decide) (by rfl) (pa_cons (pv 0) (pa_cons (pv 1) (pa_cons (pv 2) pa_nil)))) (pa_cons (C8.pe_c D.size hr (by decide) (by rfl) (pa_cons (pv 0) pa_nil)) (pa_cons (C8.pe_c D.isname hr (by decide) (by rfl) (pa_cons (pv 0) pa_nil)) pa_nil))))))
  (pss_cons (ps_expr (pe_bm PySem.F.plainAttrs_list PySem.F.slot_list_append PySem.F.type_list_append mt_append (pv 5) (pa_cons (C8.pe_c D.numof hr (by decide) (by rfl) (pa_cons (pv 0) (pa_cons (pv 1) (pa_cons (pv 2) pa_nil)))) pa_nil)))
  (pss_one (ps_ret (pe_cmpR op_eq (pe_callB (call_reprD hG (hr.mono (by decide))) (by rfl) T.n_repr (by decide +kernel) (pa_cons (pv 5) pa_nil)) (pe_callB (call_reprD hG (hr.mono (by decide))) (by rfl) T.n_repr (by decide +kernel) (pa_cons (pe_lst (pa_cons pe_bl (pa_cons pe_bl (pa_cons pe_bl (pa_cons (C8.pe_c D.isname2 hr (by decide) (by rfl) (pa_cons (pv 0) pa_nil)) (pa_cons (pv 4) pa_nil)))))) pa_nil)) (nomark _)))))))), ?_⟩
    have ok : TextOk (.str (S cs)) := fun z e => ⟨cs, (V.str.inj e).symm, h128, by omega⟩
    have hl1 : ∀ z, V.str (S cs) = .str z → z.length ≤ 1000000 := fun z e => by rw [← V.str.inj e, S_len]; omega
    have h111 : ∀ c ∈ (S cs).cps.toList, c < 1114112 := fun c hc => Nat.lt_trans (h128 c hc) (by decide)
    refine ⟨_, rfl, cs, rfl, h128, hlen, fun H1 s1 => ?_⟩
    have av : ∀ H2, Anyv K H2 (.str (S cs)) := fun _ => .str _
    obtain ⟨o, ho⟩ : ∃ o, o = numV (.str (S cs)) lo hi := ⟨_, rfl⟩
    dsimp only [gName, tSeq]
    refine join_any (fun σ' H' => σ' = [some (V.str (S cs)), some (V.int lo), some (V.int hi), some (optV (intOf cs)), some (optV o), none] ∧ H' = H1) ?rest (fun go => ?_)
    case rest =>
      rintro σ' H' ⟨rfl, rfl⟩
      refine ⟨_, rfl, _, rfl, av _, _, rfl, _, rfl, _, rfl, _, lo, hi, rfl, av _, _, rfl, _, rfl, av _, _, rfl, _, rfl, av _, hl1, fun H2 s2 => ?_⟩
      refine ⟨(by show 4 ≤ sizeLine; decide), fun l hl => ?_⟩
      refine ⟨_, rfl, .inl ⟨rfl, _, SqL.of upd_same⟩, _, rfl, _, rfl, _, rfl, _, lo, hi, rfl, av _, ok, ?_⟩
      rw [← ho]
      refine ⟨l, _, _, rfl, rfl, upd_same, (by show 4 < sizeLine; decide), ?_⟩
      rw [upd_upd]
      have hl3 : upd H2 l (HO.lst ([V.bl (isI (V.str (S cs))), V.bl (inB (V.str (S cs)) lo hi), V.bl (inB (V.str (S cs)) 1 (10 ^ 30)), V.bl (nameB (V.str (S cs)))] ++ [optV o])) l = some (.lst [V.bl false, V.bl false, V.bl false, V.bl (nameT (S cs)), optV o]) := upd_same
      have s3 := s2.trans (same_new (o := HO.lst ([V.bl (isI (V.str (S cs))), V.bl (inB (V.str (S cs)) lo hi), V.bl (inB (V.str (S cs)) 1 (10 ^ 30)), V.bl (nameB (V.str (S cs)))] ++ [optV o])) hl)
      generalize upd H2 l (HO.lst ([V.bl (isI (V.str (S cs))), V.bl (inB (V.str (S cs)) lo hi), V.bl (inB (V.str (S cs)) 1 (10 ^ 30)), V.bl (nameB (V.str (S cs)))] ++ [optV o])) = H3 at s3 hl3 ⊢
      obtain ⟨f1, f2, f3, f4⟩ := five_facts hlen ho (nameT (S cs))
      refine ⟨_, rfl, l, _, rfl, dp_five hl3 (dp_opt o), f1, f3, f4, f2, ?_⟩
      refine ⟨_, rfl, _, rfl, hl1 _ rfl, h111, fun H4 s4 => ?_⟩
      refine ⟨_, rfl, (by show 5 ≤ sizeLine; decide), fun q hq => ?_⟩
      have s5 := s4.trans (same_new (o := HO.lst [V.bl false, V.bl false, V.bl false, V.bl (nameT (S cs)), optV o]) hq)
      refine ⟨q, _, rfl, dp_five upd_same (dp_opt o), f1, f3, f4, f2, rfl, ?_⟩
      rw [decide_eq_true rfl]
      exact k _ (s1.trans (s3.trans s5))
    have ho2 : o = match intOf cs with | some i => if lo ≤ i ∧ i ≤ hi then some i else none | none => none := ho.trans (by unfold numV; rfl)
    generalize intOf cs = p at go ho2 ⊢
    cases p with
    | none =>
      replace ho2 : o = none := ho2
      subst ho2
      refine ⟨_, rfl, rfl, _, rfl, ?_⟩
      exact iteF (go _ _ ⟨rfl, rfl⟩)
    | some i =>
      replace ho2 : o = if lo ≤ i ∧ i ≤ hi then some i else none := ho2
      refine ⟨_, rfl, rfl, _, rfl, iteT ?_⟩
      refine ⟨_, rfl, _, rfl, _, _, rfl, rfl, _, rfl, ?_⟩
      refine ite2 (fun c1 => ?_) (fun c1 => ?_)
      · refine ⟨_, rfl, _, _, rfl, rfl, _, rfl, ?_⟩
        refine ite2 (fun c2 => ?_) (fun c2 => ?_)
        · rw [if_pos ⟨of_decide_eq_true c1, of_decide_eq_true c2⟩] at ho2
          subst ho2
          exact ⟨_, rfl, go _ _ ⟨rfl, rfl⟩⟩
        · rw [if_neg (fun h => c2 (decide_eq_true h.2))] at ho2
          subst ho2
          exact go _ _ ⟨rfl, rfl⟩
      · rw [if_neg (fun h => c1 (decide_eq_true h.1))] at ho2
        subst ho2
        exact ⟨_, rfl, iteF (go _ _ ⟨rfl, rfl⟩)⟩
end
end Lw
namespace Lw.Ls
open PySem PySem.Spec PyProof.Rows

/-! ### list(text) -/
section
variable {prog : Program} {w : World} {A : Around} {E : Value → Shared → Prop} {s : Shared}
theorem no_hint {z : Str} {t : Tok} {Q : Bool → Shared → Prop} (h : Q false s) : wpAny (model prog w) A (Builtin.List.listLengthHint (.str z t)) Q E s := by
  have kind : s.TypeIs (.str z t) "str" := typeIs_str s z t
  unfold Builtin.List.listLengthHint
  refine wpAny_bind (wpAny_specialOf kind F.slot_str_len.lookup ?_)
  generalize hn : ("str.__len__" : String) = name
  wp_delta
  rw [show splitId name = some ("str", "__len__") from by subst hn; decide +kernel]
  subst hn
  refine wpAny_bind (wpAny_isInstance (T := "str") (b := true) kind (by rw [isSubtype_type]; kernel_rfl) ?_)
  refine wpAny_ite_split (fun no => absurd no (by decide)) (fun _ => ?_)
  refine wpAny_ite_split (fun _ => ?_) (fun no => absurd (by decide +kernel) no)
  exact wpAny_bind (wpAny_typeOf kind (wpAny_pure h))
theorem grown {R : Result → Shared → Prop} (hh : A.handled = none) (z : Str) (t : Tok) (l : Addr) (told : Value) (c₀ : Nat) (hl : s.heap.get? l = some { cls := .type "list", data := .seq #[] c₀ }) (hz : z.cps.size ≤ sizeLine)
    (hR : ∀ h' tk got c', (∀ b o, b ≠ l → s.heap.get? b = some o → h'.get? b = some o) → h'.get? l = some { cls := .type "list", dict := none, data := .seq got c', slots := #[] } → ItemsOf (SignAt z) got z.cps.size → R (.ok (.ret told)) { s with heap := h', toks := tk }) :
    wpAny (model prog w) A.in1 (Builtin.List.listExtendWith (.ref l) (.str z t) told)
      (fun fin s' => match fin with | .done f => R (.ok f) s' | .again c' => c'.quiet = true ∧ codeAny (model prog w) A c' R s') (fun e s' => R (.error e) s') s := by
  have apart : l ∉ [s.heap.objs.size] := fun m => Nat.ne_of_lt (Heap.lt_size hl) (List.mem_singleton.mp m)
  unfold Builtin.List.listExtendWith
  refine wpAny_bind (wpAny_typeOf (T := "str") (v := .str z t) (typeIs_str s z t) ?_)
  have e1 : Builtin.List.listSameRef (.ref l) (.str z t) = false := rfl
  have e2 : (Value.type "str" == Value.type "list") = false := by decide
  have e3 : (Value.type "str" == Value.type "tuple") = false := by decide
  simp only [e1, e2, e3, Bool.or_false, Bool.false_eq_true, if_false]
  refine wpAny_bind (wpAny_pyIter_str fun o St hW h0 => ?_)
  refine wpAny_bind (wpAny_holding (no_hint ?_))
  rw [if_neg (by first | decide | decide +kernel)]
  have W := hW A.in1 hh
  refine wpAny_pure ⟨plainId_quiet PySem.F.plain_extend_loop _, codeAny_extend_loopS W.toS hz _ apart _ z.cps.size 0 _ _ _ rfl (Nat.zero_le _) h0 (Heap.get?_push_of_some _ hl) (ItemsOf.nil _) fun s' got c' hm hl' hgot => ?_⟩
  rw [Moved.eq_with hm]
  refine hR s'.heap s'.toks got c' (fun b ob hb e => hm.heap b ob (fun m => ?_) (Heap.get?_push_of_some _ e)) hl' hgot
  rcases List.mem_cons.mp m with q | m
  · exact hb q
  · exact absurd (Heap.lt_size e) (by rw [List.mem_singleton.mp m]; exact Nat.lt_irrefl _)
theorem begun {R : Result → Shared → Prop} (hh : A.handled = none) (z : Str) (t : Tok) (l : Addr) (hl : s.heap.get? l = some { cls := .type "list", data := .seq #[] }) (hz : z.cps.size ≤ sizeLine)
    (hR : ∀ h' tk got c', (∀ b o, b ≠ l → s.heap.get? b = some o → h'.get? b = some o) → h'.get? l = some { cls := .type "list", dict := none, data := .seq got c', slots := #[] } → ItemsOf (SignAt z) got z.cps.size → R (.ok (.ret .none)) { s with heap := h', toks := tk }) :
    wpAny (model prog w) A.in1 (Builtin.«list.__init__» ⟨[.ref l, .str z t], []⟩)
      (fun fin s' => match fin with | .done f => R (.ok f) s' | .again c' => c'.quiet = true ∧ codeAny (model prog w) A c' R s') (fun e s' => R (.error e) s') s := by
  show wpAny _ _ (do let old ← Builtin.List.listItems (.ref l); Builtin.List.listUpdate (.ref l) (fun _ => #[]); letGo old.toList.reverse; Builtin.List.listExtendWith (.ref l) (.str z t) .none) _ _ s
  refine wpAny_bind ?_
  unfold Builtin.List.listItems
  refine wpAny_bind (wpAny_seqItems hl rfl (wpAny_pure ?_))
  show wpAny _ _ (updateSeq l (fun _ => #[]) >>= fun _ => letGo (#[] : Array Value).toList.reverse >>= fun _ => Builtin.List.listExtendWith (.ref l) (.str z t) .none) _ _ s
  refine wpAny_bind (wpAny_updateSeq hl rfl ?_)
  have hl2 := Heap.get?_update_self (Obj.mapSeq (fun _ => (#[] : Array Value))) hl rfl
  refine wpAny_bind (wpAny_letGo ?_)
  exact grown hh z t l .none _ hl2 hz fun h' tk got c' hk e hi => hR h' tk got c' (fun b o hb q => hk b o hb ((Heap.get?_update_other _ _ (Ne.symm hb)).trans q)) e hi
theorem list_text {z : Str} {t : Tok} {Q : Value → Shared → Prop} (hh : A.handled = none) (hz : z.cps.size ≤ sizeLine)
    (hQ : ∀ h' tk got c', (∀ b o, s.heap.get? b = some o → h'.get? b = some o) → h'.get? s.heap.objs.size = some { cls := .type "list", dict := none, data := .seq got c', slots := #[] } → ItemsOf (SignAt z) got z.cps.size →
      Q (.ref s.heap.objs.size) { s with heap := h', toks := tk }) : wpAny (model prog w) A (call (.type "list") [.str z t]) Q E s := by
  refine callType_codes (Q₁ := fun obj s₁ => obj = .ref s.heap.objs.size ∧ s₁ = { s with heap := s.heap.push { cls := .type "list", data := .seq #[] } }) PySem.F.called_list (PySem.F.typeCall_list_1 _) PySem.F.entry_list_init
    (code_list_new _ ⟨rfl, rfl⟩) fun obj s₁ e => ?_
  obtain ⟨rfl, rfl⟩ := e
  have hl : (s.heap.push { cls := .type "list", data := .seq #[] }).get? s.heap.objs.size = some { cls := .type "list", data := .seq #[] } := Heap.get?_push_size _ rfl
  refine ⟨⟨_, hl, rfl⟩, PySem.F.args_list_init_2 _ _, begun (A := A.in1) hh z t _ hl hz fun h' tk got c' hk e hi => ?_⟩
  exact ⟨rfl, hQ h' tk got c' (fun b o q => hk b o (Nat.ne_of_lt (Heap.lt_size q)) (Heap.get?_push_of_some _ q)) e hi⟩
end
end Lw.Ls
namespace Lw
open PySem PySem.Spec PyProof.Rows L2
section
variable {X : Cx}
def signs (z : Str) : List V := z.cps.toList.map fun c => V.str ⟨#[c]⟩
theorem call_list_txt (hc : X.calm = true) : CallR X (.type "list") (fun xs H Q => ∃ z, xs = [.str z] ∧ z.cps.size ≤ sizeLine ∧ ∀ l, H l = none → Q (.ref l) (upd H l (.lst (signs z)))) := by
  intro pins s σ H xs us Q I r h
  obtain ⟨z, rfl, hz, q⟩ := h
  obtain ⟨u, rfl, ru⟩ := vals1 r
  obtain ⟨t, rfl⟩ := ru
  refine Ls.list_text (I.ok.hd hc) hz fun h' tk got c' hk e hi => ?_
  have lz : (signs z).length = z.cps.size := by unfold signs; rw [List.length_map, Array.length_toList]
  refine ⟨.ref s.heap.objs.size, upd H s.heap.objs.size (.lst (signs z)), I.laid hk (Nat.le_refl _) ⟨by rw [lz]; exact hz, got.toList, c', ?_, by rw [Array.toArray_toList]; exact e⟩, rfl, q _ (I.hok.fresh (Nat.le_refl _))⟩
  refine vals_of_idx _ _ (by rw [lz, Array.length_toList]; exact hi.1) fun j u hj => ?_
  obtain ⟨c, t', hcj, rfl⟩ := hi.2 j u (by rw [← Array.getElem?_toList]; exact hj)
  exact ⟨.str ⟨#[c]⟩, by unfold signs; rw [List.getElem?_map, Array.getElem?_toList, hcj]; rfl, ⟨_, rfl⟩⟩
end
end Lw
namespace Lw
open PySem PySem.Spec PyProof.Rows L2

open SX PySem.NumText TL LamX
abbrev sWord : Stmt := top 32
/-- a text that a number may be asked of -/
def WordV (v : V) : Prop := ∃ cs : List Nat, v = .str (S cs) ∧ (∀ c ∈ cs, c < 128) ∧ cs.length ≤ 480
def wordB : V → Bool
  | .str z => z.cps.toList.all (fun c => decide (c < 128)) && decide (z.cps.toList.length ≤ 480)
  | _ => false
theorem wordV_of {v : V} (h : wordB v = true) : WordV v := by
  cases v <;> first | cases h | skip
  rename_i z
  simp only [wordB, Bool.and_eq_true, List.all_eq_true, decide_eq_true_eq] at h
  exact ⟨z.cps.toList, by rw [S_tl], h.1, h.2⟩
theorem wordB_of {v : V} (h : WordV v) : wordB v = true := by
  obtain ⟨cs, rfl, h1, h2⟩ := h
  simp only [wordB, Bool.and_eq_true, List.all_eq_true, decide_eq_true_eq]
  exact ⟨h1, h2⟩
theorem joinL_one : ∀ cs : List Nat, TL.joinL [] (cs.map fun c => [c]) = cs
  | [] => rfl
  | [c] => rfl
  | c :: d :: r => by
    show [c] ++ ([] ++ TL.joinL [] ((d :: r).map fun c => [c])) = c :: d :: r
    rw [joinL_one (d :: r)]
    rfl
theorem ones : ∀ cs : List Nat, ((cs.map fun c => S [c]).map (·.length)).sum = cs.length
  | [] => rfl
  | c :: r => by
    rw [List.map_cons, List.map_cons, List.sum_cons, ones r, List.length_cons, S_len]
    show 1 + r.length = r.length + 1
    omega
theorem num_word {n : Int} (h1 : -(10 ^ 13) < n) (h2 : n < 10 ^ 13) : WordV (.str (Str.ofString (toString n))) ∧ n.natAbs.log2 < 1920 := by
  have hl := log_small (n := n.natAbs) (k := 13) (by omega) (by decide)
  refine ⟨?_, hl⟩
  obtain ⟨k, e⟩ | ⟨k, e, k0⟩ : (∃ k : Nat, n = (k : Int)) ∨ (∃ k : Nat, n = -(k : Int) ∧ 0 < k) := by
    by_cases c : 0 ≤ n
    · exact .inl ⟨n.toNat, by omega⟩
    · exact .inr ⟨(-n).toNat, by omega, by omega⟩
  · subst e
    refine ⟨numL k, by rw [str_nat], fun c hc => ?_, Nat.le_trans (numL_len (k := 13) (by decide) (by omega)) (by decide)⟩
    have := numL_digits k c hc
    omega
  · subst e
    refine ⟨45 :: numL k, by rw [str_neg k0], fun c hc => ?_, ?_⟩
    · rcases List.mem_cons.mp hc with e | hc
      · rw [e]; decide
      · have := numL_digits k c hc
        omega
    · have := numL_len (n := k) (k := 13) (by decide) (by omega)
      simp only [List.length_cons]
      omega
def spWord : Sp := fun vs H Q _ => ∃ (p l : Addr) (n : Nat), vs = [.ref p] ∧ Pen H p l n ∧ n ≤ 900000 ∧ ∀ (v : V) (H' : Hp), WordV v → Pen H' p l (n + 13) → Kp p H H' → Q v H'
section
variable {P : Program} {w : World} {K : PySem.W.Frag} {mg : Str → Option Value} {base : Heap}
theorem scWord : FnScope ["_law_pen_here", "_law_words_so", "_law_letters", "_law_lap"] ["_law_pen_here"] (C8.fnScope sWord) := C8.fnScope_by (by decide +kernel)
theorem cal_word {f : Addr} {fd : FuncData} (F : C8.Def K mg "_law_word" sWord f fd) (b : Binds K fd ["_law_pen_here"] []) (T : TxtN K mg) (D1 : C8.Cal P w K mg base 1 "_law_draw" spDraw []) (D2 : C8.Cal P w K mg base 2 "_law_pick" (spPick K) []) : C8.Cal P w K mg base 3 "_law_word" spWord [] := by
  refine C8.cal0 F b .nil scWord (fun vs H Q E h => ?_) (fun cdv A outer st H vs Q E hr h => ?_)
  · obtain ⟨p, l, n, rfl, _⟩ := h
    rfl
  · obtain ⟨p, pl, n, rfl, hp, hn, k⟩ := h
    refine ⟨_, (pss_cons (ps_set (i := 1) scWord.nd rfl (Or.inl rfl) (pe_lst (pa_cons pe_str (pa_cons pe_str (pa_cons pe_str (pa_cons pe_str (pa_cons pe_str (pa_cons pe_str (pa_cons pe_str (pa_cons pe_str (pa_cons pe_str (pa_cons pe_str (pa_cons pe_str (pa_cons pe_str (pa_cons pe_str pa_nil)))))))))))))))
  (pss_cons (ps_set (i := 1) scWord.nd rfl (Or.inl rfl) (pe_op op_cat (pv 1) (pe_lst (pa_cons pe_str (pa_cons pe_str (pa_cons pe_str (pa_cons pe_str (pa_cons pe_str (pa_cons pe_str (pa_cons pe_str (pa_cons pe_str (pa_cons pe_str (pa_cons pe_str pa_nil)))))))))))))
  (pss_cons (ps_set (i := 1) scWord.nd rfl (Or.inl rfl) (pe_op op_cat (pv 1) (pe_lst (pa_cons pe_str (pa_cons pe_str (pa_cons pe_str (pa_cons pe_str (pa_cons pe_str (pa_cons pe_str pa_nil)))))))))
  (pss_cons (ps_set (i := 1) scWord.nd rfl (Or.inl rfl) (pe_op op_cat (pv 1) (pe_lst (pa_cons pe_str (pa_cons pe_str (pa_cons pe_str (pa_cons pe_str (pa_cons pe_str (pa_cons (pe_op op_add_str pe_str (pe_op op_mulS pe_str pe_int)) (pa_cons (pe_op op_add_str pe_str (pe_op op_mulS pe_str pe_int)) (pa_cons (pe_op op_mulS pe_str pe_int) pa_nil)))))))))))
  (pss_cons (ps_set (i := 2) scWord.nd rfl (Or.inl rfl) (pe_join pe_str (pe_lc (own := [("_law_lap", 3)]) (g := gName 3) (tt := tYes) rfl scWord.nd (pi_range1 (by rfl) T.n_range (pa_cons (pe_op op_add pe_int (C8.pe_c D1 hr (by decide) (by rfl) (pa_cons (pv 0) (pa_cons pe_int pa_nil)))) pa_nil)) (blkOk_by (own := [("_law_lap", 3)]) (N := ["_law_pen_here", "_law_words_so", "_law_letters", "_law_lap"]) (sc := (C8.fnScope sWord)) (by decide +kernel)) (fun _ _ _ _ _ => pg_name (i := 3) scWord.nd rfl (Or.inl rfl)) (fun _ _ _ _ _ => pts_nil) (fun _ _ _ _ _ => (C8.pe_c D2 hr (by decide) (by rfl) (pa_cons (pv 0) (pa_cons (pe_callTy (call_list_txt rfl) (by rfl) T.n_list (by decide +kernel) (pa_cons pe_str pa_nil)) pa_nil)))))))
  (pss_one (ps_ret (C8.pe_c D2 hr (by decide) (by rfl) (pa_cons (pv 0) (pa_cons (pe_op op_cat (pv 1) (pe_lst (pa_cons (pv 2) (pa_cons (pv 2) (pa_cons (pv 2) (pa_cons (pe_callTy call_str_int (by rfl) T.n_str (by decide +kernel) (pa_cons (pe_op op_sub (C8.pe_c D1 hr (by decide) (by rfl) (pa_cons (pv 0) (pa_cons (pe_op op_pow pe_int pe_int) pa_nil))) (pe_op op_pow pe_int pe_int)) pa_nil)) pa_nil)))))) pa_nil)))))))))), ?_⟩
    dsimp only [tSeq]
    refine join_any (fun σ' H' => ∃ l ws, σ' = [some (V.ref p), some (V.ref l), none, none] ∧ H' l = some (HO.lst ws) ∧ ws.all wordB = true ∧ ws.length = 13 ∧ Same H H') ?s1 (fun go => ⟨(by show 13 ≤ sizeLine; decide), fun l1 f1 => go _ _ ⟨l1, _, rfl, upd_same, by decide +kernel, rfl, same_new f1⟩⟩)
    case s1 =>
    rintro σ1 H1 ⟨l1, w1, rfl, a1, b1, c1, s1⟩
    dsimp only [tSeq]
    refine join_any (fun σ' H' => ∃ l ws, σ' = [some (V.ref p), some (V.ref l), none, none] ∧ H' l = some (HO.lst ws) ∧ ws.all wordB = true ∧ ws.length = 23 ∧ Same H H') ?s2 (fun go => ?_)
    rotate_left
    · refine ⟨_, rfl, (by show 10 ≤ sizeLine; decide), fun q fq => ?_⟩
      refine ⟨l1, q, w1, _, rfl, rfl, (same_new fq) _ _ a1, upd_same, (by rw [c1]; show 23 ≤ sizeLine; decide), fun l fl => ?_⟩
      refine go _ _ ⟨l, _, rfl, upd_same, ?_, ?_, s1.trans ((same_new fq).trans (same_new fl))⟩
      · rw [List.all_append, b1]; decide +kernel
      · rw [List.length_append, c1]; rfl
    case s2 =>
    rintro σ2 H2 ⟨l2, w2, rfl, a2, b2, c2, s2⟩
    dsimp only [tSeq]
    refine join_any (fun σ' H' => ∃ l ws, σ' = [some (V.ref p), some (V.ref l), none, none] ∧ H' l = some (HO.lst ws) ∧ ws.all wordB = true ∧ ws.length = 29 ∧ Same H H') ?s3 (fun go => ?_)
    rotate_left
    · refine ⟨_, rfl, (by show 6 ≤ sizeLine; decide), fun q fq => ?_⟩
      refine ⟨l2, q, w2, _, rfl, rfl, (same_new fq) _ _ a2, upd_same, (by rw [c2]; show 29 ≤ sizeLine; decide), fun l fl => ?_⟩
      refine go _ _ ⟨l, _, rfl, upd_same, ?_, ?_, s2.trans ((same_new fq).trans (same_new fl))⟩
      · rw [List.all_append, b2]; decide +kernel
      · rw [List.length_append, c2]; rfl
    case s3 =>
    rintro σ3 H3 ⟨l3, w3, rfl, a3, b3, c3, s3⟩
    dsimp only [tSeq]
    refine join_any (fun σ' H' => ∃ l ws, σ' = [some (V.ref p), some (V.ref l), none, none] ∧ H' l = some (HO.lst ws) ∧ ws.all wordB = true ∧ ws.length = 37 ∧ Same H H') ?s4 (fun go => ?_)
    rotate_left
    · refine ⟨_, rfl, [48], 30, rfl, rfl, by decide, by decide, by decide, _, _, rfl, rfl, by decide +kernel, [48], 31, rfl, rfl, by decide, by decide, by decide, _, _, rfl, rfl, by decide +kernel, [120], 9, rfl, rfl, by decide, by decide, by decide, ?_⟩
      refine ⟨(by show 8 ≤ sizeLine; decide), fun q fq => ?_⟩
      refine ⟨l3, q, w3, _, rfl, rfl, (same_new fq) _ _ a3, upd_same, (by rw [c3]; show 37 ≤ sizeLine; decide), fun l fl => ?_⟩
      refine go _ _ ⟨l, _, rfl, upd_same, ?_, ?_, s3.trans ((same_new fq).trans (same_new fl))⟩
      · rw [List.all_append, b3]; decide +kernel
      · rw [List.length_append, c3]; rfl
    case s4 =>
    rintro σ4 H4 ⟨l4, w4, rfl, a4, b4, c4, s4⟩
    have hp4 := hp.keep s4
    dsimp only [tSeq]
    refine join_any (fun σ' H' => ∃ cs, σ' = [some (V.ref p), some (V.ref l4), some (V.str (S cs)), none] ∧ H' l4 = some (HO.lst w4) ∧ (∀ c ∈ cs, c < 128) ∧ cs.length ≤ 10 ∧ Pen H' p pl (n + 11) ∧ Kp p H H') ?s5 (fun go => ?_)
    rotate_left
    · have ne4 : l4 ≠ p := fun e => by
        obtain ⟨xs, s, g, hh, _⟩ := hp4
        rw [e, hh.at_] at a4
        cases HO.lst.inj (Option.some.inj a4)
        exact absurd b4 (by simp [wordB])
      refine ⟨⟨_, rfl⟩, ?_⟩
      refine ⟨_, rfl, p, pl, n, 10, rfl, by decide, by decide, hp4, by omega, fun r H5 r0 r1 hp5 k5 => ?_⟩
      refine ⟨1, r, rfl, rfl, 1 + r, rfl, by omega, by omega, fun D hD => ?_⟩
      have Dp := hp5.ne_new hD
      have Dl := hp5.ne_new2 hD
      refine lc_it (walk_range (lo := 0) (n := (1 + r).toNat)) (fun i H' => ∃ cs : List Nat, H' D = some (.lst (cs.map fun c => V.str ⟨#[c]⟩)) ∧ (∀ c ∈ cs, c < 128) ∧ cs.length = i ∧ Pen H' p pl (n + 1 + i) ∧ (∀ b o, b ≠ p → b ≠ D → H5 b = some o → H' b = some o))
        ⟨[], upd_same, (fun c hc => by cases hc), rfl, hp5.keep (same_new hD), fun b o _ hb e => by rw [upd_ne hb]; exact e⟩ (fun _ _ _ _ => trivial) ?_ ?_
      · rintro i x H6 H7 hi ⟨cs, e1, e2, e3, e4, e5⟩ hY
        obtain ⟨rfl, rfl⟩ := hY
        refine ⟨rfl, ?_⟩
        dsimp only [tYes]
        rw [if_pos rfl]
        refine ⟨_, rfl, _, rfl, by decide +kernel, fun l fl => ?_⟩
        have lD : l ≠ D := fun e => by rw [e, e1] at fl; cases fl
        have sl := same_new (o := HO.lst (signs (Str.ofString "abcxyzqrw"))) fl
        refine ⟨p, pl, l, n + 1 + i, _, rfl, e4.keep sl, by omega, SqL.of upd_same, e4.ne_new fl, by decide +kernel, by decide +kernel, fun j v H8 hj hp8 k8 => ?_⟩
        have hv : v ∈ signs (Str.ofString "abcxyzqrw") := List.mem_of_getElem? hj
        obtain ⟨c, hc, rfl⟩ := List.mem_map.mp hv
        have c128 : c < 128 := by
          have all : (Str.ofString "abcxyzqrw").cps.toList.all (fun c => decide (c < 128)) = true := by decide +kernel
          exact of_decide_eq_true (List.all_eq_true.mp all c hc)
        have at8 : H8 D = some (.lst (cs.map fun c => V.str ⟨#[c]⟩)) := k8 _ _ Dp (sl _ _ e1)
        refine ⟨_, at8, (by rw [List.length_map, sizeLine_eq]; omega), cs ++ [c], by rw [upd_same, List.map_append]; rfl, fun d hd => ?_, by rw [List.length_append]; show cs.length + 1 = _; omega, hp8.over Dp Dl, fun b o h1 h2 e => ?_⟩
        · rcases List.mem_append.mp hd with hd | hd
          · exact e2 d hd
          · rw [List.mem_singleton.mp hd]; exact c128
        · rw [upd_ne h2]
          exact k8 _ _ h1 (sl _ _ (e5 b o h1 h2 e))
      · rintro H6 ⟨cs, e1, e2, e3, e4, e5⟩
        have ej : Txt.join (Str.ofString "") (cs.map fun c => S [c]) = S cs := by
          rw [show (Str.ofString "" : Str) = S [] from rfl, show (cs.map fun c => S [c]) = (cs.map fun c => [c]).map S from by rw [List.map_map]; rfl, join_S, joinL_one]
        have r0' : cs.length ≤ 10 := by omega
        refine ⟨_, D, cs.map fun c => S [c], rfl, rfl, .inl (SqL.of (by rw [e1, List.map_map]; rfl)), ?_, ?_⟩
        · rw [ones, List.length_map]
          show cs.length + cs.length * 0 ≤ _
          omega
        · rw [ej]
          have far : ∀ b o, b ≠ p → H4 b = some o → H6 b = some o := fun b o hb e => e5 b o hb (ne_of_none (k5 b o hb e) hD) (k5 b o hb e)
          exact go _ _ ⟨cs, rfl, far _ _ ne4 a4, e2, r0', e4.more (by omega), fun b o hb e => far b o hb (s4 b o e)⟩
    case s5 =>
    rintro σ5 H5 ⟨cs, rfl, a5, b5, c5, hp5, k5⟩
    refine ⟨_, rfl, _, rfl, _, rfl, _, rfl, _, rfl, _, rfl, _, _, rfl, rfl, ⟨by decide, by decide, by decide⟩, p, pl, n + 11, _, rfl, by decide, by decide, hp5, by omega, fun r H6 r0 r1 hp6 k6 => ?_⟩
    refine ⟨_, _, rfl, rfl, ⟨by decide, by decide, by decide⟩, r, _, rfl, rfl, ?_⟩
    have r1' : r < 10 ^ 12 := r1
    obtain ⟨nw, nl⟩ := num_word (n := r - 10 ^ 6) (by omega) (by omega)
    refine ⟨_, rfl, nl, (by show 4 ≤ sizeLine; decide), fun q fq => ?_⟩
    have ne4 : l4 ≠ p := fun e => by
      obtain ⟨xs, s, g, hh, _⟩ := hp4
      rw [e, hh.at_] at a4
      cases HO.lst.inj (Option.some.inj a4)
      exact absurd b4 (by simp [wordB])
    have sq := same_new (o := HO.lst [V.str (S cs), V.str (S cs), V.str (S cs), V.str (Str.ofString (toString (r - 10 ^ 6)))]) fq
    refine ⟨l4, q, w4, _, rfl, rfl, sq _ _ (k6 _ _ ne4 a5), upd_same, (by rw [c4]; show 41 ≤ sizeLine; decide), fun l fl => ?_⟩
    have sl := same_new (o := HO.lst (w4 ++ [V.str (S cs), V.str (S cs), V.str (S cs), V.str (Str.ofString (toString (r - 10 ^ 6)))])) fl
    have len : (w4 ++ [V.str (S cs), V.str (S cs), V.str (S cs), V.str (Str.ofString (toString (r - 10 ^ 6)))]).length = 41 := by rw [List.length_append, c4]; rfl
    have hp7 := (hp6.keep sq).keep sl
    refine ⟨p, pl, l, n + 12, _, rfl, hp7, by omega, SqL.of upd_same, (hp6.keep sq).ne_new fl, Nat.lt_of_lt_of_eq (show 0 < 41 by decide) len.symm, Nat.lt_of_le_of_lt (Nat.le_of_eq len) (by decide), fun j v H9 hj hp9 k9 => ?_⟩
    refine k v H9 (wordV_of ?_) hp9 (fun b o hb e => k9 b o hb (sl _ _ (sq _ _ (k6 b o hb (k5 b o hb e)))))
    have lw : wordB (V.str (S cs)) = true := wordB_of ⟨cs, rfl, b5, by omega⟩
    have all : (w4 ++ [V.str (S cs), V.str (S cs), V.str (S cs), V.str (Str.ofString (toString (r - 10 ^ 6)))]).all wordB = true := by
      rw [List.all_append, b4, List.all_cons, List.all_cons, List.all_cons, List.all_cons, lw, wordB_of nw]
      rfl
    exact List.all_eq_true.mp all v (List.mem_of_getElem? hj)
end
end Lw
namespace Lw
open PySem PySem.Spec PyProof.Rows L2

open LamX
/-- a statement that is not reached -/
theorem ps_never {X : Cx} {st : Stmt} : PS X st (fun _ _ _ => False) := ⟨fun pins s σ H D I h => h.elim⟩
abbrev sInit : Stmt := inClass (top 23) 0
def spInit (C : Addr) : Sp := fun vs H Q _ => ∃ (x dx : Addr) (a b : Int), vs = [.ref x, .int a, .int b] ∧ 0 < b ∧ b < 1000 ∧ -1000 < a ∧ a < 1000 ∧ H x = some (.ins C dx []) ∧ ∀ fs, Q .non (upd H x (.ins C dx fs))
section
variable {P : Program} {w : World} {K : PySem.W.Frag} {mg : Str → Option Value} {base : Heap}
theorem scInit : FnScope ["self", "over", "under", "common"] ["self", "over", "under"] (C8.fnScope sInit) := C8.fnScope_by (by decide +kernel)
theorem mak_ratio {C f : Addr} {fd : FuncData} {ds : List Value} {dvs : List V} (M : Mk K C f) (hm : mg "Ratio" = some (.ref C)) (F : C8.Fun K "__init__" "Ratio.__init__" sInit f fd) (b : Binds K fd ["self", "over", "under"] ds) (d : Vals dvs ds) (cl : Cls K C) (n1 : NoAttr K C "over") (n2 : NoAttr K C "under")
    (hgcd : mg "gcd" = some (.builtin "math.gcd")) (DI : C8.Cal P w K mg base 1 "is_integer" (spIsInt K) []) : C8.Mak P w K mg base 2 "Ratio" C (spInit C) dvs := by
  refine C8.mak0 M hm F b d scInit (fun vs H Q E h => ?_) (fun cdv A outer st H vs Q E hr h => ?_)
  · obtain ⟨x, dx, a, b, rfl, _⟩ := h
    rfl
  · obtain ⟨x, dx, a, b, rfl, b0, b1, a0, a1, hx, k⟩ := h
    refine ⟨_, (pss_cons (ps_if (pt_not (pt_val (C8.pe_c DI hr (by decide) (by rfl) (pa_cons (pv 1) pa_nil)))) (pss_one ps_never) pss_nil)
  (pss_cons (ps_if (PW.pt (pw_or (pt_not (pt_val (C8.pe_c DI hr (by decide) (by rfl) (pa_cons (pv 2) pa_nil)))) (pw_or1 (pt_cmpR op_eq (pv 2) pe_int (nomark _))))) (pss_one ps_never) pss_nil)
  (pss_cons (ps_set (i := 3) scInit.nd rfl (Or.inl rfl) (pe_ifExp (pt_cmpR op_gt (pv 2) pe_int (nomark _)) (pe_callBfun cr_gcd (by rfl) hgcd (pa_cons (pv 1) (pa_cons (pv 2) pa_nil))) (pe_un un_neg (pe_callBfun cr_gcd (by rfl) hgcd (pa_cons (pv 1) (pa_cons (pv 2) pa_nil))))))
  (pss_cons (ps_fld (pv 0) (pe_op op_fdivW (pv 1) (pv 3)) rfl)
  (pss_one (ps_fld (pv 0) (pe_op op_fdivW (pv 2) (pv 3)) rfl)))))), ?_⟩
    have g0 : (0 : Int) < ((Nat.gcd a.natAbs b.natAbs : Nat) : Int) := by
      have := Nat.gcd_pos_of_pos_right a.natAbs (show 0 < b.natAbs by omega)
      omega
    have g1 : (((Nat.gcd a.natAbs b.natAbs : Nat) : Int)).natAbs.log2 < 9000 := by
      have h1 := Nat.gcd_le_right a.natAbs (show 0 < b.natAbs by omega)
      have h2 := log_small (n := Nat.gcd a.natAbs b.natAbs) (k := 3) (by omega) (by decide)
      rw [Int.natAbs_natCast]
      omega
    refine ⟨_, rfl, _, rfl, .int _, _, rfl, iteF ?_⟩
    refine ⟨_, rfl, _, rfl, .int _, _, rfl, iteF ⟨_, rfl, rfl, _, rfl, ?_⟩⟩
    refine ite2 (fun c => absurd (V.int.inj (of_decide_eq_true c)) (by omega)) (fun _ => ?_)
    refine ⟨_, rfl, _, _, rfl, rfl, _, rfl, ite2 (fun _ => ?_) (fun c => absurd (decide_eq_true b0) c)⟩
    refine ⟨_, rfl, _, rfl, _, _, rfl, ?_⟩
    refine ⟨_, rfl, _, rfl, _, _, rfl, rfl, ⟨g0, g1⟩, _, rfl, x, C, dx, [], rfl, hx, cl, n1, (by show 0 < 1000; decide), ?_⟩
    refine ⟨_, rfl, _, rfl, _, _, rfl, rfl, ⟨g0, g1⟩, _, rfl, x, C, dx, _, rfl, upd_same, cl, n2, (by show 1 < 1000; decide), ?_⟩
    rw [upd_upd]
    exact k _
end
end Lw
namespace Lw
open PySem PySem.Spec PyProof.Rows L2

open LamX
abbrev sThing : Stmt := top 31
/-- a def whose code object is known -/
structure DefC (K : PySem.W.Frag) (mg : Str → Option Value) (x : Str) (st : Stmt) (f : Addr) (fd : FuncData) (c : Addr) : Prop where
  ex : ∃ (oc : Value) (od : Option Addr) (dV kV doc pm : Value) (an : Option Addr) (ct : Value) (osl : Array (Option Value)),
    fd = PySem.W.fnOf x x (C8.fnArgs st) (C8.fnBody st) (C8.fnScope st) dV kV doc pm an (.ref c) ct ∧ K.lookup f = some ⟨oc, od, .func fd, osl⟩ ∧ PySem.W.codeIn K (.ref c) x = true
  mgf : mg x = some (.ref f)
  kp : PySem.W.keepIn K (.ref f) = true
/-- what isinstance tells of a kind: neither an int nor a bool nor a text -/
structure Odd (K : PySem.W.Frag) (t : Value) : Prop where
  i : PySem.W.kitOne K t (.type "int") = some false
  b : PySem.W.kitOne K t (.type "bool") = some false
  s : PySem.W.kitOne K t (.type "str") = some false
structure Odds (K : PySem.W.Frag) (C : Addr) : Prop where
  tup : Odd K (.type "tuple")
  lst : Odd K (.type "list")
  dct : Odd K (.type "dict")
  fn : Odd K (.type "function")
  own : Odd K (.ref C)
theorem Odd.any {K : PySem.W.Frag} {H : Hp} {a : Addr} {t : Value} (o : Odd K t) (h : TyZ K H (.ref a) t) : Anyv K H (.ref a) := .obj h o.i o.b o.s
theorem Anyv.move {K : PySem.W.Frag} {H H' : Hp} {v : V} (h : Anyv K H v) (k : ∀ a o, v = .ref a → H a = some o → (∀ ps, o ≠ .tbl ps) → H' a = some o) : Anyv K H' v := by
  cases h with
  | int i => exact .int i
  | non => exact .non
  | bl b => exact .bl b
  | str z => exact .str z
  | obj h h1 h2 h3 =>
    refine .obj ?_ h1 h2 h3
    cases h with
    | fn e => exact .fn (k _ _ rfl e fun ps z => by unfold FnO at z; cases z)
    | x h =>
      refine .x ?_
      cases h with
      | base h =>
        refine .base ?_
        cases h with
        | lst e => exact .lst (k _ _ rfl e fun ps z => by cases z)
        | frz e => exact .frz (k _ _ rfl e fun ps z => by cases z)
        | tup e => exact .tup (k _ _ rfl e fun ps z => by cases z)
        | dK e => exact .dK (k _ _ rfl e fun ps z => by cases z)
        | dT e => exact .dT (k _ _ rfl e fun ps z => by cases z)
        | ins e cl ha hn htk hm => exact .ins (k _ _ rfl e fun ps z => by cases z) cl ha hn htk hm
      | set e => exact .set (k _ _ rfl e fun ps z => by cases z)
      | kList e c => exact .kList e c
      | kTuple e c => exact .kTuple e c
      | kDict e c => exact .kDict e c
      | fTuple e => exact .fTuple (k _ _ rfl e fun ps z => by cases z)
      | fDict e => exact .fDict (k _ _ rfl e fun ps z => by cases z)
/-- what stands while the things are made: the pen, the tables, the ints at l1, the things so far -/
structure Mid (K : PySem.W.Frag) (T : List (Addr × Str)) (p pl l1 : Addr) (n : Nat) (ws : List V) (H : Hp) (vs : List V) : Prop where
  pen : Pen H p pl n
  tab : Tabs T H
  near : H l1 = some (.lst ws)
  all : ∀ v ∈ vs, Anyv K H v ∧ v ≠ .ref p ∧ isS v = false
section
variable {K : PySem.W.Frag} {T : List (Addr × Str)} {p pl l1 : Addr} {n : Nat} {ws vs : List V} {H : Hp}
theorem Mid.lay (m : Mid K T p pl l1 n ws H vs) {q : Addr} {o : HO} (hq : H q = none) : Mid K T p pl l1 n ws (upd H q o) vs :=
  ⟨m.pen.keep (same_new hq), m.tab.ext (same_new hq), same_new hq _ _ m.near, fun v hv => ⟨Lw.Anyv.same (same_new hq) (m.all v hv).1, (m.all v hv).2⟩⟩
theorem Mid.add (m : Mid K T p pl l1 n ws H vs) {v : V} (h : Anyv K H v) (ne : v ≠ .ref p) (hs : isS v = false) : Mid K T p pl l1 n ws H (vs ++ [v]) :=
  ⟨m.pen, m.tab, m.near, fun x hx => by
    rcases List.mem_append.mp hx with hx | hx
    · exact m.all x hx
    · rw [List.mem_singleton.mp hx]; exact ⟨h, ne, hs⟩⟩
theorem Mid.put (m : Mid K T p pl l1 n ws H vs) {q : Addr} {o : HO} {t : Value} (hq : H q = none) (od : Odd K t) (h : TyZ K (upd H q o) (.ref q) t) : Mid K T p pl l1 n ws (upd H q o) (vs ++ [.ref q]) :=
  (m.lay hq).add (od.any h) (fun e => m.pen.ne_new hq (V.ref.inj e)) rfl
theorem Mid.tabs (m : Mid K T p pl l1 n ws H vs) {H' : Hp} (e : ExtN H H') (t : Tabs T H') : Mid K T p pl l1 n ws H' vs := by
  obtain ⟨⟨xs, a, g, ⟨h1, h2, h3, h4, h5⟩, h6⟩, _, i, al⟩ := m
  have nl : ∀ (ys : List V) ps, HO.lst ys ≠ .tbl ps := fun ys ps z => by cases z
  exact ⟨⟨xs, a, g, ⟨e _ _ h1 (nl _), e _ _ h2 (nl _), h3, h4, h5⟩, h6⟩, t, e _ _ i (nl _), fun v hv => ⟨(al v hv).1.move fun a o _ h n => e a o h n, (al v hv).2⟩⟩
theorem Tabs.kp {H' : Hp} (t : Tabs T H) (hp : Pen H p pl n) (k : Kp p H H') : Tabs T H' := by
  intro q hq
  obtain ⟨ps, h1, h2, h3⟩ := t q hq
  obtain ⟨xs, a, g, hh, _⟩ := hp
  refine ⟨ps, k _ _ (fun e => ?_) h1, h2, fun pos cv hc => ?_⟩
  · rw [e, hh.at_] at h1; cases h1
  · obtain ⟨c, e1, e2⟩ := h3 pos cv hc
    refine ⟨c, e1, k _ _ (fun e => ?_) e2⟩
    rw [e, hh.at_] at e2
    unfold CodeO at e2
    cases e2
end
abbrev tabOf (B : Addr) : List (Addr × Str) := [(B, (("_law_thing" : Str) ++ (".<locals>." : Str)) ++ ("<lambda>" : Str))]
def spThing (K : PySem.W.Frag) (B : Addr) : Sp := fun vs H Q _ => ∃ (p pl : Addr) (n : Nat), vs = [.ref p] ∧ Pen H p pl n ∧ n ≤ 900000 ∧ Tabs (tabOf B) H ∧ ∀ (v : V) (H' : Hp), Anyv K H' v → isS v = false → Pen H' p pl (n + 2) → Tabs (tabOf B) H' → Q v H'
section
variable {P : Program} {w : World} {K : PySem.W.Frag} {mg : Str → Option Value} {base : Heap}
theorem scThing : FnScope ["_law_pen_here", "_law_near", "_law_some"] ["_law_pen_here"] (C8.fnScope sThing) := C8.fnScope_by (by decide +kernel)
theorem calC {x : Str} {st : Stmt} {f c : Addr} {fd : FuncData} {N ps : List Str} {ds : List Value} {dvs : List V} {k : Nat} {sp : Sp} (F : DefC K mg x st f fd c) (b : Binds K fd ps ds) (d : Vals dvs ds) (S : FnScope N ps (C8.fnScope st)) (len : ∀ vs H Q E, sp vs H Q E → vs.length = ps.length)
    (body : ∀ (A : Around) (outer : List Env) (s : Shared) (H : Hp) (vs : List V) (Q : VK) (E : XK), Room k (A.deeper (envOfC x (C8.fnScope st) s.heap.objs.size f (.ref c))) → sp vs H Q E →
      ∃ t, PSs (cxOf C8.CX0 P w K mg base N x (C8.fnScope st) f (.ref c) A outer s H E).nox (C8.fnBody st) t ∧ t { nx := fun _ H' => Q .non H', rt := Q } (start N vs) H) : C8.Cal P w K mg base (k + 1) x sp dvs := by
  refine ⟨f, fd, ps, ds, ?_, F.mgf, F.kp, b, d⟩
  obtain ⟨oc, od, dV, kV, doc, pm, an, ct, osl, rfl, lk, hcd⟩ := F.ex
  refine fn_of lk hcd S len fun A outer s H vs Q E hr hsp => ?_
  obtain ⟨t, h1, h2⟩ := body A outer s H vs Q E hr hsp
  exact ⟨t, h1.nox, h2⟩
theorem cal_thing {f c B C : Addr} {fd : FuncData} (F : DefC K mg "_law_thing" sThing f fd c) (b : Binds K fd ["_law_pen_here"] []) (TB : TabB base mg c B) (O : Odds K C) (I : C8.InsC K C) (D1 : C8.Cal P w K mg base 1 "_law_draw" spDraw []) (D2 : C8.Cal P w K mg base 2 "_law_pick" (spPick K) [])
    (M2 : C8.Mak P w K mg base 2 "Ratio" C (spInit C) []) (M1 : C8.Mak P w K mg base 2 "Ratio" C (spInit C) [.int 1]) : C8.Cal P w K mg base 4 "_law_thing" (spThing K B) [] := by
  refine calC F b .nil scThing (fun vs H Q E h => ?_) (fun A outer st H vs Q E hr h => ?_)
  · obtain ⟨p, pl, n, rfl, _⟩ := h
    rfl
  · obtain ⟨p, pl, n, rfl, hp, hn, ht, k⟩ := h
    refine ⟨_, (pss_cons (ps_set (i := 1) scThing.nd rfl (Or.inl rfl) (pe_lst (pa_cons pe_int (pa_cons pe_int (pa_cons (pe_un un_neg pe_int) (pa_cons pe_int (pa_cons (pe_op op_pow pe_int pe_int) (pa_cons (pe_op op_add (pe_op op_pow pe_int pe_int) pe_int) (pa_cons (pe_op op_sub (pe_op op_pow pe_int pe_int) pe_int) (pa_cons (pe_un un_neg (pe_op op_pow pe_int pe_int)) (pa_cons pe_int (pa_cons pe_int (pa_cons (C8.pe_c D1 hr (by decide) (by rfl) (pa_cons (pv 0) (pa_cons (pe_op op_pow pe_int pe_int) pa_nil))) pa_nil)))))))))))))
  (pss_cons (ps_set (i := 2) scThing.nd rfl (Or.inl rfl) (pe_lst (pa_cons pe_non (pa_cons pe_bl (pa_cons pe_bl (pa_cons (pe_tup pa_nil) (pa_cons (pe_tup (pa_cons pe_int pa_nil)) (pa_cons (pe_lst pa_nil) (pa_cons (pe_lst (pa_cons pe_int pa_nil)) (pa_cons pe_dnewK (pa_cons (pe_disp (pps_cons pe_str pe_int pps_nil) rfl rfl (by decide) (by decide)) (pa_cons (C8.pe_mk M2 hr (by decide) (by rfl) (pa_cons pe_int (pa_cons pe_int pa_nil))) (pa_cons (C8.pe_mk M1 hr (by decide) (by rfl) (pa_cons pe_int pa_nil)) (pa_cons (pe_lamV (T := tabOf B) TB rfl (List.mem_singleton.mpr rfl) (fun p hp _ => by rw [List.mem_singleton.mp hp]; first | rfl | done) rfl (by decide)) pa_nil))))))))))))))
  (pss_one (ps_ret (C8.pe_c D2 hr (by decide) (by rfl) (pa_cons (pv 0) (pa_cons (pe_op op_cat (pv 1) (pv 2)) pa_nil))))))), ?_⟩
    dsimp only [tSeq]
    refine join_any (fun σ' H' => ∃ l1 ws, σ' = [some (V.ref p), some (V.ref l1), none] ∧ ws.length = 11 ∧ (∀ v ∈ ws, ∃ i, v = V.int i) ∧ Mid K (tabOf B) p pl l1 (n + 1) ws H' []) ?s1 (fun go => ?_)
    rotate_left
    · refine ⟨_, rfl, ?_⟩
      refine ⟨_, _, rfl, rfl, ⟨by decide, by decide, by decide⟩, ?_⟩
      refine ⟨_, _, rfl, rfl, ⟨by decide, by decide, by decide⟩, _, _, rfl, rfl, ?_⟩
      refine ⟨_, _, rfl, rfl, ⟨by decide, by decide, by decide⟩, _, _, rfl, rfl, ?_⟩
      refine ⟨_, _, rfl, rfl, ⟨by decide, by decide, by decide⟩, _, rfl, ?_⟩
      refine ⟨_, rfl, _, _, rfl, rfl, ⟨by decide, by decide, by decide⟩, p, pl, n, _, rfl, by decide, by decide, hp, by omega, fun r H1 r0 r1 hp1 k1 => ?_⟩
      refine ⟨(by show 11 ≤ sizeLine; decide), fun l fl => ?_⟩
      refine go _ _ ⟨l, _, rfl, rfl, ?_, ⟨hp1.keep (same_new fl), (Lw.Tabs.kp ht hp k1).ext (same_new fl), upd_same, fun v hv => by cases hv⟩⟩
      intro v hv
      simp only [List.mem_cons, List.not_mem_nil, or_false] at hv
      rcases hv with rfl | rfl | rfl | rfl | rfl | rfl | rfl | rfl | rfl | rfl | rfl <;> exact ⟨_, rfl⟩
    case s1 =>
    rintro σ1 H1 ⟨l1, ws, rfl, c1, a1, m0⟩
    replace m0 := ((m0.add .non nofun rfl).add (.bl true) nofun rfl).add (.bl false) nofun rfl
    refine ⟨(by show 0 ≤ sizeLine; decide), fun q1 f1 => ?_⟩
    have m1 := m0.put (o := .tup []) f1 O.tup (.x (.base (.tup upd_same)))
    refine ⟨(by show 1 ≤ sizeLine; decide), fun q2 f2 => ?_⟩
    have m2 := m1.put (o := .tup [V.int 1]) f2 O.tup (.x (.base (.tup upd_same)))
    refine ⟨(by show 0 ≤ sizeLine; decide), fun q3 f3 => ?_⟩
    have m3 := m2.put (o := .lst []) f3 O.lst (.x (.base (.lst upd_same)))
    refine ⟨(by show 1 ≤ sizeLine; decide), fun q4 f4 => ?_⟩
    have m4 := m3.put (o := .lst [V.int 1]) f4 O.lst (.x (.base (.lst upd_same)))
    intro q5 f5
    have m5 := m4.put (o := .dK []) f5 O.dct (.x (.base (.dK upd_same)))
    intro q6 f6
    refine ⟨upd_same, [(Sum.inr "a", V.int 1)], rfl, by decide, ?_⟩
    rw [upd_upd]
    have m6 := m5.put (o := .dK (mergeK [] [(Sum.inr "a", V.int 1)])) f6 O.dct (.x (.base (.dK upd_same)))
    generalize upd _ q6 _ = H6 at m6 ⊢
    intro x1 d1 hx1 hd1 ne1
    refine ⟨x1, d1, 1, 2, rfl, by decide, by decide, by decide, by decide, upd_same, fun fs1 => ⟨rfl, ?_⟩⟩
    rw [upd_upd]
    have m7 := (m6.lay (o := .own x1) hd1).put (o := .ins C d1 fs1) (by rw [upd_ne ne1.symm]; exact hx1) O.own (.x (.base (.ins upd_same I.cl I.ha I.hn I.htk I.hm)))
    generalize upd _ x1 _ = H7 at m7 ⊢
    intro x2 d2 hx2 hd2 ne2
    refine ⟨x2, d2, 3, 1, rfl, by decide, by decide, by decide, by decide, upd_same, fun fs2 => ⟨rfl, ?_⟩⟩
    rw [upd_upd]
    have m8 := (m7.lay (o := .own x2) hd2).put (o := .ins C d2 fs2) (by rw [upd_ne ne2.symm]; exact hx2) O.own (.x (.base (.ins upd_same I.cl I.ha I.hn I.htk I.hm)))
    generalize upd _ x2 _ = H8 at m8 ⊢
    refine ⟨m8.tab, fun g H9 e9 t9 f9 => ?_⟩
    have m9 := (m8.tabs e9 t9).put (o := FnO g) f9 O.fn (.fn upd_same)
    generalize upd _ g _ = H10 at m9 ⊢
    refine ⟨(by show 12 ≤ sizeLine; decide), fun l2 f10 => ?_⟩
    generalize hvs : ([] ++ [V.non] ++ [V.bl true] ++ [V.bl false] ++ [V.ref q1] ++ [V.ref q2] ++ [V.ref q3] ++ [V.ref q4] ++ [V.ref q5] ++ [V.ref q6] ++ [V.ref x1] ++ [V.ref x2] ++ [V.ref g]) = vs at m9
    have e12 : vs = [V.non, V.bl true, V.bl false, V.ref q1, V.ref q2, V.ref q3, V.ref q4, V.ref q5, V.ref q6, V.ref x1, V.ref x2, V.ref g] := hvs.symm
    dsimp only [gName]
    rw [← e12]
    have v12 : vs.length = 12 := by rw [e12]; rfl
    have m10 := m9.lay (o := .lst vs) f10
    refine ⟨_, rfl, _, rfl, _, rfl, l1, l2, ws, vs, rfl, rfl, m10.near, upd_same, (by rw [c1, v12]; decide), fun l3 f11 => ?_⟩
    have m11 := m10.lay (o := .lst (ws ++ vs)) f11
    have len : (ws ++ vs).length = 23 := by rw [List.length_append, c1, v12]
    refine ⟨p, pl, l3, n + 1, ws ++ vs, rfl, m11.pen, by omega, SqL.of upd_same, m10.pen.ne_new f11, by omega, by omega, fun j v H12 hj hp12 k12 => ?_⟩
    have go : Anyv K H12 v ∧ isS v = false := by
      rcases List.mem_append.mp (List.mem_of_getElem? hj) with hv | hv
      · obtain ⟨i, rfl⟩ := a1 v hv
        exact ⟨.int i, rfl⟩
      · obtain ⟨h1, h2, h3⟩ := m11.all v hv
        exact ⟨h1.move fun a o e h _ => k12 a o (fun z => h2 (by rw [e, z])) h, h3⟩
    exact k v H12 go.1 go.2 hp12 (Lw.Tabs.kp m11.tab m11.pen k12)
end
end Lw
namespace Lw
open PySem PySem.Spec PyProof.Rows L2

open LamX SX
abbrev sLaw : Stmt := top 37
/-- a def that is called by names alone, each parameter given -/
structure CalK (P : Program) (w : World) (K : PySem.W.Frag) (mg : Str → Option Value) (base : Heap) (k : Nat) (x : Str) (sp : Sp) (ps : List Str) : Prop where
  ex : ∃ (f : Addr) (fd : FuncData), FnOk P w K mg base C8.CX0 k f fd ps sp ∧ mg x = some (.ref f) ∧ PySem.W.keepIn K (.ref f) = true ∧ KBn K fd ps 0 ps (fun _ ws => ws) (fun _ zs => zs)
section
variable {X : Cx} {k j : Nat} {x : Str} {sp : Sp} {ps : List Str} {p pos : Pos} {kws : List Keyword} {tk : TA}
theorem pe_kw0 (c : CalK X.prog X.w X.K X.mg X.base k x sp ps) (hr : Room j X.A) (hk : k ≤ j) (hg : Gl X x) (hkw : PK X kws tk)
    (hall : (backToKw pos (keywordEach kws X.env)).all (·.1.isSome) = true := by rfl) (hks : (backToKw pos (keywordEach kws X.env)).filterMap (·.1) = ps := by rfl) (hdb : (x == ("__debug__" : Str)) = false := by decide)
    (hpl : ((backTo pos (starEach [] X.env)).any (·.1) || (backToKw pos (keywordEach kws X.env)).any (·.1.isNone)) = false := by rfl) :
    PE X (.Call (.Name x p) [] kws pos) (tCallN 0 ps.length sp (fun _ zs => zs) C8.E0 tNil tk) := by
  obtain ⟨f, fd, F, hm, kp, hb⟩ := c.ex
  refine ⟨fun pins s σ H Q I h => ?_⟩
  refine wpAny_Call_Name_kw (ld_glob I hg hm ?_ hdb)
  refine PySem.W.callWith_KW0 (h₀ := X.base) I.ok.mod.kin kp hall ?_ hpl
  have h' : tk σ H fun zs H2 => ([] : List V).length = 0 ∧ zs.length = ps.length ∧ sp zs H2 Q C8.E0 := h
  refine thn (hkw.run pos pins s σ H _ I h') fun ws s2 ⟨zs, H2, I2, rz, l1, l2, q2⟩ => ⟨I2.kIn, ?_⟩
  rw [hks]
  exact run_fnN F (hr.mono hk) hb C8.pass0 I2 .nil rz rfl l2 q2
end
structure KWs (P : Program) (w : World) (K : PySem.W.Frag) (mg : Str → Option Value) (base : Heap) : Prop where
  is_integer : CalK P w K mg base 1 "is_integer" (spIsInt K) ["value"]
  is_within : CalK P w K mg base 2 "is_within" (spWithin K) ["value", "least", "most"]
  is_size : CalK P w K mg base 3 "is_size" (spSize K) ["value"]
  is_name : CalK P w K mg base 1 "is_name" (spName K) ["value"]
  number_of : CalK P w K mg base 3 "number_of" (spNumOf K) ["word", "least", "most"]
structure Laws (P : Program) (w : World) (K : PySem.W.Frag) (mg : Str → Option Value) (base : Heap) (B : Addr) : Prop where
  pen : C8.Cal P w K mg base 1 "_law_pen" (spPen K) []
  draw : C8.Cal P w K mg base 1 "_law_draw" spDraw []
  pick : C8.Cal P w K mg base 2 "_law_pick" (spPick K) []
  thing : C8.Cal P w K mg base 4 "_law_thing" (spThing K B) []
  word : C8.Cal P w K mg base 3 "_law_word" spWord []
  thr : CalG P w K mg base 4 "_law_thing_right" (spThr K) []
  wor : CalG P w K mg base 4 "_law_word_right" spWor []
def spLaw (K : PySem.W.Frag) (B : Addr) : Sp := fun vs H Q _ => ∃ (a : Addr) (ns : List Int), vs = [.ref a] ∧ SqL K H a (ns.map V.int) ∧ ns.length ≤ 63 ∧ Tabs (tabOf B) H ∧ ∀ H', Q (.bl true) H'
section
variable {P : Program} {w : World} {K : PySem.W.Frag} {mg : Str → Option Value} {base : Heap}
theorem scLaw : FnScope ["_law_script", "_law_pen_here", "_law_lap", "_law_low", "_law_high", "_law_told_so"] ["_law_script"] (C8.fnScope sLaw) := C8.fnScope_by (by decide +kernel)
theorem fnG {x : Str} {st : Stmt} {f : Addr} {fd : FuncData} {N ps : List Str} {k : Nat} {sp : Sp} (F : C8.Fun K x x st f fd) (S : FnScope N ps (C8.fnScope st))
    (len : ∀ vs H Q E, sp vs H Q E → vs.length = ps.length)
    (body : ∀ (cdv : Value) (A : Around) (outer : List Env) (s : Shared) (H : Hp) (vs : List V) (Q : VK) (E : XK), (A.deeper (envOfC x (C8.fnScope st) s.heap.objs.size f cdv)).guards = some [] → Room k (A.deeper (envOfC x (C8.fnScope st) s.heap.objs.size f cdv)) → sp vs H Q E →
      ∃ t, PSs (cxOf C8.CX0 P w K mg base N x (C8.fnScope st) f cdv A outer s H E).nox (C8.fnBody st) t ∧ t { nx := fun _ H' => Q .non H', rt := Q } (start N vs) H) : FnG P w K mg base (k + 1) f fd ps sp := by
  refine ⟨len, ?_⟩
  intro A outer s H args us vs Q E hg hr e0 hb r hs
  obtain ⟨oc, od, dV, kV, doc, pm, an, cdv, ct, osl, rfl, lk, hcd⟩ := F.ex
  refine LamX.run_ofS lk hcd S hr e0 hb r (len _ _ _ _ hs) fun hr' => ?_
  obtain ⟨t, h1, h2⟩ := body cdv A outer s H vs Q E hg hr' hs
  exact ⟨t, h1.nox, h2⟩
theorem fn_law {f B : Addr} {fd : FuncData} (F : C8.Fun K "law" "law" sLaw f fd) (T : TxtN K mg) (D : Defs P w K mg base) (KW : KWs P w K mg base) (L : Laws P w K mg base B) : FnG P w K mg base 5 f fd ["_law_script"] (spLaw K B) := by
  refine fnG F scLaw (fun vs H Q E h => ?_) (fun cdv A outer st H vs Q E hG hr h => ?_)
  · obtain ⟨a, ns, rfl, _⟩ := h
    rfl
  · obtain ⟨a, ns, rfl, hs, hl, ht, k⟩ := h
    refine ⟨_, (pss_cons (ps_set (i := 1) scLaw.nd rfl (Or.inl rfl) (C8.pe_c L.pen hr (by decide) (by rfl) (pa_cons (pv 0) pa_nil)))
  (pss_cons (ps_for PassesOwn.never rfl (pi_range1 (by rfl) T.n_range (pa_cons pe_int pa_nil)) (pg_name (i := 2) scLaw.nd rfl (Or.inl rfl)) (pss_cons (ps_set (i := 3) scLaw.nd rfl (Or.inl rfl) (C8.pe_c L.pick hr (by decide) (by rfl) (pa_cons (pv 1) (pa_cons (pe_lst (pa_cons pe_int (pa_cons pe_int (pa_cons (pe_un un_neg pe_int) (pa_cons (pe_un un_neg (pe_op op_pow pe_int pe_int)) (pa_cons pe_int pa_nil)))))) pa_nil))))
  (pss_cons (ps_set (i := 4) scLaw.nd rfl (Or.inl rfl) (pe_op op_add (pv 3) (C8.pe_c L.pick hr (by decide) (by rfl) (pa_cons (pv 1) (pa_cons (pe_lst (pa_cons pe_int (pa_cons pe_int (pa_cons pe_int (pa_cons (pe_op op_pow pe_int pe_int) (pa_cons (C8.pe_c L.draw hr (by decide) (by rfl) (pa_cons (pv 1) (pa_cons pe_int pa_nil))) pa_nil)))))) pa_nil)))))
  (pss_cons (ps_if (PW.pt (pw_or (pt_not (pt_val (pe_g L.thr hG hr (by decide) (by rfl) (pa_cons (C8.pe_c L.thing hr (by decide) (by rfl) (pa_cons (pv 1) pa_nil)) (pa_cons (pv 3) (pa_cons (pv 4) pa_nil)))))) (pw_or1 (pt_not (pt_val (pe_g L.wor hG hr (by decide) (by rfl) (pa_cons (C8.pe_c L.word hr (by decide) (by rfl) (pa_cons (pv 1) pa_nil)) (pa_cons (pv 3) (pa_cons (pv 4) pa_nil))))))))) (pss_one (ps_ret pe_bl)) pss_nil)
  (pss_one (ps_if (PW.pt (pw_or (pt_cmpR op_notBl (pe_kw0 KW.is_within hr (by decide) (by rfl) (pk_cons (pv 3) (pk_cons (pv 3) (pk_cons (pv 4) pk_nil)))) pe_bl (nomark _)) (pw_or1 (pt_cmpR op_notBl (C8.pe_c D.within hr (by decide) (by rfl) (pa_cons (pe_op op_add (pv 4) pe_int) (pa_cons (pv 3) (pa_cons (pv 4) pa_nil)))) pe_bl (nomark _))))) (pss_one (ps_ret pe_bl)) pss_nil))))))
  (pss_cons (ps_set (i := 5) scLaw.nd rfl (Or.inl rfl) (pe_lst (pa_cons (pe_kw0 KW.is_integer hr (by decide) (by rfl) (pk_cons pe_int pk_nil)) (pa_cons (pe_kw0 KW.is_size hr (by decide) (by rfl) (pk_cons (pe_op op_pow pe_int pe_int) pk_nil)) (pa_cons (pe_kw0 KW.is_name hr (by decide) (by rfl) (pk_cons pe_str pk_nil)) pa_nil)))))
  (pss_cons (ps_set (i := 5) scLaw.nd rfl (Or.inl rfl) (pe_op op_cat (pv 5) (pe_lst (pa_cons (pe_kw0 KW.number_of hr (by decide) (by rfl) (pk_cons pe_str (pk_cons (pe_un un_neg pe_int) (pk_cons pe_int pk_nil)))) (pa_cons (C8.pe_c D.numof hr (by decide) (by rfl) (pa_cons pe_str (pa_cons pe_int (pa_cons pe_int pa_nil)))) pa_nil)))))
  (pss_cons (ps_expr (pe_bm PySem.F.plainAttrs_list PySem.F.slot_list_append PySem.F.type_list_append mt_append (pv 5) (pa_cons (C8.pe_c D.numof hr (by decide) (by rfl) (pa_cons (pe_op op_mulS pe_str pe_int) (pa_cons pe_int (pa_cons (pe_op op_pow pe_int pe_int) pa_nil)))) pa_nil)))
  (pss_one (ps_ret (pe_cmpR (op_eqD hr.units) (pv 5) (pe_lst (pa_cons pe_bl (pa_cons pe_bl (pa_cons pe_bl (pa_cons (pe_un un_neg pe_int) (pa_cons pe_non (pa_cons pe_non pa_nil))))))) (nomark _))))))))), ?_⟩
    refine ⟨_, rfl, a, ns, rfl, hs, hl, fun p pl H1 hp1 s1 _ => ?_⟩
    have ht1 := ht.ext s1
    refine ⟨_, rfl, by decide, by decide, for_range (fun i σ' H' => ∃ x2 x3 x4, σ' = [some (V.ref a), some (V.ref p), x2, x3, x4, none] ∧ Pen H' p pl (18 * i) ∧ Tabs (tabOf B) H') ⟨_, _, _, rfl, hp1, ht1⟩ ?_ ?_⟩
    · rintro i σ1 H2 hi ⟨x2, x3, x4, rfl, hp2, ht2⟩
      have hi14 : i < 14 := hi
      refine ⟨_, rfl, _, rfl, _, _, rfl, rfl, ⟨by decide, by decide, by decide⟩, _, rfl, (by show 5 ≤ sizeLine; decide), fun l fl => ⟨p, pl, l, 18 * i, _, rfl, hp2.keep (same_new fl), by omega, SqL.of upd_same, hp2.ne_new fl, by decide, by decide, fun j v H3 hj hp3 k3 => ?_⟩⟩
      have ht3 := Lw.Tabs.kp (ht2.ext (same_new fl)) (hp2.keep (same_new fl)) k3
      obtain ⟨lo, rfl⟩ : ∃ lo, v = V.int lo := by
        have hv := List.mem_of_getElem? hj
        simp only [List.mem_cons, List.not_mem_nil, or_false] at hv
        rcases hv with rfl | rfl | rfl | rfl | rfl <;> exact ⟨_, rfl⟩
      refine ⟨_, rfl, _, rfl, _, _, rfl, rfl, ⟨by decide, by decide, by decide⟩, _, rfl, p, pl, 18 * i + 1, 100, rfl, by decide, by decide, hp3, by omega, fun r H4 r0 r1 hp4 k4 => ?_⟩
      refine ⟨(by show 5 ≤ sizeLine; decide), fun l2 fl2 => ⟨p, pl, l2, 18 * i + 2, _, rfl, hp4.keep (same_new fl2), by omega, SqL.of upd_same, hp4.ne_new fl2, (by show 0 < 5; decide), (by show 5 < 1000000; decide), fun j2 v2 H5 hj2 hp5 k5 => ?_⟩⟩
      have ht5 := Lw.Tabs.kp ((Lw.Tabs.kp ht3 hp3 k4).ext (same_new fl2)) (hp4.keep (same_new fl2)) k5
      obtain ⟨d, rfl, d0⟩ : ∃ d : Int, v2 = V.int d ∧ 0 ≤ d := by
        have hv := List.mem_of_getElem? hj2
        simp only [List.mem_cons, List.not_mem_nil, or_false] at hv
        rcases hv with rfl | rfl | rfl | rfl | rfl
        · exact ⟨_, rfl, by decide⟩
        · exact ⟨_, rfl, by decide⟩
        · exact ⟨_, rfl, by decide⟩
        · exact ⟨_, rfl, by decide⟩
        · exact ⟨_, rfl, r0⟩
      refine ⟨lo, d, rfl, rfl, ?_⟩
      refine ⟨_, rfl, p, pl, 18 * i + 3, rfl, hp5, by omega, ht5, fun v H6 av ns6 hp6 ht6 => ⟨_, rfl, _, rfl, v, lo, lo + d, rfl, av, ns6, fun H7 s7 => ⟨_, rfl, iteF ?_⟩⟩⟩
      refine ⟨_, rfl, p, pl, 18 * i + 5, rfl, hp6.keep s7, by omega, fun v H8 wv hp8 k8 => ?_⟩
      obtain ⟨cs, rfl, h128, hlen⟩ := wv
      have ht8 := Lw.Tabs.kp (ht6.ext s7) (hp6.keep s7) k8
      refine ⟨_, rfl, _, rfl, cs, lo, lo + d, rfl, h128, hlen, fun H9 s9 => ⟨_, rfl, iteF ?_⟩⟩
      have e1 : inB (.int lo) lo (lo + d) = true := by
        show (decide (lo ≤ lo) && decide (lo ≤ lo + d)) = true
        rw [decide_eq_true (Int.le_refl lo), decide_eq_true (show lo ≤ lo + d by omega)]; rfl
      have e2 : inB (.int (lo + d + 1)) lo (lo + d) = false := by
        show (decide (lo ≤ lo + d + 1) && decide (lo + d + 1 ≤ lo + d)) = false
        rw [decide_eq_false (show ¬ lo + d + 1 ≤ lo + d by omega), Bool.and_false]
      refine ⟨_, rfl, _, rfl, _, rfl, rfl, rfl, .int lo, lo, lo + d, rfl, .int _, ?_⟩
      rw [e1]
      refine ⟨_, _, rfl, rfl, _, rfl, iteF ?_⟩
      refine ⟨_, rfl, _, _, rfl, rfl, _, rfl, _, rfl, .int (lo + d + 1), lo, lo + d, rfl, .int _, ?_⟩
      rw [e2]
      refine ⟨_, _, rfl, rfl, _, rfl, iteF ?_⟩
      exact ⟨_, _, _, rfl, (hp8.keep s9).more (by omega), ht8.ext s9⟩
    · rintro σ1 H2 ⟨x2, x3, x4, rfl, hp2, ht2⟩
      have lit : ∀ (z : Str) (cs : List Nat), z = S cs → (∀ c ∈ cs, c < 128) → cs.length ≤ 3000 → TextOk (.str z) := fun z cs e h1 h2 y ey => ⟨cs, (V.str.inj ey).symm.trans e, h1, h2⟩
      refine ⟨rfl, rfl, .int 3, rfl, .int _, ?_⟩
      refine ⟨_, _, rfl, rfl, ⟨by decide, by decide, by decide⟩, rfl, rfl, _, rfl, .int _, ?_⟩
      refine ⟨rfl, rfl, _, rfl, .str _, (fun z e => by rw [← V.str.inj e]; decide +kernel), fun H3 s3 => ?_⟩
      refine ⟨(by show 3 ≤ sizeLine; decide), fun l fl => ?_⟩
      have nm : nameB (V.str (Str.ofString "abcdefgh")) = true := by decide +kernel
      have n0 : inB (V.int (10 ^ Int.toNat 30)) 1 (10 ^ 30) = true := by decide +kernel
      have n1 : numV (V.str (Str.ofString "-3")) (-3) 5 = some (-3) := by decide +kernel
      have n2 : numV (V.str (Str.ofString "5")) 6 9 = none := by decide +kernel
      have n3 : numV (V.str (S (List.replicate (Int.toNat 1900) [57]).flatten)) 0 (10 ^ Int.toNat 30) = none := by decide +kernel
      rw [nm]
      dsimp only [gName]
      generalize hH4 : upd H3 l _ = H4
      have at4 : H4 l = some (.lst [V.bl true, V.bl true, V.bl true]) := by
        rw [← hH4, upd_same]
        exact congrArg (fun b => some (HO.lst [V.bl true, V.bl b, V.bl true])) n0
      refine ⟨_, rfl, _, rfl, rfl, rfl, .str (Str.ofString "-3"), -3, 5, rfl, .str _, lit _ [45, 51] rfl (by decide) (by decide), ?_⟩
      rw [n1]
      refine ⟨.str (Str.ofString "5"), 6, 9, rfl, .str _, lit _ [53] rfl (by decide) (by decide), ?_⟩
      rw [n2]
      refine ⟨(by show 2 ≤ sizeLine; decide), fun q fq => ?_⟩
      refine ⟨l, q, _, _, rfl, rfl, same_new fq _ _ at4, upd_same, (by show 5 ≤ sizeLine; decide), fun l2 fl2 => ?_⟩
      refine ⟨_, rfl, .inl ⟨rfl, _, SqL.of upd_same⟩, [57], 1900, rfl, rfl, by decide, by decide, by decide, _, _, rfl, rfl, ⟨by decide, by decide, by decide⟩, .str (S (List.replicate (Int.toNat 1900) [57]).flatten), 0, 10 ^ Int.toNat 30, rfl, .str _, lit _ _ rfl (by decide +kernel) (by decide +kernel), ?_⟩
      rw [n3]
      refine ⟨l2, _, _, rfl, rfl, upd_same, (by show 5 < sizeLine; decide), ?_⟩
      rw [upd_upd]
      generalize hH5 : upd _ l2 _ = H5
      have at5 : H5 l2 = some (.lst [V.bl true, V.bl true, V.bl true, V.int (-3), V.non, V.non]) := by
        rw [← hH5, upd_same]; rfl
      refine ⟨_, rfl, _, rfl, (by show 6 ≤ sizeLine; decide), fun q2 fq2 => ?_⟩
      refine ⟨.list [.bool true, .bool true, .bool true, .int (-3), .none, .none], .list [.bool true, .bool true, .bool true, .int (-3), .none, .none], ?_, ?_, rfl, rfl, ?_⟩
      · exact .lst (SqL.of (same_new fq2 _ _ at5)) (.cons (.bl _) (.cons (.bl _) (.cons (.bl _) (.cons (.int _) (.cons .non (.cons .non .nil))))))
      · exact .lst (SqL.of upd_same) (.cons (.bl _) (.cons (.bl _) (.cons (.bl _) (.cons (.int _) (.cons .non (.cons .non .nil))))))
      · have ee : PyData.eqv (.list [.bool true, .bool true, .bool true, .int (-3), .none, .none]) (.list [.bool true, .bool true, .bool true, .int (-3), .none, .none]) = true := by decide +kernel
        rw [ee]
        exact k _
end
end Lw
namespace Lw
open PySem PySem.Spec PyProof.Rows L2

open LamX
/-! ### the call of the law where nothing is being shown, with one table of code objects -/
/-- what is tracked when the law is entered: the table at B, and the script unless it is written -/
def Entry (K : PySem.W.Frag) (h : Heap) (a B : Addr) (ns : List Int) (H : Hp) : Prop :=
  H B = some (.tbl #[]) ∧ SqL K H a (ns.map V.int) ∧ (∀ b u, H b = some u → (b = B ∧ u = .tbl #[]) ∨ (b = a ∧ K.lookup a = none ∧ ∃ o xs, u = .frz o (.lst xs) ∧ h.get? a = some o))
theorem entry {P : Program} {w : World} {K : PySem.W.Frag} {h : Heap} {a B : Addr} {vs : List Value} {ns : List Int} (KX : K.In h) (hT : h.get? B = some { cls := .none, data := .fields #[] }) (ha : h.get? a = some { cls := .type "list", data := .seq vs.toArray }) (hi : IntsAre vs ns) (hl : ns.length ≤ sizeLine) :
    a ≠ B ∧ ∃ H, Entry K h a B ns H ∧ HOk P w H h := by
  have rv := vals_ints hi
  have lv := hi.length
  have ne : a ≠ B := fun e => by
    rw [e, hT] at ha
    have z : Data.fields #[] = Data.seq vs.toArray _ := congrArg Obj.data (Option.some.inj ha)
    cases z
  refine ⟨ne, ?_⟩
  cases hk : K.lookup a with
  | some o =>
    have e := KX a o hk
    rw [ha] at e
    cases e
    refine ⟨fun b => if b = B then some (.tbl #[]) else none, ⟨if_pos rfl, .inr ⟨_, vs.toArray, _, hk, rfl, rfl, rfl, by rw [List.size_toArray, lv]; exact hl, by simpa using rv⟩, fun b u z => ?_⟩, fun b u z => ?_⟩
    · by_cases q : b = B
      · exact .inl ⟨q, (Option.some.inj ((if_pos q).symm.trans z)).symm⟩
      · cases (if_neg q).symm.trans z
    · by_cases q : b = B
      · cases (if_pos q).symm.trans z
        rw [q]
        exact hT
      · cases (if_neg q).symm.trans z
  | none =>
    refine ⟨fun b => if b = B then some (.tbl #[]) else if b = a then some (.frz { cls := .type "list", data := .seq vs.toArray } (.lst (ns.map V.int))) else none,
      ⟨if_pos rfl, .inl (.inr ⟨_, (if_neg ne).trans (if_pos rfl)⟩), fun b u z => ?_⟩, fun b u z => ?_⟩
    · by_cases q : b = B
      · exact .inl ⟨q, (Option.some.inj ((if_pos q).symm.trans z)).symm⟩
      · have z2 := (if_neg q).symm.trans z
        by_cases q2 : b = a
        · exact .inr ⟨q2, hk, _, _, (Option.some.inj ((if_pos q2).symm.trans z2)).symm, ha⟩
        · cases (if_neg q2).symm.trans z2
    · by_cases q : b = B
      · cases (if_pos q).symm.trans z
        rw [q]
        exact hT
      · have z2 := (if_neg q).symm.trans z
        by_cases q2 : b = a
        · cases (if_pos q2).symm.trans z2
          rw [q2]
          exact ⟨ha, by rw [List.length_map]; exact hl, vs, _, rv, ha⟩
        · cases (if_neg q2).symm.trans z2
theorem law_end {P : Program} {w : World} {K : PySem.W.Frag} {mg mb : Str → Option Value} {k : Nat} {fa a c B : Addr} {fd : FuncData} {x : Str} {sp : Sp} {s₁ : Shared} {vs : List Value} {ns : List Int}
    (KX : K.In s₁.heap) (hns : s₁.heap.Ns mainGlobals mg) (hb : s₁.heap.Ns builtinsNs mb) (hbb : ∀ x : Str, x ≠ "__name__" → mb x = bootBuiltins x) (hlim : s₁.heap.NoLimit) (hg : s₁.gens = #[])
    (hT : s₁.heap.get? B = some { cls := .none, data := .fields #[] }) (nT : K.lookup B = none) (C : PySem.W.CodeHd s₁.heap c B)
    (hbm : ∃ (bm : Addr) (ob : Obj), mg "__builtins__" = some (.ref bm) ∧ bm ≠ builtinsNs ∧ s₁.heap.get? bm = some ob ∧ ob.cls = .type "module" ∧ ob.dict = some builtinsNs ∧ ob.data = .plain)
    (ha : s₁.heap.get? a = some { cls := .type "list", data := .seq vs.toArray }) (hi : IntsAre vs ns) (hl : ns.length ≤ sizeLine) (hr : Room k callerA)
    (F : ∀ base : Heap, K.In base → base.Ns mainGlobals mg → TabB base mg c B → FnG P w K mg base k fa fd [x] sp) (hbind : ∀ (s : Shared) (u : Value), BindsTo s fd ⟨[u], []⟩ [(x, u)])
    (hsp : ∀ H : Hp, H B = some (.tbl #[]) → SqL K H a (ns.map V.int) → sp [.ref a] H (fun v _ => v = .bl true) C8.E0) :
    codeAny (model P w) callerA (.call (.ref fa) ⟨[.ref a], []⟩) (fun r s' => r = .ok (.ret (.bool true)) ∧ OldK s₁.heap s'.heap ∧ s'.os = s₁.os ∧ AllBare s'.gens) s₁ := by
  obtain ⟨ne, H, ⟨hB, hS, hA⟩, hok⟩ := entry (P := P) (w := w) KX hT ha hi hl
  -- what is neither the table nor the script is untracked
  have free : ∀ {b : Addr} {o : Obj}, s₁.heap.get? b = some o → (∀ vs n, o.data ≠ .seq vs n) → o.data ≠ .fields #[] → H b = none := fun {b o} e h1 h2 => by
    cases q : H b with
    | none => rfl
    | some u =>
      rcases hA b u q with ⟨e', _⟩ | ⟨e', _⟩
      · rw [e', hT] at e
        cases e
        exact absurd rfl h2
      · rw [e', ha] at e
        cases e
        exact absurd rfl (h1 _ _)
  have through : ∀ {b : Addr} {o : Obj}, s₁.heap.get? b = some o → H b = none → (hidT s₁.heap H).get? b = some o := fun e n => hidT_get e n
  have nsT : ∀ {b : Addr} {m : Str → Option Value}, s₁.heap.Ns b m → (hidT s₁.heap H).Ns b m := fun {b m} ⟨o, es, ep, e, d, r⟩ => by
    refine ⟨o, es, ep, through e (free e (fun vs n z => ?_) fun z => ?_), d, r⟩ <;> · rw [d] at z; cases z
  have inT : K.In (hidT s₁.heap H) := fun b o e => by
    refine through (KX b o e) ?_
    cases q : H b with
    | none => rfl
    | some u =>
      rcases hA b u q with ⟨e', _⟩ | ⟨e', n, _⟩
      · rw [e', nT] at e; cases e
      · rw [e', n] at e; cases e
  have modT : L2.Mod K mg (hidT s₁.heap H) := by
    obtain ⟨mc, h1, h2⟩ := hlim
    exact ⟨inT, nsT hns, ⟨mb, nsT hb, hbb⟩, ⟨mc, nsT h1, h2⟩⟩
  have tabT : TabB (hidT s₁.heap H) mg c B := by
    refine ⟨?_, ?_, fun z => ?_⟩
    · obtain ⟨o, us, file, tf, flags, tg, inF, text, tt, e1, r1, r2, r3, r4⟩ := C
      refine ⟨o, us, file, tf, flags, tg, inF, text, tt, through e1 (free e1 (fun vs n z => ?_) fun z => ?_), r1, r2, r3, r4⟩
      · rw [r2] at z; cases z
      · rw [r2] at z; cases z
        simp at r3
    · obtain ⟨bm, ob, b1, b2, b3, b4, b5, b6⟩ := hbm
      refine ⟨bm, ob, b1, b2, fun q => ?_, fun q => ?_, through b3 (free b3 (fun vs n z => ?_) fun z => ?_), b4, b5, b6⟩
      · obtain ⟨o, es, ep, e, d, _⟩ := hns
        rw [q, e] at b3
        cases b3
        rw [d] at b6
        cases b6
      · rw [q, hT] at b3
        cases b3
        cases b6
      · rw [b6] at z; cases z
      · rw [b6] at z; cases z
    · obtain ⟨o, es, ep, e, d, _⟩ := hns
      rw [z, hT] at e
      cases e
      cases d
  have e0 : Env0 P w K mg (hidT s₁.heap H) callerA [] s₁ H := ⟨rfl, modT, fun b o e => of_hidT e, Nat.le_of_eq (hidT_size _ _), trivial, fun b hb => absurd (show b ∈ ([] : List Addr) from hb) (by simp), hok, .of_eq hg⟩
  refine codeAny_mono ((F _ inT (nsT hns) tabT).run callerA [] s₁ H ⟨[.ref a], []⟩ [.ref a] [.ref a] _ _ rfl hr e0 (hbind s₁ (.ref a)) (.cons rfl .nil) (hsp H hB hS)) fun r s' q => ?_
  match r, q with
  | .error e, q => exact (show False from q).elim
  | .ok .next, q => exact (show False from q).elim
  | .ok .brk, q => exact (show False from q).elim
  | .ok .cont, q => exact (show False from q).elim
  | .ok (.ret u), q =>
    obtain ⟨v, H', os, bare, un, hok', r', qv⟩ := q
    have qv' : v = .bl true := qv
    subst qv'
    obtain rfl : u = Value.bool true := r'
    obtain ⟨more, hmore⟩ := un.tbls B #[] hB
    have atB := hok' B _ hmore
    have same : ∀ b o, b ≠ B → s₁.heap.get? b = some o → s'.heap.get? b = some o := fun b o nb e => by
      cases q : H b with
      | none => exact un.keep b o e q (by intro z; exact absurd (show b ∈ ([] : List Addr) from z) (by simp)) (by simp)
      | some u =>
        rcases hA b u q with ⟨z, _⟩ | ⟨e', _, ob, xs, rfl, hob⟩
        · exact absurd z nb
        · obtain ⟨e2, _⟩ := hok' b _ (un.frzs b ob _ q)
          rw [e', hob] at e
          cases e
          exact e2
    refine ⟨rfl, ⟨fun b o e => ?_, fun b o e => ?_⟩, os, bare⟩
    · by_cases hb : b = B
      · rw [hb] at e ⊢
        rw [hT] at e
        cases e
        exact .inr (.inl ⟨(C.tab hT).isCodeTable, rfl, #[], _, rfl, atB⟩)
      · exact .inl (same b o hb e)
    · by_cases hb : b = B
      · rw [hb]
        exact ⟨_, atB⟩
      · exact ⟨o, same b o hb e⟩
theorem tabIn_of {K : PySem.W.Frag} {x : Str} {f c B : Addr} {oc occ : Value} {od odc : Option Addr} {fd : FuncData} {sl slc : Array (Option Value)} {us : Array Value} (h1 : PySem.W.nsIn K mainGlobals x = some (some (.ref f))) (h2 : K.lookup f = some ⟨oc, od, .func fd, sl⟩) (hc : fd.code = .ref c)
    (h3 : K.lookup c = some ⟨occ, odc, .fields us, slc⟩) (h4 : us[11]? = some (.ref B)) : PySem.W.tabIn K x = some (c, B) := by
  unfold PySem.W.tabIn
  rw [h1]
  dsimp only
  rw [h2]
  dsimp only
  rw [hc]
  dsimp only
  rw [h3]
  dsimp only
  rw [h4]
theorem walk_end {l : PySem.W.OpenLaw} {n k : Nat} {q : Program} {loose : List Str} {XP : (Str → Option Value) → Heap → Prop} {YP : World → Heap → Prop} {d : DefRec} {K : Params → PySem.W.Frag} {x : Str} {xt : Str}
    (hn : l.most = some n) (hn2 : n ≤ 63) (hdf : d.params.defaults = []) (hr : Room k callerA) (hY : ∀ (w : World) (h : Heap), YP w h → (K w.params).In h) (hrec : ((recsOf q).find? fun e => e.name == xt).isSome = true)
    (F : ∀ (w : World) (mg : Str → Option Value) (fa : Addr) (h : Heap), (K w.params).In h → h.Ns mainGlobals mg → mg d.name = some (.ref fa) → ∃ (fd : FuncData) (c B : Addr), PySem.W.tabIn (K w.params) xt = some (c, B) ∧ (K w.params).lookup B = none ∧ (∀ (s : Shared) (u : Value), BindsTo s fd ⟨[u], []⟩ [(x, u)]) ∧
      ∀ base : Heap, (K w.params).In base → base.Ns mainGlobals mg → TabB base mg c B → FnG l.prog w (K w.params) mg base k fa fd [x] (spLaw (K w.params) B)) :
    PySem.W.WalkO q loose XP YP l.row.toRowW d [] (fun f vs => PySem.call f vs) := by
  refine Att.attach_callB hn hdf fun w s₀ s₁ mg mb fa o pm cd doc a vs ns G Y ho hd hcd hmg hobj hints hlen hbits hg => ?_
  have KX := hY w _ Y
  obtain ⟨fd, c, B, ht, nT, hb, hF⟩ := F w mg fa _ KX G.T.g hmg
  obtain ⟨dr, hdr⟩ := Option.isSome_iff_exists.mp hrec
  obtain ⟨hC, hT⟩ := PySem.W.tab_of G.T KX hdr ht
  exact law_end KX G.T.g G.T.b G.T.builtins G.T.nolimit hg hT nT hC G.T.bmain hobj hints (Nat.le_trans (Nat.le_trans hlen hn2) (by decide)) hr hF hb fun H hB hS =>
    ⟨a, ns, rfl, hS, Nat.le_trans hlen hn2, fun p hp => by rw [List.mem_singleton.mp hp]; exact TabS.nil hB, fun _ => rfl⟩
end Lw
namespace Lw
open PySem PySem.Spec PyProof.Rows L2

open LamX

theorem all_known {l : PySem.W.OpenLaw} {w : World} {K : PySem.W.Frag} {h : Heap} {mg : Str → Option Value} {fa : Addr} (X : K.In h) (G : h.Ns mainGlobals mg) (hfa : mg "law" = some (.ref fa))
    {fii : Addr} {ocii kVii dcii pmii ctii cdii : Value} {odii anii : Option Addr} {slii : Array (Option Value)}
    {fiw : Addr} {ociw kViw dciw pmiw ctiw cdiw : Value} {odiw aniw : Option Addr} {sliw : Array (Option Value)}
    {fiz : Addr} {ociz kViz dciz pmiz ctiz cdiz : Value} {odiz aniz : Option Addr} {sliz : Array (Option Value)}
    {fim : Addr} {ocim kVim dcim pmim ctim cdim : Value} {odim anim : Option Addr} {slim : Array (Option Value)}
    {fio : Addr} {ocio kVio dcio pmio ctio cdio : Value} {odio anio : Option Addr} {slio : Array (Option Value)}
    {fnb : Addr} {ocnb kVnb dcnb pmnb ctnb cdnb : Value} {odnb annb : Option Addr} {slnb : Array (Option Value)}
    {flp : Addr} {oclp kVlp dclp pmlp ctlp cdlp : Value} {odlp anlp : Option Addr} {sllp : Array (Option Value)}
    {fld : Addr} {ocld kVld dcld pmld ctld cdld : Value} {odld anld : Option Addr} {slld : Array (Option Value)}
    {flk : Addr} {oclk kVlk dclk pmlk ctlk cdlk : Value} {odlk anlk : Option Addr} {sllk : Array (Option Value)}
    {flt : Addr} {oclt kVlt dclt pmlt ctlt : Value} {odlt anlt : Option Addr} {sllt : Array (Option Value)}
    {flw : Addr} {oclw kVlw dclw pmlw ctlw cdlw : Value} {odlw anlw : Option Addr} {sllw : Array (Option Value)}
    {fln : Addr} {ocln kVln dcln pmln ctln cdln : Value} {odln anln : Option Addr} {slln : Array (Option Value)}
    {flr : Addr} {oclr kVlr dclr pmlr ctlr cdlr : Value} {odlr anlr : Option Addr} {sllr : Array (Option Value)}
    {ftr : Addr} {octr kVtr dctr pmtr cttr cdtr : Value} {odtr antr : Option Addr} {sltr : Array (Option Value)}
    {fwr : Addr} {ocwr kVwr dcwr pmwr ctwr cdwr : Value} {odwr anwr : Option Addr} {slwr : Array (Option Value)}
    {fla : Addr} {ocla kVla dcla pmla ctla cdla : Value} {odla anla : Option Addr} {slla : Array (Option Value)}
    {C fI Td : Addr} {ocI kVI dcI pmI cdI ctI ocD : Value} {odI anI odD : Option Addr} {slI slD : Array (Option Value)} {tD : Tok} {nD : Nat}
    {cT B : Addr} {ocT : Value} {odT : Option Addr} {usT : Array Value} {slT : Array (Option Value)}
    {iG iL iF iP : Int} {tG tL tF tP tE : Tok} {zE : Str} {aW : Addr} {odW : Option Addr} {wsW : Array Value} {nW : Nat} {slW : Array (Option Value)}
    (aii : PySem.W.nsIn K mainGlobals "is_integer" = some (some (.ref fii)))
    (lii : K.lookup fii = some ⟨ocii, odii, .func (PySem.W.fnOf "is_integer" "is_integer" (C8.fnArgs sIsInt) (C8.fnBody sIsInt) (C8.fnScope sIsInt) .none kVii dcii pmii anii cdii ctii), slii⟩)
    (cii : PySem.W.codeIn K cdii "is_integer" = true)
    (kii : PySem.W.keepIn K (.ref fii) = true)
    (aiw : PySem.W.nsIn K mainGlobals "is_within" = some (some (.ref fiw)))
    (liw : K.lookup fiw = some ⟨ociw, odiw, .func (PySem.W.fnOf "is_within" "is_within" (C8.fnArgs sWithin) (C8.fnBody sWithin) (C8.fnScope sWithin) .none kViw dciw pmiw aniw cdiw ctiw), sliw⟩)
    (ciw : PySem.W.codeIn K cdiw "is_within" = true)
    (kiw : PySem.W.keepIn K (.ref fiw) = true)
    (aiz : PySem.W.nsIn K mainGlobals "is_size" = some (some (.ref fiz)))
    (liz : K.lookup fiz = some ⟨ociz, odiz, .func (PySem.W.fnOf "is_size" "is_size" (C8.fnArgs sSize) (C8.fnBody sSize) (C8.fnScope sSize) .none kViz dciz pmiz aniz cdiz ctiz), sliz⟩)
    (ciz : PySem.W.codeIn K cdiz "is_size" = true)
    (kiz : PySem.W.keepIn K (.ref fiz) = true)
    (aim : PySem.W.nsIn K mainGlobals "is_name" = some (some (.ref fim)))
    (lim : K.lookup fim = some ⟨ocim, odim, .func (PySem.W.fnOf "is_name" "is_name" (C8.fnArgs sIsName) (C8.fnBody sIsName) (C8.fnScope sIsName) .none kVim dcim pmim anim cdim ctim), slim⟩)
    (cim : PySem.W.codeIn K cdim "is_name" = true)
    (kim : PySem.W.keepIn K (.ref fim) = true)
    (aio : PySem.W.nsIn K mainGlobals "integer_of" = some (some (.ref fio)))
    (lio : K.lookup fio = some ⟨ocio, odio, .func (PySem.W.fnOf "integer_of" "integer_of" (C8.fnArgs sIntOf) (C8.fnBody sIntOf) (C8.fnScope sIntOf) .none kVio dcio pmio anio cdio ctio), slio⟩)
    (cio : PySem.W.codeIn K cdio "integer_of" = true)
    (kio : PySem.W.keepIn K (.ref fio) = true)
    (anb : PySem.W.nsIn K mainGlobals "number_of" = some (some (.ref fnb)))
    (lnb : K.lookup fnb = some ⟨ocnb, odnb, .func (PySem.W.fnOf "number_of" "number_of" (C8.fnArgs sNumOf) (C8.fnBody sNumOf) (C8.fnScope sNumOf) .none kVnb dcnb pmnb annb cdnb ctnb), slnb⟩)
    (cnb : PySem.W.codeIn K cdnb "number_of" = true)
    (knb : PySem.W.keepIn K (.ref fnb) = true)
    (alp : PySem.W.nsIn K mainGlobals "_law_pen" = some (some (.ref flp)))
    (llp : K.lookup flp = some ⟨oclp, odlp, .func (PySem.W.fnOf "_law_pen" "_law_pen" (C8.fnArgs sPen) (C8.fnBody sPen) (C8.fnScope sPen) .none kVlp dclp pmlp anlp cdlp ctlp), sllp⟩)
    (clp : PySem.W.codeIn K cdlp "_law_pen" = true)
    (klp : PySem.W.keepIn K (.ref flp) = true)
    (ald : PySem.W.nsIn K mainGlobals "_law_draw" = some (some (.ref fld)))
    (lld : K.lookup fld = some ⟨ocld, odld, .func (PySem.W.fnOf "_law_draw" "_law_draw" (C8.fnArgs sDraw) (C8.fnBody sDraw) (C8.fnScope sDraw) .none kVld dcld pmld anld cdld ctld), slld⟩)
    (cld : PySem.W.codeIn K cdld "_law_draw" = true)
    (kld : PySem.W.keepIn K (.ref fld) = true)
    (alk : PySem.W.nsIn K mainGlobals "_law_pick" = some (some (.ref flk)))
    (llk : K.lookup flk = some ⟨oclk, odlk, .func (PySem.W.fnOf "_law_pick" "_law_pick" (C8.fnArgs sPick) (C8.fnBody sPick) (C8.fnScope sPick) .none kVlk dclk pmlk anlk cdlk ctlk), sllk⟩)
    (clk : PySem.W.codeIn K cdlk "_law_pick" = true)
    (klk : PySem.W.keepIn K (.ref flk) = true)
    (alt : PySem.W.nsIn K mainGlobals "_law_thing" = some (some (.ref flt)))
    (llt : K.lookup flt = some ⟨oclt, odlt, .func (PySem.W.fnOf "_law_thing" "_law_thing" (C8.fnArgs sThing) (C8.fnBody sThing) (C8.fnScope sThing) .none kVlt dclt pmlt anlt (.ref cT) ctlt), sllt⟩)
    (clt : PySem.W.codeIn K (.ref cT) "_law_thing" = true)
    (klt : PySem.W.keepIn K (.ref flt) = true)
    (alw : PySem.W.nsIn K mainGlobals "_law_word" = some (some (.ref flw)))
    (llw : K.lookup flw = some ⟨oclw, odlw, .func (PySem.W.fnOf "_law_word" "_law_word" (C8.fnArgs sWord) (C8.fnBody sWord) (C8.fnScope sWord) .none kVlw dclw pmlw anlw cdlw ctlw), sllw⟩)
    (clw : PySem.W.codeIn K cdlw "_law_word" = true)
    (klw : PySem.W.keepIn K (.ref flw) = true)
    (aln : PySem.W.nsIn K mainGlobals "_law_is_name" = some (some (.ref fln)))
    (lln : K.lookup fln = some ⟨ocln, odln, .func (PySem.W.fnOf "_law_is_name" "_law_is_name" (C8.fnArgs sIsName2) (C8.fnBody sIsName2) (C8.fnScope sIsName2) .none kVln dcln pmln anln cdln ctln), slln⟩)
    (cln : PySem.W.codeIn K cdln "_law_is_name" = true)
    (kln : PySem.W.keepIn K (.ref fln) = true)
    (alr : PySem.W.nsIn K mainGlobals "_law_written" = some (some (.ref flr)))
    (llr : K.lookup flr = some ⟨oclr, odlr, .func (PySem.W.fnOf "_law_written" "_law_written" (C8.fnArgs sWri) (C8.fnBody sWri) (C8.fnScope sWri) .none kVlr dclr pmlr anlr cdlr ctlr), sllr⟩)
    (clr : PySem.W.codeIn K cdlr "_law_written" = true)
    (klr : PySem.W.keepIn K (.ref flr) = true)
    (atr : PySem.W.nsIn K mainGlobals "_law_thing_right" = some (some (.ref ftr)))
    (ltr : K.lookup ftr = some ⟨octr, odtr, .func (PySem.W.fnOf "_law_thing_right" "_law_thing_right" (C8.fnArgs sThr) (C8.fnBody sThr) (C8.fnScope sThr) .none kVtr dctr pmtr antr cdtr cttr), sltr⟩)
    (ctr : PySem.W.codeIn K cdtr "_law_thing_right" = true)
    (ktr : PySem.W.keepIn K (.ref ftr) = true)
    (awr : PySem.W.nsIn K mainGlobals "_law_word_right" = some (some (.ref fwr)))
    (lwr : K.lookup fwr = some ⟨ocwr, odwr, .func (PySem.W.fnOf "_law_word_right" "_law_word_right" (C8.fnArgs sWor) (C8.fnBody sWor) (C8.fnScope sWor) .none kVwr dcwr pmwr anwr cdwr ctwr), slwr⟩)
    (cwr : PySem.W.codeIn K cdwr "_law_word_right" = true)
    (kwr : PySem.W.keepIn K (.ref fwr) = true)
    (ala : PySem.W.nsIn K mainGlobals "law" = some (some (.ref fla)))
    (lla : K.lookup fla = some ⟨ocla, odla, .func (PySem.W.fnOf "law" "law" (C8.fnArgs sLaw) (C8.fnBody sLaw) (C8.fnScope sLaw) .none kVla dcla pmla anla cdla ctla), slla⟩)
    (cla : PySem.W.codeIn K cdla "law" = true)
    (kla : PySem.W.keepIn K (.ref fla) = true)
    (aC : PySem.W.nsIn K mainGlobals "Ratio" = some (some (.ref C)))
    (aI : PySem.W.findIn K (.ref C) "__init__" = some (some (.ref fI)))
    (iI : PySem.W.isFn K (.ref fI) = true)
    (lI : K.lookup fI = some ⟨ocI, odI, .func (PySem.W.fnOf "__init__" "Ratio.__init__" (C8.fnArgs sInit) (C8.fnBody sInit) (C8.fnScope sInit) (.ref Td) kVI dcI pmI anI cdI ctI), slI⟩)
    (cI : PySem.W.codeIn K cdI "Ratio.__init__" = true)
    (kI : PySem.W.keepIn K (.ref fI) = true)
    (lD : K.lookup Td = some ⟨ocD, odD, .seq #[.int 1 tD] nD, slD⟩)
    (pg : PySem.W.plainGet K C Str.empty = true)
    (hd : PySem.W.hasDictIn K C = true)
    (po : PySem.W.plainOver K C = true)
    (sa : PySem.W.findIn K (.ref C) "__setattr__" = some (some (.builtin "object.__setattr__")))
    (mk : PySem.W.makesIn K C = true)
    (kC : PySem.W.keepIn K (.ref C) = true)
    (nO : PySem.W.findIn K (.ref C) "over" = some none)
    (nU : PySem.W.findIn K (.ref C) "under" = some none)
    (hC : PySem.W.findIn K (.ref C) "__class__" = some (some (.builtin "object.__class__")))
    (hG : PySem.W.specialIn K (.builtin "object.__class__") "__get__" = some (some (.builtin "getset_descriptor.__get__")))
    (hK : PySem.W.takesIn K (.builtin "object.__class__") = some true)
    (hM : PySem.W.mroIn K C (.type "object") = some true)
    (o1 : PySem.W.kitOne K (.ref C) (.type "int") = some false)
    (o2 : PySem.W.kitOne K (.ref C) (.type "bool") = some false)
    (o3 : PySem.W.kitOne K (.ref C) (.type "str") = some false)
    (lT : K.lookup cT = some ⟨ocT, odT, .fields usT, slT⟩)
    (vT : usT[11]? = some (.ref B))
    (nT : K.lookup B = none)
    (z_int : PySem.W.nsIn K mainGlobals "int" = some none)
    (z_list : PySem.W.nsIn K mainGlobals "list" = some none)
    (z_len : PySem.W.nsIn K mainGlobals "len" = some none)
    (z_abs : PySem.W.nsIn K mainGlobals "abs" = some none)
    (z_bool : PySem.W.nsIn K mainGlobals "bool" = some none)
    (z_str : PySem.W.nsIn K mainGlobals "str" = some none)
    (z_isinstance : PySem.W.nsIn K mainGlobals "isinstance" = some none)
    (z_range : PySem.W.nsIn K mainGlobals "range" = some none)
    (z_repr : PySem.W.nsIn K mainGlobals "repr" = some none)
    (z_all : PySem.W.nsIn K mainGlobals "all" = some none)
    (gG : PySem.W.nsIn K mainGlobals "gcd" = some (some (.builtin "math.gcd")))
    (gS : PySem.W.nsIn K mainGlobals "GREATEST_SIZE" = some (some (.int iG tG)))
    (eS : iG = 10 ^ 30)
    (gL : PySem.W.nsIn K mainGlobals "LONGEST_NAME" = some (some (.int iL tL)))
    (eL : iL = 8)
    (gF : PySem.W.nsIn K mainGlobals "PIECE_FIGURES" = some (some (.int iF tF)))
    (eF : iF = 60)
    (gP : PySem.W.nsIn K mainGlobals "PIECE_WORTH" = some (some (.int iP tP)))
    (eP : iP = 10 ^ 60)
    (gE : PySem.W.nsIn K mainGlobals "LETTERS" = some (some (.str zE tE)))
    (eE : zE = letters)
    (gW : PySem.W.nsIn K mainGlobals "TEXT_WORDS" = some (some (.ref aW)))
    (lW : K.lookup aW = some ⟨.type "tuple", odW, .seq wsW nW, slW⟩)
    (sW : wsW.size ≤ 100)
    (vW : Vals resV wsW.toList) :
    ∃ (fd : FuncData) (c B : Addr), PySem.W.tabIn K "_law_thing" = some (c, B) ∧ K.lookup B = none ∧ (∀ (s : Shared) (u : Value), BindsTo s fd ⟨[u], []⟩ [("_law_script", u)]) ∧
      ∀ base : Heap, K.In base → base.Ns mainGlobals mg → TabB base mg c B → FnG l.prog w K mg base 5 fa fd ["_law_script"] (spLaw K B) := by
  have e := hfa.symm.trans (PySem.W.mg_of X G ala)
  cases e
  have Fii : C8.Def K mg "is_integer" sIsInt fii _ := ⟨⟨_, _, _, _, _, _, _, _, _, _, rfl, lii, cii⟩, PySem.W.mg_of X G aii, kii⟩
  have bii : Binds K _ ["value"] [] := Fii.fn.binds rfl fun _ _ _ _ _ _ us hl => match us, hl with | [_], _ => rfl
  have Fiw : C8.Def K mg "is_within" sWithin fiw _ := ⟨⟨_, _, _, _, _, _, _, _, _, _, rfl, liw, ciw⟩, PySem.W.mg_of X G aiw, kiw⟩
  have biw : Binds K _ ["value", "least", "most"] [] := Fiw.fn.binds rfl fun _ _ _ _ _ _ us hl => match us, hl with | [_, _, _], _ => rfl
  have Fiz : C8.Def K mg "is_size" sSize fiz _ := ⟨⟨_, _, _, _, _, _, _, _, _, _, rfl, liz, ciz⟩, PySem.W.mg_of X G aiz, kiz⟩
  have biz : Binds K _ ["value"] [] := Fiz.fn.binds rfl fun _ _ _ _ _ _ us hl => match us, hl with | [_], _ => rfl
  have Fim : C8.Def K mg "is_name" sIsName fim _ := ⟨⟨_, _, _, _, _, _, _, _, _, _, rfl, lim, cim⟩, PySem.W.mg_of X G aim, kim⟩
  have bim : Binds K _ ["value"] [] := Fim.fn.binds rfl fun _ _ _ _ _ _ us hl => match us, hl with | [_], _ => rfl
  have Fio : C8.Def K mg "integer_of" sIntOf fio _ := ⟨⟨_, _, _, _, _, _, _, _, _, _, rfl, lio, cio⟩, PySem.W.mg_of X G aio, kio⟩
  have bio : Binds K _ ["word"] [] := Fio.fn.binds rfl fun _ _ _ _ _ _ us hl => match us, hl with | [_], _ => rfl
  have Fnb : C8.Def K mg "number_of" sNumOf fnb _ := ⟨⟨_, _, _, _, _, _, _, _, _, _, rfl, lnb, cnb⟩, PySem.W.mg_of X G anb, knb⟩
  have bnb : Binds K _ ["word", "least", "most"] [] := Fnb.fn.binds rfl fun _ _ _ _ _ _ us hl => match us, hl with | [_, _, _], _ => rfl
  have Flp : C8.Def K mg "_law_pen" sPen flp _ := ⟨⟨_, _, _, _, _, _, _, _, _, _, rfl, llp, clp⟩, PySem.W.mg_of X G alp, klp⟩
  have blp : Binds K _ ["_law_script"] [] := Flp.fn.binds rfl fun _ _ _ _ _ _ us hl => match us, hl with | [_], _ => rfl
  have Fld : C8.Def K mg "_law_draw" sDraw fld _ := ⟨⟨_, _, _, _, _, _, _, _, _, _, rfl, lld, cld⟩, PySem.W.mg_of X G ald, kld⟩
  have bld : Binds K _ ["_law_pen_here", "_law_many"] [] := Fld.fn.binds rfl fun _ _ _ _ _ _ us hl => match us, hl with | [_, _], _ => rfl
  have Flk : C8.Def K mg "_law_pick" sPick flk _ := ⟨⟨_, _, _, _, _, _, _, _, _, _, rfl, llk, clk⟩, PySem.W.mg_of X G alk, klk⟩
  have blk : Binds K _ ["_law_pen_here", "_law_some"] [] := Flk.fn.binds rfl fun _ _ _ _ _ _ us hl => match us, hl with | [_, _], _ => rfl
  have Flt : DefC K mg "_law_thing" sThing flt _ cT := ⟨⟨_, _, _, _, _, _, _, _, _, rfl, llt, clt⟩, PySem.W.mg_of X G alt, klt⟩
  have blt : Binds K _ ["_law_pen_here"] [] := C8.Fun.binds (st := sThing) (x := "_law_thing") (qual := "_law_thing") (f := flt) ⟨_, _, _, _, _, _, _, _, _, _, rfl, llt, clt⟩ rfl fun _ _ _ _ _ _ us hl => match us, hl with | [_], _ => rfl
  have Flw : C8.Def K mg "_law_word" sWord flw _ := ⟨⟨_, _, _, _, _, _, _, _, _, _, rfl, llw, clw⟩, PySem.W.mg_of X G alw, klw⟩
  have blw : Binds K _ ["_law_pen_here"] [] := Flw.fn.binds rfl fun _ _ _ _ _ _ us hl => match us, hl with | [_], _ => rfl
  have Fln : C8.Def K mg "_law_is_name" sIsName2 fln _ := ⟨⟨_, _, _, _, _, _, _, _, _, _, rfl, lln, cln⟩, PySem.W.mg_of X G aln, kln⟩
  have bln : Binds K _ ["_law_wordy"] [] := Fln.fn.binds rfl fun _ _ _ _ _ _ us hl => match us, hl with | [_], _ => rfl
  have Flr : C8.Def K mg "_law_written" sWri flr _ := ⟨⟨_, _, _, _, _, _, _, _, _, _, rfl, llr, clr⟩, PySem.W.mg_of X G alr, klr⟩
  have blr : Binds K _ ["_law_wordy"] [] := Flr.fn.binds rfl fun _ _ _ _ _ _ us hl => match us, hl with | [_], _ => rfl
  have Ftr : C8.Def K mg "_law_thing_right" sThr ftr _ := ⟨⟨_, _, _, _, _, _, _, _, _, _, rfl, ltr, ctr⟩, PySem.W.mg_of X G atr, ktr⟩
  have btr : Binds K _ ["_law_thing_here", "_law_low", "_law_high"] [] := Ftr.fn.binds rfl fun _ _ _ _ _ _ us hl => match us, hl with | [_, _, _], _ => rfl
  have Fwr : C8.Def K mg "_law_word_right" sWor fwr _ := ⟨⟨_, _, _, _, _, _, _, _, _, _, rfl, lwr, cwr⟩, PySem.W.mg_of X G awr, kwr⟩
  have bwr : Binds K _ ["_law_wordy", "_law_low", "_law_high"] [] := Fwr.fn.binds rfl fun _ _ _ _ _ _ us hl => match us, hl with | [_, _, _], _ => rfl
  have Fla : C8.Def K mg "law" sLaw fa _ := ⟨⟨_, _, _, _, _, _, _, _, _, _, rfl, lla, cla⟩, PySem.W.mg_of X G ala, kla⟩
  have bla : Binds K _ ["_law_script"] [] := Fla.fn.binds rfl fun _ _ _ _ _ _ us hl => match us, hl with | [_], _ => rfl
  have kbii : KBn K (PySem.W.fnOf "is_integer" "is_integer" (C8.fnArgs sIsInt) (C8.fnBody sIsInt) (C8.fnScope sIsInt) .none kVii dcii pmii anii cdii ctii) ["value"] 0 ["value"] (fun _ ws => ws) (fun _ zs => zs) := ⟨fun s us ws _ l1 l2 => .of_eq (match us, ws, l1, l2 with | [], [_], _, _ => rfl), fun _ r => r⟩
  have kbiw : KBn K (PySem.W.fnOf "is_within" "is_within" (C8.fnArgs sWithin) (C8.fnBody sWithin) (C8.fnScope sWithin) .none kViw dciw pmiw aniw cdiw ctiw) ["value", "least", "most"] 0 ["value", "least", "most"] (fun _ ws => ws) (fun _ zs => zs) := ⟨fun s us ws _ l1 l2 => .of_eq (match us, ws, l1, l2 with | [], [_, _, _], _, _ => rfl), fun _ r => r⟩
  have kbiz : KBn K (PySem.W.fnOf "is_size" "is_size" (C8.fnArgs sSize) (C8.fnBody sSize) (C8.fnScope sSize) .none kViz dciz pmiz aniz cdiz ctiz) ["value"] 0 ["value"] (fun _ ws => ws) (fun _ zs => zs) := ⟨fun s us ws _ l1 l2 => .of_eq (match us, ws, l1, l2 with | [], [_], _, _ => rfl), fun _ r => r⟩
  have kbim : KBn K (PySem.W.fnOf "is_name" "is_name" (C8.fnArgs sIsName) (C8.fnBody sIsName) (C8.fnScope sIsName) .none kVim dcim pmim anim cdim ctim) ["value"] 0 ["value"] (fun _ ws => ws) (fun _ zs => zs) := ⟨fun s us ws _ l1 l2 => .of_eq (match us, ws, l1, l2 with | [], [_], _, _ => rfl), fun _ r => r⟩
  have kbnb : KBn K (PySem.W.fnOf "number_of" "number_of" (C8.fnArgs sNumOf) (C8.fnBody sNumOf) (C8.fnScope sNumOf) .none kVnb dcnb pmnb annb cdnb ctnb) ["word", "least", "most"] 0 ["word", "least", "most"] (fun _ ws => ws) (fun _ zs => zs) := ⟨fun s us ws _ l1 l2 => .of_eq (match us, ws, l1, l2 with | [], [_, _, _], _, _ => rfl), fun _ r => r⟩
  have T : TxtN K mg := { n_int := PySem.W.mg_none_of X G z_int, n_list := PySem.W.mg_none_of X G z_list, n_len := PySem.W.mg_none_of X G z_len, n_abs := PySem.W.mg_none_of X G z_abs, n_bool := PySem.W.mg_none_of X G z_bool, n_str := PySem.W.mg_none_of X G z_str, n_isinstance := PySem.W.mg_none_of X G z_isinstance, n_range := PySem.W.mg_none_of X G z_range, n_repr := PySem.W.mg_none_of X G z_repr, n_all := PySem.W.mg_none_of X G z_all, c_GS := ⟨_, by rw [← eS]; exact PySem.W.mg_of X G gS⟩, c_LN := ⟨_, by rw [← eL]; exact PySem.W.mg_of X G gL⟩, c_LE := ⟨_, by rw [← eE]; exact PySem.W.mg_of X G gE⟩, c_TW := ⟨aW, PySem.W.mg_of X G gW, fun H => .inr ⟨_, _, _, lW, rfl, rfl, Nat.le_trans sW (by decide), vW⟩⟩, c_PF := ⟨_, by rw [← eF]; exact PySem.W.mg_of X G gF⟩, c_PW := ⟨_, by rw [← eP]; exact PySem.W.mg_of X G gP⟩ }
  have cl : Cls K C := ⟨pg, hd, po, sa⟩
  have IC : C8.InsC K C := ⟨cl, hC, hG, hK, hM, by unfold PySem.W.kitOne; rw [if_pos (by simp)]⟩
  have O : Odds K C := ⟨⟨kit_ty (by decide +kernel), kit_ty (by decide +kernel), kit_ty (by decide +kernel)⟩, ⟨kit_ty (by decide +kernel), kit_ty (by decide +kernel), kit_ty (by decide +kernel)⟩, ⟨kit_ty (by decide +kernel), kit_ty (by decide +kernel), kit_ty (by decide +kernel)⟩, ⟨kit_ty (by decide +kernel), kit_ty (by decide +kernel), kit_ty (by decide +kernel)⟩, ⟨o1, o2, o3⟩⟩
  have FI : C8.Fun K "__init__" "Ratio.__init__" sInit fI _ := ⟨_, _, _, _, _, _, _, _, _, _, rfl, lI, cI⟩
  have FD : FunD K "__init__" "Ratio.__init__" (C8.fnArgs sInit) (C8.fnBody sInit) (C8.fnScope sInit) [.int 1] [] fI _ := ⟨⟨_, _, _, _, _, _, _, _, _, _, rfl, lI, cI, .inr ⟨by simp, Td, _, [.int 1 tD], nD, rfl, lD, rfl, .cons ⟨_, rfl⟩ .nil⟩, .inl rfl⟩, kI⟩
  obtain ⟨ds3, vd3, bI3⟩ := FD.binds1 (ps := ["self", "over", "under"]) 3 1 (by simp) rfl (fun Tq kVq dcq pmq anq cdq ctq us its h1 h2 => match us, its, h1, h2 with | [_, _, _], [_], _, _ => ⟨_, rfl, rfl⟩)
  obtain ⟨ds2, vd2, bI2⟩ := FD.binds1 (ps := ["self", "over", "under"]) 2 0 (by simp) rfl (fun Tq kVq dcq pmq anq cdq ctq us its h1 h2 => match us, its, h1, h2 with | [_, _], [_], _, _ => ⟨_, rfl, rfl⟩)
  refine ⟨PySem.W.fnOf "law" "law" (C8.fnArgs sLaw) (C8.fnBody sLaw) (C8.fnScope sLaw) .none kVla dcla pmla anla cdla ctla, cT, B, tabIn_of alt llt rfl lT vT, nT, fun s u => .of_eq rfl, fun base KB GB TB => ?_⟩
  have Dii := cal_isint (P := l.prog) (w := w) (base := base) Fii bii T.toTxt
  have Diw := cal_within Fiw biw T.toTxt Dii
  have Diz := cal_size Fiz biz T.toTxt Diw
  have Dim := cal_isname (P := l.prog) (w := w) (base := base) Fim bim T.toTxtK
  have Dln := cal_isname2 (P := l.prog) (w := w) (base := base) Fln bln T.toTxtK
  have Dio := cal_intof (P := l.prog) (w := w) (base := base) Fio bio T
  have Dnb := cal_numof Fnb bnb Dio Diw
  have Dlr := cal_wri (P := l.prog) (w := w) (base := base) Flr blr T
  have Dld := cal_draw (P := l.prog) (w := w) (K := K) (base := base) Fld bld T.toTxt0
  have Dlk := cal_pick Flk blk T.toTxt0 Dld
  have Dlp := cal_pen (P := l.prog) (w := w) (base := base) Flp blp T.toTxt0
  have mI : Mk K C fI := ⟨mk, aI, iI, kC⟩
  have M2 := mak_ratio (P := l.prog) (w := w) (base := base) mI (PySem.W.mg_of X G aC) FI bI3 vd3 cl nO nU (PySem.W.mg_of X G gG) Dii
  have M1 := mak_ratio (P := l.prog) (w := w) (base := base) mI (PySem.W.mg_of X G aC) FI bI2 vd2 cl nO nU (PySem.W.mg_of X G gG) Dii
  have Dlt := cal_thing Flt blt TB O IC Dld Dlk M2 M1
  have Dlw := cal_word Flw blw T Dld Dlk
  have D : Defs l.prog w K mg base := ⟨Dii, Diw, Diz, Dim, Dln, Dnb, Dlr⟩
  exact fn_law Fla.fn T D
    { is_integer := ⟨_, _, fn_isint Fii T.toTxt, Fii.mgf, Fii.kp, kbii⟩, is_within := ⟨_, _, fn_within Fiw T.toTxt Dii, Fiw.mgf, Fiw.kp, kbiw⟩, is_size := ⟨_, _, fn_size Fiz T.toTxt Diw, Fiz.mgf, Fiz.kp, kbiz⟩, is_name := ⟨_, _, fn_isname Fim T.toTxtK, Fim.mgf, Fim.kp, kbim⟩, number_of := ⟨_, _, fn_numof Fnb Dio Diw, Fnb.mgf, Fnb.kp, kbnb⟩ }
    ⟨Dlp, Dld, Dlk, Dlt, Dlw, cal_thr Ftr btr T D, cal_wor Fwr bwr T D⟩
end Lw
open PySem PySem.W PyProof.Rows
set_option maxRecDepth 100000 in
set_option maxHeartbeats 0 in
theorem PySem.Challenge.cw_latechunks_k02_looks_at_any_values_holds : PySem.Challenge.rw_latechunks_k02_looks_at_any_values.Holds := by
  w_on; o_law; k_head; (case hw => w_witness2)
  k_fill
  refine Lw.walk_end (l := PySem.Challenge.rw_latechunks_k02_looks_at_any_values) (x := "_law_script") (xt := "_law_thing") (k := 5) rfl (by decide) rfl ⟨rfl, by decide, by decide⟩ (fun w h Y => PySem.W.km_in_of Y) ?hrec ?F
  case hrec => first | rfl | decide +kernel
  case F =>
    intro w mg fa h KX G hmg
    refine' Lw.all_known KX G hmg ?aii ?lii ?cii ?kii ?aiw ?liw ?ciw ?kiw ?aiz ?liz ?ciz ?kiz ?aim ?lim ?cim ?kim ?aio ?lio ?cio ?kio ?anb ?lnb ?cnb ?knb ?alp ?llp ?clp ?klp ?ald ?lld ?cld ?kld ?alk ?llk ?clk ?klk ?alt ?llt ?clt ?klt ?alw ?llw ?clw ?klw ?aln ?lln ?cln ?kln ?alr ?llr ?clr ?klr ?atr ?ltr ?ctr ?ktr ?awr ?lwr ?cwr ?kwr ?ala ?lla ?cla ?kla ?aC ?aI ?iI ?lI ?cI ?kI ?lD ?pg ?hd ?po ?sa ?mk ?kC ?nO ?nU ?hC ?hG ?hK ?hM ?o1 ?o2 ?o3 ?lT ?vT ?nT ?z_int ?z_list ?z_len ?z_abs ?z_bool ?z_str ?z_isinstance ?z_range ?z_repr ?z_all ?gG ?gS ?eS ?gL ?eL ?gF ?eF ?gP ?eP ?gE ?eE ?gW ?lW ?sW ?vW
    (case aii => k_is); (case lii => k_is); (case cii => k_is); (case kii => k_is)
    (case aiw => k_is); (case liw => k_is); (case ciw => k_is); (case kiw => k_is)
    (case aiz => k_is); (case liz => k_is); (case ciz => k_is); (case kiz => k_is)
    (case aim => k_is); (case lim => k_is); (case cim => k_is); (case kim => k_is)
    (case aio => k_is); (case lio => k_is); (case cio => k_is); (case kio => k_is)
    (case anb => k_is); (case lnb => k_is); (case cnb => k_is); (case knb => k_is)
    (case alp => k_is); (case llp => k_is); (case clp => k_is); (case klp => k_is)
    (case ald => k_is); (case lld => k_is); (case cld => k_is); (case kld => k_is)
    (case alk => k_is); (case llk => k_is); (case clk => k_is); (case klk => k_is)
    (case alt => k_is); (case llt => k_is); (case clt => k_is); (case klt => k_is)
    (case alw => k_is); (case llw => k_is); (case clw => k_is); (case klw => k_is)
    (case aln => k_is); (case lln => k_is); (case cln => k_is); (case kln => k_is)
    (case alr => k_is); (case llr => k_is); (case clr => k_is); (case klr => k_is)
    (case atr => k_is); (case ltr => k_is); (case ctr => k_is); (case ktr => k_is)
    (case awr => k_is); (case lwr => k_is); (case cwr => k_is); (case kwr => k_is)
    (case ala => k_is); (case lla => k_is); (case cla => k_is); (case kla => k_is)
    (case aC => k_is); (case aI => k_is); (case iI => k_is); (case lI => k_is)
    (case cI => k_is); (case kI => k_is); (case lD => k_is); (case pg => k_is)
    (case hd => k_is); (case po => k_is); (case sa => k_is); (case mk => k_is)
    (case kC => k_is); (case nO => k_is); (case nU => k_is); (case hC => k_is)
    (case hG => k_is); (case hK => k_is); (case hM => k_is); (case o1 => first | kernel_rfl | rfl | decide +kernel)
    (case o2 => first | kernel_rfl | rfl | decide +kernel); (case o3 => first | kernel_rfl | rfl | decide +kernel); (case lT => k_is); (case vT => first | rfl | decide +kernel)
    (case nT => first | kernel_rfl | rfl); (case z_int => k_is); (case z_list => k_is); (case z_len => k_is)
    (case z_abs => k_is); (case z_bool => k_is); (case z_str => k_is); (case z_isinstance => k_is)
    (case z_range => k_is); (case z_repr => k_is); (case z_all => k_is); (case gG => k_is)
    (case gS => k_is); (case eS => first | rfl | decide +kernel); (case gL => k_is); (case eL => first | rfl | decide +kernel)
    (case gF => k_is); (case eF => first | rfl | decide +kernel); (case gP => k_is); (case eP => first | rfl | decide +kernel)
    (case gE => k_is); (case eE => first | rfl | decide +kernel); (case gW => k_is); (case lW => k_is)
    (case sW => first | rfl | decide +kernel); (case vW => exact .cons ⟨_, rfl⟩ (.cons ⟨_, rfl⟩ (.cons ⟨_, rfl⟩ (.cons ⟨_, rfl⟩ (.cons ⟨_, rfl⟩ (.cons ⟨_, rfl⟩ (.cons ⟨_, rfl⟩ (.cons ⟨_, rfl⟩ (.cons ⟨_, rfl⟩ (.cons ⟨_, rfl⟩ (.nil)))))))))))
