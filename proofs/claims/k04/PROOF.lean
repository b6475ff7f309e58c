import PyProof.Rows.All
import Wide.All
import OpenK.AllK
import Wide.FinOn
import HandS.ForMost
import HandS.Wide
import HandS.Codes
import HandS.EndBits
import HandS.Lambda
import HandS.IsInst
import PyProof.IsiBase
import KE.KIsAll
import HandS.Walk
import HandS.Words
import HandS.Gcd
import HandS.SlotsOwn
import KE.KOpsOwn
import PyProof.TwoTypes
import HandS.Exc
import HandS.ExcField
import HandS.ExcIs
import HandS.ClsMeth
import HandS.ExcInit
import HandS.Dict
import HandS.TryOnly
import HandS.Style
import HandS.Comp
import PyProof.CompFree
import HandS.Defaults
import HandS.MakeKwOnly
import HandS.List
import HandS.HotCalls
import HandS.OwnEq
import HandS.EndTab
import PySem.Challenge.RW_latechunks_k04_ratios_made
set_option Elab.async false
set_option linter.all false
set_option maxRecDepth 100000
set_option maxHeartbeats 4000000
namespace Lw
open PySem PySem.Spec PyProof.Rows L2
def top (i : Nat) : Stmt := PySem.Challenge.pw_latechunks_k04_ratios_made.main.body.getD i (.Pass ⟨0, 0, 0, 0⟩)

theorem stir {x s : Int} (hx0 : 0 ≤ x) (hx : x < 2147483648) (hs0 : 0 ≤ s) (hs : s ≤ 1000000) (e f g : Int) (he0 : 0 ≤ e) (he : e ≤ 1000) (hf0 : 0 ≤ f) (hf : f ≤ 1000000) (hg0 : 0 ≤ g) (hg : g ≤ 1000000) :
    (x * (2 * s + e) + f * s * s + g).natAbs < 2 ^ 64 := by
  have a0 : 0 ≤ x * (2 * s + e) := Int.mul_nonneg hx0 (by omega)
  have a1 : x * (2 * s + e) ≤ 2147483648 * 2001000 := Int.mul_le_mul (by omega) (by omega) (by omega) (by omega)
  have b0 : 0 ≤ f * s := Int.mul_nonneg hf0 hs0
  have b1 : f * s ≤ 1000000 * 1000000 := Int.mul_le_mul hf hs hs0 (by omega)
  have c0 : 0 ≤ f * s * s := Int.mul_nonneg b0 hs0
  have c1 : f * s * s ≤ 1000000 * 1000000 * 1000000 := Int.mul_le_mul b1 hs hs0 (by omega)
  omega
theorem fsmall {f s : Int} (hf0 : 0 ≤ f) (hf : f ≤ 1000000) (hs0 : 0 ≤ s) (hs : s ≤ 1000000) : -(2 ^ 64) < f * s ∧ f * s < 2 ^ 64 := by
  have b0 : 0 ≤ f * s := Int.mul_nonneg hf0 hs0
  have b1 : f * s ≤ 1000000 * 1000000 := Int.mul_le_mul hf hs hs0 (by omega)
  omega
theorem fm0 {a d : Int} (hd : 0 < d) : 0 ≤ Int.fmod a d := Int.fmod_nonneg_of_pos _ hd
theorem fm1 {a d : Int} (hd : 0 < d) (h : d ≤ 2147483648) : Int.fmod a d < 2147483648 := Int.lt_of_lt_of_le (Int.fmod_lt_of_pos _ hd) h
theorem fm64 {a d : Int} (hd : 0 < d) (h : d ≤ 2147483648) : -(2 ^ 64) < Int.fmod a d ∧ Int.fmod a d < 2 ^ 64 := by
  have h0 := fm0 (a := a) hd
  have h1 := fm1 (a := a) hd h
  omega
theorem ite_false_of {c : Bool} {A B : Prop} (h : ¬ c = true) (hb : B) : if c = true then A else B := by rw [if_neg h]; exact hb
/-- behind an if: what both ways end in -/
theorem join_if {t u : TS} {D : Ends} {b : Bool} {σ : L2.St} {H : Hp} (Pj : L2.St → Hp → Prop) (hr : ∀ σ' H', Pj σ' H' → D.nx σ' H') (h : (∀ σ' H', Pj σ' H' → D.nx σ' H') → if b = true then t D σ H else u D σ H) : if b = true then t D σ H else u D σ H := h hr
theorem lay_ints : ∀ xs : List Int, PyData.canLayAll0 (xs.map PyData.int) = true
  | [] => rfl
  | x :: r => by
    show (PyData.canLay0 (.int x) && PyData.canLayAll0 (r.map PyData.int)) = true
    rw [lay_ints r]; rfl
theorem depth_ints : ∀ xs : List Int, PyData.depthAll (xs.map PyData.int) = 0
  | [] => rfl
  | x :: r => by
    show max (PyData.depth (.int x)) (PyData.depthAll (r.map PyData.int)) = 0
    rw [depth_ints r]; rfl
theorem shaped_ints (xs : List Int) : SeqAt.shaped (.list (xs.map PyData.int)) = true := by
  unfold SeqAt.shaped
  have h1 : PyData.canLay0 (.list (xs.map PyData.int)) = true := lay_ints xs
  have h2 : PyData.depth (.list (xs.map PyData.int)) = 1 := by
    show PyData.depthAll (xs.map PyData.int) + 1 = 1
    rw [depth_ints]
  rw [h1, h2]; rfl
theorem dp_ints {K : PySem.W.Frag} {H : Hp} : ∀ xs : List Int, DpAll K H (xs.map V.int) (xs.map PyData.int)
  | [] => .nil
  | x :: r => .cons (.int x) (dp_ints r)
theorem eqv_nil (xs : List Int) : PyData.eqv (.list (xs.map PyData.int)) (.list []) = decide (xs = []) := by
  cases xs <;> rfl
abbrev sPen : Stmt := top 20
abbrev sDraw : Stmt := top 21
abbrev sPick : Stmt := top 22
/-- all but what stands at p is as it was -/
def Kp (p : Addr) (H H' : Hp) : Prop := ∀ b o, b ≠ p → H b = some o → H' b = some o
/-- a pen at p: its numbers at l, its place, its rest -/
structure PenAt (H : Hp) (p l : Addr) (xs : List Int) (s g : Int) : Prop where
  at_ : H p = some (.lst [.ref l, .int s, .int g])
  ls : H l = some (.lst (xs.map V.int))
  ne : p ≠ l
  s0 : 0 ≤ s
  g0 : 0 ≤ g
def Pen (H : Hp) (p l : Addr) (n : Nat) : Prop := ∃ xs s g, PenAt H p l xs s g ∧ s ≤ n
def spDraw : Sp := fun vs H Q _ => ∃ (p l : Addr) (n : Nat) (m : Int), vs = [.ref p, .int m] ∧ 0 < m ∧ m < 2 ^ 200 ∧ Pen H p l n ∧ n ≤ 1000000 ∧
  ∀ (r : Int) (H' : Hp), 0 ≤ r → r < m → Pen H' p l (n + 1) → Kp p H H' → Q (.int r) H'
structure Txt0 (mg : Str → Option Value) : Prop where
  n_int : mg "int" = none
  n_list : mg "list" = none
  n_len : mg "len" = none
  n_abs : mg "abs" = none
section
variable {P : Program} {w : World} {K : PySem.W.Frag} {mg : Str → Option Value} {base : Heap}
theorem scDraw : FnScope ["_law_pen_here", "_law_many", "_law_digit", "_law_spot", "_law_cell", "_law_great", "_law_stirred"] ["_law_pen_here", "_law_many"] (C8.fnScope sDraw) := C8.fnScope_by (by decide +kernel)
theorem cal_draw {f : Addr} {fd : FuncData} (F : C8.Def K mg "_law_draw" sDraw f fd) (b : Binds K fd ["_law_pen_here", "_law_many"] []) (T : Txt0 mg) : C8.Cal P w K mg base 1 "_law_draw" spDraw [] := by
  refine C8.cal0 F b .nil scDraw (fun vs H Q E h => ?_) (fun cdv A outer st H vs Q E hr h => ?_)
  · obtain ⟨p, l, n, m, rfl, _⟩ := h
    rfl
  · obtain ⟨p, l, n, m, rfl, hm, hm2, ⟨xs, s, g, ⟨hp, hl, ne, s0, g0⟩, hs⟩, hn, k⟩ := h
    refine ⟨_, (pss_cons (ps_if (pt_cmpR op_gt (pe_ix ix_list (pv 0) pe_int (fun _ _ => rfl)) pe_int (nomark _)) (pss_cons (ps_set (i := 2) scDraw.nd rfl (Or.inl rfl) (pe_op op_modN (pe_callTy call_int1 (by rfl) T.n_int (by decide +kernel) (pa_cons (pe_ix ix_list (pv 0) pe_int (fun _ _ => rfl)) pa_nil)) (pv 1)))
  (pss_cons (ps_asg (pe_op op_fdivW (pe_callTy call_int1 (by rfl) T.n_int (by decide +kernel) (pa_cons (pe_ix ix_list (pv 0) pe_int (fun _ _ => rfl)) pa_nil)) (pv 1)) (pg_sub (pv 0) pe_int set_list))
  (pss_one (ps_ret (pv 2))))) pss_nil)
  (pss_cons (ps_set (i := 3) scDraw.nd rfl (Or.inl rfl) (pe_ix ix_list (pv 0) pe_int (fun _ _ => rfl)))
  (pss_cons (ps_asg (pe_op op_add (pv 3) pe_int) (pg_sub (pv 0) pe_int set_list))
  (pss_cons (ps_set (i := 4) scDraw.nd rfl (Or.inl rfl) (pe_op op_add (pe_op op_mul pe_int (pv 3)) pe_int))
  (pss_cons (ps_if (pt_cmpR (op_neD hr.units) (pe_ix ix_list (pv 0) pe_int (fun _ _ => rfl)) (pe_lst pa_nil) (nomark _)) (pss_one (ps_set (i := 4) scDraw.nd rfl (Or.inl rfl) (pe_ix ix_list (pe_ix ix_list (pv 0) pe_int (fun _ _ => rfl)) (pe_op op_modN (pe_callTy call_int1 (by rfl) T.n_int (by decide +kernel) (pa_cons (pv 3) pa_nil)) (pe_callB call_len_seq (by rfl) T.n_len (by decide +kernel) (pa_cons (pe_ix ix_list (pv 0) pe_int (fun _ _ => rfl)) pa_nil))) (fun _ _ => rfl)))) pss_nil)
  (pss_cons (ps_if (PW.pt (pw_and (pt_cmpR op_lt (pv 3) (pe_callB call_len_seq (by rfl) T.n_len (by decide +kernel) (pa_cons (pe_ix ix_list (pv 0) pe_int (fun _ _ => rfl)) pa_nil)) (nomark _)) (pw_and1 (pt_cmpR op_ge (pe_callB call_abs (by rfl) T.n_abs (by decide +kernel) (pa_cons (pv 4) pa_nil)) (pe_op op_pow pe_int pe_int) (nomark _))))) (pss_cons (ps_set (i := 5) scDraw.nd rfl (Or.inl rfl) (pe_op op_add (pe_op op_mul pe_int (pe_op op_sub (pe_callB call_abs (by rfl) T.n_abs (by decide +kernel) (pa_cons (pv 4) pa_nil)) (pe_op op_pow pe_int pe_int))) (pe_callTy call_int1 (by rfl) T.n_int (by decide +kernel) (pa_cons (pe_cmpR op_lt (pv 4) pe_int (nomark _)) pa_nil))))
  (pss_cons (ps_asg (pe_op op_fdivW (pe_callTy call_int1 (by rfl) T.n_int (by decide +kernel) (pa_cons (pv 5) pa_nil)) (pv 1)) (pg_sub (pv 0) pe_int set_list))
  (pss_one (ps_ret (pe_op op_modN (pe_callTy call_int1 (by rfl) T.n_int (by decide +kernel) (pa_cons (pv 5) pa_nil)) (pv 1)))))) pss_nil)
  (pss_cons (ps_set (i := 6) scDraw.nd rfl (Or.inl rfl) (pe_op op_modN (pe_callTy call_int1 (by rfl) T.n_int (by decide +kernel) (pa_cons (pe_op op_pow (pe_op op_add (pe_op op_add (pe_op op_modN (pe_callTy call_int1 (by rfl) T.n_int (by decide +kernel) (pa_cons (pv 4) pa_nil)) pe_int) (pe_op op_mul pe_int (pv 3))) pe_int) pe_int) pa_nil)) pe_int))
  (pss_cons (ps_set (i := 6) scDraw.nd rfl (Or.inl rfl) (pe_op op_modN (pe_callTy call_int1 (by rfl) T.n_int (by decide +kernel) (pa_cons (pe_op op_pow (pe_op op_add (pe_op op_add (pe_op op_mul (pv 6) (pe_op op_add (pe_op op_mul pe_int (pv 3)) pe_int)) (pe_op op_mul (pe_op op_mul pe_int (pv 3)) (pv 3))) pe_int) pe_int) pa_nil)) pe_int))
  (pss_one (ps_ret (pe_op op_modN (pe_callTy call_int1 (by rfl) T.n_int (by decide +kernel) (pa_cons (pe_op op_fdivW (pv 6) pe_int) pa_nil)) (pv 1)))))))))))), ?_⟩
    have hmb : CDivW 0 m := wide_div (b := 200) hm (by omega) (by decide) (by decide)
    refine ⟨_, rfl, p, _, _, _, rfl, rfl, SqL.of hp, rfl, _, _, rfl, rfl, _, rfl, ite2 (fun c => ?_) (fun c => ?_)⟩
    · -- the rest is above 0: a digit of it
      refine ⟨_, rfl, p, _, _, _, rfl, rfl, SqL.of hp, rfl, Or.inl ⟨_, rfl, ?_⟩⟩
      refine ⟨_, rfl, _, _, rfl, rfl, (by omega), ?_⟩
      refine ⟨_, rfl, p, _, _, _, rfl, rfl, SqL.of hp, rfl, Or.inl ⟨_, rfl, ?_⟩⟩
      refine ⟨_, rfl, _, _, rfl, rfl, hmb, ?_⟩
      refine ⟨_, rfl, p, _, _, _, rfl, rfl, hp, rfl, ?_⟩
      refine ⟨_, rfl, ?_⟩
      refine k _ _ (Int.fmod_nonneg_of_pos _ hm) (Int.fmod_lt_of_pos _ hm) ⟨xs, s, g / m, ⟨?_, ?_, ne, s0, Int.ediv_nonneg g0 (Int.le_of_lt hm)⟩, by omega⟩ fun b o hb e => ?_
      · rw [upd_same]; rfl
      · rw [upd_ne (Ne.symm ne)]; exact hl
      · rw [upd_ne hb]; exact e
    · -- the next place
      refine ⟨_, rfl, p, _, _, _, rfl, rfl, SqL.of hp, rfl, ?_⟩
      refine ⟨_, rfl, _, _, rfl, rfl, _, rfl, p, _, _, _, rfl, rfl, hp, rfl, ?_⟩
      have hp1 : upd H p (.lst [V.ref l, V.int (s + 1), V.int g]) p = some (.lst [V.ref l, V.int (s + 1), V.int g]) := upd_same
      have hl1 : upd H p (.lst [V.ref l, V.int (s + 1), V.int g]) l = some (.lst (xs.map V.int)) := by rw [upd_ne (Ne.symm ne)]; exact hl
      have k1 : Kp p H (upd H p (.lst [V.ref l, V.int (s + 1), V.int g])) := fun b o hb e => by rw [upd_ne hb]; exact e
      show tSeq _ _ _ _ (upd H p (.lst [V.ref l, V.int (s + 1), V.int g]))
      generalize upd H p (.lst [V.ref l, V.int (s + 1), V.int g]) = H1 at hp1 hl1 k1 ⊢
      have fin : ∀ (r g' : Int) (H' : Hp), 0 ≤ r → r < m → 0 ≤ g' → H' p = some (.lst [V.ref l, V.int (s + 1), V.int g']) → Kp p H1 H' → Q (.int r) H' := fun r g' H' h0 h1 h2 h3 h4 =>
        k r H' h0 h1 ⟨xs, s + 1, g', ⟨h3, h4 _ _ (Ne.symm ne) hl1, ne, by omega, h2⟩, by omega⟩ fun b o hb e => h4 b o hb (k1 b o hb e)
      refine ⟨_, rfl, _, _, rfl, rfl, Or.inl (by decide), _, _, rfl, rfl, ?_⟩
      refine ⟨_, rfl, p, _, _, _, rfl, rfl, SqL.of hp1, rfl, (by show 0 ≤ sizeLine; decide), fun q hq => ?_⟩
      have lq : l ≠ q := ne_of_none hl1 hq
      have pq : p ≠ q := ne_of_none hp1 hq
      have hl2 : upd H1 q (.lst []) l = some (.lst (xs.map V.int)) := by rw [upd_ne lq]; exact hl1
      have hp2 : upd H1 q (.lst []) p = some (.lst [V.ref l, V.int (s + 1), V.int g]) := by rw [upd_ne pq]; exact hp1
      have k2 : Kp p H1 (upd H1 q (.lst [])) := fun b o hb e => by rw [upd_ne (ne_of_none e hq)]; exact e
      refine ⟨.list (xs.map PyData.int), .list [], .lst (SqL.of hl2) (dp_ints xs), .lst (SqL.of upd_same) .nil, shaped_ints xs, rfl, _, rfl, ?_⟩
      generalize upd H1 q (.lst []) = H2 at hl2 hp2 k2 ⊢
      refine join_if (fun σ' H' => ∃ cell : Int, σ' = [some (V.ref p), some (V.int m), none, some (V.int s), some (V.int cell), none, none] ∧ H' = H2) ?rest (fun go => ?_)
      case rest =>
        rintro σ' H' ⟨cell, rfl, rfl⟩
        refine ⟨_, rfl, _, rfl, p, _, _, _, rfl, rfl, SqL.of hp2, rfl, l, xs.map V.int, rfl, .inl (SqL.of hl2), _, _, rfl, rfl, _, rfl, ?_⟩
        refine ite2 (fun c2 => ?_) (fun c2 => ?_)
        · refine ⟨_, rfl, _, rfl, _, _, rfl, rfl, ⟨by decide, by decide, by decide⟩, _, _, rfl, rfl, _, rfl, ?_⟩
          refine ite2 (fun c3 => ?_) (fun c3 => ?_)
          · refine ⟨_, rfl, _, rfl, _, _, rfl, rfl, ⟨by decide, by decide, by decide⟩, _, _, rfl, rfl, _, _, rfl, rfl, Or.inl (by decide), _, rfl, _, _, rfl, rfl, Or.inr ⟨_, rfl, _, _, rfl, rfl, ?_⟩⟩
            have hge : (10 : Int) ^ (18 : Int).toNat ≤ (if cell < 0 then -cell else cell) := of_decide_eq_true c3
            generalize hG : 2 * ((if cell < 0 then -cell else cell) - 10 ^ (18 : Int).toNat) + (if decide (cell < 0) = true then (1 : Int) else 0) = G
            have hG0 : 0 ≤ G := by
              rw [← hG]
              have h1 : 0 ≤ (if decide (cell < 0) = true then (1 : Int) else 0) := by split <;> decide
              omega
            refine ⟨_, rfl, Or.inl ⟨_, rfl, _, rfl, _, _, rfl, rfl, (by exact hmb), _, rfl, p, _, _, _, rfl, rfl, hp2, rfl, ?_⟩⟩
            refine ⟨_, rfl, Or.inl ⟨_, rfl, _, rfl, _, _, rfl, rfl, (by show ¬ (_ = _); omega), ?_⟩⟩
            refine fin _ (G / m) _ (fm0 hm) (Int.fmod_lt_of_pos _ hm) (Int.ediv_nonneg hG0 (Int.le_of_lt hm)) ?_ fun b o hb e => ?_
            · rw [upd_same, ← hG]; rfl
            · rw [upd_ne hb]; exact k2 b o hb e
          · refine ⟨_, rfl, Or.inl ⟨_, rfl, ?_⟩⟩
            refine ⟨_, _, rfl, rfl, (by show ¬ (_ = _); decide), _, rfl, _, _, rfl, rfl, Or.inl (by decide), _, _, rfl, rfl, _, _, rfl, rfl, ?_⟩
            generalize hz : Int.fmod cell _ = z
            have hz0 : 0 ≤ z := by rw [← hz]; exact fm0 (by decide)
            have hz1 : z < 2147483648 := by rw [← hz]; exact fm1 (by decide) (by decide)
            refine ⟨_, _, rfl, rfl, ⟨by decide, by decide, by omega⟩, Or.inl ⟨_, rfl, ?_⟩⟩
            refine ⟨_, _, rfl, rfl, (by show ¬ (_ = _); decide), ?_⟩
            refine ⟨_, rfl, _, rfl, _, _, rfl, rfl, Or.inl (by decide), _, _, rfl, rfl, _, _, rfl, rfl, Or.inl (by exact fm64 (by decide) (by decide)), ?_⟩
            refine ⟨_, rfl, _, _, rfl, rfl, Or.inl (by decide), _, rfl, _, _, rfl, rfl, Or.inl (by exact fsmall (by decide) (by decide) s0 (by omega)), _, _, rfl, rfl, _, _, rfl, rfl, ?_⟩
            refine ⟨_, _, rfl, rfl, ⟨by decide, by decide, by exact stir (fm0 (by decide)) (fm1 (by decide) (by decide)) s0 (by omega) _ _ _ (by decide) (by decide) (by decide) (by decide) (by decide) (by decide)⟩, Or.inl ⟨_, rfl, ?_⟩⟩
            refine ⟨_, _, rfl, rfl, (by show ¬ (_ = _); decide), ?_⟩
            refine ⟨_, rfl, _, _, rfl, rfl, ⟨by decide, by decide⟩, Or.inl ⟨_, rfl, _, rfl, _, _, rfl, rfl, (by show ¬ (_ = _); omega), ?_⟩⟩
            exact fin _ g _ (fm0 hm) (Int.fmod_lt_of_pos _ hm) g0 hp2 k2
        · refine iteF ?_
          refine ⟨_, rfl, Or.inl ⟨_, rfl, ?_⟩⟩
          refine ⟨_, _, rfl, rfl, (by show ¬ (_ = _); decide), _, rfl, _, _, rfl, rfl, Or.inl (by decide), _, _, rfl, rfl, _, _, rfl, rfl, ?_⟩
          generalize hz : Int.fmod cell _ = z
          have hz0 : 0 ≤ z := by rw [← hz]; exact fm0 (by decide)
          have hz1 : z < 2147483648 := by rw [← hz]; exact fm1 (by decide) (by decide)
          refine ⟨_, _, rfl, rfl, ⟨by decide, by decide, by omega⟩, Or.inl ⟨_, rfl, ?_⟩⟩
          refine ⟨_, _, rfl, rfl, (by show ¬ (_ = _); decide), ?_⟩
          refine ⟨_, rfl, _, rfl, _, _, rfl, rfl, Or.inl (by decide), _, _, rfl, rfl, _, _, rfl, rfl, Or.inl (by exact fm64 (by decide) (by decide)), ?_⟩
          refine ⟨_, rfl, _, _, rfl, rfl, Or.inl (by decide), _, rfl, _, _, rfl, rfl, Or.inl (by exact fsmall (by decide) (by decide) s0 (by omega)), _, _, rfl, rfl, _, _, rfl, rfl, ?_⟩
          refine ⟨_, _, rfl, rfl, ⟨by decide, by decide, by exact stir (fm0 (by decide)) (fm1 (by decide) (by decide)) s0 (by omega) _ _ _ (by decide) (by decide) (by decide) (by decide) (by decide) (by decide)⟩, Or.inl ⟨_, rfl, ?_⟩⟩
          refine ⟨_, _, rfl, rfl, (by show ¬ (_ = _); decide), ?_⟩
          refine ⟨_, rfl, _, _, rfl, rfl, ⟨by decide, by decide⟩, Or.inl ⟨_, rfl, _, rfl, _, _, rfl, rfl, (by show ¬ (_ = _); omega), ?_⟩⟩
          exact fin _ g _ (fm0 hm) (Int.fmod_lt_of_pos _ hm) g0 hp2 k2
      refine ite2 (fun c1 => ?_) (fun c1 => ?_)
      · rw [eqv_nil] at c1
        have hx : xs ≠ [] := by simpa using c1
        have hlen : 0 < xs.length := List.length_pos_iff.mpr hx
        refine ⟨_, rfl, p, _, _, _, rfl, rfl, SqL.of hp2, rfl, ?_⟩
        refine ⟨_, rfl, Or.inl ⟨_, rfl, ?_⟩⟩
        refine ⟨_, rfl, p, _, _, _, rfl, rfl, SqL.of hp2, rfl, l, xs.map V.int, rfl, .inl (SqL.of hl2), ?_⟩
        have hL : ((xs.map V.int).length : Int) = (xs.length : Int) := by rw [List.length_map]
        have hb1 : 0 ≤ s.fmod ((xs.map V.int).length : Int) := Int.fmod_nonneg_of_pos _ (by omega)
        have hb2 : s.fmod ((xs.map V.int).length : Int) < ((xs.map V.int).length : Int) := Int.fmod_lt_of_pos _ (by omega)
        obtain ⟨j, hj⟩ : ∃ j : Nat, s.fmod ((xs.map V.int).length : Int) = (j : Int) := ⟨(s.fmod ((xs.map V.int).length : Int)).toNat, by omega⟩
        have hjl : j < xs.length := by omega
        have hat : atI (xs.map V.int) (s.fmod ((xs.map V.int).length : Int)) = some (V.int xs[j]) := by
          rw [hj]; exact atI_nat (by simp [hjl])
        refine ⟨_, _, rfl, rfl, (by omega), ?_⟩
        refine ⟨l, _, _, V.int xs[j], rfl, rfl, SqL.of hl2, hat, ?_⟩
        exact go _ _ ⟨xs[j], rfl, rfl⟩
      · exact go _ _ ⟨_, rfl, rfl⟩
end
end Lw
namespace Lw
open PySem PySem.Spec PyProof.Rows L2

theorem Kp.refl (p : Addr) (H : Hp) : Kp p H H := fun _ _ _ e => e
theorem Kp.trans {p : Addr} {H H1 H2 : Hp} (a : Kp p H H1) (b : Kp p H1 H2) : Kp p H H2 := fun c o hc e => b c o hc (a c o hc e)
theorem Kp.of {p : Addr} {H H' : Hp} (s : Same H H') : Kp p H H' := fun b o _ e => s b o e
theorem Kp.seq {K : PySem.W.Frag} {p a : Addr} {H H' : Hp} {ys : List V} (k : Kp p H H') (ne : a ≠ p) (h : SqL K H a ys) : SqL K H' a ys := by
  rcases h with (h | ⟨o, h⟩) | h
  · exact .inl (.inl (k _ _ ne h))
  · exact .inl (.inr ⟨o, k _ _ ne h⟩)
  · exact .inr h
theorem same_new {H : Hp} {q : Addr} {o : HO} (hq : H q = none) : Same H (upd H q o) := fun b u e => by rw [upd_ne (ne_of_none e hq)]; exact e
theorem Pen.keep {H H' : Hp} {p l : Addr} {n : Nat} (h : Pen H p l n) (s : Same H H') : Pen H' p l n := by
  obtain ⟨xs, a, g, ⟨h1, h2, h3, h4, h5⟩, h6⟩ := h
  exact ⟨xs, a, g, ⟨s _ _ h1, s _ _ h2, h3, h4, h5⟩, h6⟩
theorem Pen.at {H : Hp} {p l : Addr} {n : Nat} (h : Pen H p l n) : ∃ o, H p = some o := by
  obtain ⟨xs, a, g, h, _⟩ := h
  exact ⟨_, h.at_⟩
theorem Pen.ne_new {H : Hp} {p l q : Addr} {n : Nat} (h : Pen H p l n) (hq : H q = none) : q ≠ p := by
  obtain ⟨o, h1⟩ := h.at
  exact (ne_of_none h1 hq).symm
theorem Pen.more {H : Hp} {p l : Addr} {n m : Nat} (h : Pen H p l n) (hm : n ≤ m) : Pen H p l m := by
  obtain ⟨xs, a, g, h1, h2⟩ := h
  exact ⟨xs, a, g, h1, by omega⟩
def spPick (K : PySem.W.Frag) : Sp := fun vs H Q _ => ∃ (p l a : Addr) (n : Nat) (ys : List V), vs = [.ref p, .ref a] ∧ Pen H p l n ∧ n ≤ 1000000 ∧ SqL K H a ys ∧ a ≠ p ∧ 0 < ys.length ∧ ys.length < 1000000 ∧
  ∀ (j : Nat) (v : V) (H' : Hp), ys[j]? = some v → Pen H' p l (n + 1) → Kp p H H' → Q v H'
def spPen (K : PySem.W.Frag) : Sp := fun vs H Q _ => ∃ (a : Addr) (ns : List Int), vs = [.ref a] ∧ SqL K H a (ns.map V.int) ∧ ns.length ≤ 63 ∧ ∀ (p l : Addr) (H' : Hp), Pen H' p l 0 → Same H H' → H p = none → Q (.ref p) H'
theorem Pen.over {H : Hp} {p l q : Addr} {n : Nat} {o : HO} (h : Pen H p l n) (h1 : q ≠ p) (h2 : q ≠ l) : Pen (upd H q o) p l n := by
  obtain ⟨xs, a, g, ⟨e1, e2, e3, e4, e5⟩, h6⟩ := h
  exact ⟨xs, a, g, ⟨by rw [upd_ne h1.symm]; exact e1, by rw [upd_ne h2.symm]; exact e2, e3, e4, e5⟩, h6⟩
theorem Pen.ne_new2 {H : Hp} {p l q : Addr} {n : Nat} (h : Pen H p l n) (hq : H q = none) : q ≠ l := by
  obtain ⟨xs, a, g, h, _⟩ := h
  exact (ne_of_none h.ls hq).symm
section
variable {P : Program} {w : World} {K : PySem.W.Frag} {mg : Str → Option Value} {base : Heap}
theorem scPick : FnScope ["_law_pen_here", "_law_some"] ["_law_pen_here", "_law_some"] (C8.fnScope sPick) := C8.fnScope_by (by decide +kernel)
theorem cal_pick {f : Addr} {fd : FuncData} (F : C8.Def K mg "_law_pick" sPick f fd) (b : Binds K fd ["_law_pen_here", "_law_some"] []) (T : Txt0 mg) (D : C8.Cal P w K mg base 1 "_law_draw" spDraw []) : C8.Cal P w K mg base 2 "_law_pick" (spPick K) [] := by
  refine C8.cal0 F b .nil scPick (fun vs H Q E h => ?_) (fun cdv A outer st H vs Q E hr h => ?_)
  · obtain ⟨p, l, a, n, ys, rfl, _⟩ := h
    rfl
  · obtain ⟨p, l, a, n, ys, rfl, hp, hn, hs, ne, h0, h1, k⟩ := h
    refine ⟨_, (pss_one (ps_ret (pe_ix ix_list (pv 1) (C8.pe_c D hr (by decide) (by rfl) (pa_cons (pv 0) (pa_cons (pe_callB call_len_seq (by rfl) T.n_len (by decide +kernel) (pa_cons (pv 1) pa_nil)) pa_nil))) (fun _ _ => rfl)))), ?_⟩
    refine ⟨_, rfl, _, rfl, _, rfl, a, ys, rfl, .inl hs, ?_⟩
    refine ⟨p, l, n, _, rfl, (by omega), (by omega), hp, hn, fun r H' r0 r1 hp' k' => ?_⟩
    obtain ⟨j, hj⟩ : ∃ j : Nat, r = (j : Int) := ⟨r.toNat, by omega⟩
    subst hj
    have hjl : j < ys.length := by omega
    refine ⟨a, ys, _, ys[j], rfl, rfl, k'.seq ne hs, atI_nat (by simp [hjl]), ?_⟩
    exact k j _ H' (by simp [hjl]) hp' k'
theorem scPen : FnScope ["_law_script"] ["_law_script"] (C8.fnScope sPen) := C8.fnScope_by (by decide +kernel)
theorem cut_ints (xs : List Int) (lo hi : Option Int) : cutV (xs.map V.int) lo hi = ((xs.drop (HT.sIx xs.length 0 lo)).take (HT.sIx xs.length xs.length hi - HT.sIx xs.length 0 lo)).map V.int := by
  unfold cutV
  rw [List.length_map, List.map_take, List.map_drop]
theorem cal_pen {f : Addr} {fd : FuncData} (F : C8.Def K mg "_law_pen" sPen f fd) (b : Binds K fd ["_law_script"] []) (T : Txt0 mg) : C8.Cal P w K mg base 1 "_law_pen" (spPen K) [] := by
  refine C8.cal0 F b .nil scPen (fun vs H Q E h => ?_) (fun cdv A outer st H vs Q E hr h => ?_)
  · obtain ⟨a, ns, rfl, _⟩ := h
    rfl
  · obtain ⟨a, ns, rfl, hs, hl, k⟩ := h
    refine ⟨_, (pss_one (ps_ret (pe_lst (pa_cons (pe_callTy call_list_of (by rfl) T.n_list (by decide +kernel) (pa_cons (pe_slice sl_list (pv 0) po_none (po_some pe_int)) pa_nil)) (pa_cons pe_int (pa_cons pe_int pa_nil)))))), ?_⟩
    refine ⟨_, rfl, _, rfl, a, _, rfl, hs, fun c hc => ?_⟩
    refine ⟨c, _, rfl, .inl (SqL.of upd_same), fun l hl2 => ?_⟩
    refine ⟨(by show 3 ≤ sizeLine; decide), fun p hp => ?_⟩
    have s1 := same_new (o := HO.lst (cutV (ns.map V.int) none (some 63))) hc
    have s2 := same_new (o := HO.lst (cutV (ns.map V.int) none (some 63))) hl2
    have s3 := same_new (o := HO.lst [V.ref l, V.int 0, V.int 0]) hp
    have pl : p ≠ l := fun e => by rw [e, upd_same] at hp; cases hp
    refine k p l _ ⟨((ns.drop (HT.sIx ns.length 0 none)).take (HT.sIx ns.length ns.length (some 63) - HT.sIx ns.length 0 none)), 0, 0, ⟨upd_same, ?_, pl, by omega, by omega⟩, by omega⟩ ((s1.trans s2).trans s3) ((s1.trans s2).free hp)
    rw [upd_ne pl.symm, upd_same, cut_ints]
end
end Lw
namespace Lw
open PySem PySem.Spec PyProof.Rows L2

/-! ### defs that are called where no repr runs -/
/-- a def's promise where nothing is being shown -/
structure FnG (P : Program) (w : World) (K : PySem.W.Frag) (mg : Str → Option Value) (base : Heap) (k : Nat) (f : Addr) (fd : FuncData) (ps : List Str) (sp : Sp) : Prop where
  len : ∀ vs H Q E, sp vs H Q E → vs.length = ps.length
  run : ∀ (A : Around) (outer : List Env) (s : Shared) (H : Hp) (args : Args) (us : List Value) (vs : List V) (Q : VK) (E : XK), A.guards = some [] → Room k A → Env0 P w K mg base A outer s H →
    BindsTo s fd args (ps.zip us) → Vals vs us → sp vs H Q E → codeAny (model P w) A (.call (.ref f) args) (CR C8.CX0 outer P w H s Q E) s
structure CalG (P : Program) (w : World) (K : PySem.W.Frag) (mg : Str → Option Value) (base : Heap) (k : Nat) (x : Str) (sp : Sp) (dvs : List V) : Prop where
  ex : ∃ (f : Addr) (fd : FuncData) (ps : List Str) (ds : List Value), FnG P w K mg base k f fd ps sp ∧ mg x = some (.ref f) ∧ PySem.W.keepIn K (.ref f) = true ∧ Binds K fd ps ds ∧ Vals dvs ds
section
variable {P : Program} {w : World} {K : PySem.W.Frag} {mg : Str → Option Value} {base : Heap}
theorem calG {x : Str} {st : Stmt} {f : Addr} {fd : FuncData} {N ps : List Str} {ds : List Value} {dvs : List V} {k : Nat} {sp : Sp} (F : C8.Def K mg x st f fd) (b : Binds K fd ps ds) (d : Vals dvs ds) (S : FnScope N ps (C8.fnScope st))
    (len : ∀ vs H Q E, sp vs H Q E → vs.length = ps.length)
    (body : ∀ (cdv : Value) (A : Around) (outer : List Env) (s : Shared) (H : Hp) (vs : List V) (Q : VK) (E : XK), (A.deeper (envOfC x (C8.fnScope st) s.heap.objs.size f cdv)).guards = some [] → Room k (A.deeper (envOfC x (C8.fnScope st) s.heap.objs.size f cdv)) → sp vs H Q E →
      ∃ t, PSs (cxOf C8.CX0 P w K mg base N x (C8.fnScope st) f cdv A outer s H E).nox (C8.fnBody st) t ∧ t { nx := fun _ H' => Q .non H', rt := Q } (start N vs) H) : CalG P w K mg base (k + 1) x sp dvs := by
  refine ⟨f, fd, ps, ds, ⟨len, ?_⟩, F.mgf, F.kp, b, d⟩
  intro A outer s H args us vs Q E hg hr e0 hb r hs
  obtain ⟨oc, od, dV, kV, doc, pm, an, cdv, ct, osl, rfl, lk, hcd⟩ := F.fn.ex
  refine LamX.run_ofS lk hcd S hr e0 hb r (len _ _ _ _ hs) fun hr' => ?_
  obtain ⟨t, h1, h2⟩ := body cdv A outer s H vs Q E hg hr' hs
  exact ⟨t, h1.nox, h2⟩
end
section
variable {X : Cx} {k j : Nat} {x : Str} {sp : Sp} {dvs : List V} {p pos : Pos} {e : Expr} {es : List Expr} {t : TA}
theorem pe_g (c : CalG X.prog X.w X.K X.mg X.base k x sp dvs) (hG : X.A.guards = some []) (hr : Room j X.A) (hk : k ≤ j) (hg : Gl X x) (ha : PA X (e :: es) t)
    (hdb : (x == ("__debug__" : Str)) = false := by decide) (he : starEach (e :: es) X.env = (false, eval e X.env) :: starEach es X.env := by rfl) (hpl : (backTo pos (starEach es X.env)).any (·.1) = false := by rfl) :
    PE X (.Call (.Name x p) (e :: es) [] pos) (tCall sp dvs C8.E0 t) := by
  obtain ⟨f, fd, ps, ds, F, hm, kp, b, d⟩ := c.ex
  refine ⟨fun pins s σ H Q I h => ?_⟩
  refine wpAny_Call_Name_kw (ld_glob I hg hm ?_ hdb)
  refine PySem.W.callWith_K (h₀ := X.base) I.ok.mod.kin kp (thn (ha.run pos pins s σ H _ I h) fun us s1 g => ?_) he hpl
  obtain ⟨vs, H1, I1, r, q⟩ := g
  refine ⟨I1.kIn, ?_⟩
  have r2 := r.append d
  have hl : (us ++ ds).length = ps.length := r2.length.symm.trans (F.len _ _ _ _ q)
  refine wpAny_call (codeAny_mono (F.run X.A X.stack s1 H1 ⟨us, []⟩ (us ++ ds) (vs ++ dvs) Q C8.E0 hG (hr.mono hk) I1.env0 (b s1 us I1.kIn hl) r2 q) fun r s' hq => ?_)
  match r, hq with
  | .error e, hq => exact hq.elim
  | .ok (.ret u), hq => exact I1.after hq
  | .ok .next, hq => exact hq.elim
  | .ok .brk, hq => exact hq.elim
  | .ok .cont, hq => exact hq.elim
/-! ### repr of data -/
def rRepr (K : PySem.W.Frag) : List V → Hp → VK → Prop := fun xs H Q => ∃ (a : Addr) (d : PyData), xs = [.ref a] ∧ Dp K H (.ref a) d ∧ d.showable = true ∧ d.hasDict = false ∧ d.depth ≤ 100 ∧ d.shown.length ≤ sizeLine ∧ Q (.str d.shown) H
theorem call_reprD (hG : X.A.guards = some []) (hr : Room 0 X.A) : CallR X (.builtin "repr") (rRepr X.K) := by
  intro pins s σ H xs us Q I r h
  obtain ⟨a, d, rfl, hd, h1, h2, h3, h4, q⟩ := h
  obtain ⟨u, rfl, ru⟩ := vals1 r
  have e : u = Value.ref a := ru
  subst e
  obtain ⟨as, rd⟩ := Dp.reads I d _ _ hd rfl
  have hun := hr.un
  exact repr_of_reads' rd h1 (fun z => by rw [h2] at z; cases z) hG (by omega) (fun _ _ e => e) (fun h' u' tk kp => ⟨.str d.shown, H, I.kept kp, ⟨u', rfl⟩, q⟩) h4
end
end Lw
namespace Lw
open PySem PySem.Spec PyProof.Rows L2

open LamX
/-! ### a lambda as a value -/
def FnO (f : Addr) : HO := .ext fun h => ∃ o : Obj, h.get? f = some o ∧ o.cls = .type "function"
section
variable {X : Cx} {pins : List (Addr × Obj)} {σ : L2.St} {H : Hp} {s : Shared}
theorem lay_fn {h' : Heap} {t' : Nat} {o : Obj} (I : Inv X pins σ H { s with heap := h', toks := t' }) (ho : o.cls = .type "function") (hs : o.isFreed = false) :
    Inv X pins σ (upd H h'.objs.size (FnO h'.objs.size)) { s with heap := h'.push o, toks := t' } := by
  refine I.laid (h' := h'.push o) (t' := t') (fun b u e => Heap.get?_push_of_some _ e) (Nat.le_refl _) ?_
  have g : (h'.push o).get? h'.objs.size = some o := Heap.get?_push_size _ hs
  refine ⟨⟨o, g, ho⟩, ⟨o, g⟩, ?_⟩
  rintro h1 h2 ⟨u, e1, e2⟩ st
  exact ⟨u, st u e1, e2⟩
theorem lam_val {T : List (Addr × Str)} {c B : Addr} {params : Arguments} {body : Expr} {scope : Scope} {pos : Pos} {E Q : Value → Shared → Prop} (I : Inv X pins σ H s) (TB : TabB X.base X.mg c B) (hcode : X.env.code = .ref c)
    (hm : (B, X.env.qual ++ "<lambda>") ∈ T) (hu : ∀ p ∈ T, p.1 = B → p.2 = X.env.qual ++ "<lambda>") (hT : Tabs T H) (hdef : defaultsOf params X.env = ([], []))
    (hfree : ∀ y ∈ scope.names, y.2 = .free → ∃ c, X.env.cells.lookup y.1 = some c)
    (h : ∀ (f : Addr) (H1 : Hp) (s' : Shared), Inv X pins σ (upd H1 f (FnO f)) s' → ExtN H H1 → Tabs T H1 → H1 f = none → Q (.ref f) s') :
    wpAny (model X.prog X.w) X.A (eval (.Lambda params body scope pos) X.env) Q E s := by
  have known := hT _ hm
  obtain ⟨ps, hB, trip, amg⟩ := known
  refine PySem.W.kla_eval hdef ?_
  have hat : s.heap.get? B = some { cls := .none, data := .fields ps } := I.hok B _ hB
  have blt := TB.bm.keeps I.bk
  have hdc := TB.code.keeps I.bk
  have glb := I.mod.glob.keeps I.bk
  rcases hc : codeAmong pos ps.toList with _ | cv
  · refine PySem.W.kla_makeFunction (mg := X.mg) (c := c) (P := B) (ps := ps) (closure_ok hfree) I.ok.glob glb hcode hdc hat trip hc TB.gP blt ?_
    intro c2 ctv h' tk hx hge hlt hrec htb
    obtain ⟨c3, oc, vs, t, e3, g1, g2, g3⟩ := hrec
    cases e3
    have nC : H c2 = none := I.hok.fresh hge
    have I0 := inv_table (t' := tk) (more := #[rawInt pos.line, rawInt pos.col, .ref c2]) (h' := h') I hB hx htb hge ⟨oc, vs, t, g1, g2, g3⟩
    have stays : ExtN H (upd (upd H B (.tbl (ps ++ #[rawInt pos.line, rawInt pos.col, .ref c2]))) c2 (CodeO c2 (X.env.qual ++ "<lambda>"))) := by
      intro b o e n
      rw [upd_ne (ne_of_none e nC)]
      by_cases hb : b = B
      · subst hb
        rw [hB] at e
        exact absurd (Option.some.inj e).symm (n ps)
      · rw [upd_ne hb]; exact e
    refine h h'.objs.size _ _ (lay_fn (t' := tk) I0 rfl rfl) stays ?_ ?_
    · intro p hp
      by_cases hb : p.1 = B
      · rw [hu p hp hb, hb]
        refine ⟨ps ++ #[rawInt pos.line, rawInt pos.col, .ref c2], ?_, ?_, ?_⟩
        · rw [upd_ne (ne_of_none hB nC), upd_same]
        · rw [show (ps ++ #[rawInt pos.line, rawInt pos.col, .ref c2]).toList = ps.toList ++ [rawInt pos.line, rawInt pos.col, .ref c2] by simp]
          exact PySem.TriplesOk_snoc _ _ _ _ trip
        · intro p' cv' hcv
          rw [show (ps ++ #[rawInt pos.line, rawInt pos.col, .ref c2]).toList = ps.toList ++ [rawInt pos.line, rawInt pos.col, .ref c2] by simp] at hcv
          rcases among_app _ trip hcv with z | z
          · obtain ⟨c0, a1, a2⟩ := amg p' cv' z
            exact ⟨c0, a1, stays _ _ a2 codeO_ne⟩
          · exact ⟨c2, z, upd_same⟩
      · obtain ⟨qs, a1, a2, a3⟩ := hT p hp
        refine ⟨qs, ?_, a2, ?_⟩
        · rw [upd_ne (ne_of_none a1 nC), upd_ne hb]; exact a1
        · intro p' cv' hcv
          obtain ⟨c0, b1, b2⟩ := a3 p' cv' hcv
          exact ⟨c0, b1, stays _ _ b2 codeO_ne⟩
    · have n1 : h'.objs.size ≠ c2 := Nat.ne_of_gt hlt
      have n2 : h'.objs.size ≠ B := Nat.ne_of_gt (Nat.lt_of_lt_of_le (Heap.lt_size hat) (Nat.le_trans hge (Nat.le_of_lt hlt)))
      rw [upd_ne n1, upd_ne n2]
      exact I.hok.fresh (Nat.le_trans hge (Nat.le_of_lt hlt))
  · obtain ⟨c2, e, hco⟩ := amg pos cv hc
    subst e
    refine PySem.W.kla_makeFunctionHit (mg := X.mg) (c := c) (P := B) (ps := ps) (closure_ok hfree) I.ok.glob glb hcode hdc hat trip hc blt ?_
    intro ctv h' tk hx hsz
    have I0 : Inv X pins σ H { s with heap := h', toks := tk } := I.kept hx
    exact h h'.objs.size H _ (lay_fn (t' := tk) I0 rfl rfl) (ExtN.refl H) hT (I.hok.fresh hsz)
end
def tLamV (T : List (Addr × Str)) : TE := fun _ H Q => Tabs T H ∧ ∀ (f : Addr) (H1 : Hp), ExtN H H1 → Tabs T H1 → H1 f = none → Q (.ref f) (upd H1 f (FnO f))
section
variable {X : Cx}
theorem pe_lamV {T : List (Addr × Str)} {c B : Addr} {params : Arguments} {body : Expr} {scope : Scope} {pos : Pos} (TB : TabB X.base X.mg c B) (hcode : X.env.code = .ref c)
    (hm : (B, X.env.qual ++ "<lambda>") ∈ T) (hu : ∀ p ∈ T, p.1 = B → p.2 = X.env.qual ++ "<lambda>") (hdef : defaultsOf params X.env = ([], [])) (L : ∀ y ∈ scope.names, y.2 ≠ .free) :
    PE X (.Lambda params body scope pos) (tLamV T) := by
  refine ⟨fun pins s σ H Q I h => ?_⟩
  refine lam_val I TB hcode hm hu h.1 hdef (fun y hy e => absurd e (L y hy)) fun f H1 s' I1 eN T1 nf => ?_
  exact ⟨.ref f, _, I1, rfl, h.2 f H1 eN T1 nf⟩
end
end Lw
namespace Lf
open PySem
open Sem (wp)

theorem ga : Slot "function" "__getattribute__" "object.__getattribute__" := by
  refine .of (owner := "object") (n := "__getattribute__") ?_ (by decide +kernel) (by decide +kernel) (by decide +kernel) ?_ ?_
  · rw [typeLookup_type, builtinLookup_eq_fast]
    kernel_rfl
  · first
      | exact .inl (by decide +kernel)
      | exact .inr (by decide +kernel)
  · rw [isSubtype_type]
    kernel_rfl
theorem lkc : typeLookup (.type "function") "__class__" = pure (some (.builtin "object.__class__")) := by
  rw [typeLookup_type, builtinLookup_eq_fast]
  kernel_rfl
theorem sub_own : isSubtype (.type "function") (.type (".".intercalate ("object.__class__".cutAt '.').dropLast)) = pure true := by
  rw [F.owner_object_class]
  rw [isSubtype_type]
  kernel_rfl
section
variable {prog : Program} {w : World} {A : Around} {E : Value → Shared → Prop} {h : Heap} {g : Array GenState} {d : Drawn} {t : Nat} {os : OsState} {a : Addr} {o : Obj}
theorem fn_get {R : Result → Shared → Prop} (hx : h.get? a = some o) (hc : o.cls = .type "function")
    (hq : R (.ok (.ret (.type "function"))) ⟨h, g, d, t, os⟩) :
    codeAny (model prog w) A (.call (.builtin "getset_descriptor.__get__") ⟨[.builtin "object.__class__", .ref a, .type "function"], []⟩) R ⟨h, g, d, t, os⟩ := by
  have i1 : (⟨h, g, d, t, os⟩ : Shared).TypeIs (.ref a) "function" := ⟨o, hx, hc⟩
  have i2 : (⟨h, g, d, t, os⟩ : Shared).TypeIs (.builtin "object.__class__") "getset_descriptor" := F.typeOf_object_class
  have i3 := sub_own
  refine codeAny_call_builtin F.slot_gs_get.plain F.entry_gs_get ?_
  refine F.slot_gs_get.check _ _ _ _ _ _ _ _ i2 (F.args_gs_get _ _ _) ?_
  repeat (any_goals (first | assumption | wp_step))
  refine ⟨Code.quiet_builtin _ (by decide +kernel), ?_⟩
  refine codeAny_builtin F.entry_object_class ?_
  repeat (any_goals (first | assumption | wp_step))
theorem fn_ga {tk : Tok} {Q : Fin → Shared → Prop} (hx : h.get? a = some o) (hc : o.cls = .type "function")
    (hq : Q (.done (.ret (.type "function"))) ⟨h, g, d, t, os⟩) :
    wpAny (model prog w) A (Builtin.«object.__getattribute__» ⟨[.ref a, .str "__class__" tk], []⟩) Q E ⟨h, g, d, t, os⟩ := by
  have i1 : (⟨h, g, d, t, os⟩ : Shared).TypeIs (.ref a) "function" := ⟨o, hx, hc⟩
  have i2 : (⟨h, g, d, t, os⟩ : Shared).TypeIs (.builtin "object.__class__") "getset_descriptor" := F.typeOf_object_class
  have i3 := lkc
  have i4 := F.typeOf_object_class
  have i5 := F.slot_gs_get.lookup
  have i6 := F.slot_gs_set.lookup
  repeat (any_goals (first | assumption | wp_step))
  refine fn_get hx hc ?_
  repeat (any_goals (first | assumption | wp_step))
theorem fn_call {tk : Tok} {R : Result → Shared → Prop} (hx : h.get? a = some o) (hc : o.cls = .type "function")
    (hq : R (.ok (.ret (.type "function"))) ⟨h, g, d, t, os⟩) :
    codeAny (model prog w) A (.call (.builtin "object.__getattribute__") ⟨[.ref a, .str "__class__" tk], []⟩) R ⟨h, g, d, t, os⟩ := by
  refine codeAny_call_builtin ga.plain F.entry_object_getattribute ?_
  exact ga.check _ _ _ _ _ _ _ _ (show (⟨h, g, d, t, os⟩ : Shared).TypeIs (.ref a) "function" from ⟨o, hx, hc⟩) (F.args_object_getattribute_2 _ _) (fn_ga hx hc hq)
theorem fn_by {tk : Tok} {Q : Value → Shared → Prop} (hx : h.get? a = some o) (hc : o.cls = .type "function") (hq : Q (.type "function") ⟨h, g, d, t, os⟩) :
    wpAny (model prog w) A (getAttrBy (.ref a) (.str "__class__" tk) false) Q E ⟨h, g, d, t, os⟩ := by
  have i1 : (⟨h, g, d, t, os⟩ : Shared).TypeIs (.ref a) "function" := ⟨o, hx, hc⟩
  have i2 := ga.lookup
  have i3 := ga.bind (.ref a)
  repeat (any_goals (first | assumption | wp_step))
  refine fn_call hx hc ?_
  repeat (any_goals (first | assumption | wp_step))
theorem fn_attr {Q : Option Value → Shared → Prop} (hx : h.get? a = some o) (hc : o.cls = .type "function") (hq : Q (some (.type "function")) ⟨h, g, d, t + 1, os⟩) :
    wpAny (model prog w) A (getAttr? (.ref a) "__class__") Q E ⟨h, g, d, t, os⟩ := by
  unfold getAttr? getAttrBy?
  repeat (any_goals (first | assumption | with_reducible apply fn_by hx hc | wp_step))
end
end Lf
namespace Lw
open PySem PySem.Spec PyProof.Rows L2

open LamX
theorem kitx_fn {K : PySem.W.Frag} {a : Addr} : PySem.W.KitX K (.ref a) (.type "function") (PySem.W.KitAt a "function") := PySem.W.kitx_of PySem.W.kitAt_ty (fun {_ _ _ _ _ s} p k => by
  obtain ⟨h, g, d, t, os⟩ := s
  obtain ⟨o, h1, h2⟩ := p
  exact Lf.fn_attr h1 h2 k)
/-- a value's type: a def's, too -/
inductive TyZ (K : PySem.W.Frag) (H : Hp) : V → Value → Prop where
  | x {v : V} {t : Value} (h : TyX K H v t) : TyZ K H v t
  | fn {a : Addr} (e : H a = some (FnO a)) : TyZ K H (.ref a) (.type "function")
def rIsz (K : PySem.W.Frag) : List V → Hp → VK → Prop := fun xs H Q => ∃ (x c : V) (t u : Value) (b : Bool), xs = [x, c] ∧ ClsV c u ∧ TyZ K H x t ∧ PySem.W.kitOne K t u = some b ∧ Q (.bl b) H
theorem call_isz {X : Cx} : CallR X (.builtin "isinstance") (rIsz X.K) := by
  intro pins s σ H xs us Q I r h
  obtain ⟨x, c, t, u, b, rfl, k, ty, e, q⟩ := h
  obtain ⟨u1, u2, rfl, r1, r2⟩ := vals2 r
  have e2 := k.eq r2
  subst e2
  cases ty with
  | x ty =>
    obtain ⟨W, Z, p, hx⟩ := kit_of I r1 ty
    exact PySem.W.kia_one Z I.kIn p e hx fun tk => ⟨.bl b, H, I.tok tk, rfl, q⟩
  | @fn a ea =>
    have e3 : u1 = Value.ref a := r1
    subst e3
    obtain ⟨⟨o, h1, h2⟩, _⟩ := I.hok a _ ea
    exact PySem.W.kia_one kitx_fn I.kIn ⟨o, h1, h2⟩ e (fun z => by cases z) fun tk => ⟨.bl b, H, I.tok tk, rfl, q⟩
end Lw
namespace Lw
open PySem PySem.Spec PyProof.Rows L2

open LamX
abbrev sIsInt : Stmt := top 3
/-- what the top has told of the module's names -/
structure Txt (mg : Str → Option Value) : Prop extends Txt0 mg where
  n_bool : mg "bool" = none
  n_str : mg "str" = none
  n_isinstance : mg "isinstance" = none
  n_range : mg "range" = none
  n_repr : mg "repr" = none
  n_all : mg "all" = none
/-- any value that a caller may pass here -/
inductive Anyv (K : PySem.W.Frag) (H : Hp) : V → Prop where
  | int (i : Int) : Anyv K H (.int i)
  | non : Anyv K H .non
  | bl (b : Bool) : Anyv K H (.bl b)
  | str (z : Str) : Anyv K H (.str z)
  | obj {a : Addr} {t : Value} (h : TyZ K H (.ref a) t) (h1 : PySem.W.kitOne K t (.type "int") = some false) (h2 : PySem.W.kitOne K t (.type "bool") = some false) (h3 : PySem.W.kitOne K t (.type "str") = some false) : Anyv K H (.ref a)
def isI : V → Bool
  | .int _ => true
  | _ => false
def clsI : V → Bool
  | .int _ => true
  | .bl _ => true
  | _ => false
def clsB : V → Bool
  | .bl _ => true
  | _ => false
def isS : V → Bool
  | .str _ => true
  | _ => false
def inB (x : V) (lo hi : Int) : Bool := match x with
  | .int i => decide (lo ≤ i) && decide (i ≤ hi)
  | _ => false
def spIsInt (K : PySem.W.Frag) : Sp := fun vs H Q _ => ∃ x, vs = [x] ∧ Anyv K H x ∧ Q (.bl (isI x)) H
def spWithin (K : PySem.W.Frag) : Sp := fun vs H Q _ => ∃ x lo hi, vs = [x, .int lo, .int hi] ∧ Anyv K H x ∧ Q (.bl (inB x lo hi)) H
def spSize (K : PySem.W.Frag) : Sp := fun vs H Q _ => ∃ x, vs = [x] ∧ Anyv K H x ∧ Q (.bl (inB x 1 (10 ^ 30))) H
section
variable {P : Program} {w : World} {K : PySem.W.Frag} {mg : Str → Option Value} {base : Heap}
theorem isz_int {H : Hp} {x : V} {Q : V → Hp → Prop} (a : Anyv K H x) (q : Q (.bl (clsI x)) H) : rIsz K [x, .ty "int"] H Q := by
  cases a with
  | int i => exact ⟨_, _, .type "int", .type "int", true, rfl, .ty "int", .x (.base (.int i)), kit_ty (r := true) (by decide +kernel), q⟩
  | non => exact ⟨_, _, .type "NoneType", .type "int", false, rfl, .ty "int", .x (.base .non), kit_ty (r := false) (by decide +kernel), q⟩
  | bl b => exact ⟨_, _, .type "bool", .type "int", true, rfl, .ty "int", .x (.base (.bl b)), kit_ty (r := true) (by decide +kernel), q⟩
  | str z => exact ⟨_, _, .type "str", .type "int", false, rfl, .ty "int", .x (.base (.str z)), kit_ty (r := false) (by decide +kernel), q⟩
  | obj h h1 h2 h3 => exact ⟨_, _, _, .type "int", _, rfl, .ty "int", h, h1, q⟩
theorem isz_bool {H : Hp} {x : V} {Q : V → Hp → Prop} (a : Anyv K H x) (q : Q (.bl (clsB x)) H) : rIsz K [x, .ty "bool"] H Q := by
  cases a with
  | int i => exact ⟨_, _, .type "int", .type "bool", false, rfl, .ty "bool", .x (.base (.int i)), kit_ty (r := false) (by decide +kernel), q⟩
  | non => exact ⟨_, _, .type "NoneType", .type "bool", false, rfl, .ty "bool", .x (.base .non), kit_ty (r := false) (by decide +kernel), q⟩
  | bl b => exact ⟨_, _, .type "bool", .type "bool", true, rfl, .ty "bool", .x (.base (.bl b)), kit_ty (r := true) (by decide +kernel), q⟩
  | str z => exact ⟨_, _, .type "str", .type "bool", false, rfl, .ty "bool", .x (.base (.str z)), kit_ty (r := false) (by decide +kernel), q⟩
  | obj h h1 h2 h3 => exact ⟨_, _, _, .type "bool", _, rfl, .ty "bool", h, h2, q⟩
theorem isz_str {H : Hp} {x : V} {Q : V → Hp → Prop} (a : Anyv K H x) (q : Q (.bl (isS x)) H) : rIsz K [x, .ty "str"] H Q := by
  cases a with
  | int i => exact ⟨_, _, .type "int", .type "str", false, rfl, .ty "str", .x (.base (.int i)), kit_ty (r := false) (by decide +kernel), q⟩
  | non => exact ⟨_, _, .type "NoneType", .type "str", false, rfl, .ty "str", .x (.base .non), kit_ty (r := false) (by decide +kernel), q⟩
  | bl b => exact ⟨_, _, .type "bool", .type "str", false, rfl, .ty "str", .x (.base (.bl b)), kit_ty (r := false) (by decide +kernel), q⟩
  | str z => exact ⟨_, _, .type "str", .type "str", true, rfl, .ty "str", .x (.base (.str z)), kit_ty (r := true) (by decide +kernel), q⟩
  | obj h h1 h2 h3 => exact ⟨_, _, _, .type "str", _, rfl, .ty "str", h, h3, q⟩
theorem scIsInt : FnScope ["value"] ["value"] (C8.fnScope sIsInt) := C8.fnScope_by (by decide +kernel)
theorem fn_isint {f : Addr} {fd : FuncData} (F : C8.Def K mg "is_integer" sIsInt f fd) (T : Txt mg) : FnOk P w K mg base C8.CX0 1 f fd ["value"] (spIsInt K) := by
  refine C8.fn0 F.fn scIsInt (fun vs H Q E h => ?_) (fun cdv A outer st H vs Q E hr h => ?_)
  · obtain ⟨x, rfl, _⟩ := h
    rfl
  · obtain ⟨x, rfl, a, k⟩ := h
    refine ⟨_, (pss_one (ps_ret (pe_and (pe_callB call_isz (by rfl) T.n_isinstance (by decide +kernel) (pa_cons (pv 0) (pa_cons (pe_bltn (v := .ty "int") (by rfl) T.n_int (by decide +kernel) rfl) pa_nil))) (pe_one (pe_not (pe_callB call_isz (by rfl) T.n_isinstance (by decide +kernel) (pa_cons (pv 0) (pa_cons (pe_bltn (v := .ty "bool") (by rfl) T.n_bool (by decide +kernel) rfl) pa_nil)))))))), ?_⟩
    refine ⟨_, rfl, ?_⟩
    dsimp only [tCons, tC, tNil]
    refine isz_int a ⟨_, rfl, ?_⟩
    cases a with
    | int i =>
      refine iteT ⟨_, rfl, ?_⟩
      dsimp only [tCons, tC, tNil]
      exact isz_bool (.int i) ⟨_, rfl, k⟩
    | bl b =>
      refine iteT ⟨_, rfl, ?_⟩
      dsimp only [tCons, tC, tNil]
      exact isz_bool (.bl b) ⟨_, rfl, k⟩
    | non => exact iteF k
    | str z => exact iteF k
    | obj h h1 h2 h3 => exact iteF k
theorem cal_isint {f : Addr} {fd : FuncData} (F : C8.Def K mg "is_integer" sIsInt f fd) (b : Binds K fd ["value"] []) (T : Txt mg) : C8.Cal P w K mg base 1 "is_integer" (spIsInt K) [] :=
  ⟨f, fd, _, [], fn_isint F T, F.mgf, F.kp, b, .nil⟩
end
end Lw
namespace Lw
open PySem PySem.Spec PyProof.Rows L2

abbrev sCom : Stmt := top 23
abbrev sLea : Stmt := top 24
abbrev sPai : Stmt := top 25
/-! ### the least form of a pair -/
def sg (b : Int) : Int := if 0 < b then 1 else -1
def lov (t b : Int) : Int := sg b * t / ((Nat.gcd t.natAbs b.natAbs : Nat) : Int)
def lun (t b : Int) : Int := sg b * b / ((Nat.gcd t.natAbs b.natAbs : Nat) : Int)
def spCom : Sp := fun vs H Q _ => ∃ a b : Nat, vs = [.int (a : Int), .int (b : Int)] ∧ Q (.int ((Nat.gcd a b : Nat) : Int)) H
/-- an integer that is not too long to be reckoned with -/
def Small (i : Int) : Prop := i.natAbs < 2 ^ 4000
def spLea : Sp := fun vs H Q _ => ∃ t b : Int, vs = [.int t, .int b] ∧ b ≠ 0 ∧ Small t ∧ Small b ∧ ∀ l, H l = none → Q (.ref l) (upd H l (.tup [.int (lov t b), .int (lun t b)]))
def spPai : Sp := fun vs H Q _ => ∃ (p pl : Addr) (n : Nat), vs = [.ref p] ∧ Pen H p pl n ∧ n ≤ 900000 ∧ ∀ (t b : Int) (l : Addr) (H' : Hp), t.natAbs ≤ 10 ^ 32 → b.natAbs ≤ 10 ^ 32 → b ≠ 0 → H' l = some (.tup [.int t, .int b]) → H l = none → Pen H' p pl (n + 4) → Kp p H H' → Q (.ref l) H'
theorem small_log {i : Int} (h : Small i) : i.natAbs.log2 < 4000 := by
  by_cases z : i.natAbs = 0
  · rw [z]; decide
  · exact (Nat.log2_lt z).mpr h
theorem join_any {t : TS} {D : Ends} {σ : L2.St} {H : Hp} (Pj : L2.St → Hp → Prop) (hr : ∀ σ' H', Pj σ' H' → D.nx σ' H') (h : (∀ σ' H', Pj σ' H' → D.nx σ' H') → t D σ H) : t D σ H := h hr
theorem Kp.free {H H' : Hp} {p q : Addr} (k : Kp p H H') (ne : q ≠ p) (hq : H' q = none) : H q = none := by
  cases e : H q with
  | none => rfl
  | some o => rw [k q o ne e] at hq; cases hq
section
variable {P : Program} {w : World} {K : PySem.W.Frag} {mg : Str → Option Value} {base : Heap}
theorem scCom : FnScope ["_law_one_so", "_law_two_so"] ["_law_one_so", "_law_two_so"] (C8.fnScope sCom) := C8.fnScope_by (by decide +kernel)
theorem cal_com {f : Addr} {fd : FuncData} (F : C8.Def K mg "_law_common" sCom f fd) (b : Binds K fd ["_law_one_so", "_law_two_so"] []) (T : Txt0 mg) : C8.Cal P w K mg base 1 "_law_common" spCom [] := by
  refine C8.cal0 F b .nil scCom (fun vs H Q E h => ?_) (fun cdv A outer st H vs Q E hr h => ?_)
  · obtain ⟨x, y, rfl, _⟩ := h
    rfl
  · obtain ⟨x, y, rfl, k⟩ := h
    refine ⟨_, (pss_cons (ps_while PassesOwn.never (pt_cmpR op_ne (pv 1) pe_int (nomark _)) (pss_one (ps_par (i := 0) (j := 1) rfl scCom.nd rfl rfl (by decide) rfl rfl (pa_cons (pv 1) (pa_cons (pe_op op_modN (pe_callTy call_int1 (by rfl) T.n_int (by decide +kernel) (pa_cons (pv 0) pa_nil)) (pv 1)) pa_nil)) (by rfl))))
  (pss_one (ps_ret (pv 0)))), ?_⟩
    refine ⟨fun m σ' H' => H' = H ∧ ∃ u v : Nat, σ' = [some (V.int (u : Int)), some (V.int (v : Int))] ∧ Nat.gcd u v = Nat.gcd x y ∧ m = v, ⟨y, rfl, x, y, rfl, rfl, rfl⟩, ?_⟩
    rintro m σ' H' ⟨rfl, u, v, rfl, hg, rfl⟩
    refine ⟨_, rfl, rfl, _, rfl, ite2 (fun c => ?_) (fun c => ?_)⟩
    · have v0 : m ≠ 0 := fun e => by subst e; exact absurd c (by decide)
      have em : Int.fmod (u : Int) (m : Int) = ((u % m : Nat) : Int) := by
        rw [Int.fmod_eq_emod_of_nonneg _ (Int.natCast_nonneg m)]
        exact (Int.natCast_emod u m).symm
      have eg : Nat.gcd m (u % m) = Nat.gcd u m := by rw [Nat.gcd_comm m (u % m), ← Nat.gcd_rec, Nat.gcd_comm]
      refine ⟨fun σ' H'' => H'' = H' ∧ σ' = [some (V.int (m : Int)), some (V.int ((u % m : Nat) : Int))], fun σ' H'' e => ⟨u % m, Nat.mod_lt _ (Nat.pos_of_ne_zero v0), e.1, m, u % m, e.2, eg.trans hg, rfl⟩, ?_⟩
      refine ⟨_, rfl, _, rfl, .inl ⟨_, rfl, _, rfl, _, _, rfl, rfl, (by omega), _, _, rfl, rfl, ?_⟩⟩
      exact congrArg (fun i : Int => [some (V.int (m : Int)), some (V.int i)]) em
    · have v0 : m = 0 := by
        cases m with
        | zero => rfl
        | succ k => exact absurd (by rw [decide_eq_false (fun e => by have := V.int.inj e; omega)]; rfl) c
      subst v0
      refine ⟨_, rfl, ?_⟩
      rw [Nat.gcd_zero_right] at hg
      rw [hg]
      exact k
theorem scLea : FnScope ["_law_top", "_law_bottom", "_law_divisor", "_law_sign"] ["_law_top", "_law_bottom"] (C8.fnScope sLea) := C8.fnScope_by (by decide +kernel)
theorem cal_lea {f : Addr} {fd : FuncData} (F : C8.Def K mg "_law_least" sLea f fd) (b : Binds K fd ["_law_top", "_law_bottom"] []) (T : Txt0 mg) (DC : C8.Cal P w K mg base 1 "_law_common" spCom []) : C8.Cal P w K mg base 2 "_law_least" spLea [] := by
  refine C8.cal0 F b .nil scLea (fun vs H Q E h => ?_) (fun cdv A outer st H vs Q E hr h => ?_)
  · obtain ⟨x, y, rfl, _⟩ := h
    rfl
  · obtain ⟨t, b, rfl, b0, st1, sb, k⟩ := h
    refine ⟨_, (pss_cons (ps_set (i := 2) scLea.nd rfl (Or.inl rfl) (C8.pe_c DC hr (by decide) (by rfl) (pa_cons (pe_callB call_abs (by rfl) T.n_abs (by decide +kernel) (pa_cons (pv 0) pa_nil)) (pa_cons (pe_callB call_abs (by rfl) T.n_abs (by decide +kernel) (pa_cons (pv 1) pa_nil)) pa_nil))))
  (pss_cons (ps_set (i := 3) scLea.nd rfl (Or.inl rfl) (pe_ifExp (pt_cmpR op_gt (pv 1) pe_int (nomark _)) pe_int (pe_un un_neg pe_int)))
  (pss_one (ps_ret (pe_tup (pa_cons (pe_op op_fdivW (pe_op op_mulW (pv 3) (pv 0)) (pv 2)) (pa_cons (pe_op op_fdivW (pe_op op_mulW (pv 3) (pv 1)) (pv 2)) pa_nil))))))), ?_⟩
    have ab : ∀ i : Int, (if i < 0 then -i else i) = (i.natAbs : Int) := fun i => by split <;> omega
    have g0 : 0 < Nat.gcd t.natAbs b.natAbs := Nat.gcd_pos_of_pos_right _ (by omega)
    have g1 : Nat.gcd t.natAbs b.natAbs < 2 ^ 4000 := Nat.lt_of_le_of_lt (Nat.gcd_le_right _ (by omega)) sb
    have s1 : (sg b).natAbs ≤ 1 := by unfold sg; split <;> decide
    have sl : (sg b).natAbs.log2 < 4000 := small_log (Nat.lt_of_le_of_lt s1 (by decide))
    refine ⟨_, rfl, t, rfl, _, rfl, b, rfl, t.natAbs, b.natAbs, by rw [ab, ab]; rfl, ?_⟩
    dsimp only [gName, tSeq]
    refine join_any (fun σ' H' => σ' = [some (V.int t), some (V.int b), some (V.int ((Nat.gcd t.natAbs b.natAbs : Nat) : Int)), some (V.int (sg b))] ∧ H' = H) ?r (fun go => ?_)
    case r =>
      rintro σ' H' ⟨rfl, rfl⟩
      refine ⟨_, rfl, _, rfl, _, _, rfl, rfl, ?_, _, rfl, _, _, rfl, rfl, ⟨by omega, ?_⟩, _, rfl, _, rfl, _, _, rfl, rfl, ?_, _, rfl, _, _, rfl, rfl, ⟨by omega, ?_⟩, (by show 2 ≤ sizeLine; decide), k⟩
      · have := small_log st1
        show (sg b).natAbs.log2 + t.natAbs.log2 < 1000000
        omega
      · rw [Int.natAbs_natCast]
        exact Nat.lt_trans (small_log (i := ((Nat.gcd t.natAbs b.natAbs : Nat) : Int)) (by unfold Small; rw [Int.natAbs_natCast]; exact g1)) (by decide)
      · have := small_log sb
        show (sg b).natAbs.log2 + b.natAbs.log2 < 1000000
        omega
      · rw [Int.natAbs_natCast]
        exact Nat.lt_trans (small_log (i := ((Nat.gcd t.natAbs b.natAbs : Nat) : Int)) (by unfold Small; rw [Int.natAbs_natCast]; exact g1)) (by decide)
    refine ⟨_, rfl, _, _, rfl, rfl, _, rfl, ite2 (fun c => ?_) (fun c => ?_)⟩
    · exact go _ _ ⟨by rw [show sg b = 1 from if_pos (of_decide_eq_true c)]; rfl, rfl⟩
    · exact ⟨_, rfl, go _ _ ⟨by rw [show sg b = -1 from if_neg (fun z => c (decide_eq_true z))]; rfl, rfl⟩⟩
theorem scPai : FnScope ["_law_pen_here", "_law_top"] ["_law_pen_here"] (C8.fnScope sPai) := C8.fnScope_by (by decide +kernel)
theorem cal_pai {f : Addr} {fd : FuncData} (F : C8.Def K mg "_law_pair" sPai f fd) (b : Binds K fd ["_law_pen_here"] []) (T : Txt0 mg) (D1 : C8.Cal P w K mg base 1 "_law_draw" spDraw []) (D2 : C8.Cal P w K mg base 2 "_law_pick" (spPick K) []) : C8.Cal P w K mg base 3 "_law_pair" spPai [] := by
  refine C8.cal0 F b .nil scPai (fun vs H Q E h => ?_) (fun cdv A outer st H vs Q E hr h => ?_)
  · obtain ⟨p, pl, n, rfl, _⟩ := h
    rfl
  · obtain ⟨p, pl, n, rfl, hp, hn, k⟩ := h
    refine ⟨_, (pss_cons (ps_set (i := 1) scPai.nd rfl (Or.inl rfl) (C8.pe_c D2 hr (by decide) (by rfl) (pa_cons (pv 0) (pa_cons (pe_lst (pa_cons pe_int (pa_cons pe_int (pa_cons (pe_un un_neg pe_int) (pa_cons pe_int (pa_cons pe_int (pa_cons (pe_un un_neg pe_int) (pa_cons (pe_op op_pow pe_int pe_int) (pa_cons (pe_un un_neg (pe_op op_pow pe_int pe_int)) (pa_cons (pe_op op_add (pe_op op_pow pe_int pe_int) pe_int) (pa_cons (pe_op op_sub (C8.pe_c D1 hr (by decide) (by rfl) (pa_cons (pv 0) (pa_cons pe_int pa_nil))) pe_int) pa_nil))))))))))) pa_nil))))
  (pss_one (ps_ret (pe_tup (pa_cons (pv 1) (pa_cons (C8.pe_c D2 hr (by decide) (by rfl) (pa_cons (pv 0) (pa_cons (pe_lst (pa_cons pe_int (pa_cons pe_int (pa_cons (pe_un un_neg pe_int) (pa_cons pe_int (pa_cons pe_int (pa_cons (pe_un un_neg pe_int) (pa_cons pe_int (pa_cons pe_int (pa_cons (pe_op op_pow pe_int pe_int) (pa_cons (pe_un un_neg (pe_op op_pow pe_int pe_int)) (pa_cons (pe_op op_add pe_int (C8.pe_c D1 hr (by decide) (by rfl) (pa_cons (pv 0) (pa_cons pe_int pa_nil)))) pa_nil)))))))))))) pa_nil))) pa_nil)))))), ?_⟩
    refine ⟨_, rfl, _, rfl, _, rfl, _, _, rfl, rfl, ⟨by decide, by decide, by decide⟩, _, _, rfl, rfl, ⟨by decide, by decide, by decide⟩, _, rfl, _, _, rfl, rfl, ⟨by decide, by decide, by decide⟩, _, _, rfl, rfl, _, rfl, p, pl, n, 200, rfl, by decide, by decide, hp, by omega, fun r H1 r0 r1 hp1 k1 => ?_⟩
    refine ⟨_, _, rfl, rfl, (by show 10 ≤ sizeLine; decide), fun l fl => ⟨p, pl, l, n + 1, _, rfl, hp1.keep (same_new fl), by omega, SqL.of upd_same, hp1.ne_new fl, (by show 0 < 10; decide), (by show 10 < 1000000; decide), fun j v H2 hj hp2 k2 => ?_⟩⟩
    obtain ⟨t, rfl, ht⟩ : ∃ t : Int, v = V.int t ∧ t.natAbs ≤ 10 ^ 32 := by
      have hv := List.mem_of_getElem? hj
      simp only [List.mem_cons, List.not_mem_nil, or_false] at hv
      rcases hv with rfl | rfl | rfl | rfl | rfl | rfl | rfl | rfl | rfl | rfl
      all_goals first | exact ⟨_, rfl, by decide⟩ | exact ⟨_, rfl, by omega⟩
    have f2 : Kp p H H2 := fun b o hb e => k2 b o hb (same_new fl _ _ (k1 b o hb e))
    refine ⟨_, rfl, _, rfl, _, rfl, _, rfl, _, _, rfl, rfl, ⟨by decide, by decide, by decide⟩, _, _, rfl, rfl, ⟨by decide, by decide, by decide⟩, _, rfl, _, rfl, p, pl, n + 2, 40, rfl, by decide, by decide, hp2, by omega, fun r2 H3 r20 r21 hp3 k3 => ?_⟩
    refine ⟨_, _, rfl, rfl, (by show 11 ≤ sizeLine; decide), fun l2 fl2 => ⟨p, pl, l2, n + 3, _, rfl, hp3.keep (same_new fl2), by omega, SqL.of upd_same, hp3.ne_new fl2, (by show 0 < 11; decide), (by show 11 < 1000000; decide), fun j2 v2 H4 hj2 hp4 k4 => ?_⟩⟩
    obtain ⟨b, rfl, hb, b0⟩ : ∃ b : Int, v2 = V.int b ∧ b.natAbs ≤ 10 ^ 32 ∧ b ≠ 0 := by
      have hv := List.mem_of_getElem? hj2
      simp only [List.mem_cons, List.not_mem_nil, or_false] at hv
      rcases hv with rfl | rfl | rfl | rfl | rfl | rfl | rfl | rfl | rfl | rfl | rfl
      all_goals first | exact ⟨_, rfl, by decide, by decide⟩ | exact ⟨_, rfl, by omega, by omega⟩
    have f4 : Kp p H H4 := fun b o hb e => k4 b o hb (same_new fl2 _ _ (k3 b o hb (f2 b o hb e)))
    refine ⟨(by show 2 ≤ sizeLine; decide), fun q fq => ?_⟩
    exact k t b q _ ht hb b0 upd_same (Kp.free f4 (hp4.ne_new fq) fq) (hp4.keep (same_new fq)) (fun c o hc e => same_new fq _ _ (f4 c o hc e))
end
end Lw
namespace Lw
open PySem PySem.Spec PyProof.Rows L2

/-! ### own operators: + - * // % and the sign, of instances of one class and of a built-in value beside -/
section
variable {X : Cx} {C : Addr} {k j : Nat} {sp : Sp} {pins : List (Addr × Obj)} {σ : L2.St} {H : Hp} {s : Shared}
theorem ins_at {a dx : Addr} {fs : List (Str × V)} (I : Inv X pins σ H s) (h : H a = some (.ins C dx fs)) : ∃ ox od, PySem.W.InstAt s.heap a ox C (some od) := by
  obtain ⟨mA, O, _⟩ := ins_get I.hok h
  obtain ⟨od, J, _⟩ := O.look
  exact ⟨_, od, J⟩
/-- a method of the class, called with an instance and another value -/
theorem run_two {m : Str} {us : List Value} {vs : List V} {Q : VK} (M : C8.Met X.prog X.w X.K X.mg X.base k C m sp []) (hr : Room j X.A) (hk : k ≤ j) (I : Inv X pins σ H s) (r : Vals vs us) (q : sp vs H Q C8.E0) :
    ∃ g : Addr, Meth X.K C m g ∧ wpAny (model X.prog X.w) X.A (call (.ref g) us) (PySem.W.CmpBack (EP X pins σ Q)) X.xe s := by
  obtain ⟨g, fd, ps, ds, hC, hm, F, b, d⟩ := M.ex
  have q' : sp (vs ++ []) H Q C8.E0 := by rw [List.append_nil]; exact q
  refine ⟨g, hm, wpAny_mono (run_fn F (hr.mono hk) b d C8.pass0 I r q') (fun w s' z => ?_) fun _ _ x => x⟩
  obtain ⟨z', H', I', rz, qz⟩ := z
  exact SlX.cmpback rz ⟨z', H', I', rz, qz⟩
def rSame (C : Addr) (sp : Sp) : R2 := fun x y H Q => ∃ a dx fs b dy gs, x = .ref a ∧ y = .ref b ∧ H a = some (.ins C dx fs) ∧ H b = some (.ins C dy gs) ∧ sp [x, y] H Q C8.E0
theorem op_same {op : Operator} (M : C8.Met X.prog X.w X.K X.mg X.base k C (PySem.dunder op.info.2) sp []) (hc : PySem.W.selfFirst X.K C = true) (hr : Room j X.A) (hk : k ≤ j) : OpR X (binaryOp op) (rSame C sp) := by
  intro pins s σ H x y v u Q I rx ry h
  obtain ⟨a, dx, fs, b, dy, gs, rfl, rfl, ha, hb, q⟩ := h
  cases (show v = Value.ref a from rx)
  cases (show u = Value.ref b from ry)
  obtain ⟨_, _, J⟩ := ins_at I ha
  obtain ⟨_, _, J'⟩ := ins_at I hb
  obtain ⟨g, hm, w⟩ := run_two (us := [.ref a, .ref b]) (vs := [.ref a, .ref b]) M hr hk I (.cons rfl (.cons rfl .nil)) q
  obtain ⟨m, hF⟩ := I.fr
  exact PySem.W.binop_K hF I.ok.mod.kin J J'.type hc hm.at_ hm.fn w
/-- what the operator asks of the class and of a built-in type beside it -/
structure Beside (K : PySem.W.Frag) (C : Addr) (op : Operator) (T : String) : Prop where
  first : PySem.W.selfFirst K C = true
  back : ∃ rc, PySem.W.findIn K (.ref C) (dunderR op.info.2) = some rc ∧ (rc = none ∨ ∃ g : Addr, rc = some (.ref g))
  ahead : ∃ fo, PySem.W.findIn K (.type T) (PySem.dunder op.info.2) = some fo
  behind : ∃ ro, PySem.W.findIn K (.type T) (dunderR op.info.2) = some ro
  sub : PySem.W.subIn K (.type T) (.ref C) = some false
/-- a built-in value's kind, as typeOf tells it -/
inductive Kind : V → String → Prop where
  | int (i : Int) : Kind (.int i) "int"
  | bl (b : Bool) : Kind (.bl b) "bool"
  | non : Kind .non "NoneType"
  | str (z : Str) : Kind (.str z) "str"
theorem Kind.type {y : V} {T : String} {u : Value} (h : Kind y T) (r : RelV y u) : typeOf u = pure (.type T) := by
  cases h with
  | int i => obtain ⟨t, e⟩ := (show ∃ t, u = Value.int i t from r); subst e; rfl
  | bl b => cases (show u = Value.bool b from r); rfl
  | non => cases (show u = Value.none from r); rfl
  | str z => obtain ⟨t, e⟩ := (show ∃ t, u = Value.str z t from r); subst e; rfl
def rBeside (K : PySem.W.Frag) (C : Addr) (op : Operator) (sp : Sp) : R2 := fun x y H Q => ∃ a dx fs T, x = .ref a ∧ H a = some (.ins C dx fs) ∧ Kind y T ∧ Beside K C op T ∧ sp [x, y] H Q C8.E0
theorem op_beside {op : Operator} (M : C8.Met X.prog X.w X.K X.mg X.base k C (PySem.dunder op.info.2) sp []) (hr : Room j X.A) (hk : k ≤ j) : OpR X (binaryOp op) (rBeside X.K C op sp) := by
  intro pins s σ H x y v u Q I rx ry h
  obtain ⟨a, dx, fs, T, rfl, ha, hT, hB, q⟩ := h
  cases (show v = Value.ref a from rx)
  obtain ⟨_, _, J⟩ := ins_at I ha
  obtain ⟨g, hm, w⟩ := run_two (us := [.ref a, u]) (vs := [.ref a, y]) M hr hk I (.cons rfl (.cons ry .nil)) q
  obtain ⟨m, hF⟩ := I.fr
  obtain ⟨rc, r1, r2⟩ := hB.back
  obtain ⟨fo, f1⟩ := hB.ahead
  obtain ⟨ro, o1⟩ := hB.behind
  exact PySem.W.ksp_binT hF I.ok.mod.kin J (hT.type ry) hB.first hm.at_ hm.fn r1 r2 f1 o1 hB.sub w
def rSign (C : Addr) (sp : Sp) : V → Hp → VK → Prop := fun x H Q => ∃ a dx fs, x = .ref a ∧ H a = some (.ins C dx fs) ∧ sp [x] H Q C8.E0
theorem un_sign (M : C8.Met X.prog X.w X.K X.mg X.base k C "__neg__" sp []) (hr : Room j X.A) (hk : k ≤ j) : UnR X (unaryOp .USub) (rSign C sp) := by
  intro pins s σ H x v Q I rx h
  obtain ⟨a, dx, fs, rfl, ha, q⟩ := h
  cases (show v = Value.ref a from rx)
  obtain ⟨_, _, J⟩ := ins_at I ha
  obtain ⟨g, fd, ps, ds, hC, hm, F, b, d⟩ := M.ex
  obtain ⟨m, hF⟩ := I.fr
  have q' : sp ([V.ref a] ++ []) H Q C8.E0 := q
  exact PySem.W.ksp_neg hF I.ok.mod.kin J hm.at_ hm.fn (run_fn (us := [.ref a]) (vs := [.ref a]) F (hr.mono hk) b d C8.pass0 I (.cons rfl .nil) q')
end
end Lw
namespace Lw.Ow
open PySem PySem.Spec PyProof.Rows PySem.W PySem.Calls

/-! ### own operators, the instance on the right -/
section
variable {prog : Program} {w : World} {A : Around} {E : Value → Shared → Prop} {s : Shared} {K : Frag} {x C f g : Addr} {ox : Obj} {od : Option Obj}
theorem right_bare {op : Operator} {a : Value} {T : String} {Q : Value → Shared → Prop} (X : K.In s.heap) (I : InstAt s.heap x ox C od) (ht : Looks (model prog w) s.heap (typeOf a) (.type T)) (hc : selfFirst K C = true) (hs : findIn K (.ref C) (PySem.dunder op.info.2) = some (some (.ref f))) (hr : findIn K (.ref C) (dunderR op.info.2) = some (some (.ref g)))
    (hg : isFn K (.ref g) = true) (hL : fillsNumberSlot (.type T) op.info.2 = pure false) (h : wpAny (model prog w) A (call (.ref g) [.ref x, a]) (PySem.W.CmpBack Q) E s) : wpAny (model prog w) A (binaryOp op a (.ref x)) Q E s := by
  obtain ⟨cd, rest, hcd, hm⟩ := ksp_first hc
  rcases hi : op.info with ⟨sym, nm⟩
  rw [hi] at hs hr hL
  dsimp only at hs hr hL
  have one := ksp_try X I hr hg h
  obtain ⟨hh, gg, d, tt, os⟩ := s
  have L2 : Looks (model prog w) hh (typeOf (.ref x)) (.ref C) := I.type
  have L3 : Looks (model prog w) hh (fillsNumberSlot (.ref C) nm) true := fills_K X hcd hm hs
  have hne : (Value.type T == Value.ref C) = false := Bool.eq_false_iff.mpr fun q => by cases beq_iff_eq.mp q
  simp only [binaryOp, hi]
  refine wpAny_holding (wpAny_bind ?_)
  unfold binaryOp1
  refine wpAny_bind (ht.at (wpAny_bind (L2.at (wpAny_bind (wpAny_of_eq hL ?_)))))
  simp only [hne, Bool.false_eq_true, if_false]
  refine wpAny_bind (L3.at ?_)
  simp only [Bool.false_and, Bool.false_eq_true, if_false, pure_bind, Bool.not_false, Bool.and_true, if_true]
  refine wpAny_bind (wpAny_mono one (fun r s' hr' => ?_) fun _ _ e => e)
  obtain ⟨v, rfl, hq⟩ := hr'
  exact wpAny_bind (wpAny_rule (wpAny_pure (wpAny_pure hq)))
theorem right_number {op : Operator} {a : Value} {T id : String} {Q : Value → Shared → Prop} (X : K.In s.heap) (I : InstAt s.heap x ox C od) (ht : typeOf a = pure (.type T)) (hT : s.TypeIs a T) (hc : selfFirst K C = true) (hs : findIn K (.ref C) (PySem.dunder op.info.2) = some (some (.ref f))) (hr : findIn K (.ref C) (dunderR op.info.2) = some (some (.ref g)))
    (hg : isFn K (.ref g) = true) (hL : fillsNumberSlot (.type T) op.info.2 = pure true) (hsub : subIn K (.ref C) (.type T) = some false) (sl : Slot T (PySem.dunder op.info.2) id) (hd : ∀ Q' : Value → Shared → Prop, Q' .notImplemented s → wpAny (model prog w) A (call (.builtin id) [a, .ref x]) Q' E s)
    (h : wpAny (model prog w) A (call (.ref g) [.ref x, a]) (PySem.W.CmpBack Q) E s) : wpAny (model prog w) A (binaryOp op a (.ref x)) Q E s := by
  obtain ⟨cd, rest, hcd, hm⟩ := ksp_first hc
  rcases hi : op.info with ⟨sym, nm⟩
  rw [hi] at hs hr hL sl
  dsimp only at hs hr hL sl
  have one := ksp_try X I hr hg h
  have two := wpAny_tryMethod_declines (Q := fun r s' => r = none ∧ s' = s) hT sl (hd _ ⟨rfl, rfl, rfl⟩)
  obtain ⟨hh, gg, d, tt, os⟩ := s
  have L2 : Looks (model prog w) hh (typeOf (.ref x)) (.ref C) := I.type
  have L3 : Looks (model prog w) hh (fillsNumberSlot (.ref C) nm) true := fills_K X hcd hm hs
  have L4 : Looks (model prog w) hh (isSubtype (.ref C) (.type T)) false := looks_subIn X hsub
  have hpy : numberSlotInPython (.type T) nm = pure false := rfl
  have hne : (Value.type T == Value.ref C) = false := Bool.eq_false_iff.mpr fun q => by cases beq_iff_eq.mp q
  simp only [binaryOp, hi]
  refine wpAny_holding (wpAny_bind ?_)
  unfold binaryOp1
  refine wpAny_bind (wpAny_of_eq ht (wpAny_bind (L2.at (wpAny_bind (wpAny_of_eq hL ?_)))))
  simp only [hne, Bool.false_eq_true, if_false]
  refine wpAny_bind (L3.at ?_)
  simp only [Bool.and_self, if_true]
  refine wpAny_bind (L4.at ?_)
  simp only [Bool.false_eq_true, if_false, pure_bind, Bool.not_false, Bool.and_self, if_true, hpy]
  refine wpAny_bind (wpAny_mono two (fun r s' z => ?_) fun _ _ e => e)
  obtain ⟨rfl, rfl⟩ := z
  refine wpAny_bind (wpAny_mono one (fun r s' hr' => ?_) fun _ _ e => e)
  obtain ⟨v, rfl, hq⟩ := hr'
  exact wpAny_bind (wpAny_rule (wpAny_pure (wpAny_pure hq)))
end
end Lw.Ow
namespace Lw.Ow
open PySem PySem.Spec PyProof.Rows

section
variable {prog : Program} {w : World} {A : Around} {E : Value → Shared → Prop} {s : Shared}
theorem binary_no {nm : String} {f : Int → Int → Sem Fin} {i : Int} {t : Tok} {x : Addr} {o : Obj} {Q : Value → Shared → Prop} (ho : s.heap.get? x = some o) (hp : o.data = .plain) (h : Q .notImplemented s) :
    wpAny (model prog w) A (Builtin.Int.intBinary nm f false ⟨[.int i t, .ref x], []⟩) (fun fin s' => ∃ v, fin = .done (.ret v) ∧ Q v s') E s := by
  unfold Builtin.Int.intBinary
  refine wpAny_bind (wpAny_of_eq (a := (Value.int i t, [Value.ref x])) rfl ?_)
  refine wpAny_bind (wpAny_of_eq (a := i) rfl ?_)
  refine wpAny_bind ?_
  show wpAny _ _ (load x >>= fun ob => match ob.data with | .prim (.int i _) => pure (some i) | _ => pure none) _ _ _
  refine wpAny_bind (wpAny_load ho ?_)
  rw [hp]
  exact wpAny_pure (wpAny_bind (wpAny_rule (wpAny_pure ⟨_, rfl, h⟩)))
theorem no_add {i : Int} {t : Tok} {x : Addr} {o : Obj} {Q : Value → Shared → Prop} (ho : s.heap.get? x = some o) (hp : o.data = .plain) (h : Q .notImplemented s) : wpAny (model prog w) A (call (.builtin "int.__add__") [.int i t, .ref x]) Q E s :=
  wpAny_call_entry F.slot_int_add (typeIs_int s i t) F.entry_int_add (binary_no ho hp h) (F.args_int_add_2 _ _)
theorem no_sub {i : Int} {t : Tok} {x : Addr} {o : Obj} {Q : Value → Shared → Prop} (ho : s.heap.get? x = some o) (hp : o.data = .plain) (h : Q .notImplemented s) : wpAny (model prog w) A (call (.builtin "int.__sub__") [.int i t, .ref x]) Q E s :=
  wpAny_call_entry F.slot_int_sub (typeIs_int s i t) F.entry_int_sub (binary_no ho hp h) (F.args_int_sub_2 _ _)
theorem no_mul {i : Int} {t : Tok} {x : Addr} {o : Obj} {Q : Value → Shared → Prop} (ho : s.heap.get? x = some o) (hp : o.data = .plain) (h : Q .notImplemented s) : wpAny (model prog w) A (call (.builtin "int.__mul__") [.int i t, .ref x]) Q E s :=
  wpAny_call_entry F.slot_int_mul (typeIs_int s i t) F.entry_int_mul (binary_no ho hp h) (F.args_int_mul_2 _ _)
theorem no_mod {i : Int} {t : Tok} {x : Addr} {o : Obj} {Q : Value → Shared → Prop} (ho : s.heap.get? x = some o) (hp : o.data = .plain) (h : Q .notImplemented s) : wpAny (model prog w) A (call (.builtin "int.__mod__") [.int i t, .ref x]) Q E s :=
  wpAny_call_entry F.slot_int_mod (typeIs_int s i t) F.entry_int_mod (binary_no ho hp h) (F.args_int_mod_2 _ _)
theorem no_floordiv {i : Int} {t : Tok} {x : Addr} {o : Obj} {Q : Value → Shared → Prop} (ho : s.heap.get? x = some o) (hp : o.data = .plain) (h : Q .notImplemented s) : wpAny (model prog w) A (call (.builtin "int.__floordiv__") [.int i t, .ref x]) Q E s := by
  refine wpAny_call_entry F.slot_int_floordiv (typeIs_int s i t) F.entry_int_floordiv ?_ (F.args_int_floordiv_2 _ _)
  unfold Builtin.«int.__floordiv__»
  refine wpAny_bind ?_
  unfold Builtin.exactOperandsForPylong
  rw [if_pos (by rfl)]
  dsimp only
  refine wpAny_bind (wpAny_of_eq (a := some i) rfl ?_)
  refine wpAny_bind ?_
  show wpAny _ _ (load x >>= fun ob => match ob.data with | .prim (.int i _) => pure (some i) | _ => pure none) _ _ _
  refine wpAny_bind (wpAny_load ho ?_)
  rw [hp]
  exact wpAny_pure (wpAny_pure (binary_no ho hp h))
end

end Lw.Ow
namespace Lw
open PySem PySem.Spec PyProof.Rows L2
section
variable {X : Cx} {C f : Addr} {k j : Nat} {sp : Sp}
def rRight (C : Addr) (P : V → Prop) (sp : Sp) : R2 := fun x y H Q => ∃ a dx fs, P x ∧ y = .ref a ∧ H a = some (.ins C dx fs) ∧ sp [y, x] H Q C8.E0
theorem ins_plain {pins : List (Addr × Obj)} {σ : L2.St} {H : Hp} {s : Shared} {a dx : Addr} {fs : List (Str × V)} (I : Inv X pins σ H s) (h : H a = some (.ins C dx fs)) : ∃ ox od, PySem.W.InstAt s.heap a ox C (some od) ∧ s.heap.get? a = some ox ∧ ox.data = .plain := by
  obtain ⟨mA, O, _⟩ := ins_get I.hok h
  obtain ⟨od, J, _⟩ := O.look
  exact ⟨_, od, J, J.at_, rfl⟩
/-- an int beside an instance on the right -/
theorem op_rightI {op : Operator} {id : String} (M : C8.Met X.prog X.w X.K X.mg X.base k C (dunderR op.info.2) sp []) (hc : PySem.W.selfFirst X.K C = true) (hs : PySem.W.findIn X.K (.ref C) (PySem.dunder op.info.2) = some (some (.ref f))) (hL : fillsNumberSlot (.type "int") op.info.2 = pure true)
    (hsub : PySem.W.subIn X.K (.ref C) (.type "int") = some false) (sl : Slot "int" (PySem.dunder op.info.2) id) (hd : ∀ {A : Around} {E : Value → Shared → Prop} {s : Shared} {i : Int} {t : Tok} {x : Addr} {o : Obj} {Q' : Value → Shared → Prop}, s.heap.get? x = some o → o.data = .plain → Q' .notImplemented s → wpAny (model X.prog X.w) A (call (.builtin id) [.int i t, .ref x]) Q' E s)
    (hr : Room j X.A) (hk : k ≤ j) : OpR X (binaryOp op) (rRight C (fun x => ∃ i, x = .int i) sp) := by
  intro pins s σ H x y v u Q I rx ry h
  obtain ⟨a, dx, fs, ⟨i, rfl⟩, rfl, ha, q⟩ := h
  cases (show u = Value.ref a from ry)
  obtain ⟨t, rfl⟩ := (show ∃ t, v = Value.int i t from rx)
  obtain ⟨ox, od, J, hx, hp⟩ := ins_plain I ha
  obtain ⟨g, hm, w⟩ := run_two (us := [.ref a, .int i t]) (vs := [.ref a, .int i]) M hr hk I (.cons rfl (.cons ⟨t, rfl⟩ .nil)) q
  exact Ow.right_number I.kIn J rfl (typeIs_int s i t) hc hs hm.at_ hm.fn hL hsub sl (fun Q' z => hd hx hp z) w
/-- a value whose type has no number slot for the operator -/
theorem op_rightB {op : Operator} {T : String} (M : C8.Met X.prog X.w X.K X.mg X.base k C (dunderR op.info.2) sp []) (hc : PySem.W.selfFirst X.K C = true) (hs : PySem.W.findIn X.K (.ref C) (PySem.dunder op.info.2) = some (some (.ref f))) (hL : fillsNumberSlot (.type T) op.info.2 = pure false)
    (hr : Room j X.A) (hk : k ≤ j) : OpR X (binaryOp op) (rRight C (fun x => Kind x T) sp) := by
  intro pins s σ H x y v u Q I rx ry h
  obtain ⟨a, dx, fs, hT, rfl, ha, q⟩ := h
  cases (show u = Value.ref a from ry)
  obtain ⟨ox, od, J, hx, hp⟩ := ins_plain I ha
  obtain ⟨g, hm, w⟩ := run_two (us := [.ref a, v]) (vs := [.ref a, x]) M hr hk I (.cons rfl (.cons rx .nil)) q
  exact Ow.right_bare I.kIn J (PySem.W.Looks.of_pure (hT.type rx)) hc hs hm.at_ hm.fn hL w
end
end Lw
namespace Lw.Ow
open PySem PySem.Spec PyProof.Rows PySem.W PySem.Calls

/-! ### x op= y of instances whose class has no operator of that kind -/
section
variable {prog : Program} {w : World} {A : Around} {E : Value → Shared → Prop} {s : Shared} {K : Frag} {x C f g : Addr} {ox : Obj} {od : Option Obj}
/-- the operator's first half tells a value -/
def Told (Q : Value → Shared → Prop) (r : Option Value) (s' : Shared) : Prop := ∃ v, r = some v ∧ Q v s'
theorem half_same {nm : String} {b : Value} {Q : Value → Shared → Prop} (X : K.In s.heap) (I : InstAt s.heap x ox C od) (hb : Looks (model prog w) s.heap (typeOf b) (.ref C)) (hc : selfFirst K C = true) (hs : findIn K (.ref C) (PySem.dunder nm) = some (some (.ref f))) (hf : isFn K (.ref f) = true)
    (h : wpAny (model prog w) A (call (.ref f) [.ref x, b]) (PySem.W.CmpBack Q) E s) : wpAny (model prog w) A (binaryOp1 nm (.ref x) b) (Told Q) E s := by
  obtain ⟨cd, rest, hcd, hm⟩ := ksp_first hc
  have one := ksp_try X I hs hf h
  obtain ⟨hh, gg, d, tt, os⟩ := s
  have L1 : Looks (model prog w) hh (typeOf (.ref x)) (.ref C) := I.type
  have L2 : Looks (model prog w) hh (typeOf b) (.ref C) := hb
  have L3 : Looks (model prog w) hh (fillsNumberSlot (.ref C) nm) true := fills_K X hcd hm hs
  unfold binaryOp1
  refine wpAny_bind (L1.at (wpAny_bind (L2.at (wpAny_bind (L3.at ?_)))))
  simp only [beq_self_eq_true, if_true]
  refine wpAny_bind (wpAny_pure ?_)
  simp only [Bool.and_false, Bool.false_and, Bool.false_eq_true, if_false, if_true, pure_bind]
  refine wpAny_bind (wpAny_mono one (fun r s' z => ?_) fun _ _ e => e)
  obtain ⟨v, rfl, hq⟩ := z
  exact wpAny_pure ⟨v, rfl, hq⟩
/-- no class above has the operator of that kind -/
theorem bare_inplace {nm : String} {add : Bool} {cd : ClassData} {h : Heap} {M : Model} (X : K.In h) (hc : clsIn K C = some cd) (hm : cd.mro = [.ref C, .type "object"]) (h1 : findIn K (.ref C) (dunderI nm) = some none) (h2 : findIn K (.type "object") (dunderI nm) = some none) : Looks M h (fillsInplaceSlot (.ref C) nm add) false := by
  intro A Q E s k q
  have Lm : Looks M h (mroOf (.ref C)) cd.mro := (looks_clsIn X hc).andThen (f := fun cd => pure cd.mro) .now
  have Lm2 := Lm.keeps k
  obtain ⟨hh, gg, d, tt, os⟩ := s
  have X2 : K.In hh := X.keeps k
  have L1 : Looks M hh (typeLookup (.ref C) (dunderI nm)) none := looks_findIn X2 h1
  have L2 : Looks M hh (typeLookup (.type "object") (dunderI nm)) none := looks_findIn X2 h2
  unfold fillsInplaceSlot
  refine wpAny_bind (Lm2.at ?_)
  rw [hm, List.anyM_cons]
  refine wpAny_bind (wpAny_bind (L1.at ?_))
  refine wpAny_pure ?_
  rw [List.anyM_cons]
  refine wpAny_bind (wpAny_bind (L2.at ?_))
  refine wpAny_pure ?_
  rw [List.anyM_nil]
  exact wpAny_pure q
theorem inplace_of {op : Operator} {b : Value} {cd : ClassData} {Q : Value → Shared → Prop} (X : K.In s.heap) (I : InstAt s.heap x ox C od) (hc : clsIn K C = some cd) (hm : cd.mro = [.ref C, .type "object"]) (h1 : findIn K (.ref C) (dunderI op.info.2) = some none) (h2 : findIn K (.type "object") (dunderI op.info.2) = some none)
    (h : wpAny (model prog w) A (binaryOp1 op.info.2 (.ref x) b) (Told Q) E s) : wpAny (model prog w) A (inplaceOp op (.ref x) b) Q E s := by
  have L1 : Looks (model prog w) s.heap (typeOf (.ref x)) (.ref C) := I.type
  have L2 : Looks (model prog w) s.heap (fillsInplaceSlot (.ref C) op.info.2 (op == .Add)) false := bare_inplace X hc hm h1 h2
  unfold inplaceOp
  refine wpAny_holding ?_
  refine wpAny_bind (L1.here (wpAny_bind (L2.here ?_)))
  simp only [Bool.false_eq_true, if_false, pure_bind]
  refine wpAny_bind (wpAny_mono h (fun r s' z => ?_) fun _ _ e => e)
  obtain ⟨v, rfl, hq⟩ := z
  exact wpAny_pure hq
end
end Lw.Ow
namespace Lw.Ow
open PySem PySem.Spec PyProof.Rows PySem.W PySem.Calls

section
variable {prog : Program} {w : World} {A : Around} {E : Value → Shared → Prop} {s : Shared} {K : Frag} {x C f g : Addr} {ox : Obj} {od : Option Obj}
theorem half_left {nm : String} {b : Value} {T : String} {fo ro rc : Option Value} {Q : Value → Shared → Prop} (X : K.In s.heap) (I : InstAt s.heap x ox C od) (hb : Looks (model prog w) s.heap (typeOf b) (.type T)) (hc : selfFirst K C = true) (hs : findIn K (.ref C) (PySem.dunder nm) = some (some (.ref f))) (hf : isFn K (.ref f) = true)
    (hr : findIn K (.ref C) (dunderR nm) = some rc) (hp : rc = none ∨ ∃ g : Addr, rc = some (.ref g)) (h1 : findIn K (.type T) (PySem.dunder nm) = some fo) (h2 : findIn K (.type T) (dunderR nm) = some ro) (hsub : subIn K (.type T) (.ref C) = some false)
    (h : wpAny (model prog w) A (call (.ref f) [.ref x, b]) (PySem.W.CmpBack Q) E s) : wpAny (model prog w) A (binaryOp1 nm (.ref x) b) (Told Q) E s := by
  obtain ⟨cd, rest, hcd, hm⟩ := ksp_first hc
  have one := ksp_try X I hs hf h
  obtain ⟨hh, gg, d, tt, os⟩ := s
  have L1 : Looks (model prog w) hh (typeOf (.ref x)) (.ref C) := I.type
  have L3 : Looks (model prog w) hh (fillsNumberSlot (.ref C) nm) true := fills_K X hcd hm hs
  have L4 : Looks (model prog w) hh (fillsNumberSlot (.type T) nm) ((fo.isSome && !isSeqSlot fo) || (ro.isSome && !isSeqSlot ro)) := ksp_fillsT X h1 h2
  have L5 : Looks (model prog w) hh (isSubtype (.type T) (.ref C)) false := looks_subIn X hsub
  have L6 : Looks (model prog w) hh (numberSlotInPython (.ref C) nm) true := ksp_inPy X hs hr hp
  have L7 : Looks (model prog w) hh (numberSlotInPython (.type T) nm) false := Looks.of_pure rfl
  have L8 : Looks (model prog w) hh (typeLookup (.type T) (dunderR nm)) ro := looks_findIn X h2
  have hne : (Value.ref C == Value.type T) = false := Bool.eq_false_iff.mpr fun q => by cases beq_iff_eq.mp q
  have done : ∀ {r : Option Value} {s' : Shared}, (∃ v, r = some v ∧ Q v s') → ∃ v, r = some v ∧ Told Q r s' := fun ⟨v, e, q⟩ => ⟨v, e, v, e, q⟩
  generalize ((fo.isSome && !isSeqSlot fo) || (ro.isSome && !isSeqSlot ro)) = right at L4
  unfold binaryOp1
  refine wpAny_bind (L1.at (wpAny_bind (hb.at (wpAny_bind (L3.at ?_)))))
  simp only [hne, Bool.false_eq_true, if_false]
  refine wpAny_bind (L4.at ?_)
  cases right with
  | false =>
    simp only [Bool.and_false, Bool.false_and, Bool.false_eq_true, if_false, if_true, pure_bind]
    refine wpAny_bind (wpAny_mono one (fun r s' z => ?_) fun _ _ e => e)
    obtain ⟨v, rfl, hq⟩ := z
    exact wpAny_pure ⟨v, rfl, hq⟩
  | true =>
    simp only [Bool.and_self, if_true]
    refine wpAny_bind (L5.at ?_)
    simp only [Bool.false_eq_true, if_false, if_true, Bool.not_false, Bool.and_self]
    refine wpAny_bind (L6.at ?_)
    simp only [if_true]
    refine wpAny_bind (L7.at ?_)
    simp only [Bool.not_false, if_true]
    refine wpAny_bind (L8.at ?_)
    refine wpAny_bind (wpAny_mono one (fun r s' z => ?_) fun _ _ e => e)
    obtain ⟨v, rfl, hq⟩ := z
    exact wpAny_pure ⟨v, rfl, hq⟩
theorem half_number {nm : String} {a : Value} {T id : String} {Q : Value → Shared → Prop} (X : K.In s.heap) (I : InstAt s.heap x ox C od) (ht : typeOf a = pure (.type T)) (hT : s.TypeIs a T) (hc : selfFirst K C = true) (hs : findIn K (.ref C) (PySem.dunder nm) = some (some (.ref f))) (hr : findIn K (.ref C) (dunderR nm) = some (some (.ref g)))
    (hg : isFn K (.ref g) = true) (hL : fillsNumberSlot (.type T) nm = pure true) (hsub : subIn K (.ref C) (.type T) = some false) (sl : Slot T (PySem.dunder nm) id) (hd : ∀ Q' : Value → Shared → Prop, Q' .notImplemented s → wpAny (model prog w) A (call (.builtin id) [a, .ref x]) Q' E s)
    (h : wpAny (model prog w) A (call (.ref g) [.ref x, a]) (PySem.W.CmpBack Q) E s) : wpAny (model prog w) A (binaryOp1 nm a (.ref x)) (Told Q) E s := by
  obtain ⟨cd, rest, hcd, hm⟩ := ksp_first hc
  have one := ksp_try X I hr hg h
  have two := wpAny_tryMethod_declines (Q := fun r s' => r = none ∧ s' = s) hT sl (hd _ ⟨rfl, rfl, rfl⟩)
  obtain ⟨hh, gg, d, tt, os⟩ := s
  have L2 : Looks (model prog w) hh (typeOf (.ref x)) (.ref C) := I.type
  have L3 : Looks (model prog w) hh (fillsNumberSlot (.ref C) nm) true := fills_K X hcd hm hs
  have L4 : Looks (model prog w) hh (isSubtype (.ref C) (.type T)) false := looks_subIn X hsub
  have hpy : numberSlotInPython (.type T) nm = pure false := rfl
  have hne : (Value.type T == Value.ref C) = false := Bool.eq_false_iff.mpr fun q => by cases beq_iff_eq.mp q
  unfold binaryOp1
  refine wpAny_bind (wpAny_of_eq ht (wpAny_bind (L2.at (wpAny_bind (wpAny_of_eq hL ?_)))))
  simp only [hne, Bool.false_eq_true, if_false]
  refine wpAny_bind (L3.at ?_)
  simp only [Bool.and_self, if_true]
  refine wpAny_bind (L4.at ?_)
  simp only [Bool.false_eq_true, if_false, pure_bind, Bool.not_false, Bool.and_self, if_true, hpy]
  refine wpAny_bind (wpAny_mono two (fun r s' z => ?_) fun _ _ e => e)
  obtain ⟨rfl, rfl⟩ := z
  refine wpAny_bind (wpAny_mono one (fun r s' z => ?_) fun _ _ e => e)
  obtain ⟨v, rfl, hq⟩ := z
  exact wpAny_bind (wpAny_rule (wpAny_pure ⟨v, rfl, hq⟩))
end
end Lw.Ow
namespace Lw
open PySem PySem.Spec PyProof.Rows L2

/-- a class right below object that has no operator of the kind op= -/
structure NoInplace (K : PySem.W.Frag) (C : Addr) (op : Operator) : Prop where
  mro : ∃ cd, PySem.W.clsIn K C = some cd ∧ cd.mro = [.ref C, .type "object"]
  own : PySem.W.findIn K (.ref C) (dunderI op.info.2) = some none
  obj : PySem.W.findIn K (.type "object") (dunderI op.info.2) = some none
section
variable {X : Cx} {C f : Addr} {k j : Nat} {sp : Sp}
theorem iop_same {op : Operator} (M : C8.Met X.prog X.w X.K X.mg X.base k C (PySem.dunder op.info.2) sp []) (hc : PySem.W.selfFirst X.K C = true) (ni : NoInplace X.K C op) (hr : Room j X.A) (hk : k ≤ j) : OpR X (inplaceOp op) (rSame C sp) := by
  intro pins s σ H x y v u Q I rx ry h
  obtain ⟨a, dx, fs, b, dy, gs, rfl, rfl, ha, hb, q⟩ := h
  cases (show v = Value.ref a from rx)
  cases (show u = Value.ref b from ry)
  obtain ⟨_, _, J⟩ := ins_at I ha
  obtain ⟨_, _, J'⟩ := ins_at I hb
  obtain ⟨g, hm, w⟩ := run_two (us := [.ref a, .ref b]) (vs := [.ref a, .ref b]) M hr hk I (.cons rfl (.cons rfl .nil)) q
  obtain ⟨cd, h1, h2⟩ := ni.mro
  exact Ow.inplace_of I.kIn J h1 h2 ni.own ni.obj (Ow.half_same I.kIn J J'.type hc hm.at_ hm.fn w)
theorem iop_beside {op : Operator} (M : C8.Met X.prog X.w X.K X.mg X.base k C (PySem.dunder op.info.2) sp []) (ni : NoInplace X.K C op) (hr : Room j X.A) (hk : k ≤ j) : OpR X (inplaceOp op) (rBeside X.K C op sp) := by
  intro pins s σ H x y v u Q I rx ry h
  obtain ⟨a, dx, fs, T, rfl, ha, hT, hB, q⟩ := h
  cases (show v = Value.ref a from rx)
  obtain ⟨_, _, J⟩ := ins_at I ha
  obtain ⟨g, hm, w⟩ := run_two (us := [.ref a, u]) (vs := [.ref a, y]) M hr hk I (.cons rfl (.cons ry .nil)) q
  obtain ⟨cd, h1, h2⟩ := ni.mro
  obtain ⟨rc, r1, r2⟩ := hB.back
  obtain ⟨fo, f1⟩ := hB.ahead
  obtain ⟨ro, o1⟩ := hB.behind
  exact Ow.inplace_of I.kIn J h1 h2 ni.own ni.obj (Ow.half_left I.kIn J (PySem.W.Looks.of_pure (hT.type ry)) hB.first hm.at_ hm.fn r1 r2 f1 o1 hB.sub w)
/-- i op= x, i an int, x an instance -/
theorem iop_rightI {op : Operator} {id : String} (M : C8.Met X.prog X.w X.K X.mg X.base k C (dunderR op.info.2) sp []) (hc : PySem.W.selfFirst X.K C = true) (hs : PySem.W.findIn X.K (.ref C) (PySem.dunder op.info.2) = some (some (.ref f))) (hL : fillsNumberSlot (.type "int") op.info.2 = pure true) (hI : fillsInplaceSlot (.type "int") op.info.2 (op == .Add) = pure false)
    (hsub : PySem.W.subIn X.K (.ref C) (.type "int") = some false) (sl : Slot "int" (PySem.dunder op.info.2) id) (hd : ∀ {A : Around} {E : Value → Shared → Prop} {s : Shared} {i : Int} {t : Tok} {x : Addr} {o : Obj} {Q' : Value → Shared → Prop}, s.heap.get? x = some o → o.data = .plain → Q' .notImplemented s → wpAny (model X.prog X.w) A (call (.builtin id) [.int i t, .ref x]) Q' E s)
    (hr : Room j X.A) (hk : k ≤ j) : OpR X (inplaceOp op) (rRight C (fun x => ∃ i, x = .int i) sp) := by
  intro pins s σ H x y v u Q I rx ry h
  obtain ⟨a, dx, fs, ⟨i, rfl⟩, rfl, ha, q⟩ := h
  cases (show u = Value.ref a from ry)
  obtain ⟨t, rfl⟩ := (show ∃ t, v = Value.int i t from rx)
  obtain ⟨ox, od, J, hx, hp⟩ := ins_plain I ha
  obtain ⟨g, hm, w⟩ := run_two (us := [.ref a, .int i t]) (vs := [.ref a, .int i]) M hr hk I (.cons rfl (.cons ⟨t, rfl⟩ .nil)) q
  have half := Ow.half_number I.kIn J rfl (typeIs_int s i t) hc hs hm.at_ hm.fn hL hsub sl (fun Q' z => hd hx hp z) w
  unfold inplaceOp
  refine wpAny_holding ?_
  refine wpAny_bind (wpAny_of_eq (a := Value.type "int") rfl (wpAny_bind (wpAny_of_eq hI ?_)))
  simp only [Bool.false_eq_true, if_false, pure_bind]
  refine wpAny_bind (wpAny_mono half (fun r s' z => ?_) fun _ _ e => e)
  obtain ⟨v, rfl, hq⟩ := z
  exact wpAny_pure hq
theorem int_no_inplace : fillsInplaceSlot (.type "int") "add" true = pure false ∧ fillsInplaceSlot (.type "int") "sub" false = pure false ∧ fillsInplaceSlot (.type "int") "mul" false = pure false := by
  refine ⟨?_, ?_, ?_⟩ <;> · simp only [fillsInplaceSlot, typeLookup_type]; rfl
end
end Lw
namespace Lw
open PySem PySem.Spec PyProof.Rows L2

/-! ### try: body / except X as n: suite, the caught exception held behind the suite -/
/-- an exception's object: its class, its dict -/
def ExO (a : Addr) (cls : Value) (d : Option Addr) : HO := .ext fun h => ∃ o, h.get? a = some o ∧ Zc cls d o ∧ ∃ vs, o.data = .fields vs
section
variable {X : Cx} {pins : List (Addr × Obj)} {σ : L2.St} {H : Hp} {s : Shared}
/-- a pinned object is tracked from now on -/
theorem promote {a : Addr} {o : Obj} {cls : Value} {d : Option Addr} (I : Inv X ((a, o) :: pins) σ H s) (hz : Zc cls d o) (hf : ∃ vs, o.data = .fields vs) (new : X.s_0.heap.get? a = none) (apart : ∀ p ∈ X.pn ++ pins, p.1 ≠ a) : Inv X pins σ (upd H a (ExO a cls d)) s := by
  obtain ⟨ha, na, nL, nF, nC⟩ := I.pin (a, o) (List.mem_append_right _ List.mem_cons_self)
  have here : ∀ b, b ≠ a → upd H a (ExO a cls d) b = H b := fun b n => upd_ne n
  have known : ∀ b u, H b = some u → b ≠ a := fun b u e z => by rw [z, na] at e; cases e
  have old : ∀ b u, X.s_0.heap.get? b = some u → b ≠ a := fun b u e z => by rw [z, new] at e; cases e
  refine ⟨I.ok, I.os, I.bare, ⟨I.base.keep, I.base.slot, fun b u e n hx => ?_, I.base.there, fun b xs e => ?_, fun b u v e => ?_, fun b ps e => ?_⟩, I.loc, I.cell, ?_, fun y c e => ?_, fun p hp => ?_, fun b u e => ?_, I.len⟩
  · rw [here b (old b u e)]
    exact I.base.free b u e n hx
  · have z := I.base.tups b xs e
    rw [here b (known b _ z)]
    exact z
  · have z := I.base.frzs b u v e
    rw [here b (known b _ z)]
    exact z
  · obtain ⟨more, z⟩ := I.base.tbls b ps e
    exact ⟨more, by rw [here b (known b _ z)]; exact z⟩
  · rw [here _ nL.symm]
    exact I.free
  · have ne : c ≠ a := fun z => by
      obtain ⟨v, oc, hoc, hdc⟩ := I.cell y c e
      rw [z, ha] at hoc
      cases hoc
      exact nC v hdc
    rw [here c ne]
    exact I.freeC y c e
  · have hp2 : p ∈ X.pn ++ ((a, o) :: pins) := by
      rcases List.mem_append.mp hp with h | h
      · exact List.mem_append_left _ h
      · exact List.mem_append_right _ (List.mem_cons_of_mem _ h)
    obtain ⟨e1, e2, e3⟩ := I.pin p hp2
    exact ⟨e1, by rw [here _ (apart p hp)]; exact e2, e3⟩
  · by_cases q : b = a
    · subst q
      rw [upd_same] at e
      cases e
      refine ⟨⟨o, ha, hz, hf⟩, ⟨o, ha⟩, ?_⟩
      rintro h1 h2 ⟨u, e1, e2⟩ st
      exact ⟨u, st u e1, e2⟩
    · rw [here b q] at e
      exact (I.hok b u e).stay (fun _ _ _ z => z) (fun c z => by rw [here c (known c _ z)]; exact z) fun c xs z => by rw [here c (known c _ z)]; exact z
end
end Lw
namespace Lw
open PySem PySem.Spec PyProof.Rows L2

/-- what the body's exceptions must be: of the class that is named; the suite ends plainly, and the exception stays known behind it -/
def wHeld (K : PySem.W.Frag) (c : Value) (i n : Nat) (ts : Addr → Value → Option Addr → TS) (D : Ends) : WX := fun cls d σ H => σ.length = n →
  PySem.W.exmOne K cls c = some true ∧ ∀ a, H a = none → ts a cls d { nx := fun σ' H' => H' a = none → D.nx (σ'.set i none) (upd H' a (ExO a cls d)), rt := fun _ _ => False, bk := fun _ _ => False, ct := fun _ _ => False } (σ.set i (some (.ref a))) H
section
variable {X : Cx} {x n : Str} {c : Value} {i : Nat} {body suite : List Stmt} {b₀ : Stmt} {np pos pos' : Pos} {tb : WX → TS} {ts : Addr → Value → Option Addr → TS}
theorem ps_try_held (stk : X.stack = X.env :: X.outer) (frm : X.env.frame = some X.env.locals) (hN : X.N.Nodup) (hi : X.N[i]? = some n) (loc : X.env.kindOf n = some .local) (nm : Names X x c) (noex : X.ex = [])
    (hb : ∀ (W : WX) (pn : List (Addr × Obj)) (xe : Value → Shared → Prop), Takes (X.tr pn xe) W → PassesOwn (model X.prog X.w) X.A X.env xe → PSs (X.tr pn xe) body (tb W))
    (hsu : ∀ (a : Addr) (oe : Obj) (cls : Value) (d : Option Addr) (pn : List (Addr × Obj)), Zc cls d oe → (∃ vs, oe.data = .fields vs) → PSs (X.suite a ((a, oe) :: pn)) (b₀ :: suite) (ts a cls d)) :
    PS X (.Try body [.ExceptHandler (some (.Name x np)) (some n) (b₀ :: suite) pos'] [] [] pos) (fun D σ H => tb (wHeld X.K c i X.N.length ts D) D σ H) := by
  refine ⟨fun pins s σ H D I h => ?_⟩
  have ok := I.ok
  have frames : X.A.frames = some (X.env :: X.outer) := by rw [ok.frames, stk]
  refine wpAny_Try_except ?_
  refine wpAny_mono ((hb (wHeld X.K c i X.N.length ts D) (X.pn ++ pins) (fun e s₁ => wpAny (model X.prog X.w) X.A (noteFrame e X.env) (fun _ s₂ => wpAny (model X.prog X.w) X.A (setFlight e none) (fun _ s₃ =>
    wpAny (model X.prog X.w) X.A (handleBy e X.env [.ExceptHandler (some (.Name x np)) (some n) (b₀ :: suite) pos']) (SP X pins D) X.xe s₃) X.xe s₂) X.xe s₁) (fun u s' air => ?_) PassesOwn.looking).run [] s σ H D (I.toTry _) h) (fun f s1 q => ?_) (fun e s1 q => q)
  · obtain ⟨a, B, sI, pins', σ', H', cls, d, rfl, JT, nb, up, sky, na, os, ag, hw⟩ := air
    have J : Inv X pins σ' H' sI := JT.ofTry ok
    obtain ⟨ours, go⟩ := hw J.len
    rw [stk] at sky
    show wpAny (model X.prog X.w) X.A (noteFrame (.ref a) X.env) _ _ _
    refine Sky.land Zc.steady frames frm sky fun hA flA upA => ?_
    have JA : Inv X pins σ' H' { s' with heap := hA } := J.landed nb flA.1 (up.trans upA) os ag
    obtain ⟨oA, vsA, eA, zA, dA⟩ := flA.there
    -- the exception's object is no frame, and it is new
    have noFrame : a ∉ frs (X.env :: X.outer) := fun hm => by
      obtain ⟨_, o', e', hnf⟩ := flA.2.2.1.mem hm
      rw [eA] at e'
      cases e'
      exact hnf _ dA
    have nL : a ≠ X.env.locals := fun z => noFrame (List.mem_filterMap.mpr ⟨X.env, List.mem_cons_self, by rw [frm, z]⟩)
    have nF : a ∉ X.fs := fun hm => by
      obtain ⟨e, he, q⟩ := List.mem_filterMap.mp hm
      exact noFrame (List.mem_filterMap.mpr ⟨e, List.mem_cons_of_mem _ he, q⟩)
    have nB : B.get? a = none := flA.2.1
    have ground : ∀ b o, sI.heap.get? b = some o → b ≠ a := fun b o e z => by
      rw [z] at e
      have k := nb a o e (by rw [stk]; exact noFrame)
      rw [nB] at k
      cases k
    have fresh : X.s_0.heap.get? a = none := by
      cases e : X.s_0.heap.get? a with
      | none => rfl
      | some o =>
        obtain ⟨o', e'⟩ := J.base.there a o e (by rw [noex]; simp)
        exact absurd rfl (ground a o' e')
    have apart : ∀ p ∈ X.pn ++ pins, p.1 ≠ a := fun p hp => ground p.1 p.2 (J.pin p hp).1
    refine wpAny_handleBy_cons (codeAny_handlers_test ?_) (by intro q; cases q)
    have LT : PySem.W.Looks (model X.prog X.w) hA (typeOf (.ref a)) cls := fun A Q E s k q => wpAny_typeOf_ref (k _ _ eA) (by rw [zA.1]; exact q)
    have LM := PySem.W.exm_one (M := model X.prog X.w) JA.kIn LT ours
    have SA := JA.suite eA dA na nL nF
    have look : ∀ {Q : Value → Shared → Prop} {E : Value → Shared → Prop}, Q c { s' with heap := hA } → wpAny (model X.prog X.w) (X.A.mark (some (.ref a))) (eval (.Name x np) X.env) Q E { s' with heap := hA } := fun {Q E} q => by
      rcases nm with ⟨g1, g2, g3 | ⟨g3, g4, g5⟩⟩
      · exact ld_glob (X := X.suite a ((a, oA) :: (X.pn ++ pins))) SA g1 g3 q g2
      · exact ld_blt (X := X.suite a ((a, oA) :: (X.pn ++ pins))) SA g1 g3 g4 q g5 g2
    refine look (LM.here ?_)
    refine codeAny_handlers_suite_as ?_
    refine HandSPX.lands_againZ flA fun hB flB upB => ?_
    have JB : Inv X pins σ' H' { s' with heap := hB } := J.landed nb flB.1 ((up.trans upA).trans upB) os ag
    obtain ⟨oB, vsB, eB, zB, dB⟩ := flB.there
    refine store_ok (X := X.suite a ((a, oB) :: (X.pn ++ pins))) (v := .ref a) (JB.suite eB dB na nL nF) hN hi (.inl loc) rfl (fun s5 S5 => ?_) (.inr loc)
    refine wpAny_mono ((hsu a oB cls d (X.pn ++ pins) zB ⟨_, dB⟩).run [] s5 _ H' _ S5 (go a na)) (fun f s6 q => ?_) (fun _ _ z => False.elim z)
    cases f with
    | next =>
      obtain ⟨σ6, H6, S6, q6⟩ := q
      have held : Inv X ((a, oB) :: pins) σ6 H6 s6 := ⟨ok, S6.os, S6.bare, S6.base, S6.loc, S6.cell, S6.free, S6.freeC, fun p hp => by
        refine S6.pin p (List.mem_append_left _ ?_)
        show p ∈ (a, oB) :: (X.pn ++ pins)
        rcases List.mem_append.mp hp with h | h
        · exact List.mem_cons_of_mem _ (List.mem_append_left _ h)
        · rcases List.mem_cons.mp h with h | h
          · rw [h]; exact List.mem_cons_self
          · exact List.mem_cons_of_mem _ (List.mem_append_right _ h), S6.hok, S6.len⟩
      refine gone_ok held hN hi loc fun s7 I7 => ?_
      exact ⟨_, _, promote I7 zB ⟨_, dB⟩ fresh apart, q6 (I7.pin (a, oB) (List.mem_append_right _ List.mem_cons_self)).2.1⟩
    | brk =>
      obtain ⟨_, _, _, z⟩ := q
      exact z.elim
    | cont =>
      obtain ⟨_, _, _, z⟩ := q
      exact z.elim
    | ret u =>
      obtain ⟨_, _, _, _, _, z⟩ := q
      exact z.elim
  · cases f with
    | next =>
      obtain ⟨σ1, H1, I1, q1⟩ := q
      exact wpAny_execs_nil ⟨σ1, H1, I1.ofTry ok, q1⟩
    | brk =>
      obtain ⟨σ1, H1, I1, q1⟩ := q
      exact ⟨σ1, H1, I1.ofTry ok, q1⟩
    | cont =>
      obtain ⟨σ1, H1, I1, q1⟩ := q
      exact ⟨σ1, H1, I1.ofTry ok, q1⟩
    | ret u =>
      obtain ⟨v1, σ1, H1, I1, r1, q1⟩ := q
      exact ⟨v1, σ1, H1, I1.ofTry ok, r1, q1⟩
end
end Lw
namespace Lw
open PySem PySem.Spec PyProof.Rows L2

section
variable {X : Cx} {pins : List (Addr × Obj)} {σ : L2.St} {H : Hp} {s : Shared}
theorem held_at {a : Addr} {cls : Value} {d : Option Addr} (I : Inv X pins σ H s) (h : H a = some (ExO a cls d)) : ∃ o vs, s.heap.get? a = some o ∧ o.cls = cls ∧ o.dict = d ∧ o.data = .fields vs := by
  obtain ⟨⟨o, h1, h2, vs, h3⟩, _⟩ := (show ObjOk X.prog X.w H s.heap a (ExO a cls d) from I.hok a _ h)
  exact ⟨o, vs, h1, h2.1, h2.2, h3⟩
/-- the exception as an instance, its attributes known -/
theorem held_inst {a C dd : Addr} {fs : List (Str × V)} (I : Inv X pins σ H s) (h : H a = some (ExO a (.ref C) (some dd))) (hd : H dd = some (.xd fs)) : ∃ o od, PySem.W.InstAt s.heap a o C (some od) ∧ ∀ f v, fs.lookup f = some v → ∃ u, PySem.W.lookIn f od = some (some u) ∧ RelV v u := by
  obtain ⟨o, vs, h1, h2, h3, h4⟩ := held_at I h
  obtain ⟨mA, hns, hr⟩ := (show ObjOk X.prog X.w H s.heap dd (.xd fs) from I.hok dd _ hd)
  obtain ⟨od, ho, hl⟩ := lookIn_ns hns
  refine ⟨o, od, ⟨h1, h2, by unfold PySem.W.notCls; rw [h4] <;> rfl, by rw [h3]; exact ho⟩, fun f v e => ?_⟩
  obtain ⟨u, hu, ru⟩ := RelO.some_of (v := v) (o := mA f) (by rw [← e]; exact hr f)
  exact ⟨u, by rw [hl, hu], ru⟩
/-- e.f of an exception that is held -/
def tHeld (C : Addr) (f : Str) (te : TE) : TE := fun σ H Q => te σ H fun x H1 => ∃ (a dd : Addr) (fs : List (Str × V)) (v : V), x = .ref a ∧ H1 a = some (ExO a (.ref C) (some dd)) ∧ H1 dd = some (.xd fs) ∧ fs.lookup f = some v ∧ Q v H1
theorem pe_held {C : Addr} {e : Expr} {te : TE} {pos : Pos} {f : Str} (T : XfC X.K C) (hno : PySem.W.findIn X.K (.ref C) f = some none) (he : PE X e te) (hb : attributeBase e f X.env (eval e X.env) = eval e X.env := by rfl) : PE X (.Attribute e f pos) (tHeld C f te) := by
  refine ⟨fun pins s σ H Q I q => attr_of hb (thn (he.run pins s σ H _ I q) fun u s1 got => ?_)⟩
  obtain ⟨x, H1, I1, rx, a, dd, fs, v, rfl, ha, hd, hl, q⟩ := got
  obtain rfl : u = Value.ref a := rx
  obtain ⟨o, od, J, fld⟩ := held_inst I1 ha hd
  obtain ⟨u, hu, ru⟩ := fld f v hl
  exact HandSPX.exc_get I1.kIn J T.ga T.gg T.exC (PySem.W.findObj_own T.hdC hno rfl hu) (handed_of ru) ⟨v, H1, I1.tok _, ru, q⟩
end
end Lw
namespace Lw.Hx
open PySem PySem.Spec PySem.Calls PyProof.Rows PySem.W

/-! ### isinstance of an exception that has attributes -/
/-- what isinstance asks of the exception's class -/
structure XCls (K : Frag) (D : Addr) : Prop where
  ga : findIn K (.ref D) "__getattribute__" = some (some (.builtin "BaseException.__getattribute__"))
  gt : findIn K (.ref D) "__getattr__" = some none
  sub : subIn K (.ref D) (.type "BaseException") = some true
  dct : hasDictIn K D = true
  ca : findIn K (.ref D) "__class__" = some (some (.builtin "object.__class__"))
  cn : specialIn K (.builtin "object.__class__") "__get__" = some (some (.builtin "getset_descriptor.__get__"))
  ct : takesIn K (.builtin "object.__class__") = some true
  cm : mroIn K D (.type "object") = some true
section
variable {prog : Program} {w : World} {A : Around} {E : Value → Shared → Prop} {s : Shared} {K : Frag} {x D : Addr} {ox : Obj} {od : Option Obj}
theorem finds (c : XCls K D) : findObj K D od "__class__" = some (.bind (.builtin "getset_descriptor.__get__") (.builtin "object.__class__")) := by
  obtain ⟨cd, hc, _⟩ := any_some c.dct
  unfold findObj
  rw [hc, Option.bind_some, c.ca, Option.bind_some]
  simp only [c.cn, c.ct, Option.bind_some]
theorem class_of (c : XCls K D) {Q : Option Value → Shared → Prop} (X : K.In s.heap) (I : InstAt s.heap x ox D od) (h : Q (some (.ref D)) { s with toks := s.toks + 1 }) : wpAny (model prog w) A (getAttr? (.ref x) "__class__") Q E s := by
  have found := finds (od := od) c
  obtain ⟨hp, gs, dr, tk, os⟩ := s
  have kind := I.type (M := model prog w)
  have asks := looks_findIn (M := model prog w) X c.ga
  have more := looks_findIn (M := model prog w) X c.gt
  have seen := looks_find (M := model prog w) X I found
  have under : Looks (model prog w) hp (isInstance (.ref x) (.type "BaseException")) true := kind.andThen (looks_subIn X c.sub)
  have n2 : (Value.builtin "BaseException.__getattribute__" == Value.builtin "object.__getattribute__") = false := by decide +kernel
  have n1 : (onTheHeap (Value.ref D) && Value.builtin "BaseException.__getattribute__" == Value.builtin "object.__getattribute__") = false := by rw [n2]; rfl
  unfold getAttr? getAttrBy? getAttrBy
  refine wpAny_bind (wpAny_mkText (wpAny_bind (wpAny_attempt (wpAny_holding (wpAny_bind (kind.at (wpAny_bind (asks.at ?_))))))))
  show wpAny _ _ (ite ((onTheHeap (Value.ref D) && Value.builtin "BaseException.__getattribute__" == Value.builtin "object.__getattribute__") = true) _ _) _ _ _
  rw [n1, if_neg (by decide)]
  unfold getAttrByItsOwn hookBefore
  refine wpAny_bind ?_
  rw [if_pos (show onTheHeap (.ref D) = true from rfl)]
  refine more.at (wpAny_bind (wpAny_attempt (wpAny_holding ?_)))
  unfold callGetattribute
  rw [if_neg (show ¬ (false && onTheHeap (Value.builtin "BaseException.__getattribute__")) = true from by decide)]
  unfold boundAndCalled
  rw [PySem.F.excAttr_ValueError.ga.bind (.ref x)]
  refine wpAny_bind (wpAny_pure ?_)
  show wpAny _ _ (call (.builtin "BaseException.__getattribute__") [.ref x, .str "__class__" tk]) _ _ _
  refine wpAny_call (codeAny_call_builtin PySem.F.excAttr_ValueError.ga.plain PySem.F.entry_bexc_ga ?_)
  refine @check_slot (model prog w) _ _ ⟨hp, gs, dr, tk + 1, os⟩ "BaseException.__getattribute__" "BaseException" "__getattribute__" (.ref x) [.str "__class__" tk] [] _ (by decide +kernel) (by decide +kernel) under (PySem.F.args_bexc_ga (.ref x) (.str "__class__" tk)) ?_
  unfold Builtin.«object.__getattribute__»
  refine wpAny_bind (wpAny_of_eq (a := ((Value.ref x : Value), [Value.str "__class__" tk])) (by first | rfl | (simp only [slotArgs] <;> rfl)) ?_)
  refine wpAny_bind (wpAny_pure (wpAny_bind (kind.at (wpAny_bind (seen.at ?_)))))
  show wpAny _ _ (holding [Value.builtin "object.__class__"] (call (.builtin "getset_descriptor.__get__") [.builtin "object.__class__", .ref x, .ref D]) >>= ret) _ _ _
  refine wpAny_bind (wpAny_holding (wpAny_call (class_get (s := ⟨hp, gs, dr, tk + 1, os⟩) X I c.cm ?_)))
  refine wpAny_pure ?_
  show wpAny _ _ (handedOut (.ref D)) _ _ _
  rw [handedOut_of (v := .ref D) rfl]
  first
    | exact wpAny_pure (wpAny_pure h)
    | exact wpAny_pure h
    | exact wpAny_pure (wpAny_bind (wpAny_pure (wpAny_pure h)))
theorem no_list (c : XCls K D) : ∃ o cd, K.lookup D = some o ∧ o.data = .cls cd := by
  obtain ⟨cd, hc, _⟩ := any_some c.dct
  unfold clsIn at hc
  split at hc
  · rename_i c' d' cd' sl' ho
    exact ⟨_, _, ho, rfl⟩
  · cases hc
theorem kitx_held (c : XCls K D) : KitX K (.ref x) (.ref D) (fun h => InstAt h x ox D od) where
  ty := fun _ _ _ I => I.type
  it := fun _ _ X _ => by
    obtain ⟨o, cd, ho, hd⟩ := no_list c
    intro A' Q' E' s' k q
    unfold isType loadHead
    refine wpAny_bind (wpAny_loadPart (k _ _ (X _ _ ho)) ?_)
    rw [hd]
    exact wpAny_pure q
  ne := fun h tp dd its n sl X htp => by
    refine Bool.eq_false_iff.mpr fun q => ?_
    have e : D = tp := Value.ref.inj (beq_iff_eq.mp q)
    obtain ⟨o, cd, ho, hd⟩ := no_list c
    have z := X _ _ ho
    rw [e, htp] at z
    cases z
    cases hd
  ca := fun X I k => class_of c X I k
end
end Lw.Hx
namespace Lw
open PySem PySem.Spec PyProof.Rows L2

/-- a value's kind: an exception's that is held, too -/
inductive TyW (K : PySem.W.Frag) (H : Hp) : V → Value → Prop where
  | z {v : V} {t : Value} (h : TyZ K H v t) : TyW K H v t
  | held {a D dd : Addr} {fs : List (Str × V)} (e : H a = some (ExO a (.ref D) (some dd))) (hd : H dd = some (.xd fs)) (c : Hx.XCls K D) : TyW K H (.ref a) (.ref D)
def rIsw (K : PySem.W.Frag) : List V → Hp → VK → Prop := fun xs H Q => ∃ (x c : V) (t u : Value) (b : Bool), xs = [x, c] ∧ ClsV c u ∧ TyW K H x t ∧ PySem.W.kitOne K t u = some b ∧ Q (.bl b) H
theorem call_isw {X : Cx} : CallR X (.builtin "isinstance") (rIsw X.K) := by
  intro pins s σ H xs us Q I r h
  obtain ⟨x, c, t, u, b, rfl, k, ty, e, q⟩ := h
  cases ty with
  | z ty => exact call_isz pins s σ H _ us Q I r ⟨x, c, t, u, b, rfl, k, ty, e, q⟩
  | @held a D dd fs ea hd cl =>
    obtain ⟨w1, w2, rfl, r1, r2⟩ := vals2 r
    obtain rfl := k.eq r2
    obtain rfl : w1 = Value.ref a := r1
    obtain ⟨o, od, J, _⟩ := held_inst I ea hd
    exact PySem.W.kia_one (Hx.kitx_held cl) I.kIn J e (fun z => by cases z) fun tk => ⟨.bl b, H, I.tok tk, rfl, q⟩
end Lw
namespace Lw
open PySem PySem.Spec PyProof.Rows L2

/-! ### C.m(e, ..), m a static method -/
structure SMet (K : PySem.W.Frag) (C : Addr) (m : Str) (p g : Addr) : Prop where
  mc : ∃ mc, PySem.W.typeIn K (.ref C) = some mc ∧ PySem.W.readsIn K C mc = true ∧ PySem.W.findCls K (.ref C) mc m = some (.get (.builtin "staticmethod.__get__") (.ref p) .none (.ref C))
  ga : PySem.W.specialIn K (.ref C) "__getattribute__" = some (some (.builtin "type.__getattribute__"))
  rc : ∃ rest, PySem.W.recIn K p "staticmethod" = some (.ref g :: rest)
  kp : PySem.W.keepIn K (.ref g) = true
def tStatic (C : Addr) (sp : Sp) (dvs : List V) (E : XK) (ta : TE) (t : TA) : TE := fun σ H Q => ta σ H fun x H1 => x = .ref C ∧ t σ H1 fun vs H2 => sp (vs ++ dvs) H2 Q E
section
variable {X : Cx} {CX : CXT} {C p g : Addr} {k : Nat} {fd : FuncData} {ps : List Str} {sp : Sp} {E : XK} {ds : List Value} {dvs : List V} {o e : Expr} {es : List Expr} {m : Str} {pos apos : Pos} {ta : TE} {t : TA} {pl : Sem Bool}
theorem pe_static (he : PE X o ta) (c : SMet X.K C m p g) (F : FnOk X.prog X.w X.K X.mg X.base CX k g fd ps sp) (hr : Room k X.A) (b : Binds X.K fd ps ds) (d : Vals dvs ds) (hx : Passes CX X E) (ha : PA X (e :: es) t)
    (hst : starEach (e :: es) X.env = (false, eval e X.env) :: starEach es X.env := by rfl) (hpl : (backTo pos (starEach es X.env)).any (·.1) = false := by rfl)
    (ht : eval (.Call (.Attribute o m apos) (e :: es) [] pos) X.env = (do
      let ov ← eval o X.env
      standAt apos.atName
      let (f, first) ← holding [ov] (getMethod ov m pl)
      callWith pos f first (backTo pos (starEach (e :: es) X.env)) (backToKw pos (keywordEach [] X.env))) := by rfl) :
    PE X (.Call (.Attribute o m apos) (e :: es) [] pos) (tStatic C sp dvs E ta t) := by
  refine ⟨fun pins s σ H Q I h => ?_⟩
  refine PySem.W.methodCall_KW (pl := pl) (thn (he.run pins s σ H _ I h) fun u s1 ⟨x, H1, I1, rx, ex, q⟩ => ?_) ht
  subst ex
  obtain rfl : u = Value.ref C := rx
  obtain ⟨mc, h1, h2, h3⟩ := c.mc
  obtain ⟨rest, h4⟩ := c.rc
  obtain ⟨fm, hF⟩ := I1.fr
  refine PySem.W.method_cls I1.kIn c.ga (PySem.W.cls_sm hF I1.ok.mod.kin h1 h2 h3 h4 rfl ?_)
  have I2 : Inv X pins σ H1 { s1 with toks := s1.toks + 1 } := I1.tok _
  refine PySem.W.callWith_K (h₀ := X.base) I2.ok.mod.kin c.kp (thn (ha.run pos pins _ σ H1 _ I2 q) fun us s3 ⟨vs, H2, I3, rv, q2⟩ => ⟨I3.kIn, ?_⟩) hst hpl
  exact run_fn F hr b d hx I3 rv q2
end
end Lw
namespace Lw
open PySem PySem.Spec PyProof.Rows L2

section
variable {X : Cx} {f : Value → Value → Sem Value} {r1 r2 : R2}
/-- one of two rules serves -/
theorem op_or (h1 : OpR X f r1) (h2 : OpR X f r2) : OpR X f (fun x y H Q => r1 x y H Q ∨ r2 x y H Q) := fun pins s σ H x y v u Q I rx ry h => h.elim (h1 pins s σ H x y v u Q I rx ry) (h2 pins s σ H x y v u Q I rx ry)
theorem call_or {f : Value} {c1 c2 : List V → Hp → VK → Prop} (h1 : CallR X f c1) (h2 : CallR X f c2) : CallR X f (fun xs H Q => c1 xs H Q ∨ c2 xs H Q) := fun pins s σ H xs us Q I r h => h.elim (h1 pins s σ H xs us Q I r) (h2 pins s σ H xs us Q I r)
theorem un_or {f : Value → Sem Value} {c1 c2 : V → Hp → VK → Prop} (h1 : UnR X f c1) (h2 : UnR X f c2) : UnR X f (fun x H Q => c1 x H Q ∨ c2 x H Q) := fun pins s σ H x v Q I r h => h.elim (h1 pins s σ H x v Q I r) (h2 pins s σ H x v Q I r)
/-- an expression that two readings serve -/
theorem pe_or {e : Expr} {t1 t2 : TE} (h1 : PE X e t1) (h2 : PE X e t2) : PE X e (fun σ H Q => t1 σ H Q ∨ t2 σ H Q) := ⟨fun pins s σ H Q I h => h.elim (h1.run pins s σ H Q I) (h2.run pins s σ H Q I)⟩
theorem ps_or {st : Stmt} {t1 t2 : TS} (h1 : PS X st t1) (h2 : PS X st t2) : PS X st (fun D σ H => t1 D σ H ∨ t2 D σ H) := ⟨fun pins s σ H D I h => h.elim (h1.run pins s σ H D I) (h2.run pins s σ H D I)⟩
end
end Lw
namespace Lw
open PySem PySem.Spec PyProof.Rows L2

abbrev sErr : Stmt := inClass (top 6) 0
def spErr (C : Addr) : Sp := fun vs H Q _ => ∃ (a : Addr) (v : V), vs = [.ref a, v] ∧ H a = some (exo a C none) ∧ ∀ dx, H dx = none → dx ≠ a → Q .non (upd (upd H dx (exd dx [("value", v)])) a (exo a C (some dx)))
section
variable {P : Program} {w : World} {K : PySem.W.Frag} {mg : Str → Option Value} {base : Heap}
theorem scErr : FnScope ["self", "value"] ["self", "value"] (C8.fnScope sErr) := C8.fnScope_by (by decide +kernel)
theorem fn_err {C f : Addr} {fd : FuncData} (F : C8.Fun K "__init__" "BadRatio.__init__" sErr f fd) (T : OexC K C) (no : PySem.W.findIn K (.ref C) "value" = some none) : FnOk P w K mg base C8.CX0 1 f fd ["self", "value"] (spErr C) := by
  refine C8.fn0 F scErr (fun vs H Q E h => ?_) (fun cdv A outer st H vs Q E hr h => ?_)
  · obtain ⟨a, v, rfl, _⟩ := h
    rfl
  · obtain ⟨a, v, rfl, ha, k⟩ := h
    refine ⟨_, (pss_one (ps_ost (pv 0) (pv 1))), ?_⟩
    exact ⟨_, rfl, _, rfl, a, C, rfl, T, no, .inl ⟨ha, fun dx h1 h2 => k dx h1 h2⟩⟩
end
section
variable {X : Cx} {C fI : Addr} {fd : FuncData} {W : WX} {j : Nat} {e : Expr} {te : TE} {p pos pos2 : Pos}
/-- raise X(e), X such a class -/
def tBad (C : Addr) (W : WX) (te : TE) : TS := fun _ σ H => tMkO C (spErr C) [] (tCons te tNil) σ H fun cls d H' => W cls d σ H'
theorem ps_bad {x : Str} (hc : X.calm = true) (tk : Takes X W) (T : OexC X.K C) (iC : PySem.W.findIn X.K (.ref C) "__init__" = some (some (.ref fI))) (tI : PySem.W.typeIn X.K (.ref fI) = some (.type "function")) (F : FnOk X.prog X.w X.K X.mg X.base C8.CX0 1 fI fd ["self", "value"] (spErr C)) (hr : Room (j + 2) X.A) (hb : Binds X.K fd ["self", "value"] [])
    (hg : Gl X x) (hm : X.mg x = some (.ref C)) (he : PE X e te) (hst : starEach [e] X.env = (false, eval e X.env) :: starEach [] X.env := by rfl) (hdb : (x == ("__debug__" : Str)) = false := by decide) (hpl : (backTo pos (starEach [] X.env)).any (·.1) = false := by rfl) :
    PS X (.Raise (some (.Call (.Name x p) [e] [] pos)) none pos2) (tBad C W te) :=
  ps_raise hc tk (pmk_oex T iC tI F (hr.mono (by omega)) hb .nil C8.pass0 hg hm (pa_cons he pa_nil hst) hdb hst hpl)
/-- what is left to show at the leaf: the exception's dict is new, it holds the value -/
theorem bad_leaf {H1 : Hp} {v : V} {Q : XK} (k : ∀ d, H1 d = none → Q (.ref C) (some d) (upd H1 d (.xd [("value", v)]))) :
    ([v] : List V).length ≤ 1000 ∧ ∀ a, H1 a = none → spErr C (.ref a :: ([v] ++ [])) (upd H1 a (exo a C none)) (fun z H2 => z = .non ∧ ∃ (d : Addr) (fs : List (Str × V)), H2 a = some (exo a C (some d)) ∧ H2 d = some (exd d fs) ∧ H1 d = none ∧ Q (.ref C) (some d) (upd (del H2 a) d (.xd fs))) (fun _ _ _ => False) := by
  refine ⟨(by show 1 ≤ 1000; decide), fun a ha => ⟨a, v, rfl, upd_same, fun dx h1 h2 => ?_⟩⟩
  rw [upd_ne h2] at h1
  refine ⟨rfl, dx, [("value", v)], upd_same, by rw [upd_ne h2]; exact upd_same, h1, ?_⟩
  have e : upd (del (upd (upd (upd H1 a (exo a C none)) dx (exd dx [("value", v)])) a (exo a C (some dx))) a) dx (.xd [("value", v)]) = upd H1 dx (.xd [("value", v)]) := by
    funext b
    by_cases q : b = dx
    · rw [q, upd_same, upd_same]
    · rw [upd_ne q, upd_ne q]
      by_cases q2 : b = a
      · rw [q2, del_same, ha]
      · rw [del_ne q2, upd_ne q2, upd_ne q, upd_ne q2]
  rw [e]
  exact k dx h1
end
end Lw
namespace Lw
open PySem PySem.Spec PyProof.Rows L2

/-- i // j, j of any sign, not too long -/
theorem op_fdivS {X : Cx} : OpR X (binaryOp .FloorDiv) (rI (fun _ j => j ≠ 0 ∧ j.natAbs.log2 < 9000) fun i j => .int (i.fdiv j)) := opI fun i j _ _ _ _ _ hc q => by
  exact floordiv_int hc.1 q (.inl (PyProof.noPylong_of_log2 hc.2))
end Lw
namespace Lw
open PySem PySem.Spec PyProof.Rows L2

open LamX
abbrev sRat : Stmt := inClass (top 15) 0
/-- the error's class, ready to be raised -/
structure Err (P : Program) (w : World) (K : PySem.W.Frag) (mg : Str → Option Value) (base : Heap) (D fE : Addr) (fdE : FuncData) : Prop where
  T : OexC K D
  iC : PySem.W.findIn K (.ref D) "__init__" = some (some (.ref fE))
  tI : PySem.W.typeIn K (.ref fE) = some (.type "function")
  F : FnOk P w K mg base C8.CX0 1 fE fdE ["self", "value"] (spErr D)
  b : Binds K fdE ["self", "value"] []
  hm : mg "BadRatio" = some (.ref D)
/-- the divisor that __init__ takes -/
def com (i j : Int) : Int := if 0 < j then ((Nat.gcd i.natAbs j.natAbs : Nat) : Int) else -((Nat.gcd i.natAbs j.natAbs : Nat) : Int)
def flds (o u : Int) : List (Str × V) := putF "under" (.int u) (putF "over" (.int o) [])
/-- Ratio(over, under): what it makes, what it raises -/
def spRat (K : PySem.W.Frag) (C D : Addr) : Sp := fun vs H Q E => ∃ (x dx : Addr) (va vb : V), vs = [.ref x, va, vb] ∧ Anyv K H va ∧ Anyv K H vb ∧ H x = some (.ins C dx []) ∧
  (isI va = false → ∀ d, H d = none → E (.ref D) (some d) (upd H d (.xd [("value", va)]))) ∧
  (isI va = true → isI vb = false ∨ vb = .int 0 → ∀ d, H d = none → E (.ref D) (some d) (upd H d (.xd [("value", vb)]))) ∧
  (∀ i j, va = .int i → vb = .int j → j ≠ 0 → Small i ∧ Small j ∧ Q .non (upd H x (.ins C dx (flds (i.fdiv (com i j)) (j.fdiv (com i j))))))
section
variable {P : Program} {w : World} {K : PySem.W.Frag} {mg : Str → Option Value} {base : Heap}
theorem scRat : FnScope ["self", "over", "under", "common"] ["self", "over", "under"] (C8.fnScope sRat) := C8.fnScope_by (by decide +kernel)
theorem fn_rat {C D f fE : Addr} {fd fdE : FuncData} (F : C8.Fun K "__init__" "Ratio.__init__" sRat f fd) (cl : Cls K C) (n1 : NoAttr K C "over") (n2 : NoAttr K C "under") (hgcd : mg "gcd" = some (.builtin "math.gcd")) (DI : C8.Cal P w K mg base 1 "is_integer" (spIsInt K) [])
    (ER : Err P w K mg base D fE fdE) : FnOk P w K mg base (L2.CX P w) 3 f fd ["self", "over", "under"] (spRat K C D) := by
  obtain ⟨oc, od, dV, kV, doc, pm, an, cdv, ct, osl, rfl, lk, hcd⟩ := F.ex
  refine fn_of lk hcd scRat (fun vs H Q E h => ?_) fun A outer s H vs Q E hr h => ?_
  · obtain ⟨x, dx, va, vb, rfl, _⟩ := h
    rfl
  · obtain ⟨x, dx, va, vb, rfl, aa, ab, hx, k1, k2, k3⟩ := h
    have tk : Takes (cxOf (L2.CX P w) P w K mg base ["self", "over", "under", "common"] "Ratio.__init__" (C8.fnScope sRat) f cdv A outer s H E) (fun cls d _ H' => E cls d H') := takes_of rfl rfl rfl rfl
    refine ⟨_, (pss_cons (ps_if (pt_not (pt_val (C8.pe_c DI hr (by decide) (by rfl) (pa_cons (pv 1) pa_nil)))) (pss_one (ps_bad (x := "BadRatio") rfl tk ER.T ER.iC ER.tI ER.F hr ER.b (by rfl) ER.hm (pv 1))) pss_nil)
  (pss_cons (ps_if (PW.pt (pw_or (pt_not (pt_val (C8.pe_c DI hr (by decide) (by rfl) (pa_cons (pv 2) pa_nil)))) (pw_or1 (pt_cmpR op_eq (pv 2) pe_int (nomark _))))) (pss_one (ps_bad (x := "BadRatio") rfl tk ER.T ER.iC ER.tI ER.F hr ER.b (by rfl) ER.hm (pv 2))) pss_nil)
  (pss_cons (ps_set (i := 3) scRat.nd rfl (Or.inl rfl) (pe_ifExp (pt_cmpR op_gt (pv 2) pe_int (nomark _)) (pe_callBfun cr_gcd (by rfl) hgcd (pa_cons (pv 1) (pa_cons (pv 2) pa_nil))) (pe_un un_neg (pe_callBfun cr_gcd (by rfl) hgcd (pa_cons (pv 1) (pa_cons (pv 2) pa_nil))))))
  (pss_cons (ps_fld (pv 0) (pe_op op_fdivS (pv 1) (pv 3)) rfl)
  (pss_one (ps_fld (pv 0) (pe_op op_fdivS (pv 2) (pv 3)) rfl)))))), ?_⟩
    refine ⟨_, rfl, va, rfl, aa, _, rfl, ?_⟩
    cases hv : isI va with
    | false => exact iteT ⟨_, rfl, bad_leaf (k1 hv)⟩
    | true =>
      obtain ⟨i, rfl⟩ : ∃ i, va = V.int i := by cases va <;> first | exact ⟨_, rfl⟩ | (cases hv)
      refine iteF ⟨_, rfl, vb, rfl, ab, _, rfl, ?_⟩
      cases hw : isI vb with
      | false => exact iteT (iteT ⟨_, rfl, bad_leaf (k2 hv (.inl hw))⟩)
      | true =>
        obtain ⟨j, rfl⟩ : ∃ j, vb = V.int j := by cases vb <;> first | exact ⟨_, rfl⟩ | (cases hw)
        refine iteF ⟨_, rfl, rfl, _, rfl, ite2 (fun c => ⟨_, rfl, bad_leaf (k2 hv (.inr (of_decide_eq_true c)))⟩) (fun c => ?_)⟩
        have j0 : j ≠ 0 := fun e => c (decide_eq_true (by rw [e]))
        obtain ⟨si, sj, k⟩ := k3 i j rfl rfl j0
        have g0 : 0 < Nat.gcd i.natAbs j.natAbs := Nat.gcd_pos_of_pos_right _ (by omega)
        have gs : Small ((Nat.gcd i.natAbs j.natAbs : Nat) : Int) := by
          unfold Small
          rw [Int.natAbs_natCast]
          exact Nat.lt_of_le_of_lt (Nat.gcd_le_right _ (by omega)) sj
        have c0 : com i j ≠ 0 ∧ (com i j).natAbs.log2 < 9000 := by
          have l := small_log gs
          unfold com
          split
          · exact ⟨by omega, by omega⟩
          · exact ⟨by omega, by rw [Int.natAbs_neg]; omega⟩
        dsimp only [tNext, tSeq]
        refine join_any (fun σ' H' => σ' = [some (V.ref x), some (V.int i), some (V.int j), some (V.int (com i j))] ∧ H' = H) ?r (fun go => ?_)
        case r =>
          rintro σ' H' ⟨rfl, rfl⟩
          refine ⟨_, rfl, _, rfl, _, _, rfl, rfl, c0, _, rfl, x, C, dx, [], rfl, hx, cl, n1, (by show 0 < 1000; decide), ?_⟩
          refine ⟨_, rfl, _, rfl, _, _, rfl, rfl, c0, _, rfl, x, C, dx, _, rfl, upd_same, cl, n2, (by show 1 < 1000; decide), ?_⟩
          rw [upd_upd]
          exact k
        refine ⟨_, rfl, _, _, rfl, rfl, _, rfl, ite2 (fun c => ?_) (fun c => ?_)⟩
        · exact ⟨_, rfl, _, rfl, _, _, rfl, go _ _ ⟨by rw [show com i j = _ from if_pos (of_decide_eq_true c)]; rfl, rfl⟩⟩
        · exact ⟨_, rfl, _, rfl, _, _, rfl, _, rfl, go _ _ ⟨by rw [show com i j = _ from if_neg (fun z => c (decide_eq_true z))]; rfl, rfl⟩⟩
end
end Lw
namespace Lw
open PySem PySem.Spec PyProof.Rows L2

theorem fdiv_com {i j k : Int} (hj : j ≠ 0) : k.fdiv (com i j) = sg j * k / ((Nat.gcd i.natAbs j.natAbs : Nat) : Int) := by
  have g0 : 0 < Nat.gcd i.natAbs j.natAbs := Nat.gcd_pos_of_pos_right _ (by omega)
  by_cases c : 0 < j
  · rw [show com i j = _ from if_pos c, show sg j = 1 from if_pos c, Int.one_mul, Int.fdiv_eq_ediv_of_nonneg _ (by omega)]
  · rw [show com i j = _ from if_neg c, show sg j = -1 from if_neg c]
    have e : k.fdiv (-((Nat.gcd i.natAbs j.natAbs : Nat) : Int)) = (-k).fdiv ((Nat.gcd i.natAbs j.natAbs : Nat) : Int) := by
      rw [← Int.neg_fdiv_neg, Int.neg_neg]
    rw [e, Int.fdiv_eq_ediv_of_nonneg _ (by omega)]
    congr 1
    omega
theorem made_over {i j : Int} (hj : j ≠ 0) : i.fdiv (com i j) = lov i j := fdiv_com hj
theorem made_under {i j : Int} (hj : j ≠ 0) : j.fdiv (com i j) = lun i j := fdiv_com hj
/-- a Ratio of the numbers o, u stands at a -/
def RatAt (C : Addr) (H : Hp) (a : Addr) (o u : Int) : Prop := ∃ dx, H a = some (.ins C dx (flds o u))
theorem flds_over (o u : Int) : (flds o u).lookup ("over" : Str) = some (.int o) := by
  unfold flds
  rw [lookup_putF, if_neg (by decide +kernel), lookup_putF, if_pos rfl]
theorem flds_under (o u : Int) : (flds o u).lookup ("under" : Str) = some (.int u) := by
  unfold flds
  rw [lookup_putF, if_pos rfl]
/-- the least form: what is below is positive, and nothing divides both -/
theorem lun_pos {t b : Int} (h : b ≠ 0) : 0 < lun t b := by
  have g0 : 0 < Nat.gcd t.natAbs b.natAbs := Nat.gcd_pos_of_pos_right _ (by omega)
  have hs : sg b * b = (b.natAbs : Int) := by unfold sg; split <;> omega
  unfold lun
  rw [hs]
  have h1 : Nat.gcd t.natAbs b.natAbs ≤ b.natAbs := Nat.gcd_le_right _ (by omega)
  exact Int.ediv_pos_of_pos_of_dvd (by omega) (by omega) (Int.natCast_dvd_natCast.mpr (Nat.gcd_dvd_right _ _))
end Lw
namespace Lw
open PySem PySem.Spec PyProof.Rows L2
theorem TyX.same {K : PySem.W.Frag} {H H' : Hp} {v : V} {t : Value} (s : Same H H') (h : TyX K H v t) : TyX K H' v t := by
  cases h with
  | base h =>
    refine .base ?_
    cases h with
    | non => exact .non
    | bl x => exact .bl x
    | int i => exact .int i
    | str x => exact .str x
    | flt x => exact .flt x
    | lst e => exact .lst (s _ _ e)
    | frz e => exact .frz (s _ _ e)
    | tup e => exact .tup (s _ _ e)
    | dK e => exact .dK (s _ _ e)
    | dT e => exact .dT (s _ _ e)
    | ins e cl ha hn htk hm => exact .ins (s _ _ e) cl ha hn htk hm
  | byt b => exact .byt b
  | set e => exact .set (s _ _ e)
  | kList e c => exact .kList e c
  | kTuple e c => exact .kTuple e c
  | kDict e c => exact .kDict e c
  | fTuple e => exact .fTuple (s _ _ e)
  | fDict e => exact .fDict (s _ _ e)
theorem TyZ.same {K : PySem.W.Frag} {H H' : Hp} {v : V} {t : Value} (s : Same H H') (h : TyZ K H v t) : TyZ K H' v t := by
  cases h with
  | x h => exact .x (Lw.TyX.same s h)
  | fn e => exact .fn (s _ _ e)
theorem Anyv.same {K : PySem.W.Frag} {H H' : Hp} {v : V} (s : Same H H') (h : Anyv K H v) : Anyv K H' v := by
  cases h with
  | int i => exact .int i
  | non => exact .non
  | bl b => exact .bl b
  | str z => exact .str z
  | obj h h1 h2 h3 => exact .obj (Lw.TyZ.same s h) h1 h2 h3
end Lw
namespace Lw
open PySem PySem.Spec PyProof.Rows L2

open LamX
abbrev sOf : Stmt := inClass (top 15) 1
/-- the class of the ratios, ready to be made of one or two values -/
structure RatM (P : Program) (w : World) (K : PySem.W.Frag) (mg : Str → Option Value) (base : Heap) (C D f : Addr) (fd : FuncData) (ds : List Value) : Prop where
  M : Mk K C f
  F : FnOk P w K mg base (L2.CX P w) 3 f fd ["self", "over", "under"] (spRat K C D)
  hm : mg "Ratio" = some (.ref C)
  b1 : Binds K fd ["self", "over", "under"] ds
  d1 : Vals [.int 1] ds
  b2 : Binds K fd ["self", "over", "under"] []
/-- Ratio.of(value) -/
def spOf (K : PySem.W.Frag) (C D : Addr) : Sp := fun vs H Q E => ∃ v : V, vs = [v] ∧
  ((∃ a dx fs, v = .ref a ∧ H a = some (.ins C dx fs) ∧ Q v H) ∨
   (∃ t, Anyv K H v ∧ TyZ K H v t ∧ PySem.W.kitOne K t (.ref C) = some false ∧ (∀ i, v = .int i → Small i ∧ ∀ a H', Same H H' → H a = none → RatAt C H' a (lov i 1) (lun i 1) → Q (.ref a) H') ∧
     (isI v = false → ∀ d H', Same H H' → H' d = none → E (.ref D) (some d) (upd H' d (.xd [("value", v)])))))
section
variable {P : Program} {w : World} {K : PySem.W.Frag} {mg : Str → Option Value} {base : Heap}
theorem scOf : FnScope ["value"] ["value"] (C8.fnScope sOf) := C8.fnScope_by (by decide +kernel)
theorem fn_of' {C D f g : Addr} {fd fdg : FuncData} {ds : List Value} (F : C8.Fun K "of" "Ratio.of" sOf g fdg) (T : Txt mg) (I : C8.InsC K C) (RM : RatM P w K mg base C D f fd ds) : FnOk P w K mg base (L2.CX P w) 5 g fdg ["value"] (spOf K C D) := by
  obtain ⟨oc, od, dV, kV, doc, pm, an, cdv, ct, osl, rfl, lk, hcd⟩ := F.ex
  refine fn_of lk hcd scOf (fun vs H Q E h => ?_) fun A outer s H vs Q E hr h => ?_
  · obtain ⟨v, rfl, _⟩ := h
    rfl
  · obtain ⟨v, rfl, h⟩ := h
    refine ⟨_, (pss_one (ps_ret (pe_ifExp (pt_val (pe_callB call_isz (by rfl) T.n_isinstance (by decide +kernel) (pa_cons (pv 0) (pa_cons (pe_glob (v := .ref C) (by rfl) RM.hm rfl) pa_nil)))) (pv 0) (pe_make RM.M RM.F (hr.mono (by decide)) (by rfl) RM.hm RM.b1 RM.d1 (passes_call (takes_of rfl rfl rfl rfl) (fun _ _ _ _ z => z)) (pa_cons (pv 0) pa_nil))))), ?_⟩
    rcases h with ⟨a, dx, fs, rfl, ha, k⟩ | ⟨t, av, ty, hk, k1, k2⟩
    · refine ⟨_, rfl, _, .ref C, .ref C, .ref C, true, rfl, .own C, .x (.base (.ins ha I.cl I.ha I.hn I.htk I.hm)), I.me, _, rfl, iteT ⟨_, rfl, k⟩⟩
    · refine ⟨_, rfl, _, .ref C, t, .ref C, false, rfl, .own C, ty, hk, _, rfl, iteF ⟨_, rfl, fun x dx hx hdx ne => ?_⟩⟩
      have s1 : Same H (upd H dx (.own x)) := same_new hdx
      have hx1 : upd H dx (.own x) x = none := by rw [upd_ne ne.symm]; exact hx
      have s2 := s1.trans (same_new (o := HO.ins C dx []) hx1)
      refine ⟨x, dx, v, .int 1, rfl, Lw.Anyv.same s2 av, .int 1, upd_same, fun hv d hd => k2 hv d _ s2 hd, fun _ h2 => ?_, fun i j e1 e2 hj => ?_⟩
      · rcases h2 with h2 | h2
        · cases h2
        · cases h2
      · cases e2
        obtain ⟨si, k⟩ := k1 i e1
        refine ⟨si, by show 1 < 2 ^ 4000; exact Nat.one_lt_two_pow (by decide), rfl, ?_⟩
        rw [upd_upd, made_over hj, made_under hj]
        exact k x _ (s1.trans (same_new hx1)) hx ⟨dx, upd_same⟩
end
end Lw
namespace Lw
open PySem PySem.Spec PyProof.Rows L2

open LamX
abbrev sAdd : Stmt := inClass (top 15) 4
/-- Ratio.of, ready to be called -/
structure OfM (P : Program) (w : World) (K : PySem.W.Frag) (mg : Str → Option Value) (base : Heap) (C D p g : Addr) (fdg : FuncData) : Prop where
  S : SMet K C "of" p g
  F : FnOk P w K mg base (L2.CX P w) 5 g fdg ["value"] (spOf K C D)
  b : Binds K fdg ["value"] []
/-- an integer that may be reckoned with once more -/
def Mid (i : Int) : Prop := i.natAbs < 2 ^ 1200
/-- v is the number p / q -/
inductive NumAt (K : PySem.W.Frag) (C : Addr) (H : Hp) : V → Int → Int → Prop where
  | rat {a : Addr} {p q : Int} (h : RatAt C H a p q) (h0 : 0 < q) (hp : Mid p) (hq : Mid q) : NumAt K C H (.ref a) p q
  | int {i : Int} (hi : Mid i) (hk : PySem.W.kitOne K (.type "int") (.ref C) = some false) : NumAt K C H (.int i) i 1
theorem Mid.small {i : Int} (h : Mid i) : Small i := Nat.lt_trans h (Nat.pow_lt_pow_right (by decide) (by decide))
theorem lov_one (i : Int) : lov i 1 = i ∧ lun i 1 = 1 := by
  have g : Nat.gcd i.natAbs (1 : Int).natAbs = 1 := Nat.gcd_one_right _
  unfold lov lun
  rw [g]
  constructor
  · show 1 * i / 1 = i
    omega
  · decide
theorem mul_mid {i j : Int} (h1 : Mid i) (h2 : Mid j) : (i * j).natAbs < 2 ^ 2400 := by
  rw [Int.natAbs_mul, show (2400 : Nat) = 1200 + 1200 from rfl, Nat.pow_add]
  exact Nat.mul_lt_mul'' h1 h2
theorem mid_mul {i j : Int} (h1 : Mid i) (h2 : Mid j) : CMulW i j := by
  have a := small_log h1.small
  have b := small_log h2.small
  show i.natAbs.log2 + j.natAbs.log2 < 1000000
  omega
theorem small_of {i : Int} (h : i.natAbs < 2 ^ 2402) : Small i := Nat.lt_trans h (Nat.pow_lt_pow_right (by decide) (by decide))
/-- what is told when the other value is no number -/
def Refuses (K : PySem.W.Frag) (C D : Addr) (v : V) (H : Hp) (E : XK) : Prop := ∃ t, Anyv K H v ∧ TyZ K H v t ∧ PySem.W.kitOne K t (.ref C) = some false ∧ isI v = false ∧ ∀ d H', Same H H' → H' d = none → E (.ref D) (some d) (upd H' d (.xd [("value", v)]))
/-- a new ratio t / b -/
def News (C : Addr) (H : Hp) (Q : VK) (t b : Int) : Prop := ∀ c H', Same H H' → H c = none → RatAt C H' c (lov t b) (lun t b) → Q (.ref c) H'
def spAdd (K : PySem.W.Frag) (C D : Addr) : Sp := fun vs H Q E => ∃ (a : Addr) (v : V) (o u : Int), vs = [.ref a, v] ∧ NumAt K C H (.ref a) o u ∧
  ((∃ p q, NumAt K C H v p q ∧ News C H Q (o * q + p * u) (u * q)) ∨ Refuses K C D v H E)
section
variable {P : Program} {w : World} {K : PySem.W.Frag} {mg : Str → Option Value} {base : Heap}
theorem scAdd : FnScope ["self", "other", "added"] ["self", "other"] (C8.fnScope sAdd) := C8.fnScope_by (by decide +kernel)
theorem fn_add {C D f g f1 pO : Addr} {fd fdg fd1 : FuncData} {ds : List Value} (F : C8.Fun K "__add__" "Ratio.__add__" sAdd f1 fd1) (RM : RatM P w K mg base C D f fd ds) (OM : OfM P w K mg base C D pO g fdg) (cl : Cls K C) (n1 : NoAttr K C "over") (n2 : NoAttr K C "under") : FnOk P w K mg base (L2.CX P w) 7 f1 fd1 ["self", "other"] (spAdd K C D) := by
  obtain ⟨oc, od, dV, kV, doc, pm, an, cdv, ct, osl, rfl, lk, hcd⟩ := F.ex
  refine fn_of lk hcd scAdd (fun vs H Q E h => ?_) fun A outer s H vs Q E hr h => ?_
  · obtain ⟨a, v, o, u, rfl, _⟩ := h
    rfl
  · obtain ⟨a, v, o, u, rfl, na, h⟩ := h
    obtain ⟨⟨dxa, ha⟩, u0, mo, mu⟩ : RatAt C H a o u ∧ 0 < u ∧ Mid o ∧ Mid u := by
      cases na with
      | rat h h0 hp hq => exact ⟨h, h0, hp, hq⟩
    refine ⟨_, (pss_cons (ps_set (i := 2) scAdd.nd rfl (Or.inl rfl) (pe_static (pe_glob (v := .ref C) (by rfl) RM.hm rfl) OM.S OM.F (hr.mono (by decide)) OM.b .nil (passes_call (takes_of rfl rfl rfl rfl) (fun _ _ _ _ z => z)) (pa_cons (pv 1) pa_nil)))
  (pss_one (ps_ret (pe_make RM.M RM.F (hr.mono (by decide)) (by rfl) RM.hm RM.b2 .nil (passes_call (takes_of rfl rfl rfl rfl) (fun _ _ _ _ z => z)) (pa_cons (pe_op op_add (pe_op op_mulW (pe_fld (pv 0) rfl) (pe_fld (pv 2) rfl)) (pe_op op_mulW (pe_fld (pv 2) rfl) (pe_fld (pv 0) rfl))) (pa_cons (pe_op op_mulW (pe_fld (pv 0) rfl) (pe_fld (pv 2) rfl)) pa_nil)))))), ?_⟩
    dsimp only [tSeq]
    refine join_any (fun σ' H' => ∃ b p q, σ' = [some (V.ref a), some v, some (V.ref b)] ∧ Same H H' ∧ RatAt C H' b p q ∧ 0 < q ∧ Mid p ∧ Mid q ∧ News C H Q (o * q + p * u) (u * q)) ?rest (fun go => ?_)
    case rest =>
      rintro σ' H' ⟨b, p, q, rfl, s1, ⟨dxb, hb⟩, q0, mp, mq, new⟩
      have ha' := s1 _ _ ha
      refine ⟨_, rfl, a, C, dxa, _, _, rfl, ha', cl, n1, flds_over o u, _, rfl, b, C, dxb, _, _, rfl, hb, cl, n2, flds_under p q, _, _, rfl, rfl, mid_mul mo mq, ?_⟩
      refine ⟨_, rfl, b, C, dxb, _, _, rfl, hb, cl, n1, flds_over p q, _, rfl, a, C, dxa, _, _, rfl, ha', cl, n2, flds_under o u, _, _, rfl, rfl, mid_mul mp mu, _, _, rfl, rfl, ?_⟩
      refine ⟨_, rfl, a, C, dxa, _, _, rfl, ha', cl, n2, flds_under o u, _, rfl, b, C, dxb, _, _, rfl, hb, cl, n2, flds_under p q, _, _, rfl, rfl, mid_mul mu mq, fun x dx hx hdx ne => ?_⟩
      have s2 : Same H' (upd H' dx (.own x)) := same_new hdx
      have hx1 : upd H' dx (.own x) x = none := by rw [upd_ne ne.symm]; exact hx
      have b0 : 0 < u * q := Int.mul_pos u0 q0
      have w1 := mul_mid mo mq
      have w2 := mul_mid mp mu
      have w3 := mul_mid mu mq
      refine ⟨x, dx, .int (o * q + p * u), .int (u * q), rfl, .int _, .int _, upd_same, (fun h => by cases h), fun _ h2 => ?_, fun i j e1 e2 hj => ?_⟩
      · rcases h2 with h2 | h2
        · cases h2
        · have := V.int.inj h2
          omega
      · cases e1
        cases e2
        refine ⟨small_of (Nat.lt_of_le_of_lt (Int.natAbs_add_le _ _) (by rw [show (2402 : Nat) = 2400 + 2 from rfl, Nat.pow_add]; omega)), small_of (Nat.lt_trans w3 (Nat.pow_lt_pow_right (by decide) (by decide))), rfl, ?_⟩
        rw [upd_upd, made_over hj, made_under hj]
        exact new x _ ((s1.trans s2).trans (same_new hx1)) (s1.free hx) ⟨dx, upd_same⟩
    refine ⟨rfl, _, rfl, v, rfl, ?_⟩
    rcases h with ⟨p, q, nv, new⟩ | ⟨t, av, ty, hk, hv, k⟩
    · cases nv with
      | rat h h0 hp hq =>
        obtain ⟨dx, hb⟩ := h
        exact .inl ⟨_, dx, _, rfl, hb, go _ _ ⟨_, p, q, rfl, Same.refl _, ⟨dx, hb⟩, h0, hp, hq, new⟩⟩
      | int hi hk =>
        refine .inr ⟨.type "int", .int _, .x (.base (.int _)), hk, fun i e => ?_, fun hv => by cases hv⟩
        cases e
        refine ⟨hi.small, fun c H' s1 hc hr => go _ _ ⟨c, _, _, rfl, s1, hr, ?_, ?_, ?_, ?_⟩⟩
        · rw [(lov_one _).2]; decide
        · rw [(lov_one _).1]; exact hi
        · rw [(lov_one _).2]; show 1 < 2 ^ 1200; exact Nat.one_lt_two_pow (by decide)
        · rw [(lov_one _).1, (lov_one _).2]; exact new
    · exact .inr ⟨t, av, ty, hk, (fun i e => by subst e; cases hv), fun _ => k⟩
end
end Lw
namespace Lw
open PySem PySem.Spec PyProof.Rows L2

open LamX
abbrev sMul : Stmt := inClass (top 15) 8
abbrev sNeg : Stmt := inClass (top 15) 10
def spMul (K : PySem.W.Frag) (C D : Addr) : Sp := fun vs H Q E => ∃ (a : Addr) (v : V) (o u : Int), vs = [.ref a, v] ∧ NumAt K C H (.ref a) o u ∧
  ((∃ p q, NumAt K C H v p q ∧ News C H Q (o * p) (u * q)) ∨ Refuses K C D v H E)
def spNeg (K : PySem.W.Frag) (C : Addr) : Sp := fun vs H Q _ => ∃ (a : Addr) (o u : Int), vs = [.ref a] ∧ NumAt K C H (.ref a) o u ∧ News C H Q (-o) u
theorem NumAt.ref {K : PySem.W.Frag} {C : Addr} {H : Hp} {a : Addr} {o u : Int} (h : NumAt K C H (.ref a) o u) : RatAt C H a o u ∧ 0 < u ∧ Mid o ∧ Mid u := by
  cases h with
  | rat h h0 hp hq => exact ⟨h, h0, hp, hq⟩
theorem RatAt.same {C : Addr} {H H' : Hp} {a : Addr} {o u : Int} (s : Same H H') (h : RatAt C H a o u) : RatAt C H' a o u := by
  obtain ⟨dx, e⟩ := h
  exact ⟨dx, s _ _ e⟩
section
variable {P : Program} {w : World} {K : PySem.W.Frag} {mg : Str → Option Value} {base : Heap}
/-- what __init__ is handed when both are ints and the lower one is positive -/
theorem made {C D : Addr} {H H' : Hp} {E : XK} {Q : VK} {t b : Int} (s1 : Same H H') (b0 : 0 < b) (st : Small t) (sb : Small b) (new : News C H Q t b) {x dx : Addr} (hx : H' x = none) (hdx : H' dx = none) (ne : dx ≠ x) :
    spRat K C D (.ref x :: ([V.int t, V.int b] ++ [])) (upd (upd H' dx (.own x)) x (.ins C dx [])) (fun v H2 => v = .non ∧ Q (.ref x) H2) E := by
  have s2 : Same H' (upd H' dx (.own x)) := same_new hdx
  have hx1 : upd H' dx (.own x) x = none := by rw [upd_ne ne.symm]; exact hx
  refine ⟨x, dx, .int t, .int b, rfl, .int _, .int _, upd_same, (fun h => by cases h), fun _ h2 => ?_, fun i j e1 e2 hj => ?_⟩
  · rcases h2 with h2 | h2
    · cases h2
    · have := V.int.inj h2
      omega
  · cases e1
    cases e2
    refine ⟨st, sb, rfl, ?_⟩
    rw [upd_upd, made_over hj, made_under hj]
    exact new x _ ((s1.trans s2).trans (same_new hx1)) (s1.free hx) ⟨dx, upd_same⟩
/-- what Ratio.of is handed -/
theorem of_ok {C D : Addr} {H : Hp} {E : XK} {Q : VK} {v : V} (h : (∃ p q, NumAt K C H v p q ∧ ∀ b H', Same H H' → RatAt C H' b p q → 0 < q → Mid p → Mid q → Q (.ref b) H') ∨ Refuses K C D v H E) : spOf K C D [v] H Q E := by
  refine ⟨v, rfl, ?_⟩
  rcases h with ⟨p, q, nv, go⟩ | ⟨t, av, ty, hk, hv, k⟩
  · cases nv with
    | rat h h0 hp hq =>
      obtain ⟨dx, hb⟩ := h
      exact .inl ⟨_, dx, _, rfl, hb, go _ _ (Same.refl _) ⟨dx, hb⟩ h0 hp hq⟩
    | int hi hk =>
      refine .inr ⟨.type "int", .int _, .x (.base (.int _)), hk, fun i e => ?_, fun hv => by cases hv⟩
      cases e
      refine ⟨hi.small, fun c H' s1 hc hr => ?_⟩
      rw [(lov_one _).1, (lov_one _).2] at hr
      exact go c H' s1 hr (by decide) hi (by show 1 < 2 ^ 1200; exact Nat.one_lt_two_pow (by decide))
  · exact .inr ⟨t, av, ty, hk, (fun i e => by subst e; cases hv), fun _ => k⟩
theorem scMul : FnScope ["self", "other", "factor"] ["self", "other"] (C8.fnScope sMul) := C8.fnScope_by (by decide +kernel)
theorem fn_mul {C D f g f1 pO : Addr} {fd fdg fd1 : FuncData} {ds : List Value} (F : C8.Fun K "__mul__" "Ratio.__mul__" sMul f1 fd1) (RM : RatM P w K mg base C D f fd ds) (OM : OfM P w K mg base C D pO g fdg) (cl : Cls K C) (n1 : NoAttr K C "over") (n2 : NoAttr K C "under") : FnOk P w K mg base (L2.CX P w) 7 f1 fd1 ["self", "other"] (spMul K C D) := by
  obtain ⟨oc, od, dV, kV, doc, pm, an, cdv, ct, osl, rfl, lk, hcd⟩ := F.ex
  refine fn_of lk hcd scMul (fun vs H Q E h => ?_) fun A outer s H vs Q E hr h => ?_
  · obtain ⟨a, v, o, u, rfl, _⟩ := h
    rfl
  · obtain ⟨a, v, o, u, rfl, na, h⟩ := h
    obtain ⟨⟨dxa, ha⟩, u0, mo, mu⟩ := na.ref
    refine ⟨_, (pss_cons (ps_set (i := 2) scMul.nd rfl (Or.inl rfl) (pe_static (pe_glob (v := .ref C) (by rfl) RM.hm rfl) OM.S OM.F (hr.mono (by decide)) OM.b .nil (passes_call (takes_of rfl rfl rfl rfl) (fun _ _ _ _ z => z)) (pa_cons (pv 1) pa_nil)))
  (pss_one (ps_ret (pe_make RM.M RM.F (hr.mono (by decide)) (by rfl) RM.hm RM.b2 .nil (passes_call (takes_of rfl rfl rfl rfl) (fun _ _ _ _ z => z)) (pa_cons (pe_op op_mulW (pe_fld (pv 0) rfl) (pe_fld (pv 2) rfl)) (pa_cons (pe_op op_mulW (pe_fld (pv 0) rfl) (pe_fld (pv 2) rfl)) pa_nil)))))), ?_⟩
    refine ⟨rfl, _, rfl, of_ok (h.imp (fun ⟨p, q, nv, new⟩ => ⟨p, q, nv, fun b H' s1 ⟨dxb, hb⟩ q0 mp mq => ?_⟩) id)⟩
    have ha' := s1 _ _ ha
    refine ⟨_, rfl, a, C, dxa, _, _, rfl, ha', cl, n1, flds_over o u, _, rfl, b, C, dxb, _, _, rfl, hb, cl, n1, flds_over p q, _, _, rfl, rfl, mid_mul mo mp, ?_⟩
    refine ⟨_, rfl, a, C, dxa, _, _, rfl, ha', cl, n2, flds_under o u, _, rfl, b, C, dxb, _, _, rfl, hb, cl, n2, flds_under p q, _, _, rfl, rfl, mid_mul mu mq, fun x dx hx hdx ne => ?_⟩
    exact made s1 (Int.mul_pos u0 q0) (small_of (Nat.lt_trans (mul_mid mo mp) (Nat.pow_lt_pow_right (by decide) (by decide)))) (small_of (Nat.lt_trans (mul_mid mu mq) (Nat.pow_lt_pow_right (by decide) (by decide)))) new hx hdx ne
theorem scNeg : FnScope ["self"] ["self"] (C8.fnScope sNeg) := C8.fnScope_by (by decide +kernel)
theorem fn_neg {C D f f1 : Addr} {fd fd1 : FuncData} {ds : List Value} (F : C8.Fun K "__neg__" "Ratio.__neg__" sNeg f1 fd1) (RM : RatM P w K mg base C D f fd ds) (cl : Cls K C) (n1 : NoAttr K C "over") (n2 : NoAttr K C "under") : FnOk P w K mg base (L2.CX P w) 5 f1 fd1 ["self"] (spNeg K C) := by
  obtain ⟨oc, od, dV, kV, doc, pm, an, cdv, ct, osl, rfl, lk, hcd⟩ := F.ex
  refine fn_of lk hcd scNeg (fun vs H Q E h => ?_) fun A outer s H vs Q E hr h => ?_
  · obtain ⟨a, o, u, rfl, _⟩ := h
    rfl
  · obtain ⟨a, o, u, rfl, na, new⟩ := h
    obtain ⟨⟨dxa, ha⟩, u0, mo, mu⟩ := na.ref
    refine ⟨_, (pss_one (ps_ret (pe_make RM.M RM.F (hr.mono (by decide)) (by rfl) RM.hm RM.b2 .nil (passes_call (takes_of rfl rfl rfl rfl) (fun _ _ _ _ z => z)) (pa_cons (pe_un un_neg (pe_fld (pv 0) rfl)) (pa_cons (pe_fld (pv 0) rfl) pa_nil))))), ?_⟩
    refine ⟨_, rfl, a, C, dxa, _, _, rfl, ha, cl, n1, flds_over o u, _, rfl, _, rfl, a, C, dxa, _, _, rfl, ha, cl, n2, flds_under o u, fun x dx hx hdx ne => ?_⟩
    exact made (Same.refl _) u0 (by have := mo.small; unfold Small at *; rw [Int.natAbs_neg]; exact this) mu.small new hx hdx ne
end
end Lw
namespace Lw
open PySem PySem.Spec PyProof.Rows L2

/-! ### the same operators, their methods may raise -/
/-- a method of the class that may raise what E tells -/
structure MetX (P : Program) (w : World) (K : PySem.W.Frag) (mg : Str → Option Value) (base : Heap) (k : Nat) (C : Addr) (m : Str) (sp : Sp) : Prop where
  ex : ∃ (g : Addr) (fd : FuncData) (ps : List Str), Meth K C m g ∧ FnOk P w K mg base (L2.CX P w) k g fd ps sp ∧ Binds K fd ps []
section
variable {X : Cx} {C f : Addr} {k j : Nat} {sp : Sp} {E : XK} {pins : List (Addr × Obj)} {σ : L2.St} {H : Hp} {s : Shared}
theorem run_met {m : Str} {us : List Value} {vs : List V} {Q : VK} (M : MetX X.prog X.w X.K X.mg X.base k C m sp) (hx : Passes (L2.CX X.prog X.w) X E) (hr : Room j X.A) (hk : k ≤ j) (I : Inv X pins σ H s) (r : Vals vs us) (q : sp vs H Q E) :
    ∃ g : Addr, Meth X.K C m g ∧ wpAny (model X.prog X.w) X.A (call (.ref g) us) (PySem.W.CmpBack (EP X pins σ Q)) X.xe s ∧ wpAny (model X.prog X.w) X.A (call (.ref g) us) (EP X pins σ Q) X.xe s := by
  obtain ⟨g, fd, ps, hm, F, b⟩ := M.ex
  have q' : sp (vs ++ []) H Q E := by rw [List.append_nil]; exact q
  have ran := run_fn F (hr.mono hk) b .nil hx I r q'
  refine ⟨g, hm, wpAny_mono ran (fun w s' z => ?_) (fun _ _ x => x), ran⟩
  obtain ⟨z', H', I', rz, qz⟩ := z
  exact SlX.cmpback rz ⟨z', H', I', rz, qz⟩
def rSameX (C : Addr) (sp : Sp) (E : XK) : R2 := fun x y H Q => ∃ a dx fs b dy gs, x = .ref a ∧ y = .ref b ∧ H a = some (.ins C dx fs) ∧ H b = some (.ins C dy gs) ∧ sp [x, y] H Q E
theorem op_sameX {op : Operator} (M : MetX X.prog X.w X.K X.mg X.base k C (PySem.dunder op.info.2) sp) (hx : Passes (L2.CX X.prog X.w) X E) (hc : PySem.W.selfFirst X.K C = true) (hr : Room j X.A) (hk : k ≤ j) : OpR X (binaryOp op) (rSameX C sp E) := by
  intro pins s σ H x y v u Q I rx ry h
  obtain ⟨a, dx, fs, b, dy, gs, rfl, rfl, ha, hb, q⟩ := h
  cases (show v = Value.ref a from rx)
  cases (show u = Value.ref b from ry)
  obtain ⟨_, _, J⟩ := ins_at I ha
  obtain ⟨_, _, J'⟩ := ins_at I hb
  obtain ⟨g, hm, w, _⟩ := run_met (us := [.ref a, .ref b]) (vs := [.ref a, .ref b]) M hx hr hk I (.cons rfl (.cons rfl .nil)) q
  obtain ⟨m, hF⟩ := I.fr
  exact PySem.W.binop_K hF I.ok.mod.kin J J'.type hc hm.at_ hm.fn w
def rBesideX (K : PySem.W.Frag) (C : Addr) (op : Operator) (sp : Sp) (E : XK) : R2 := fun x y H Q => ∃ a dx fs T, x = .ref a ∧ H a = some (.ins C dx fs) ∧ Kind y T ∧ Beside K C op T ∧ sp [x, y] H Q E
theorem op_besideX {op : Operator} (M : MetX X.prog X.w X.K X.mg X.base k C (PySem.dunder op.info.2) sp) (hx : Passes (L2.CX X.prog X.w) X E) (hr : Room j X.A) (hk : k ≤ j) : OpR X (binaryOp op) (rBesideX X.K C op sp E) := by
  intro pins s σ H x y v u Q I rx ry h
  obtain ⟨a, dx, fs, T, rfl, ha, hT, hB, q⟩ := h
  cases (show v = Value.ref a from rx)
  obtain ⟨_, _, J⟩ := ins_at I ha
  obtain ⟨g, hm, w, _⟩ := run_met (us := [.ref a, u]) (vs := [.ref a, y]) M hx hr hk I (.cons rfl (.cons ry .nil)) q
  obtain ⟨m, hF⟩ := I.fr
  obtain ⟨rc, r1, r2⟩ := hB.back
  obtain ⟨fo, f1⟩ := hB.ahead
  obtain ⟨ro, o1⟩ := hB.behind
  exact PySem.W.ksp_binT hF I.ok.mod.kin J (hT.type ry) hB.first hm.at_ hm.fn r1 r2 f1 o1 hB.sub w
def rSignX (C : Addr) (sp : Sp) (E : XK) : V → Hp → VK → Prop := fun x H Q => ∃ a dx fs, x = .ref a ∧ H a = some (.ins C dx fs) ∧ sp [x] H Q E
theorem un_signX (M : MetX X.prog X.w X.K X.mg X.base k C "__neg__" sp) (hx : Passes (L2.CX X.prog X.w) X E) (hr : Room j X.A) (hk : k ≤ j) : UnR X (unaryOp .USub) (rSignX C sp E) := by
  intro pins s σ H x v Q I rx h
  obtain ⟨a, dx, fs, rfl, ha, q⟩ := h
  cases (show v = Value.ref a from rx)
  obtain ⟨_, _, J⟩ := ins_at I ha
  obtain ⟨g, hm, _, w⟩ := run_met (us := [.ref a]) (vs := [.ref a]) M hx hr hk I (.cons rfl .nil) q
  obtain ⟨m, hF⟩ := I.fr
  exact PySem.W.ksp_neg hF I.ok.mod.kin J hm.at_ hm.fn w
end
end Lw
namespace Lw
open PySem PySem.Spec PyProof.Rows L2

section
variable {X : Cx} {C f : Addr} {k j : Nat} {sp : Sp} {E : XK}
def rRightX (C : Addr) (P : V → Prop) (sp : Sp) (E : XK) : R2 := fun x y H Q => ∃ a dx fs, P x ∧ y = .ref a ∧ H a = some (.ins C dx fs) ∧ sp [y, x] H Q E
theorem op_rightIX {op : Operator} {id : String} (M : MetX X.prog X.w X.K X.mg X.base k C (dunderR op.info.2) sp) (hx : Passes (L2.CX X.prog X.w) X E) (hc : PySem.W.selfFirst X.K C = true) (hs : PySem.W.findIn X.K (.ref C) (PySem.dunder op.info.2) = some (some (.ref f))) (hL : fillsNumberSlot (.type "int") op.info.2 = pure true)
    (hsub : PySem.W.subIn X.K (.ref C) (.type "int") = some false) (sl : Slot "int" (PySem.dunder op.info.2) id) (hd : ∀ {A : Around} {E : Value → Shared → Prop} {s : Shared} {i : Int} {t : Tok} {x : Addr} {o : Obj} {Q' : Value → Shared → Prop}, s.heap.get? x = some o → o.data = .plain → Q' .notImplemented s → wpAny (model X.prog X.w) A (call (.builtin id) [.int i t, .ref x]) Q' E s)
    (hr : Room j X.A) (hk : k ≤ j) : OpR X (binaryOp op) (rRightX C (fun x => ∃ i, x = .int i) sp E) := by
  intro pins s σ H x y v u Q I rx ry h
  obtain ⟨a, dx, fs, ⟨i, rfl⟩, rfl, ha, q⟩ := h
  cases (show u = Value.ref a from ry)
  obtain ⟨t, rfl⟩ := (show ∃ t, v = Value.int i t from rx)
  obtain ⟨ox, od, J, h1, h2⟩ := ins_plain I ha
  obtain ⟨g, hm, w, _⟩ := run_met (us := [.ref a, .int i t]) (vs := [.ref a, .int i]) M hx hr hk I (.cons rfl (.cons ⟨t, rfl⟩ .nil)) q
  exact Ow.right_number I.kIn J rfl (typeIs_int s i t) hc hs hm.at_ hm.fn hL hsub sl (fun Q' z => hd h1 h2 z) w
theorem op_rightBX {op : Operator} {T : String} (M : MetX X.prog X.w X.K X.mg X.base k C (dunderR op.info.2) sp) (hx : Passes (L2.CX X.prog X.w) X E) (hc : PySem.W.selfFirst X.K C = true) (hs : PySem.W.findIn X.K (.ref C) (PySem.dunder op.info.2) = some (some (.ref f))) (hL : fillsNumberSlot (.type T) op.info.2 = pure false)
    (hr : Room j X.A) (hk : k ≤ j) : OpR X (binaryOp op) (rRightX C (fun x => Kind x T) sp E) := by
  intro pins s σ H x y v u Q I rx ry h
  obtain ⟨a, dx, fs, hT, rfl, ha, q⟩ := h
  cases (show u = Value.ref a from ry)
  obtain ⟨ox, od, J, h1, h2⟩ := ins_plain I ha
  obtain ⟨g, hm, w, _⟩ := run_met (us := [.ref a, v]) (vs := [.ref a, x]) M hx hr hk I (.cons rfl (.cons rx .nil)) q
  exact Ow.right_bare I.kIn J (PySem.W.Looks.of_pure (hT.type rx)) hc hs hm.at_ hm.fn hL w
theorem iop_sameX {op : Operator} (M : MetX X.prog X.w X.K X.mg X.base k C (PySem.dunder op.info.2) sp) (hx : Passes (L2.CX X.prog X.w) X E) (hc : PySem.W.selfFirst X.K C = true) (ni : NoInplace X.K C op) (hr : Room j X.A) (hk : k ≤ j) : OpR X (inplaceOp op) (rSameX C sp E) := by
  intro pins s σ H x y v u Q I rx ry h
  obtain ⟨a, dx, fs, b, dy, gs, rfl, rfl, ha, hb, q⟩ := h
  cases (show v = Value.ref a from rx)
  cases (show u = Value.ref b from ry)
  obtain ⟨_, _, J⟩ := ins_at I ha
  obtain ⟨_, _, J'⟩ := ins_at I hb
  obtain ⟨g, hm, w, _⟩ := run_met (us := [.ref a, .ref b]) (vs := [.ref a, .ref b]) M hx hr hk I (.cons rfl (.cons rfl .nil)) q
  obtain ⟨cd, h1, h2⟩ := ni.mro
  exact Ow.inplace_of I.kIn J h1 h2 ni.own ni.obj (Ow.half_same I.kIn J J'.type hc hm.at_ hm.fn w)
theorem iop_besideX {op : Operator} (M : MetX X.prog X.w X.K X.mg X.base k C (PySem.dunder op.info.2) sp) (hx : Passes (L2.CX X.prog X.w) X E) (ni : NoInplace X.K C op) (hr : Room j X.A) (hk : k ≤ j) : OpR X (inplaceOp op) (rBesideX X.K C op sp E) := by
  intro pins s σ H x y v u Q I rx ry h
  obtain ⟨a, dx, fs, T, rfl, ha, hT, hB, q⟩ := h
  cases (show v = Value.ref a from rx)
  obtain ⟨_, _, J⟩ := ins_at I ha
  obtain ⟨g, hm, w, _⟩ := run_met (us := [.ref a, u]) (vs := [.ref a, y]) M hx hr hk I (.cons rfl (.cons ry .nil)) q
  obtain ⟨cd, h1, h2⟩ := ni.mro
  obtain ⟨rc, r1, r2⟩ := hB.back
  obtain ⟨fo, f1⟩ := hB.ahead
  obtain ⟨ro, o1⟩ := hB.behind
  exact Ow.inplace_of I.kIn J h1 h2 ni.own ni.obj (Ow.half_left I.kIn J (PySem.W.Looks.of_pure (hT.type ry)) hB.first hm.at_ hm.fn r1 r2 f1 o1 hB.sub w)
end
end Lw
namespace Lw.Ow
open PySem PySem.Spec PyProof.Rows PySem.W PySem.Calls

/-! ### the two halves of an operator, any built-in type beside -/
section
variable {prog : Program} {w : World} {A : Around} {E : Value → Shared → Prop} {s : Shared} {K : Frag} {x C f g : Addr} {ox : Obj} {od : Option Obj}
theorem half_bare {nm : String} {a : Value} {T : String} {Q : Value → Shared → Prop} (X : K.In s.heap) (I : InstAt s.heap x ox C od) (ht : Looks (model prog w) s.heap (typeOf a) (.type T)) (hc : selfFirst K C = true) (hs : findIn K (.ref C) (PySem.dunder nm) = some (some (.ref f))) (hr : findIn K (.ref C) (dunderR nm) = some (some (.ref g)))
    (hg : isFn K (.ref g) = true) (hL : fillsNumberSlot (.type T) nm = pure false) (h : wpAny (model prog w) A (call (.ref g) [.ref x, a]) (PySem.W.CmpBack Q) E s) : wpAny (model prog w) A (binaryOp1 nm a (.ref x)) (Told Q) E s := by
  obtain ⟨cd, rest, hcd, hm⟩ := ksp_first hc
  have one := ksp_try X I hr hg h
  obtain ⟨hh, gg, d, tt, os⟩ := s
  have L2 : Looks (model prog w) hh (typeOf (.ref x)) (.ref C) := I.type
  have L3 : Looks (model prog w) hh (fillsNumberSlot (.ref C) nm) true := fills_K X hcd hm hs
  have hne : (Value.type T == Value.ref C) = false := Bool.eq_false_iff.mpr fun q => by cases beq_iff_eq.mp q
  unfold binaryOp1
  refine wpAny_bind (ht.at (wpAny_bind (L2.at (wpAny_bind (wpAny_of_eq hL ?_)))))
  simp only [hne, Bool.false_eq_true, if_false]
  refine wpAny_bind (L3.at ?_)
  simp only [Bool.false_and, Bool.false_eq_true, if_false, pure_bind, Bool.not_false, Bool.and_true, if_true]
  refine wpAny_bind (wpAny_mono one (fun r s' hr' => ?_) fun _ _ e => e)
  obtain ⟨v, rfl, hq⟩ := hr'
  exact wpAny_bind (wpAny_rule (wpAny_pure ⟨v, rfl, hq⟩))
theorem op_half {op : Operator} {a b : Value} {Q : Value → Shared → Prop} (h : wpAny (model prog w) A (binaryOp1 op.info.2 a b) (Told Q) E s) : wpAny (model prog w) A (binaryOp op a b) Q E s := by
  rcases hi : op.info with ⟨sym, nm⟩
  rw [hi] at h
  dsimp only at h
  simp only [binaryOp, hi]
  refine wpAny_holding (wpAny_bind (wpAny_mono h (fun r s' z => ?_) fun _ _ e => e))
  obtain ⟨v, rfl, hq⟩ := z
  exact wpAny_pure hq
theorem inplace_bare {op : Operator} {a b : Value} {T : String} {Q : Value → Shared → Prop} (ht : Looks (model prog w) s.heap (typeOf a) (.type T)) (hI : fillsInplaceSlot (.type T) op.info.2 (op == .Add) = pure false) (h : wpAny (model prog w) A (binaryOp1 op.info.2 a b) (Told Q) E s) : wpAny (model prog w) A (inplaceOp op a b) Q E s := by
  unfold inplaceOp
  refine wpAny_holding ?_
  refine wpAny_bind (ht.here (wpAny_bind (wpAny_of_eq hI ?_)))
  simp only [Bool.false_eq_true, if_false, pure_bind]
  refine wpAny_bind (wpAny_mono h (fun r s' z => ?_) fun _ _ e => e)
  obtain ⟨v, rfl, hq⟩ := z
  exact wpAny_pure hq
theorem binary_noB {nm : String} {f : Int → Int → Sem Fin} {b : Bool} {x : Addr} {o : Obj} {Q : Value → Shared → Prop} (ho : s.heap.get? x = some o) (hp : o.data = .plain) (h : Q .notImplemented s) :
    wpAny (model prog w) A (Builtin.Int.intBinary nm f false ⟨[.bool b, .ref x], []⟩) (fun fin s' => ∃ v, fin = .done (.ret v) ∧ Q v s') E s := by
  unfold Builtin.Int.intBinary
  refine wpAny_bind (wpAny_of_eq (a := (Value.bool b, [Value.ref x])) rfl ?_)
  refine wpAny_bind (wpAny_of_eq (a := (if b = true then (1 : Int) else 0)) (by cases b <;> rfl) ?_)
  refine wpAny_bind ?_
  show wpAny _ _ (load x >>= fun ob => match ob.data with | .prim (.int i _) => pure (some i) | _ => pure none) _ _ _
  refine wpAny_bind (wpAny_load ho ?_)
  rw [hp]
  exact wpAny_pure (wpAny_bind (wpAny_rule (wpAny_pure ⟨_, rfl, h⟩)))
theorem slot_bool_add : Slot "bool" (PySem.dunder "add") "int.__add__" :=
  .of (owner := "int") (n := "__add__") (by rw [typeLookup_type, builtinLookup_eq_fast]; kernel_rfl) (by decide +kernel) (by decide +kernel) (by decide +kernel)
    (by first | exact .inl (by decide +kernel) | exact .inr (by decide +kernel)) (by rw [isSubtype_type]; kernel_rfl)
theorem slot_bool_sub : Slot "bool" (PySem.dunder "sub") "int.__sub__" :=
  .of (owner := "int") (n := "__sub__") (by rw [typeLookup_type, builtinLookup_eq_fast]; kernel_rfl) (by decide +kernel) (by decide +kernel) (by decide +kernel)
    (by first | exact .inl (by decide +kernel) | exact .inr (by decide +kernel)) (by rw [isSubtype_type]; kernel_rfl)
theorem slot_bool_mul : Slot "bool" (PySem.dunder "mul") "int.__mul__" :=
  .of (owner := "int") (n := "__mul__") (by rw [typeLookup_type, builtinLookup_eq_fast]; kernel_rfl) (by decide +kernel) (by decide +kernel) (by decide +kernel)
    (by first | exact .inl (by decide +kernel) | exact .inr (by decide +kernel)) (by rw [isSubtype_type]; kernel_rfl)
theorem noB_add {b : Bool} {x : Addr} {o : Obj} {Q : Value → Shared → Prop} (ho : s.heap.get? x = some o) (hp : o.data = .plain) (h : Q .notImplemented s) : wpAny (model prog w) A (call (.builtin "int.__add__") [.bool b, .ref x]) Q E s :=
  wpAny_call_entry slot_bool_add rfl F.entry_int_add (binary_noB ho hp h) (F.args_int_add_2 _ _)
theorem noB_sub {b : Bool} {x : Addr} {o : Obj} {Q : Value → Shared → Prop} (ho : s.heap.get? x = some o) (hp : o.data = .plain) (h : Q .notImplemented s) : wpAny (model prog w) A (call (.builtin "int.__sub__") [.bool b, .ref x]) Q E s :=
  wpAny_call_entry slot_bool_sub rfl F.entry_int_sub (binary_noB ho hp h) (F.args_int_sub_2 _ _)
theorem noB_mul {b : Bool} {x : Addr} {o : Obj} {Q : Value → Shared → Prop} (ho : s.heap.get? x = some o) (hp : o.data = .plain) (h : Q .notImplemented s) : wpAny (model prog w) A (call (.builtin "int.__mul__") [.bool b, .ref x]) Q E s :=
  wpAny_call_entry slot_bool_mul rfl F.entry_int_mul (binary_noB ho hp h) (F.args_int_mul_2 _ _)
end
/-! ### what the table of built-in types tells -/
def BTs : List String := ["int", "bool", "NoneType", "str", "tuple", "list", "dict"]
def Bares : List String := ["NoneType", "str", "tuple", "list", "dict"]
def Nms : List String := ["add", "sub", "mul"]
theorem bt_find {T nm : String} (h : T ∈ BTs) (h2 : nm ∈ Nms) : (∃ fo, fastLookup T (PySem.dunder nm) = some fo) ∧ ∃ ro, fastLookup T (dunderR nm) = some ro := by
  have all : (BTs.all fun T => Nms.all fun nm => (fastLookup T (PySem.dunder nm)).isSome && (fastLookup T (dunderR nm)).isSome) = true := by decide +kernel
  have z := List.all_eq_true.mp (List.all_eq_true.mp all T h) nm h2
  rw [Bool.and_eq_true] at z
  exact ⟨Option.isSome_iff_exists.mp z.1, Option.isSome_iff_exists.mp z.2⟩
theorem bt_sub {K : Frag} {C : Addr} {T : String} (h : T ∈ BTs) : subIn K (.type T) (.ref C) = some false := by
  simp only [BTs, List.mem_cons, List.not_mem_nil, or_false] at h
  rcases h with rfl | rfl | rfl | rfl | rfl | rfl | rfl <;> kernel_rfl
theorem bt_bare {T nm : String} (h : T ∈ Bares) (h2 : nm ∈ Nms) : fillsNumberSlot (.type T) nm = pure false := by
  simp only [Bares, List.mem_cons, List.not_mem_nil, or_false] at h
  simp only [Nms, List.mem_cons, List.not_mem_nil, or_false] at h2
  rcases h with rfl | rfl | rfl | rfl | rfl <;> rcases h2 with rfl | rfl | rfl <;>
  · simp only [fillsNumberSlot, typeLookup_type, builtinLookup_eq_fast]
    kernel_rfl
theorem bt_number {T nm : String} (h : T = "int" ∨ T = "bool") (h2 : nm ∈ Nms) : fillsNumberSlot (.type T) nm = pure true := by
  simp only [Nms, List.mem_cons, List.not_mem_nil, or_false] at h2
  rcases h with rfl | rfl <;> rcases h2 with rfl | rfl | rfl <;>
  · simp only [fillsNumberSlot, typeLookup_type, builtinLookup_eq_fast]
    kernel_rfl
end Lw.Ow
namespace Lw
open PySem PySem.Spec PyProof.Rows L2
end Lw
namespace Lw
open PySem PySem.Spec PyProof.Rows L2

/-! ### the least form is that of the fraction alone -/
theorem sg_abs (b : Int) : sg b * b = (b.natAbs : Int) := by unfold sg; split <;> omega
theorem sg_nat (b t : Int) : (sg b * t).natAbs = t.natAbs := by unfold sg; split <;> omega
theorem lov_rat {t b : Int} (hb : b ≠ 0) : lov t b = (mkRat (sg b * t) b.natAbs).num ∧ lun t b = ((mkRat (sg b * t) b.natAbs).den : Int) := by
  have hn : b.natAbs ≠ 0 := by omega
  rw [Rat.num_mkRat, Rat.den_mkRat, if_neg hn, if_neg hn, sg_nat, Nat.gcd_comm b.natAbs]
  unfold lov lun
  rw [sg_abs]
  exact ⟨rfl, by rw [Int.natCast_ediv]⟩
theorem lov_eq {t b t' b' : Int} (hb : b ≠ 0) (hb' : b' ≠ 0) (e : t * b' = t' * b) : lov t b = lov t' b' ∧ lun t b = lun t' b' := by
  have z : mkRat (sg b * t) b.natAbs = mkRat (sg b' * t') b'.natAbs := by
    rw [Rat.mkRat_eq_iff (by omega) (by omega), ← sg_abs b, ← sg_abs b']
    grind
  rw [(lov_rat hb).1, (lov_rat hb).2, (lov_rat hb').1, (lov_rat hb').2, z]
  exact ⟨rfl, rfl⟩
theorem lov_cross {t b : Int} (hb : b ≠ 0) : lov t b * b = t * lun t b := by
  have hg : (0 : Int) < ((Nat.gcd t.natAbs b.natAbs : Nat) : Int) := by
    have := Nat.gcd_pos_of_pos_right t.natAbs (show 0 < b.natAbs by omega)
    omega
  obtain ⟨x, hx⟩ : ((Nat.gcd t.natAbs b.natAbs : Nat) : Int) ∣ t := Int.ofNat_dvd_left.mpr (Nat.gcd_dvd_left _ _)
  obtain ⟨y, hy⟩ : ((Nat.gcd t.natAbs b.natAbs : Nat) : Int) ∣ b := Int.ofNat_dvd_left.mpr (Nat.gcd_dvd_right _ _)
  unfold lov lun
  generalize sg b = s
  generalize ((Nat.gcd t.natAbs b.natAbs : Nat) : Int) = g at hg hx hy
  have e1 : s * t / g = s * x := by rw [hx, show s * (g * x) = g * (s * x) by grind, Int.mul_ediv_cancel_left _ (by omega)]
  have e2 : s * b / g = s * y := by rw [hy, show s * (g * y) = g * (s * y) by grind, Int.mul_ediv_cancel_left _ (by omega)]
  rw [e1, e2]
  grind
theorem lov_le (t b : Int) : (lov t b).natAbs ≤ t.natAbs := by
  unfold lov
  have h := Int.natAbs_ediv_le_natAbs (sg b * t) ((Nat.gcd t.natAbs b.natAbs : Nat) : Int)
  rw [sg_nat] at h
  exact h
theorem lun_le (t b : Int) : (lun t b).natAbs ≤ b.natAbs := by
  unfold lun
  have h := Int.natAbs_ediv_le_natAbs (sg b * b) ((Nat.gcd t.natAbs b.natAbs : Nat) : Int)
  rw [sg_nat] at h
  exact h
/-- the least form of a least form is this form -/
theorem lov_idem {t b : Int} (hb : b ≠ 0) : lov (lov t b) (lun t b) = lov t b ∧ lun (lov t b) (lun t b) = lun t b := by
  have := lun_pos (t := t) hb
  obtain ⟨e1, e2⟩ := lov_eq (t := lov t b) (b := lun t b) (t' := t) (b' := b) (by omega) hb (by rw [lov_cross hb])
  exact ⟨e1, e2⟩
end Lw
namespace Lw
open PySem PySem.Spec PyProof.Rows L2

/-- half an operator's reading: what binaryOp1 tells -/
def HalfR (X : Cx) (nm : String) (r : R2) : Prop := ∀ (pins : List (Addr × Obj)) (s : Shared) (σ : L2.St) (H : Hp) (x y : V) (v u : Value) (Q : VK), Inv X pins σ H s → RelV x v → RelV y u → r x y H Q →
  wpAny (model X.prog X.w) X.A (binaryOp1 nm v u) (Ow.Told (EP X pins σ Q)) X.xe s
/-- a value of a built-in type that an own operator may stand beside -/
inductive Bt (K : PySem.W.Frag) (H : Hp) : V → String → Prop where
  | int (i : Int) : Bt K H (.int i) "int"
  | bl (b : Bool) : Bt K H (.bl b) "bool"
  | bare {x : V} {T : String} (h : TyX K H x (.type T)) (hT : T ∈ Ow.Bares) : Bt K H x T
theorem Bt.tyx {K : PySem.W.Frag} {H : Hp} {x : V} {T : String} (h : Bt K H x T) : TyX K H x (.type T) ∧ T ∈ Ow.BTs := by
  cases h with
  | int i => exact ⟨.base (.int i), by decide⟩
  | bl b => exact ⟨.base (.bl b), by decide⟩
  | bare h hT => exact ⟨h, by unfold Ow.Bares at hT; unfold Ow.BTs; simp only [List.mem_cons, List.not_mem_nil, or_false] at hT ⊢; rcases hT with h | h | h | h | h <;> simp [h]⟩
theorem Bt.same {K : PySem.W.Frag} {H H' : Hp} {x : V} {T : String} (s : Same H H') (h : Bt K H x T) : Bt K H' x T := by
  cases h with
  | int i => exact .int i
  | bl b => exact .bl b
  | bare h hT => exact .bare (Lw.TyX.same s h) hT
section
variable {X : Cx} {C f : Addr} {k j : Nat} {sp : Sp} {E : XK} {pins : List (Addr × Obj)} {σ : L2.St} {H : Hp} {s : Shared} {nm : String} {r r1 r2 : R2}
theorem Bt.looks {x : V} {T : String} {u : Value} (I : Inv X pins σ H s) (rx : RelV x u) (h : Bt X.K H x T) : PySem.W.Looks (model X.prog X.w) s.heap (typeOf u) (.type T) := by
  obtain ⟨W, Z, p, _⟩ := kit_of I rx h.tyx.1
  exact Z.ty _ _ I.kIn p
theorem half_or (h1 : HalfR X nm r1) (h2 : HalfR X nm r2) : HalfR X nm (fun x y H Q => r1 x y H Q ∨ r2 x y H Q) := fun pins s σ H x y v u Q I rx ry h => h.elim (h1 pins s σ H x y v u Q I rx ry) (h2 pins s σ H x y v u Q I rx ry)
theorem half_imp {r' : R2} (h : HalfR X nm r) (g : ∀ x y H Q, r' x y H Q → r x y H Q) : HalfR X nm r' := fun pins s σ H x y v u Q I rx ry z => h pins s σ H x y v u Q I rx ry (g _ _ _ _ z)
theorem op_of {op : Operator} (h : HalfR X op.info.2 r) : OpR X (binaryOp op) r := fun pins s σ H x y v u Q I rx ry z => Ow.op_half (h pins s σ H x y v u Q I rx ry z)
/-- what op= asks of the value on the left -/
inductive LeftNo (C : Addr) (H : Hp) : V → Prop where
  | own {a dx : Addr} {fs : List (Str × V)} (h : H a = some (.ins C dx fs)) : LeftNo C H (.ref a)
  | int (i : Int) : LeftNo C H (.int i)
theorem iop_of {op : Operator} (h : HalfR X op.info.2 r) (ni : NoInplace X.K C op) (hI : fillsInplaceSlot (.type "int") op.info.2 (op == .Add) = pure false) : OpR X (inplaceOp op) (fun x y H Q => LeftNo C H x ∧ r x y H Q) := by
  intro pins s σ H x y v u Q I rx ry z
  have w := h pins s σ H x y v u Q I rx ry z.2
  cases z.1 with
  | own ha =>
    cases (show v = Value.ref _ from rx)
    obtain ⟨_, _, J⟩ := ins_at I ha
    obtain ⟨cd, h1, h2⟩ := ni.mro
    exact Ow.inplace_of I.kIn J h1 h2 ni.own ni.obj w
  | int i =>
    obtain ⟨t, rfl⟩ := (show ∃ t, v = Value.int i t from rx)
    exact Ow.inplace_bare (PySem.W.Looks.of_pure rfl) hI w
def rOwn (C : Addr) (sp : Sp) (E : XK) : R2 := fun x y H Q => ∃ a dx fs b dy gs, x = .ref a ∧ y = .ref b ∧ H a = some (.ins C dx fs) ∧ H b = some (.ins C dy gs) ∧ sp [x, y] H Q E
theorem half_own (M : MetX X.prog X.w X.K X.mg X.base k C (PySem.dunder nm) sp) (hx : Passes (L2.CX X.prog X.w) X E) (hc : PySem.W.selfFirst X.K C = true) (hr : Room j X.A) (hk : k ≤ j) : HalfR X nm (rOwn C sp E) := by
  intro pins s σ H x y v u Q I rx ry h
  obtain ⟨a, dx, fs, b, dy, gs, rfl, rfl, ha, hb, q⟩ := h
  cases (show v = Value.ref a from rx)
  cases (show u = Value.ref b from ry)
  obtain ⟨_, _, J⟩ := ins_at I ha
  obtain ⟨_, _, J'⟩ := ins_at I hb
  obtain ⟨g, hm, w, _⟩ := run_met (us := [.ref a, .ref b]) (vs := [.ref a, .ref b]) M hx hr hk I (.cons rfl (.cons rfl .nil)) q
  exact Ow.half_same I.kIn J J'.type hc hm.at_ hm.fn w
def rLeft (K : PySem.W.Frag) (C : Addr) (sp : Sp) (E : XK) : R2 := fun x y H Q => ∃ a dx fs T, x = .ref a ∧ H a = some (.ins C dx fs) ∧ Bt K H y T ∧ sp [x, y] H Q E
theorem half_lft (M : MetX X.prog X.w X.K X.mg X.base k C (PySem.dunder nm) sp) (hx : Passes (L2.CX X.prog X.w) X E) (hc : PySem.W.selfFirst X.K C = true) (hb : ∃ g : Addr, PySem.W.findIn X.K (.ref C) (dunderR nm) = some (some (.ref g))) (hn : nm ∈ Ow.Nms) (hr : Room j X.A) (hk : k ≤ j) : HalfR X nm (rLeft X.K C sp E) := by
  intro pins s σ H x y v u Q I rx ry h
  obtain ⟨a, dx, fs, T, rfl, ha, hT, q⟩ := h
  cases (show v = Value.ref a from rx)
  obtain ⟨_, _, J⟩ := ins_at I ha
  obtain ⟨g, hm, w, _⟩ := run_met (us := [.ref a, u]) (vs := [.ref a, y]) M hx hr hk I (.cons rfl (.cons ry .nil)) q
  obtain ⟨g2, h2⟩ := hb
  have hB := hT.tyx.2
  obtain ⟨⟨fo, h3⟩, ⟨ro, h4⟩⟩ := Ow.bt_find hB hn
  exact Ow.half_left I.kIn J (hT.looks I ry) hc hm.at_ hm.fn h2 (.inr ⟨g2, rfl⟩) h3 h4 (Ow.bt_sub hB) w
def rRght (K : PySem.W.Frag) (C : Addr) (sp : Sp) (E : XK) : R2 := fun x y H Q => ∃ a dx fs T, y = .ref a ∧ H a = some (.ins C dx fs) ∧ Bt K H x T ∧ sp [y, x] H Q E
/-- the int's own methods have no answer -/
structure NoNum (nm : String) : Prop where
  i : ∃ id, Slot "int" (PySem.dunder nm) id ∧ ∀ {prog : Program} {w : World} {A : Around} {E : Value → Shared → Prop} {s : Shared} {i : Int} {t : Tok} {x : Addr} {o : Obj} {Q' : Value → Shared → Prop}, s.heap.get? x = some o → o.data = .plain → Q' .notImplemented s → wpAny (model prog w) A (call (.builtin id) [.int i t, .ref x]) Q' E s
  b : ∃ id, Slot "bool" (PySem.dunder nm) id ∧ ∀ {prog : Program} {w : World} {A : Around} {E : Value → Shared → Prop} {s : Shared} {i : Bool} {x : Addr} {o : Obj} {Q' : Value → Shared → Prop}, s.heap.get? x = some o → o.data = .plain → Q' .notImplemented s → wpAny (model prog w) A (call (.builtin id) [.bool i, .ref x]) Q' E s
theorem nn_add : NoNum "add" := ⟨⟨_, F.slot_int_add, fun h1 h2 q => Ow.no_add h1 h2 q⟩, ⟨_, Ow.slot_bool_add, fun h1 h2 q => Ow.noB_add h1 h2 q⟩⟩
theorem nn_sub : NoNum "sub" := ⟨⟨_, F.slot_int_sub, fun h1 h2 q => Ow.no_sub h1 h2 q⟩, ⟨_, Ow.slot_bool_sub, fun h1 h2 q => Ow.noB_sub h1 h2 q⟩⟩
theorem nn_mul : NoNum "mul" := ⟨⟨_, F.slot_int_mul, fun h1 h2 q => Ow.no_mul h1 h2 q⟩, ⟨_, Ow.slot_bool_mul, fun h1 h2 q => Ow.noB_mul h1 h2 q⟩⟩
theorem half_rgt (M : MetX X.prog X.w X.K X.mg X.base k C (dunderR nm) sp) (hx : Passes (L2.CX X.prog X.w) X E) (hc : PySem.W.selfFirst X.K C = true) (hf : ∃ g : Addr, PySem.W.findIn X.K (.ref C) (PySem.dunder nm) = some (some (.ref g))) (hn : nm ∈ Ow.Nms) (nn : NoNum nm) (hs1 : PySem.W.subIn X.K (.ref C) (.type "int") = some false) (hs2 : PySem.W.subIn X.K (.ref C) (.type "bool") = some false)
    (hr : Room j X.A) (hk : k ≤ j) : HalfR X nm (rRght X.K C sp E) := by
  intro pins s σ H x y v u Q I rx ry h
  obtain ⟨a, dx, fs, T, rfl, ha, hT, q⟩ := h
  cases (show u = Value.ref a from ry)
  obtain ⟨ox, od, J, h1, h2⟩ := ins_plain I ha
  obtain ⟨g, hm, w, _⟩ := run_met (us := [.ref a, v]) (vs := [.ref a, x]) M hx hr hk I (.cons rfl (.cons rx .nil)) q
  obtain ⟨g2, hs⟩ := hf
  have look := hT.looks I rx
  cases hT with
  | int i =>
    obtain ⟨t, rfl⟩ := (show ∃ t, v = Value.int i t from rx)
    obtain ⟨id, sl, hd⟩ := nn.i
    exact Ow.half_number I.kIn J rfl (typeIs_int s i t) hc hs hm.at_ hm.fn (Ow.bt_number (.inl rfl) hn) hs1 sl (fun Q' z => hd h1 h2 z) w
  | bl b =>
    cases (show v = Value.bool b from rx)
    obtain ⟨id, sl, hd⟩ := nn.b
    exact Ow.half_number I.kIn J rfl rfl hc hs hm.at_ hm.fn (Ow.bt_number (.inr rfl) hn) hs2 sl (fun Q' z => hd h1 h2 z) w
  | bare h hB => exact Ow.half_bare I.kIn J look hc hs hm.at_ hm.fn (Ow.bt_bare hB hn) w
end
end Lw
namespace Lw
open PySem PySem.Spec PyProof.Rows L2

open LamX
abbrev sRadd : Stmt := inClass (top 15) 5
abbrev sRmul : Stmt := inClass (top 15) 9
abbrev sSub : Stmt := inClass (top 15) 6
abbrev sRsub : Stmt := inClass (top 15) 7

theorem News.eq {C : Addr} {H : Hp} {Q : VK} {t b t' b' : Int} (n : News C H Q t b) (e : lov t' b' = lov t b ∧ lun t' b' = lun t b) : News C H Q t' b' := fun c H' s hc hr => n c H' s hc (by rw [e.1, e.2] at hr; exact hr)
theorem News.after {C : Addr} {H H' : Hp} {Q : VK} {t b : Int} (n : News C H Q t b) (s : Same H H') : News C H' Q t b := fun c H2 s2 hc hr => n c H2 (s.trans s2) (s.free hc) hr
theorem Mid.of {i j : Int} (h : Mid i) (l : j.natAbs ≤ i.natAbs) : Mid j := Nat.lt_of_le_of_lt l h
section
variable {P : Program} {w : World} {K : PySem.W.Frag} {mg : Str → Option Value} {base : Heap}

def spRadd (K : PySem.W.Frag) (C D : Addr) : Sp := fun vs H Q E => ∃ (a : Addr) (v : V) (o u : Int) (T : String), vs = [.ref a, v] ∧ NumAt K C H (.ref a) o u ∧ Bt K H v T ∧
  ((∃ p q, NumAt K C H v p q ∧ News C H Q (o * q + p * u) (u * q)) ∨ Refuses K C D v H E)
theorem scRadd : FnScope ["self", "other"] ["self", "other"] (C8.fnScope sRadd) := C8.fnScope_by (by decide +kernel)
theorem fn_radd {C D f1 : Addr} {fd1 : FuncData} (F : C8.Fun K "__radd__" "Ratio.__radd__" sRadd f1 fd1) (M : MetX P w K mg base 7 C (PySem.dunder "add") (spAdd K C D)) (hc : PySem.W.selfFirst K C = true) (hb : ∃ g : Addr, PySem.W.findIn K (.ref C) (dunderR "add") = some (some (.ref g))) : FnOk P w K mg base (L2.CX P w) 8 f1 fd1 ["self", "other"] (spRadd K C D) := by
  obtain ⟨oc, od, dV, kV, doc, pm, an, cdv, ct, osl, rfl, lk, hcd⟩ := F.ex
  refine fn_of lk hcd scRadd (fun vs H Q E h => ?_) fun A outer s H vs Q E hr h => ?_
  · obtain ⟨a, v, o, u, T, rfl, _⟩ := h
    rfl
  · obtain ⟨a, v, o, u, T, rfl, na, bt, h⟩ := h
    obtain ⟨⟨dxa, ha⟩, u0, mo, mu⟩ := na.ref
    refine ⟨_, pss_one (ps_ret (pe_op (op_of (op := .Add) (half_lft M (passes_call (takes_of rfl rfl rfl rfl) (fun _ _ _ _ z => z)) hc hb (by decide) hr (by decide))) (pv 0) (pv 1))), ?_⟩
    exact ⟨_, rfl, _, rfl, a, dxa, _, T, rfl, ha, bt, a, v, o, u, rfl, na, h⟩

def spRmul (K : PySem.W.Frag) (C D : Addr) : Sp := fun vs H Q E => ∃ (a : Addr) (v : V) (o u : Int) (T : String), vs = [.ref a, v] ∧ NumAt K C H (.ref a) o u ∧ Bt K H v T ∧
  ((∃ p q, NumAt K C H v p q ∧ News C H Q (o * p) (u * q)) ∨ Refuses K C D v H E)
theorem scRmul : FnScope ["self", "other"] ["self", "other"] (C8.fnScope sRmul) := C8.fnScope_by (by decide +kernel)
theorem fn_rmul {C D f1 : Addr} {fd1 : FuncData} (F : C8.Fun K "__rmul__" "Ratio.__rmul__" sRmul f1 fd1) (M : MetX P w K mg base 7 C (PySem.dunder "mul") (spMul K C D)) (hc : PySem.W.selfFirst K C = true) (hb : ∃ g : Addr, PySem.W.findIn K (.ref C) (dunderR "mul") = some (some (.ref g))) : FnOk P w K mg base (L2.CX P w) 8 f1 fd1 ["self", "other"] (spRmul K C D) := by
  obtain ⟨oc, od, dV, kV, doc, pm, an, cdv, ct, osl, rfl, lk, hcd⟩ := F.ex
  refine fn_of lk hcd scRmul (fun vs H Q E h => ?_) fun A outer s H vs Q E hr h => ?_
  · obtain ⟨a, v, o, u, T, rfl, _⟩ := h
    rfl
  · obtain ⟨a, v, o, u, T, rfl, na, bt, h⟩ := h
    obtain ⟨⟨dxa, ha⟩, u0, mo, mu⟩ := na.ref
    refine ⟨_, pss_one (ps_ret (pe_op (op_of (op := .Mult) (half_lft M (passes_call (takes_of rfl rfl rfl rfl) (fun _ _ _ _ z => z)) hc hb (by decide) hr (by decide))) (pv 0) (pv 1))), ?_⟩
    exact ⟨_, rfl, _, rfl, a, dxa, _, T, rfl, ha, bt, a, v, o, u, rfl, na, h⟩

def spSub (K : PySem.W.Frag) (C D : Addr) : Sp := fun vs H Q E => ∃ (a : Addr) (v : V) (o u : Int), vs = [.ref a, v] ∧ NumAt K C H (.ref a) o u ∧
  ((∃ p q, NumAt K C H v p q ∧ News C H Q (o * q - p * u) (u * q)) ∨ Refuses K C D v H E)
theorem scSub : FnScope ["self", "other", "taken"] ["self", "other"] (C8.fnScope sSub) := C8.fnScope_by (by decide +kernel)
theorem fn_sub {C D f g f1 pO : Addr} {fd fdg fd1 : FuncData} {ds : List Value} (F : C8.Fun K "__sub__" "Ratio.__sub__" sSub f1 fd1) (RM : RatM P w K mg base C D f fd ds) (OM : OfM P w K mg base C D pO g fdg) (cl : Cls K C) (n1 : NoAttr K C "over") (n2 : NoAttr K C "under") : FnOk P w K mg base (L2.CX P w) 8 f1 fd1 ["self", "other"] (spSub K C D) := by
  obtain ⟨oc, od, dV, kV, doc, pm, an, cdv, ct, osl, rfl, lk, hcd⟩ := F.ex
  refine fn_of lk hcd scSub (fun vs H Q E h => ?_) fun A outer s H vs Q E hr h => ?_
  · obtain ⟨a, v, o, u, rfl, _⟩ := h
    rfl
  · obtain ⟨a, v, o, u, rfl, na, h⟩ := h
    obtain ⟨⟨dxa, ha⟩, u0, mo, mu⟩ : RatAt C H a o u ∧ 0 < u ∧ Mid o ∧ Mid u := by
      cases na with
      | rat h h0 hp hq => exact ⟨h, h0, hp, hq⟩
    refine ⟨_, (pss_cons (ps_set (i := 2) scSub.nd rfl (Or.inl rfl) (pe_static (pe_glob (v := .ref C) (by rfl) RM.hm rfl) OM.S OM.F (hr.mono (by decide)) OM.b .nil (passes_call (takes_of rfl rfl rfl rfl) (fun _ _ _ _ z => z)) (pa_cons (pv 1) pa_nil)))
  (pss_one (ps_ret (pe_make RM.M RM.F (hr.mono (by decide)) (by rfl) RM.hm RM.b2 .nil (passes_call (takes_of rfl rfl rfl rfl) (fun _ _ _ _ z => z)) (pa_cons (pe_op op_sub (pe_op op_mulW (pe_fld (pv 0) rfl) (pe_fld (pv 2) rfl)) (pe_op op_mulW (pe_fld (pv 2) rfl) (pe_fld (pv 0) rfl))) (pa_cons (pe_op op_mulW (pe_fld (pv 0) rfl) (pe_fld (pv 2) rfl)) pa_nil)))))), ?_⟩
    dsimp only [tSeq]
    refine join_any (fun σ' H' => ∃ b p q, σ' = [some (V.ref a), some v, some (V.ref b)] ∧ Same H H' ∧ RatAt C H' b p q ∧ 0 < q ∧ Mid p ∧ Mid q ∧ News C H Q (o * q - p * u) (u * q)) ?rest (fun go => ?_)
    case rest =>
      rintro σ' H' ⟨b, p, q, rfl, s1, ⟨dxb, hb⟩, q0, mp, mq, new⟩
      have ha' := s1 _ _ ha
      refine ⟨_, rfl, a, C, dxa, _, _, rfl, ha', cl, n1, flds_over o u, _, rfl, b, C, dxb, _, _, rfl, hb, cl, n2, flds_under p q, _, _, rfl, rfl, mid_mul mo mq, ?_⟩
      refine ⟨_, rfl, b, C, dxb, _, _, rfl, hb, cl, n1, flds_over p q, _, rfl, a, C, dxa, _, _, rfl, ha', cl, n2, flds_under o u, _, _, rfl, rfl, mid_mul mp mu, _, _, rfl, rfl, ?_⟩
      refine ⟨_, rfl, a, C, dxa, _, _, rfl, ha', cl, n2, flds_under o u, _, rfl, b, C, dxb, _, _, rfl, hb, cl, n2, flds_under p q, _, _, rfl, rfl, mid_mul mu mq, fun x dx hx hdx ne => ?_⟩
      have s2 : Same H' (upd H' dx (.own x)) := same_new hdx
      have hx1 : upd H' dx (.own x) x = none := by rw [upd_ne ne.symm]; exact hx
      have b0 : 0 < u * q := Int.mul_pos u0 q0
      have w1 := mul_mid mo mq
      have w2 := mul_mid mp mu
      have w3 := mul_mid mu mq
      refine ⟨x, dx, .int (o * q - p * u), .int (u * q), rfl, .int _, .int _, upd_same, (fun h => by cases h), fun _ h2 => ?_, fun i j e1 e2 hj => ?_⟩
      · rcases h2 with h2 | h2
        · cases h2
        · have := V.int.inj h2
          omega
      · cases e1
        cases e2
        refine ⟨small_of (Nat.lt_of_le_of_lt (Int.natAbs_sub_le _ _) (by rw [show (2402 : Nat) = 2400 + 2 from rfl, Nat.pow_add]; omega)), small_of (Nat.lt_trans w3 (Nat.pow_lt_pow_right (by decide) (by decide))), rfl, ?_⟩
        rw [upd_upd, made_over hj, made_under hj]
        exact new x _ ((s1.trans s2).trans (same_new hx1)) (s1.free hx) ⟨dx, upd_same⟩
    refine ⟨rfl, _, rfl, v, rfl, ?_⟩
    rcases h with ⟨p, q, nv, new⟩ | ⟨t, av, ty, hk, hv, k⟩
    · cases nv with
      | rat h h0 hp hq =>
        obtain ⟨dx, hb⟩ := h
        exact .inl ⟨_, dx, _, rfl, hb, go _ _ ⟨_, p, q, rfl, Same.refl _, ⟨dx, hb⟩, h0, hp, hq, new⟩⟩
      | int hi hk =>
        refine .inr ⟨.type "int", .int _, .x (.base (.int _)), hk, fun i e => ?_, fun hv => by cases hv⟩
        cases e
        refine ⟨hi.small, fun c H' s1 hc hr => go _ _ ⟨c, _, _, rfl, s1, hr, ?_, ?_, ?_, ?_⟩⟩
        · rw [(lov_one _).2]; decide
        · rw [(lov_one _).1]; exact hi
        · rw [(lov_one _).2]; show 1 < 2 ^ 1200; exact Nat.one_lt_two_pow (by decide)
        · rw [(lov_one _).1, (lov_one _).2]; exact new
    · exact .inr ⟨t, av, ty, hk, (fun i e => by subst e; cases hv), fun _ => k⟩
def spRsub (K : PySem.W.Frag) (C D : Addr) : Sp := fun vs H Q E => ∃ (a : Addr) (v : V) (o u : Int) (T : String), vs = [.ref a, v] ∧ NumAt K C H (.ref a) o u ∧ Bt K H v T ∧
  ((∃ p q, NumAt K C H v p q ∧ News C H Q (p * u - o * q) (q * u)) ∨ Refuses K C D v H E)
theorem scRsub : FnScope ["self", "other"] ["self", "other"] (C8.fnScope sRsub) := C8.fnScope_by (by decide +kernel)
theorem fn_rsub {C D f1 g pO : Addr} {fd1 fdg : FuncData} (F : C8.Fun K "__rsub__" "Ratio.__rsub__" sRsub f1 fd1) (hm : mg "Ratio" = some (.ref C)) (OM : OfM P w K mg base C D pO g fdg) (M : MetX P w K mg base 8 C (PySem.dunder "sub") (spSub K C D)) (hc : PySem.W.selfFirst K C = true) : FnOk P w K mg base (L2.CX P w) 9 f1 fd1 ["self", "other"] (spRsub K C D) := by
  obtain ⟨oc, od, dV, kV, doc, pm, an, cdv, ct, osl, rfl, lk, hcd⟩ := F.ex
  refine fn_of lk hcd scRsub (fun vs H Q E h => ?_) fun A outer s H vs Q E hr h => ?_
  · obtain ⟨a, v, o, u, T, rfl, _⟩ := h
    rfl
  · obtain ⟨a, v, o, u, T, rfl, na, bt, h⟩ := h
    obtain ⟨⟨dxa, ha⟩, u0, mo, mu⟩ := na.ref
    refine ⟨_, pss_one (ps_ret (pe_op (op_of (op := .Sub) (half_own M (passes_call (takes_of rfl rfl rfl rfl) (fun _ _ _ _ z => z)) hc hr (by decide))) (pe_static (pe_glob (v := .ref C) (by rfl) hm rfl) OM.S OM.F (hr.mono (by decide)) OM.b .nil (passes_call (takes_of rfl rfl rfl rfl) (fun _ _ _ _ z => z)) (pa_cons (pv 1) pa_nil)) (pv 0))), ?_⟩
    refine ⟨rfl, _, rfl, ?_⟩
    dsimp only [tNil]
    refine of_ok (h.imp (fun ⟨p, q, nv, new⟩ => ⟨p, q, nv, fun b H' s1 hb q0 mp mq => ?_⟩) id)
    have nb : NumAt K C H' (.ref b) p q := .rat hb q0 mp mq
    obtain ⟨dxb, hb⟩ := hb
    exact ⟨_, rfl, b, dxb, _, a, dxa, _, rfl, rfl, hb, s1 _ _ ha, b, .ref a, p, q, rfl, nb, .inl ⟨o, u, .rat ⟨dxa, s1 _ _ ha⟩ u0 mo mu, new.after s1⟩⟩
end
end Lw
namespace Lw
open PySem PySem.Spec PyProof.Rows L2

open LamX
/-- a method that promises less -/
theorem MetX.imp {P : Program} {w : World} {K : PySem.W.Frag} {mg : Str → Option Value} {base : Heap} {k : Nat} {C : Addr} {m : Str} {sp sp' : Sp} (M : MetX P w K mg base k C m sp) (h : ∀ vs H Q E, sp' vs H Q E → sp vs H Q E) : MetX P w K mg base k C m sp' := by
  obtain ⟨g, fd, ps, h1, F, h3⟩ := M.ex
  exact ⟨g, fd, ps, h1, ⟨fun vs H Q E z => F.len vs H Q E (h _ _ _ _ z), fun A outer s H args us vs Q E hr e0 hb r z => F.run A outer s H args us vs Q E hr e0 hb r (h _ _ _ _ z)⟩, h3⟩
/-- what an operator tells of two fractions -/
abbrev Fr := Int → Int → Int → Int → Int × Int
def frAdd : Fr := fun o u p q => (o * q + p * u, u * q)
def frSub : Fr := fun o u p q => (o * q - p * u, u * q)
def frMul : Fr := fun o u p q => (o * p, u * q)
def spF (K : PySem.W.Frag) (C D : Addr) (f : Fr) : Sp := fun vs H Q E => ∃ (a : Addr) (v : V) (o u : Int), vs = [.ref a, v] ∧ NumAt K C H (.ref a) o u ∧ ((∃ p q, NumAt K C H v p q ∧ News C H Q (f o u p q).1 (f o u p q).2) ∨ Refuses K C D v H E)
def spB (K : PySem.W.Frag) (C D : Addr) (f : Fr) : Sp := fun vs H Q E => ∃ (a : Addr) (v : V) (o u : Int) (T : String), vs = [.ref a, v] ∧ NumAt K C H (.ref a) o u ∧ Bt K H v T ∧ ((∃ p q, NumAt K C H v p q ∧ News C H Q (f p q o u).1 (f p q o u).2) ∨ Refuses K C D v H E)
/-- the class as an operator's operand -/
structure OpC (K : PySem.W.Frag) (C : Addr) : Prop where
  first : PySem.W.selfFirst K C = true
  s1 : PySem.W.subIn K (.ref C) (.type "int") = some false
  s2 : PySem.W.subIn K (.ref C) (.type "bool") = some false
/-- an operator of the class -/
structure OpB (P : Program) (w : World) (K : PySem.W.Frag) (mg : Str → Option Value) (base : Heap) (C D : Addr) (nm : String) (f : Fr) : Prop where
  c : OpC K C
  fwd : MetX P w K mg base 9 C (PySem.dunder nm) (spF K C D f)
  bwd : MetX P w K mg base 9 C (dunderR nm) (spB K C D f)
  mem : nm ∈ Ow.Nms
  nn : NoNum nm
theorem OpB.f1 {P : Program} {w : World} {K : PySem.W.Frag} {mg : Str → Option Value} {base : Heap} {C D : Addr} {nm : String} {f : Fr} (M : OpB P w K mg base C D nm f) : ∃ g : Addr, PySem.W.findIn K (.ref C) (PySem.dunder nm) = some (some (.ref g)) := by
  obtain ⟨g, fd, ps, h1, _⟩ := M.fwd.ex
  exact ⟨g, h1.at_⟩
theorem OpB.f2 {P : Program} {w : World} {K : PySem.W.Frag} {mg : Str → Option Value} {base : Heap} {C D : Addr} {nm : String} {f : Fr} (M : OpB P w K mg base C D nm f) : ∃ g : Addr, PySem.W.findIn K (.ref C) (dunderR nm) = some (some (.ref g)) := by
  obtain ⟨g, fd, ps, h1, _⟩ := M.bwd.ex
  exact ⟨g, h1.at_⟩
/-- two numbers, one of them a ratio -/
def rNum (K : PySem.W.Frag) (C : Addr) (f : Fr) : R2 := fun x y H Q => ∃ o u p q, NumAt K C H x o u ∧ NumAt K C H y p q ∧ (isI x = false ∨ isI y = false) ∧ News C H Q (f o u p q).1 (f o u p q).2
/-- a ratio and a value that is no number -/
def rOdd (K : PySem.W.Frag) (C D : Addr) (E : XK) : R2 := fun x y H _ => ∃ a o u v T, NumAt K C H (.ref a) o u ∧ Bt K H v T ∧ Refuses K C D v H E ∧ ((x = .ref a ∧ y = v) ∨ (x = v ∧ y = .ref a))
section
variable {X : Cx} {C D : Addr} {j : Nat} {E : XK} {nm : String} {f : Fr}
theorem NumAt.left {K : PySem.W.Frag} {H : Hp} {x : V} {o u : Int} (h : NumAt K C H x o u) : LeftNo C H x := by
  cases h with
  | rat h => exact .own h.choose_spec
  | int hi => exact .int _
theorem half_num (M : OpB X.prog X.w X.K X.mg X.base C D nm f) (hr : Room j X.A) (hk : 9 ≤ j) : HalfR X nm (rNum X.K C f) := by
  have hx : Passes (L2.CX X.prog X.w) X (fun _ _ _ => False) := passes_call takes0 (fun _ _ _ _ z => z)
  refine half_imp (half_or (half_own M.fwd hx M.c.first hr hk) (half_or (half_lft M.fwd hx M.c.first M.f2 M.mem hr hk) (half_rgt M.bwd hx M.c.first M.f1 M.mem M.nn M.c.s1 M.c.s2 hr hk))) fun x y H Q h => ?_
  obtain ⟨o, u, p, q, nx, ny, hi, new⟩ := h
  cases nx with
  | @rat a _ _ hx h0 mo mu =>
    have na : NumAt X.K C H (.ref a) o u := .rat hx h0 mo mu
    obtain ⟨dx, ha⟩ := hx
    cases ny with
    | @rat b _ _ hy h0' mp mq =>
      have nb : NumAt X.K C H (.ref b) p q := .rat hy h0' mp mq
      obtain ⟨dy, hb⟩ := hy
      exact .inl ⟨a, dx, _, b, dy, _, rfl, rfl, ha, hb, a, .ref b, o, u, rfl, na, .inl ⟨p, q, nb, new⟩⟩
    | int mi hk => exact .inr (.inl ⟨a, dx, _, "int", rfl, ha, .int p, a, .int p, o, u, rfl, na, .inl ⟨p, 1, .int mi hk, new⟩⟩)
  | int mi hk =>
    cases ny with
    | @rat b _ _ hy h0' mp mq =>
      have nb : NumAt X.K C H (.ref b) p q := .rat hy h0' mp mq
      obtain ⟨dy, hb⟩ := hy
      exact .inr (.inr ⟨b, dy, _, "int", rfl, hb, .int o, b, .int o, p, q, "int", rfl, nb, .int o, .inl ⟨o, 1, .int mi hk, new⟩⟩)
    | int _ _ => rcases hi with h | h <;> cases h
theorem op_num {op : Operator} (M : OpB X.prog X.w X.K X.mg X.base C D op.info.2 f) (hr : Room j X.A) (hk : 9 ≤ j) : OpR X (binaryOp op) (rNum X.K C f) := op_of (half_num M hr hk)
theorem iop_num {op : Operator} (M : OpB X.prog X.w X.K X.mg X.base C D op.info.2 f) (ni : NoInplace X.K C op) (hI : fillsInplaceSlot (.type "int") op.info.2 (op == .Add) = pure false) (hr : Room j X.A) (hk : 9 ≤ j) : OpR X (inplaceOp op) (rNum X.K C f) := by
  have z := iop_of (half_num M hr hk) ni hI
  exact fun pins s σ H x y v u Q I rx ry h => z pins s σ H x y v u Q I rx ry ⟨h.choose_spec.choose_spec.choose_spec.choose_spec.1.left, h⟩
theorem op_odd {op : Operator} (M : OpB X.prog X.w X.K X.mg X.base C D op.info.2 f) (hx : Passes (L2.CX X.prog X.w) X E) (hr : Room j X.A) (hk : 9 ≤ j) : OpR X (binaryOp op) (rOdd X.K C D E) := by
  refine op_of (half_imp (half_or (half_lft M.fwd hx M.c.first M.f2 M.mem hr hk) (half_rgt M.bwd hx M.c.first M.f1 M.mem M.nn M.c.s1 M.c.s2 hr hk)) fun x y H Q h => ?_)
  obtain ⟨a, o, u, v, T, na, bt, rf, h⟩ := h
  obtain ⟨dx, ha⟩ := na.ref.1
  rcases h with ⟨rfl, rfl⟩ | ⟨rfl, rfl⟩
  · exact .inl ⟨a, dx, _, T, rfl, ha, bt, a, _, o, u, rfl, na, .inr rf⟩
  · exact .inr ⟨a, dx, _, T, rfl, ha, bt, a, _, o, u, T, rfl, na, bt, .inr rf⟩
end
end Lw
namespace Lw
open PySem PySem.Spec PyProof.Rows L2

open LamX
/-! ### repr of any value of the drawn ones -/
theorem SqL.sames {K : PySem.W.Frag} {a : Addr} {H H' : Hp} {ys : List V} (s : Same H H') (h : SqL K H a ys) : SqL K H' a ys := by
  rcases h with (h | ⟨o, h⟩) | h
  · exact .inl (.inl (s _ _ h))
  · exact .inl (.inr ⟨o, s _ _ h⟩)
  · exact .inr h
theorem SqT.sames {K : PySem.W.Frag} {a : Addr} {H H' : Hp} {ys : List V} (s : Same H H') (h : SqT K H a ys) : SqT K H' a ys := by
  rcases h with (h | ⟨o, h⟩) | h
  · exact .inl (.inl (s _ _ h))
  · exact .inl (.inr ⟨o, s _ _ h⟩)
  · exact .inr h
mutual
theorem Dp.sames {K : PySem.W.Frag} {H H' : Hp} (s : Same H H') : ∀ {v : V} {d : PyData}, Dp K H v d → Dp K H' v d
  | _, _, .non => .non
  | _, _, .bl b => .bl b
  | _, _, .int i => .int i
  | _, _, .str x => .str x
  | _, _, .lst h hs => .lst (SqL.sames s h) (DpAll.sames s hs)
  | _, _, .tup h hs => .tup (SqT.sames s h) (DpAll.sames s hs)
theorem DpAll.sames {K : PySem.W.Frag} {H H' : Hp} (s : Same H H') : ∀ {vs : List V} {ds : List PyData}, DpAll K H vs ds → DpAll K H' vs ds
  | _, _, .nil => .nil
  | _, _, .cons h hs => .cons (Dp.sames s h) (DpAll.sames s hs)
end
inductive Rp (K : PySem.W.Frag) (H : Hp) : V → Str → Prop where
  | non : Rp K H .non "None"
  | bl (b : Bool) : Rp K H (.bl b) (if b then "True" else "False")
  | str (z : Str) (h : (reprText z).length ≤ sizeLine) : Rp K H (.str z) (reprText z)
  | int (i : Int) (h : i.natAbs.log2 < 1920) : Rp K H (.int i) (toString i)
  | data {a : Addr} {d : PyData} (h : Dp K H (.ref a) d) (h1 : d.showable = true) (h2 : d.hasDict = false) (h3 : d.depth ≤ 100) (h4 : d.shown.length ≤ sizeLine) : Rp K H (.ref a) d.shown
  | dnil {a : Addr} (h : H a = some (.dK [])) : Rp K H (.ref a) (PyData.dict []).shown
  | d12 {a : Addr} (h : H a = some (.dK [(.inl 1, .int 2)])) : Rp K H (.ref a) (PyData.dict [(.int 1, .int 2)]).shown
theorem Rp.same {K : PySem.W.Frag} {H H' : Hp} {v : V} {r : Str} (s : Same H H') (h : Rp K H v r) : Rp K H' v r := by
  cases h with
  | non => exact .non
  | bl b => exact .bl b
  | str z h => exact .str z h
  | int i h => exact .int i h
  | data h h1 h2 h3 h4 => exact .data (Lw.Dp.sames s h) h1 h2 h3 h4
  | dnil h => exact .dnil (s _ _ h)
  | d12 h => exact .d12 (s _ _ h)
def rRpx (K : PySem.W.Frag) : List V → Hp → VK → Prop := fun xs H Q => ∃ (v : V) (r : Str), xs = [v] ∧ Rp K H v r ∧ Q (.str r) H
section
variable {X : Cx}
theorem call_reprX (hG : X.A.guards = some []) (hr : Room 0 X.A) : CallR X (.builtin "repr") (rRpx X.K) := by
  intro pins s σ H xs us Q I r h
  obtain ⟨v, z, rfl, hv, q⟩ := h
  obtain ⟨u, rfl, ru⟩ := vals1 r
  have hun := hr.un
  cases hv with
  | non =>
    cases (show u = Value.none from ru)
    exact PySem.P.repr_of_none ⟨.str "None", H, I.tok _, ⟨_, rfl⟩, q⟩
  | int i h =>
    obtain ⟨t, rfl⟩ := (show ∃ t, u = Value.int i t from ru)
    exact PySem.P.repr_of_int h ⟨.str (toString i), H, I.tok _, ⟨_, rfl⟩, q⟩
  | bl b =>
    cases (show u = Value.bool b from ru)
    refine PySem.P.repr_of_bool ⟨.str (if b then "True" else "False"), H, I.tok _, ⟨_, rfl⟩, ?_⟩
    cases b <;> exact q
  | str z h =>
    obtain ⟨t, rfl⟩ := (show ∃ t, u = Value.str z t from ru)
    exact PySem.P.repr_of_str ⟨.str (reprText z), H, I.tok _, ⟨_, rfl⟩, q⟩ h
  | @data a d h h1 h2 h3 h4 =>
    cases (show u = Value.ref a from ru)
    obtain ⟨as, rd⟩ := Dp.reads I d _ _ h rfl
    exact repr_of_reads' rd h1 (fun z => by rw [h2] at z; cases z) hG (by omega) (fun _ _ e => e) (fun h' u' tk kp => ⟨.str d.shown, H, I.kept kp, ⟨u', rfl⟩, q⟩) h4
  | @dnil a h =>
    cases (show u = Value.ref a from ru)
    obtain ⟨_, hm, vs, kv, o, es, ep, ho, hx, hd, _, pr, _⟩ := dk_of I.hok h
    have e0 : vs = [] := by cases kv; rfl
    subst e0
    have e1 : es.toList = [] := by
      generalize es.toList = l at pr
      cases pr
      rfl
    have rd : Reads s.heap (.ref a) (.dict []) [a] := Reads.dict (as := []) (bs := []) ho hx.1 hd (by rw [e1]; exact .nil) (by rw [e1]; exact .nil)
    refine repr_of_reads' rd rfl (fun _ z => ?_) hG (by show _ + ((PyData.dict []).depth + 1) < cLine; have : (PyData.dict []).depth ≤ 1 := by decide
                                                        omega) (fun _ _ e => e) (fun h' u' tk kp => ⟨.str _, H, I.kept kp, ⟨u', rfl⟩, q⟩) (by decide)
    rw [List.mem_singleton] at z
    rw [← z] at hm
    simp at hm
  | @d12 a h =>
    cases (show u = Value.ref a from ru)
    obtain ⟨_, hm, vs, kv, o, es, ep, ho, hx, hd, _, pr, _⟩ := dk_of I.hok h
    cases kv with
    | @cons q1 q2 _ _ hq r0 =>
      cases r0
      obtain ⟨k2, v2⟩ := q2
      obtain ⟨e1, e2⟩ := hq
      have e1 : (.inl 1 : Key) = k2 := e1
      subst e1
      obtain ⟨tv, rfl⟩ := (show ∃ t, v2 = Value.int 2 t from e2)
      have rd : Reads s.heap (.ref a) (.dict [(.int 1, .int 2)]) [a] := by
        have keys : ReadsAll s.heap (es.toList.map (·.key)) [.int 1] [] ∧ ReadsAll s.heap (es.toList.map (·.val)) [.int 2] [] := by
          generalize es.toList = l at pr
          generalize hv2 : Value.int 2 tv = v2 at pr
          cases pr with
          | cons he hr =>
            cases hr
            rename_i e0 _ nil0
            cases nil0
            have he : keyIs (.inl 1) e0.key = true := he
            rcases keyIs_shape he with ⟨i, t, ei, ek⟩ | ⟨x, t, ei, ek⟩
            · cases ei
              refine ⟨?_, ?_⟩
              · show ReadsAll s.heap [e0.key] [.int 1] []
                rw [ek]
                exact .cons (.int 1 t) .nil
              · show ReadsAll s.heap [e0.val] [.int 2] []
                rw [show e0.val = _ from hv2.symm]
                exact .cons (.int 2 tv) .nil
            · cases ei
        exact Reads.dict (as := []) (bs := []) ho hx.1 hd keys.1 keys.2
      refine repr_of_reads' rd rfl (fun _ z => ?_) hG (by show _ + ((PyData.dict [(.int 1, .int 2)]).depth + 1) < cLine; have : (PyData.dict [(.int 1, .int 2)]).depth ≤ 1 := by decide
                                                          omega) (fun _ _ e => e) (fun h' u' tk kp => ⟨.str _, H, I.kept kp, ⟨u', rfl⟩, q⟩) (by decide +kernel)
      rw [List.mem_singleton] at z
      rw [← z] at hm
      simp at hm
end
end Lw
namespace Lw
open PySem PySem.Spec PyProof.Rows L2

open LamX
abbrev sHea : Stmt := top 26
/-- the caught error's class -/
structure Hrd (K : PySem.W.Frag) (mg : Str → Option Value) (D L : Addr) : Prop where
  xf : XfC K D
  no : PySem.W.findIn K (.ref D) "value" = some none
  xc : Hx.XCls K D
  me : PySem.W.kitOne K (.ref D) (.ref D) = some true
  ml : mg "LateError" = some (.ref L)
  md : mg "BadRatio" = some (.ref D)
  ex : PySem.W.exmOne K (.ref D) (.ref L) = some true
def TTheard (K : PySem.W.Frag) (D : Addr) : (XK → Hp → VK → Prop) → Hp → VK → Prop := fun tl H Q => ∃ (v : V) (r : Str),
  tl (fun cls d H1 => cls = .ref D ∧ ∃ dd, d = some dd ∧ H1 dd = some (.xd [("value", v)]) ∧ Rp K H1 v r ∧ ∀ t H3, Same H1 H3 → H1 t = none → H3 t = some (.tup [.str "ratio", .str r]) → Q (.ref t) H3) H
    (fun x H1 => 1 ≤ sizeLine ∧ ∀ l, H1 l = none → Q (.ref l) (upd H1 l (.lst [x])))
abbrev NHea : List Str := ["_law_ask", "_law_caught", "error"]
theorem scHea : FnScope NHea ["_law_ask"] (C8.fnScope sHea) := C8.fnScope_by (by decide +kernel)
theorem heard_gives {X : Cx} {q : Str} {g D L : Addr} {cdg : Value} (R : Hrd X.K X.mg D L) (T : Txt X.mg) (hG : X.A.guards = some []) (hr0 : Room 1 X.A) :
    GivesTo X NHea "_law_heard" (C8.fnScope sHea) g cdg (C8.fnBody sHea) "_law_ask" q (TTheard X.K D) := by
  intro f c' s H Q tl act hc h
  have hr : Room 0 (cxOf C8.CX0 X.prog X.w X.K X.mg X.base NHea "_law_heard" (C8.fnScope sHea) g cdg X.A X.stack s H C8.E0).nox.A := hr0.deeper _
  have hG' : (cxOf C8.CX0 X.prog X.w X.K X.mg X.base NHea "_law_heard" (C8.fnScope sHea) g cdg X.A X.stack s H C8.E0).nox.A.guards = some [] := hG
  refine ⟨_, pss_cons (ps_set (i := 1) scHea.nd rfl (Or.inl rfl) pe_non)
    (pss_cons (ps_try_held (X := (cxOf C8.CX0 X.prog X.w X.K X.mg X.base NHea "_law_heard" (C8.fnScope sHea) g cdg X.A X.stack s H C8.E0).nox) (c := .ref L) (i := 2)
      (tb := fun W Dn σ H => ∃ Ech : XK, (∀ cls d σ' H', Ech cls d H' → W cls d σ' H') ∧ σ[0]? = some (some (.ref f)) ∧ H c' = some (CodeO c' q) ∧ tl Ech H (fun x H1 => 1 ≤ sizeLine ∧ ∀ l, H1 l = none → Dn.rt (.ref l) (upd H1 l (.lst [x]))))
      rfl rfl scHea.nd rfl (by rfl) ⟨by rfl, by decide, .inl R.ml⟩ rfl (fun W pn xe tk _ => ?_) (fun a oe cls d pn _ _ => pss_one (ps_set (i := 1) scHea.nd rfl (Or.inl rfl) (pv 2))))
    (pss_one (ps_ret (pe_ifExp (pt_val (pe_callB call_isw (by rfl) T.n_isinstance (by decide +kernel) (pa_cons (pv 1) (pa_cons (pe_glob (v := .ref D) (by rfl) R.md rfl) pa_nil))))
      (pe_tup (pa_cons pe_str (pa_cons (pe_callB (call_reprX hG' hr) (by rfl) T.n_repr (by decide +kernel) (pa_cons (pe_held R.xf R.no (pv 1)) pa_nil)) pa_nil)))
      (pe_tup (pa_cons pe_str pa_nil)))))), ?_⟩
  · refine ⟨fun pins s' σ H' Dn I h' => ?_⟩
    obtain ⟨Ech, hW, h1, h2, h3⟩ := h'
    refine PSs.run (t := tRet (tLst (tCons (fun σZ HZ Q => σZ[0]? = some (some (V.ref f)) ∧ HZ c' = some (CodeO c' q) ∧ tl Ech HZ Q) tNil))) ?hp pins s' σ H' Dn I ⟨h1, h2, h3⟩
    case hp => exact pss_one (ps_ret (pe_lst (pa_cons (act W pn xe Ech _ _ tk hW) pa_nil)))
  · obtain ⟨v, r, h⟩ := h
    refine ⟨fun cls d H1 => cls = .ref D ∧ ∃ dd, d = some dd ∧ H1 dd = some (.xd [("value", v)]) ∧ Rp X.K H1 v r ∧ ∀ t H3, Same H1 H3 → H1 t = none → H3 t = some (.tup [.str "ratio", .str r]) → Q (.ref t) H3, fun cls d σ' H' z => ?_, rfl, hc, ?_⟩
    · obtain ⟨rfl, dd, rfl, e1, rp, go⟩ := z
      intro hl
      obtain ⟨x0, x1, x2, rfl⟩ : ∃ x0 x1 x2, σ' = [x0, x1, x2] := by
        match σ', hl with
        | [x0, x1, x2], _ => exact ⟨x0, x1, x2, rfl⟩
      refine ⟨R.ex, fun a na => ⟨_, rfl, fun na' => ?_⟩⟩
      have dx : dd ≠ a := fun e => by rw [e, na] at e1; cases e1
      have s1 : Same H' (upd H' a (ExO a (.ref D) (some dd))) := same_new na
      refine ⟨_, rfl, _, .ref D, .ref D, .ref D, true, rfl, .own D, .held upd_same (s1 _ _ e1) R.xc, R.me, _, rfl, iteT ?_⟩
      refine ⟨_, rfl, a, dd, _, v, rfl, upd_same, s1 _ _ e1, rfl, v, r, rfl, Rp.same s1 rp, (by show 2 ≤ sizeLine; decide), fun t ft => ?_⟩
      exact go t _ (s1.trans (same_new ft)) (s1.free ft) upd_same
    · exact h
end Lw
namespace Lw
open PySem PySem.Spec PyProof.Rows L2

open LamX
abbrev sOdd : Stmt := top 27
def good (d : PyData) : Bool := d.showable && !d.hasDict && decide (d.depth ≤ 100) && decide (d.shown.length ≤ sizeLine) && PyData.strOk d.shown
/-- a drawn value that is no number, and its text -/
inductive Oc (H : Hp) : V → Str → Prop where
  | non : Oc H .non "None"
  | bl (b : Bool) : Oc H (.bl b) (if b then "True" else "False")
  | str (z : Str) (h : (reprText z).length ≤ sizeLine ∧ PyData.strOk (reprText z) = true) : Oc H (.str z) (reprText z)
  | tup {a : Addr} (xs : List Int) (h : H a = some (.tup (xs.map V.int))) (g : good (.tuple (xs.map PyData.int)) = true) : Oc H (.ref a) (PyData.tuple (xs.map PyData.int)).shown
  | lst {a : Addr} (xs : List Int) (h : H a = some (.lst (xs.map V.int))) (g : good (.list (xs.map PyData.int)) = true) : Oc H (.ref a) (PyData.list (xs.map PyData.int)).shown
  | dct {a : Addr} (h : H a = some (.dK [])) : Oc H (.ref a) (PyData.dict []).shown
theorem Oc.move {H H' : Hp} {v : V} {r : Str} (h : Oc H v r) (k : ∀ a o, v = .ref a → H a = some o → H' a = some o) : Oc H' v r := by
  cases h with
  | non => exact .non
  | bl b => exact .bl b
  | str z h => exact .str z h
  | tup xs h g => exact .tup xs (k _ _ rfl h) g
  | lst xs h g => exact .lst xs (k _ _ rfl h) g
  | dct h => exact .dct (k _ _ rfl h)
theorem Oc.same {H H' : Hp} {v : V} {r : Str} (s : Same H H') (h : Oc H v r) : Oc H' v r := h.move fun a o _ e => s a o e
theorem Oc.rp {K : PySem.W.Frag} {H : Hp} {v : V} {r : Str} (h : Oc H v r) : Rp K H v r := by
  cases h with
  | non => exact .non
  | bl b => exact .bl b
  | str z h => exact .str z h.1
  | tup xs h g =>
    unfold good at g
    simp only [Bool.and_eq_true, decide_eq_true_eq, Bool.not_eq_true'] at g
    exact .data (.tup (SqT.of h) (dp_ints xs)) g.1.1.1.1 g.1.1.1.2 g.1.1.2 g.1.2
  | lst xs h g =>
    unfold good at g
    simp only [Bool.and_eq_true, decide_eq_true_eq, Bool.not_eq_true'] at g
    exact .data (.lst (SqL.of h) (dp_ints xs)) g.1.1.1.1 g.1.1.1.2 g.1.1.2 g.1.2
  | dct h => exact .dnil h
theorem Oc.sok {H : Hp} {v : V} {r : Str} (h : Oc H v r) : PyData.strOk r = true := by
  cases h with
  | non => decide +kernel
  | bl b => cases b <;> decide +kernel
  | str z h => exact h.2
  | tup xs h g =>
    unfold good at g
    simp only [Bool.and_eq_true] at g
    exact g.2
  | lst xs h g =>
    unfold good at g
    simp only [Bool.and_eq_true] at g
    exact g.2
  | dct h => decide +kernel
theorem Oc.bt {K : PySem.W.Frag} {H : Hp} {v : V} {r : Str} (h : Oc H v r) : ∃ T, Bt K H v T := by
  cases h with
  | non => exact ⟨"NoneType", .bare (.base .non) (by decide)⟩
  | bl b => exact ⟨_, .bl b⟩
  | str z h => exact ⟨"str", .bare (.base (.str z)) (by decide)⟩
  | tup xs h g => exact ⟨"tuple", .bare (.base (.tup h)) (by decide)⟩
  | lst xs h g => exact ⟨"list", .bare (.base (.lst h)) (by decide)⟩
  | dct h => exact ⟨"dict", .bare (.base (.dK h)) (by decide)⟩
/-- the class is none of the built-in types -/
structure Oks (K : PySem.W.Frag) (C : Addr) : Prop where
  i : PySem.W.kitOne K (.type "int") (.ref C) = some false
  n : PySem.W.kitOne K (.type "NoneType") (.ref C) = some false
  b : PySem.W.kitOne K (.type "bool") (.ref C) = some false
  s : PySem.W.kitOne K (.type "str") (.ref C) = some false
  t : PySem.W.kitOne K (.type "tuple") (.ref C) = some false
  l : PySem.W.kitOne K (.type "list") (.ref C) = some false
  d : PySem.W.kitOne K (.type "dict") (.ref C) = some false
theorem Oc.refuses {K : PySem.W.Frag} {C D : Addr} {H : Hp} {v : V} {r : Str} {E : XK} (O : Oks K C) (h : Oc H v r) (k : ∀ d H', Same H H' → H' d = none → E (.ref D) (some d) (upd H' d (.xd [("value", v)]))) : Refuses K C D v H E := by
  have od : ∀ {a : Addr} {T : String}, T = "tuple" ∨ T = "list" ∨ T = "dict" → TyX K H (.ref a) (.type T) → Anyv K H (.ref a) := fun {a T} e z => by
    rcases e with rfl | rfl | rfl <;> exact .obj (.x z) (kit_ty (by decide +kernel)) (kit_ty (by decide +kernel)) (kit_ty (by decide +kernel))
  cases h with
  | non => exact ⟨_, .non, .x (.base .non), O.n, rfl, k⟩
  | bl b => exact ⟨_, .bl b, .x (.base (.bl b)), O.b, rfl, k⟩
  | str z h => exact ⟨_, .str z, .x (.base (.str z)), O.s, rfl, k⟩
  | tup xs h g => exact ⟨_, od (.inl rfl) (.base (.tup h)), .x (.base (.tup h)), O.t, rfl, k⟩
  | lst xs h g => exact ⟨_, od (.inr (.inl rfl)) (.base (.lst h)), .x (.base (.lst h)), O.l, rfl, k⟩
  | dct h => exact ⟨_, od (.inr (.inr rfl)) (.base (.dK h)), .x (.base (.dK h)), O.d, rfl, k⟩
def spOdd : Sp := fun vs H Q _ => ∃ (p pl : Addr) (n : Nat), vs = [.ref p] ∧ Pen H p pl n ∧ n ≤ 900000 ∧ ∀ (v : V) (r : Str) (H' : Hp), Oc H' v r → v ≠ .ref p → Pen H' p pl (n + 1) → Kp p H H' → Q v H'
section
variable {P : Program} {w : World} {K : PySem.W.Frag} {mg : Str → Option Value} {base : Heap}
theorem scOdd : FnScope ["_law_pen_here"] ["_law_pen_here"] (C8.fnScope sOdd) := C8.fnScope_by (by decide +kernel)
theorem cal_odd {f : Addr} {fd : FuncData} (F : C8.Def K mg "_law_odd" sOdd f fd) (b : Binds K fd ["_law_pen_here"] []) (D2 : C8.Cal P w K mg base 2 "_law_pick" (spPick K) []) : C8.Cal P w K mg base 3 "_law_odd" spOdd [] := by
  refine C8.cal0 F b .nil scOdd (fun vs H Q E h => ?_) (fun cdv A outer st H vs Q E hr h => ?_)
  · obtain ⟨p, pl, n, rfl, _⟩ := h
    rfl
  · obtain ⟨p, pl, n, rfl, hp, hn, k⟩ := h
    refine ⟨_, (pss_one (ps_ret (C8.pe_c D2 hr (by decide) (by rfl) (pa_cons (pv 0) (pa_cons (pe_lst (pa_cons pe_non (pa_cons pe_bl (pa_cons pe_bl (pa_cons pe_str (pa_cons pe_str (pa_cons (pe_tup (pa_cons pe_int pa_nil)) (pa_cons (pe_lst (pa_cons pe_int pa_nil)) (pa_cons pe_dnewK (pa_cons (pe_tup (pa_cons pe_int (pa_cons pe_int pa_nil))) (pa_cons pe_str pa_nil))))))))))) pa_nil))))), ?_⟩
    refine ⟨_, rfl, ?_⟩
    refine ⟨(by show 1 ≤ sizeLine; decide), fun q1 f1 => ?_⟩
    refine ⟨(by show 1 ≤ sizeLine; decide), fun q2 f2 => ?_⟩
    intro q3 f3
    refine ⟨(by show 2 ≤ sizeLine; decide), fun q4 f4 => ?_⟩
    refine ⟨(by show 10 ≤ sizeLine; decide), fun l f5 => ?_⟩
    have s1 := same_new (o := HO.tup [V.int 1]) f1
    have s2 := same_new (o := HO.lst [V.int 1]) f2
    have s3 := same_new (o := HO.dK []) f3
    have s4 := same_new (o := HO.tup [V.int 1, V.int 2]) f4
    generalize h1 : upd H q1 _ = H1 at *
    have a1 : H1 q1 = some (.tup [V.int 1]) := by rw [← h1]; exact upd_same
    generalize h2 : upd H1 q2 _ = H2 at *
    have a2 : H2 q2 = some (.lst [V.int 1]) := by rw [← h2]; exact upd_same
    generalize h3 : upd H2 q3 _ = H3 at *
    have a3 : H3 q3 = some (.dK []) := by rw [← h3]; exact upd_same
    generalize h4 : upd H3 q4 _ = H4 at *
    have a4 : H4 q4 = some (.tup [V.int 1, V.int 2]) := by rw [← h4]; exact upd_same
    have p1 := hp.keep s1
    have p2 := p1.keep s2
    have p3 := p2.keep s3
    have p4 := p3.keep s4
    have s5 := same_new (o := HO.lst [V.non, V.bl true, V.bl false, V.str "1", V.str "1/2", V.ref q1, V.ref q2, V.ref q3, V.ref q4, V.str ""]) f5
    refine ⟨p, pl, l, n, _, rfl, p4.keep s5, by omega, SqL.of upd_same, p4.ne_new f5, (by show 0 < 10; decide), (by show 10 < 1000000; decide), fun j v H6 hj hp6 k6 => ?_⟩
    have far : ∀ b o, b ≠ p → H4 b = some o → H6 b = some o := fun b o hb e => k6 b o hb (s5 b o e)
    have kk : Kp p H H6 := fun b o hb e => far b o hb (s4 _ _ (s3 _ _ (s2 _ _ (s1 _ _ e))))
    have n1 : q1 ≠ p := hp.ne_new f1
    have n2 : q2 ≠ p := p1.ne_new f2
    have n3 : q3 ≠ p := p2.ne_new f3
    have n4 : q4 ≠ p := p3.ne_new f4
    have hv := List.mem_of_getElem? hj
    simp only [List.mem_cons, List.not_mem_nil, or_false] at hv
    rcases hv with rfl | rfl | rfl | rfl | rfl | rfl | rfl | rfl | rfl | rfl
    · exact k _ _ H6 .non (by simp) hp6 kk
    · exact k _ _ H6 (.bl true) (by simp) hp6 kk
    · exact k _ _ H6 (.bl false) (by simp) hp6 kk
    · exact k _ _ H6 (.str _ (by decide +kernel)) (by simp) hp6 kk
    · exact k _ _ H6 (.str _ (by decide +kernel)) (by simp) hp6 kk
    · exact k _ _ H6 (.tup [1] (far _ _ n1 (s4 _ _ (s3 _ _ (s2 _ _ a1)))) (by decide +kernel)) (fun e => n1 (V.ref.inj e)) hp6 kk
    · exact k _ _ H6 (.lst [1] (far _ _ n2 (s4 _ _ (s3 _ _ a2))) (by decide +kernel)) (fun e => n2 (V.ref.inj e)) hp6 kk
    · exact k _ _ H6 (.dct (far _ _ n3 (s4 _ _ a3))) (fun e => n3 (V.ref.inj e)) hp6 kk
    · exact k _ _ H6 (.tup [1, 2] (far _ _ n4 a4) (by decide +kernel)) (fun e => n4 (V.ref.inj e)) hp6 kk
    · exact k _ _ H6 (.str _ (by decide +kernel)) (by simp) hp6 kk
end
end Lw
namespace Lw
open PySem PySem.Spec PyProof.Rows L2

open LamX
/-! ### a lambda that is kept: its object is tracked, and it may be called by a name of its own frame -/
/-- the object at f is the lambda of this text -/
def LamO (qual : Str) (cells : List (Str × Addr)) (params : Arguments) (body : Expr) (scope : Scope) (f c' : Addr) : HO :=
  .ext fun h => ∃ pm ctv : Value, h.get? f = some (PySem.W.kla_obj "<lambda>" (qual ++ "<lambda>") params body scope (cloFrom cells scope.names []) pm c' ctv)
theorem lamO_ne {q : Str} {cells : List (Str × Addr)} {params : Arguments} {body : Expr} {scope : Scope} {f c' : Addr} (ps : Array Value) : LamO q cells params body scope f c' ≠ .tbl ps := fun z => by
  unfold LamO at z
  cases z
/-- what the call of the lambda does: its body's reading, told of the frame's slots -/
structure Act (X : Cx) (k : Nat) (params : Arguments) (body : Expr) (scope : Scope) (t : XK → TE) : Prop where
  L : LamS X.env.scope scope
  bind : ∀ (q : Str) (cl : List (Str × Addr)) (pm cv ctv : Value), bindArgs (PySem.W.kla_fn "<lambda>" q params body scope cl pm cv ctv) ⟨[], []⟩ = pure []
  run : ∀ (A : Around) (outer : List Env) (s : Shared) (H : Hp) (E : XK) (f c' : Addr), Room k (A.deeper (lamEnv X scope s.heap.objs.size f c')) → PE (lamCx X A outer s H E scope f c') body (t E)
/-- f is a kept lambda that does t -/
def Kept (X : Cx) (k : Nat) (H : Hp) (f : Addr) (t : XK → TE) : Prop := ∃ (params : Arguments) (body : Expr) (scope : Scope) (c' : Addr),
  H f = some (LamO X.env.qual X.env.cells params body scope f c') ∧ H c' = some (CodeO c' (X.env.qual ++ "<lambda>")) ∧ Act X k params body scope t
theorem Kept.move {X : Cx} {k : Nat} {H H' : Hp} {f : Addr} {t : XK → TE} (h : Kept X k H f t) (e : ∀ b o, H b = some o → (∀ ps, o ≠ .tbl ps) → (∀ xs, o ≠ .lst xs) → H' b = some o) : Kept X k H' f t := by
  obtain ⟨params, body, scope, c', h1, h2, a⟩ := h
  refine ⟨params, body, scope, c', e _ _ h1 lamO_ne (fun xs z => ?_), e _ _ h2 codeO_ne (fun xs z => ?_), a⟩
  · unfold LamO at z; cases z
  · unfold CodeO at z; cases z
theorem Kept.same {X : Cx} {k : Nat} {H H' : Hp} {f : Addr} {t : XK → TE} (h : Kept X k H f t) (s : Same H H') : Kept X k H' f t := h.move fun b o e _ _ => s b o e
theorem Kept.extn {X : Cx} {k : Nat} {H H' : Hp} {f : Addr} {t : XK → TE} (h : Kept X k H f t) (s : ExtN H H') : Kept X k H' f t := h.move fun b o e n _ => s b o e n
def tLamK (T : List (Addr × Str)) (X : Cx) (k : Nat) (t : XK → TE) : TE := fun _ H Q => Tabs T H ∧ ∀ (f : Addr) (H1 : Hp), ExtN H H1 → Tabs T H1 → H f = none → Kept X k H1 f t → Q (.ref f) H1
section
variable {X : Cx} {pins : List (Addr × Obj)} {σ : L2.St} {H : Hp} {s : Shared} {k : Nat}
theorem lay_lam {h' : Heap} {t' : Nat} {params : Arguments} {body : Expr} {scope : Scope} {c' : Addr} {pm ctv : Value} (I : Inv X pins σ H { s with heap := h', toks := t' }) :
    Inv X pins σ (upd H h'.objs.size (LamO X.env.qual X.env.cells params body scope h'.objs.size c')) { s with heap := h'.push (PySem.W.kla_obj "<lambda>" (X.env.qual ++ "<lambda>") params body scope (cloFrom X.env.cells scope.names []) pm c' ctv), toks := t' } := by
  refine I.laid (h' := h'.push _) (t' := t') (fun b u e => Heap.get?_push_of_some _ e) (Nat.le_refl _) ?_
  have g : (h'.push (PySem.W.kla_obj "<lambda>" (X.env.qual ++ "<lambda>") params body scope (cloFrom X.env.cells scope.names []) pm c' ctv)).get? h'.objs.size = some (PySem.W.kla_obj "<lambda>" (X.env.qual ++ "<lambda>") params body scope (cloFrom X.env.cells scope.names []) pm c' ctv) := Heap.get?_push_size _ rfl
  refine ⟨⟨pm, ctv, g⟩, ⟨_, g⟩, ?_⟩
  rintro h1 h2 ⟨pm, ctv, e⟩ st
  exact ⟨pm, ctv, st _ e⟩
theorem pe_lamK {T : List (Addr × Str)} {c B : Addr} {params : Arguments} {body : Expr} {scope : Scope} {pos : Pos} {t : XK → TE} (TB : TabB X.base X.mg c B) (hcode : X.env.code = .ref c)
    (hm : (B, X.env.qual ++ "<lambda>") ∈ T) (hu : ∀ p ∈ T, p.1 = B → p.2 = X.env.qual ++ "<lambda>") (hdef : defaultsOf params X.env = ([], [])) (act : Act X k params body scope t) :
    PE X (.Lambda params body scope pos) (tLamK T X k t) := by
  refine ⟨fun pins s σ H Q I h => ?_⟩
  obtain ⟨hT, h⟩ := h
  have known := hT _ hm
  obtain ⟨ps, hB, trip, amg⟩ := known
  refine PySem.W.kla_eval hdef ?_
  have hat : s.heap.get? B = some { cls := .none, data := .fields ps } := I.hok B _ hB
  have blt := TB.bm.keeps I.bk
  have hdc := TB.code.keeps I.bk
  have glb := I.mod.glob.keeps I.bk
  have cl := closure_ok (act.L.has I.ok)
  -- what is told once the object is laid
  have tell : ∀ {H1 : Hp} {f c' : Addr} {s' : Shared}, Inv X pins σ (upd H1 f (LamO X.env.qual X.env.cells params body scope f c')) s' → ExtN H H1 → Tabs T H1 → H1 f = none → H f = none → H1 c' = some (CodeO c' (X.env.qual ++ "<lambda>")) →
      EP X pins σ Q (.ref f) s' := fun {H1 f c' s'} I1 eN T1 n1 n0 hc => by
    have sm := same_new (o := LamO X.env.qual X.env.cells params body scope f c') n1
    exact ⟨.ref f, _, I1, rfl, h f _ (fun b o e n => sm _ _ (eN b o e n)) (T1.ext sm) n0 ⟨params, body, scope, c', upd_same, sm _ _ hc, act⟩⟩
  rcases hc : codeAmong pos ps.toList with _ | cv
  · refine PySem.W.kla_makeFunction (mg := X.mg) (c := c) (P := B) (ps := ps) cl I.ok.glob glb hcode hdc hat trip hc TB.gP blt ?_
    intro c2 ctv h' tk hx hge hlt hrec htb
    obtain ⟨c3, oc, vs, t', e3, g1, g2, g3⟩ := hrec
    cases e3
    have nC : H c2 = none := I.hok.fresh hge
    have I0 := inv_table (t' := tk) (more := #[rawInt pos.line, rawInt pos.col, .ref c2]) (h' := h') I hB hx htb hge ⟨oc, vs, t', g1, g2, g3⟩
    have stays : ExtN H (upd (upd H B (.tbl (ps ++ #[rawInt pos.line, rawInt pos.col, .ref c2]))) c2 (CodeO c2 (X.env.qual ++ "<lambda>"))) := by
      intro b o e n
      rw [upd_ne (ne_of_none e nC)]
      by_cases hb : b = B
      · subst hb
        rw [hB] at e
        exact absurd (Option.some.inj e).symm (n ps)
      · rw [upd_ne hb]; exact e
    have fresh : H h'.objs.size = none := I.hok.fresh (Nat.le_trans hge (Nat.le_of_lt hlt))
    refine tell (lay_lam (t' := tk) (c' := c2) (ctv := ctv) I0) stays ?_ ?_ fresh upd_same
    · intro p hp
      by_cases hb : p.1 = B
      · rw [hu p hp hb, hb]
        refine ⟨ps ++ #[rawInt pos.line, rawInt pos.col, .ref c2], ?_, ?_, ?_⟩
        · rw [upd_ne (ne_of_none hB nC), upd_same]
        · rw [show (ps ++ #[rawInt pos.line, rawInt pos.col, .ref c2]).toList = ps.toList ++ [rawInt pos.line, rawInt pos.col, .ref c2] by simp]
          exact PySem.TriplesOk_snoc _ _ _ _ trip
        · intro p' cv' hcv
          rw [show (ps ++ #[rawInt pos.line, rawInt pos.col, .ref c2]).toList = ps.toList ++ [rawInt pos.line, rawInt pos.col, .ref c2] by simp] at hcv
          rcases among_app _ trip hcv with z | z
          · obtain ⟨c0, a1, a2⟩ := amg p' cv' z
            exact ⟨c0, a1, stays _ _ a2 codeO_ne⟩
          · exact ⟨c2, z, upd_same⟩
      · obtain ⟨qs, a1, a2, a3⟩ := hT p hp
        refine ⟨qs, ?_, a2, ?_⟩
        · rw [upd_ne (ne_of_none a1 nC), upd_ne hb]; exact a1
        · intro p' cv' hcv
          obtain ⟨c0, b1, b2⟩ := a3 p' cv' hcv
          exact ⟨c0, b1, stays _ _ b2 codeO_ne⟩
    · have n1 : h'.objs.size ≠ c2 := Nat.ne_of_gt hlt
      have n2 : h'.objs.size ≠ B := Nat.ne_of_gt (Nat.lt_of_lt_of_le (Heap.lt_size hat) (Nat.le_trans hge (Nat.le_of_lt hlt)))
      rw [upd_ne n1, upd_ne n2]
      exact fresh
  · obtain ⟨c2, e, hco⟩ := amg pos cv hc
    subst e
    refine PySem.W.kla_makeFunctionHit (mg := X.mg) (c := c) (P := B) (ps := ps) cl I.ok.glob glb hcode hdc hat trip hc blt ?_
    intro ctv h' tk hx hsz
    have I0 : Inv X pins σ H { s with heap := h', toks := tk } := I.kept hx
    exact tell (lay_lam (t' := tk) (c' := c2) (ctv := ctv) I0) (ExtN.refl H) hT (I.hok.fresh hsz) (I.hok.fresh hsz) hco
/-- x(), x a name of this very frame that holds a kept lambda -/
theorem pe_keptcall {i : Nat} {a : Str} {W : WX} {pn : List (Addr × Obj)} {xe : Value → Shared → Prop} {p1 p2 : Pos} (tk : Takes (X.tr pn xe) W) (hr : Room (k + 1) X.A)
    (hN : X.N[i]? = some a) (hv : Vis X.env.scope a) (hd : (a == ("__debug__" : Str)) = false := by decide) (hcd : (a == ("__classdict__" : Str)) = false := by decide) :
    PE (X.tr pn xe) (.Call (.Name a p1) [] [] p2) (fun σ H Q => ∃ (f : Addr) (t : XK → TE) (E : XK), σ[i]? = some (some (.ref f)) ∧ Kept X k H f t ∧ (∀ cls d H', E cls d H' → W cls d σ H') ∧ t E σ H Q) := by
  refine ⟨fun pins s σ H Q I h => ?_⟩
  obtain ⟨f, t, E, hs, ⟨params, body, scope, c', hf, hc, act⟩, hW, ht⟩ := h
  refine wpAny_Call_Name_kw (thn ((pe_var (X := X.tr pn xe) (pos := p1) (i := i) hN hv hd hcd).run pins s σ H (fun v H1 => v = .ref f ∧ H1 = H) I ⟨.ref f, hs, rfl, rfl⟩) fun u s1 ⟨v, H1, I1, r1, q1⟩ => ?_)
  obtain ⟨ev, eH⟩ := q1
  subst ev
  rw [eH] at I1
  obtain rfl : u = Value.ref f := r1
  obtain ⟨⟨pm, ctv, of1⟩, _, _⟩ := I1.hok f _ hf
  refine PySem.W.callWith_F0 ⟨_, _, _, _, of1⟩ ?_
  obtain ⟨⟨oc, vs, t', hoc, hdc, hvc⟩, _, _⟩ := I1.hok c' _ hc
  have rc : codeAny (model X.prog X.w) X.A (.call (.ref f) ⟨[], []⟩) (CR (L2.CX X.prog X.w) X.stack X.prog X.w H s1 Q E) s1 := by
    refine PySem.W.kla_callFunE hr.depth of1 rfl act.L.co act.L.gen rfl ⟨c', oc, vs, t', rfl, hoc, hdc, hvc⟩ ?_
    rw [act.bind]
    refine wpAny_pure (wpAny_newFunctionEnv (fun y hy => (act.L.own y hy).2) (fun y hy => absurd hy (by simp)) (fun h₁ hns hsb => ⟨I1.nolimit.fresh _ hsb, ?_⟩) act.L.kind)
    show codeAny _ _ (.expr body (lamEnv X scope s1.heap.objs.size f c')) _ _
    have kp : ∀ b o, s1.heap.get? b = some o → h₁.get? b = some o := fun b o e => hsb.extBut b o (Nat.ne_of_lt (Heap.lt_size e)) (Heap.get?_push_of_some _ e)
    have J : Inv (lamCx (X.tr pn xe) X.A X.stack s1 H E scope f c') [] σ H { s1 with heap := h₁, toks := s1.toks + ([] : List (Str × Value)).length } :=
      lam_start2 (X := X.tr pn xe) I1 act.L I1.env0 hr.hd Un.refl hns kp
    refine PySem.W.kla_codeExpr (wpAny_mono ((act.run X.A X.stack s1 H E f c' (hr.deeper _)).run [] _ _ H Q J ht) (fun v s' hq => ?_) fun e s' hq => hq)
    obtain ⟨w', H', J', rv, q⟩ := hq
    exact ⟨w', H', J'.os, J'.bare, J'.base, J'.hok, rv, q⟩
  refine wpAny_call (codeAny_mono rc fun r s' hq => ?_)
  cases r with
  | error e => exact tk e s' (XE.of_call I1 (fun cls d H' h => hW cls d H' h) hq)
  | ok fl =>
    cases fl with
    | ret u => exact I1.after hq
    | next => exact False.elim hq
    | brk => exact False.elim hq
    | cont => exact False.elim hq
end
end Lw
namespace Lw.Ow
open PySem PySem.Spec PyProof.Rows PySem.W PySem.Calls

/-! ### a value of a built-in type declines to compare itself with an instance -/
section
variable {prog : Program} {w : World} {A : Around} {E : Value → Shared → Prop} {s : Shared}
theorem sl_int_Eq : Slot "int" (cmpInfo .Eq).2.1 "int.__eq__" :=
  .of (owner := "int") (n := "__eq__") (by rw [typeLookup_type, builtinLookup_eq_fast]; kernel_rfl) (by decide +kernel) (by decide +kernel) (by decide +kernel)
    (by first | exact .inl (by decide +kernel) | exact .inr (by decide +kernel)) (by rw [isSubtype_type]; kernel_rfl)
theorem en_int_Eq : entryFor table "int.__eq__" = some Builtin.«int.__eq__» := entryFor_of_fast (by kernel_rfl)
theorem ar_int_Eq (a b : Value) : argsOk "int.__eq__" ⟨[a, b], []⟩ := by unfold argsOk; kernel_rfl
theorem dc_int_Eq {i : Int} {t : Tok} {x : Addr} {o : Obj} {Q : Value → Shared → Prop} (ho : s.heap.get? x = some o) (hp : o.data = .plain) (h : Q .notImplemented s) : wpAny (model prog w) A (call (.builtin "int.__eq__") [.int i t, .ref x]) Q E s :=
  wpAny_call_entry sl_int_Eq (typeIs_int s i t) en_int_Eq (binary_no (nm := "__eq__") (f := fun x y => ret (.bool (x == y))) ho hp h) (ar_int_Eq _ _)
theorem sl_int_NotEq : Slot "int" (cmpInfo .NotEq).2.1 "int.__ne__" :=
  .of (owner := "int") (n := "__ne__") (by rw [typeLookup_type, builtinLookup_eq_fast]; kernel_rfl) (by decide +kernel) (by decide +kernel) (by decide +kernel)
    (by first | exact .inl (by decide +kernel) | exact .inr (by decide +kernel)) (by rw [isSubtype_type]; kernel_rfl)
theorem en_int_NotEq : entryFor table "int.__ne__" = some Builtin.«int.__ne__» := entryFor_of_fast (by kernel_rfl)
theorem ar_int_NotEq (a b : Value) : argsOk "int.__ne__" ⟨[a, b], []⟩ := by unfold argsOk; kernel_rfl
theorem dc_int_NotEq {i : Int} {t : Tok} {x : Addr} {o : Obj} {Q : Value → Shared → Prop} (ho : s.heap.get? x = some o) (hp : o.data = .plain) (h : Q .notImplemented s) : wpAny (model prog w) A (call (.builtin "int.__ne__") [.int i t, .ref x]) Q E s :=
  wpAny_call_entry sl_int_NotEq (typeIs_int s i t) en_int_NotEq (binary_no (nm := "__ne__") (f := fun x y => ret (.bool (x != y))) ho hp h) (ar_int_NotEq _ _)
theorem sl_int_Lt : Slot "int" (cmpInfo .Lt).2.1 "int.__lt__" :=
  .of (owner := "int") (n := "__lt__") (by rw [typeLookup_type, builtinLookup_eq_fast]; kernel_rfl) (by decide +kernel) (by decide +kernel) (by decide +kernel)
    (by first | exact .inl (by decide +kernel) | exact .inr (by decide +kernel)) (by rw [isSubtype_type]; kernel_rfl)
theorem en_int_Lt : entryFor table "int.__lt__" = some Builtin.«int.__lt__» := entryFor_of_fast (by kernel_rfl)
theorem ar_int_Lt (a b : Value) : argsOk "int.__lt__" ⟨[a, b], []⟩ := by unfold argsOk; kernel_rfl
theorem dc_int_Lt {i : Int} {t : Tok} {x : Addr} {o : Obj} {Q : Value → Shared → Prop} (ho : s.heap.get? x = some o) (hp : o.data = .plain) (h : Q .notImplemented s) : wpAny (model prog w) A (call (.builtin "int.__lt__") [.int i t, .ref x]) Q E s :=
  wpAny_call_entry sl_int_Lt (typeIs_int s i t) en_int_Lt (binary_no (nm := "__lt__") (f := fun x y => ret (.bool (decide (x < y)))) ho hp h) (ar_int_Lt _ _)
theorem sl_int_LtE : Slot "int" (cmpInfo .LtE).2.1 "int.__le__" :=
  .of (owner := "int") (n := "__le__") (by rw [typeLookup_type, builtinLookup_eq_fast]; kernel_rfl) (by decide +kernel) (by decide +kernel) (by decide +kernel)
    (by first | exact .inl (by decide +kernel) | exact .inr (by decide +kernel)) (by rw [isSubtype_type]; kernel_rfl)
theorem en_int_LtE : entryFor table "int.__le__" = some Builtin.«int.__le__» := entryFor_of_fast (by kernel_rfl)
theorem ar_int_LtE (a b : Value) : argsOk "int.__le__" ⟨[a, b], []⟩ := by unfold argsOk; kernel_rfl
theorem dc_int_LtE {i : Int} {t : Tok} {x : Addr} {o : Obj} {Q : Value → Shared → Prop} (ho : s.heap.get? x = some o) (hp : o.data = .plain) (h : Q .notImplemented s) : wpAny (model prog w) A (call (.builtin "int.__le__") [.int i t, .ref x]) Q E s :=
  wpAny_call_entry sl_int_LtE (typeIs_int s i t) en_int_LtE (binary_no (nm := "__le__") (f := fun x y => ret (.bool (decide (x ≤ y)))) ho hp h) (ar_int_LtE _ _)
theorem sl_int_Gt : Slot "int" (cmpInfo .Gt).2.1 "int.__gt__" :=
  .of (owner := "int") (n := "__gt__") (by rw [typeLookup_type, builtinLookup_eq_fast]; kernel_rfl) (by decide +kernel) (by decide +kernel) (by decide +kernel)
    (by first | exact .inl (by decide +kernel) | exact .inr (by decide +kernel)) (by rw [isSubtype_type]; kernel_rfl)
theorem en_int_Gt : entryFor table "int.__gt__" = some Builtin.«int.__gt__» := entryFor_of_fast (by kernel_rfl)
theorem ar_int_Gt (a b : Value) : argsOk "int.__gt__" ⟨[a, b], []⟩ := by unfold argsOk; kernel_rfl
theorem dc_int_Gt {i : Int} {t : Tok} {x : Addr} {o : Obj} {Q : Value → Shared → Prop} (ho : s.heap.get? x = some o) (hp : o.data = .plain) (h : Q .notImplemented s) : wpAny (model prog w) A (call (.builtin "int.__gt__") [.int i t, .ref x]) Q E s :=
  wpAny_call_entry sl_int_Gt (typeIs_int s i t) en_int_Gt (binary_no (nm := "__gt__") (f := fun x y => ret (.bool (decide (x > y)))) ho hp h) (ar_int_Gt _ _)
theorem sl_int_GtE : Slot "int" (cmpInfo .GtE).2.1 "int.__ge__" :=
  .of (owner := "int") (n := "__ge__") (by rw [typeLookup_type, builtinLookup_eq_fast]; kernel_rfl) (by decide +kernel) (by decide +kernel) (by decide +kernel)
    (by first | exact .inl (by decide +kernel) | exact .inr (by decide +kernel)) (by rw [isSubtype_type]; kernel_rfl)
theorem en_int_GtE : entryFor table "int.__ge__" = some Builtin.«int.__ge__» := entryFor_of_fast (by kernel_rfl)
theorem ar_int_GtE (a b : Value) : argsOk "int.__ge__" ⟨[a, b], []⟩ := by unfold argsOk; kernel_rfl
theorem dc_int_GtE {i : Int} {t : Tok} {x : Addr} {o : Obj} {Q : Value → Shared → Prop} (ho : s.heap.get? x = some o) (hp : o.data = .plain) (h : Q .notImplemented s) : wpAny (model prog w) A (call (.builtin "int.__ge__") [.int i t, .ref x]) Q E s :=
  wpAny_call_entry sl_int_GtE (typeIs_int s i t) en_int_GtE (binary_no (nm := "__ge__") (f := fun x y => ret (.bool (decide (x ≥ y)))) ho hp h) (ar_int_GtE _ _)
theorem sl_bool_Eq : Slot "bool" (cmpInfo .Eq).2.1 "int.__eq__" :=
  .of (owner := "int") (n := "__eq__") (by rw [typeLookup_type, builtinLookup_eq_fast]; kernel_rfl) (by decide +kernel) (by decide +kernel) (by decide +kernel)
    (by first | exact .inl (by decide +kernel) | exact .inr (by decide +kernel)) (by rw [isSubtype_type]; kernel_rfl)
theorem dc_bool_Eq {b : Bool} {x : Addr} {o : Obj} {Q : Value → Shared → Prop} (ho : s.heap.get? x = some o) (hp : o.data = .plain) (h : Q .notImplemented s) : wpAny (model prog w) A (call (.builtin "int.__eq__") [.bool b, .ref x]) Q E s :=
  wpAny_call_entry sl_bool_Eq rfl en_int_Eq (binary_noB (nm := "__eq__") (f := fun x y => ret (.bool (x == y))) ho hp h) (ar_int_Eq _ _)
theorem sl_bool_Lt : Slot "bool" (cmpInfo .Lt).2.1 "int.__lt__" :=
  .of (owner := "int") (n := "__lt__") (by rw [typeLookup_type, builtinLookup_eq_fast]; kernel_rfl) (by decide +kernel) (by decide +kernel) (by decide +kernel)
    (by first | exact .inl (by decide +kernel) | exact .inr (by decide +kernel)) (by rw [isSubtype_type]; kernel_rfl)
theorem dc_bool_Lt {b : Bool} {x : Addr} {o : Obj} {Q : Value → Shared → Prop} (ho : s.heap.get? x = some o) (hp : o.data = .plain) (h : Q .notImplemented s) : wpAny (model prog w) A (call (.builtin "int.__lt__") [.bool b, .ref x]) Q E s :=
  wpAny_call_entry sl_bool_Lt rfl en_int_Lt (binary_noB (nm := "__lt__") (f := fun x y => ret (.bool (decide (x < y)))) ho hp h) (ar_int_Lt _ _)
theorem sl_bool_GtE : Slot "bool" (cmpInfo .GtE).2.1 "int.__ge__" :=
  .of (owner := "int") (n := "__ge__") (by rw [typeLookup_type, builtinLookup_eq_fast]; kernel_rfl) (by decide +kernel) (by decide +kernel) (by decide +kernel)
    (by first | exact .inl (by decide +kernel) | exact .inr (by decide +kernel)) (by rw [isSubtype_type]; kernel_rfl)
theorem dc_bool_GtE {b : Bool} {x : Addr} {o : Obj} {Q : Value → Shared → Prop} (ho : s.heap.get? x = some o) (hp : o.data = .plain) (h : Q .notImplemented s) : wpAny (model prog w) A (call (.builtin "int.__ge__") [.bool b, .ref x]) Q E s :=
  wpAny_call_entry sl_bool_GtE rfl en_int_GtE (binary_noB (nm := "__ge__") (f := fun x y => ret (.bool (decide (x ≥ y)))) ho hp h) (ar_int_GtE _ _)
theorem sl_NoneType_Eq : Slot "NoneType" (cmpInfo .Eq).2.1 "NoneType.__eq__" :=
  .of (owner := "NoneType") (n := "__eq__") (by rw [typeLookup_type, builtinLookup_eq_fast]; kernel_rfl) (by decide +kernel) (by decide +kernel) (by decide +kernel)
    (by first | exact .inl (by decide +kernel) | exact .inr (by decide +kernel)) (by rw [isSubtype_type]; kernel_rfl)
theorem en_NoneType_Eq : entryFor table "NoneType.__eq__" = some Builtin.«NoneType.__eq__» := entryFor_of_fast (by kernel_rfl)
theorem ar_NoneType_Eq (a b : Value) : argsOk "NoneType.__eq__" ⟨[a, b], []⟩ := by unfold argsOk; kernel_rfl
theorem dc_NoneType_Eq {x : Addr} {Q : Value → Shared → Prop} (h : Q .notImplemented s) : wpAny (model prog w) A (call (.builtin "NoneType.__eq__") [.none, .ref x]) Q E s := by
  refine wpAny_call_entry sl_NoneType_Eq rfl en_NoneType_Eq ?_ (ar_NoneType_Eq _ _)
  unfold Builtin.«NoneType.__eq__»
  refine wpAny_bind (wpAny_of_eq (a := (Value.none, [Value.ref x])) rfl ?_)
  exact wpAny_pure ⟨_, rfl, h⟩
theorem sl_NoneType_Lt : Slot "NoneType" (cmpInfo .Lt).2.1 "NoneType.__lt__" :=
  .of (owner := "NoneType") (n := "__lt__") (by rw [typeLookup_type, builtinLookup_eq_fast]; kernel_rfl) (by decide +kernel) (by decide +kernel) (by decide +kernel)
    (by first | exact .inl (by decide +kernel) | exact .inr (by decide +kernel)) (by rw [isSubtype_type]; kernel_rfl)
theorem en_NoneType_Lt : entryFor table "NoneType.__lt__" = some Builtin.«NoneType.__lt__» := entryFor_of_fast (by kernel_rfl)
theorem ar_NoneType_Lt (a b : Value) : argsOk "NoneType.__lt__" ⟨[a, b], []⟩ := by unfold argsOk; kernel_rfl
theorem dc_NoneType_Lt {x : Addr} {Q : Value → Shared → Prop} (h : Q .notImplemented s) : wpAny (model prog w) A (call (.builtin "NoneType.__lt__") [.none, .ref x]) Q E s := by
  refine wpAny_call_entry sl_NoneType_Lt rfl en_NoneType_Lt ?_ (ar_NoneType_Lt _ _)
  unfold Builtin.«NoneType.__lt__»
  refine wpAny_bind (wpAny_of_eq (a := (Value.none, [Value.ref x])) rfl ?_)
  exact wpAny_pure ⟨_, rfl, h⟩
theorem sl_NoneType_GtE : Slot "NoneType" (cmpInfo .GtE).2.1 "NoneType.__ge__" :=
  .of (owner := "NoneType") (n := "__ge__") (by rw [typeLookup_type, builtinLookup_eq_fast]; kernel_rfl) (by decide +kernel) (by decide +kernel) (by decide +kernel)
    (by first | exact .inl (by decide +kernel) | exact .inr (by decide +kernel)) (by rw [isSubtype_type]; kernel_rfl)
theorem en_NoneType_GtE : entryFor table "NoneType.__ge__" = some Builtin.«NoneType.__ge__» := entryFor_of_fast (by kernel_rfl)
theorem ar_NoneType_GtE (a b : Value) : argsOk "NoneType.__ge__" ⟨[a, b], []⟩ := by unfold argsOk; kernel_rfl
theorem dc_NoneType_GtE {x : Addr} {Q : Value → Shared → Prop} (h : Q .notImplemented s) : wpAny (model prog w) A (call (.builtin "NoneType.__ge__") [.none, .ref x]) Q E s := by
  refine wpAny_call_entry sl_NoneType_GtE rfl en_NoneType_GtE ?_ (ar_NoneType_GtE _ _)
  unfold Builtin.«NoneType.__ge__»
  refine wpAny_bind (wpAny_of_eq (a := (Value.none, [Value.ref x])) rfl ?_)
  exact wpAny_pure ⟨_, rfl, h⟩
theorem sl_str_Eq : Slot "str" (cmpInfo .Eq).2.1 "str.__eq__" :=
  .of (owner := "str") (n := "__eq__") (by rw [typeLookup_type, builtinLookup_eq_fast]; kernel_rfl) (by decide +kernel) (by decide +kernel) (by decide +kernel)
    (by first | exact .inl (by decide +kernel) | exact .inr (by decide +kernel)) (by rw [isSubtype_type]; kernel_rfl)
theorem en_str_Eq : entryFor table "str.__eq__" = some Builtin.«str.__eq__» := entryFor_of_fast (by kernel_rfl)
theorem ar_str_Eq (a b : Value) : argsOk "str.__eq__" ⟨[a, b], []⟩ := by unfold argsOk; kernel_rfl
theorem dc_str_Eq {z : Str} {t : Tok} {x : Addr} {o : Obj} {Q : Value → Shared → Prop} (ho : s.heap.get? x = some o) (hp : o.data = .plain) (h : Q .notImplemented s) : wpAny (model prog w) A (call (.builtin "str.__eq__") [.str z t, .ref x]) Q E s := by
  refine wpAny_call_entry sl_str_Eq rfl en_str_Eq ?_ (ar_str_Eq _ _)
  unfold Builtin.«str.__eq__» Builtin.Str.strCompare
  refine wpAny_bind (wpAny_of_eq (a := (Value.str z t, z, [Value.ref x])) rfl ?_)
  refine wpAny_bind ?_
  show wpAny _ _ (load x >>= fun ob => match ob.data with | .prim (.str s _) => pure (some s) | _ => pure none) _ _ _
  refine wpAny_bind (wpAny_load ho ?_)
  rw [hp]
  exact wpAny_pure (wpAny_bind (wpAny_rule (wpAny_pure ⟨_, rfl, h⟩)))
theorem sl_str_Lt : Slot "str" (cmpInfo .Lt).2.1 "str.__lt__" :=
  .of (owner := "str") (n := "__lt__") (by rw [typeLookup_type, builtinLookup_eq_fast]; kernel_rfl) (by decide +kernel) (by decide +kernel) (by decide +kernel)
    (by first | exact .inl (by decide +kernel) | exact .inr (by decide +kernel)) (by rw [isSubtype_type]; kernel_rfl)
theorem en_str_Lt : entryFor table "str.__lt__" = some Builtin.«str.__lt__» := entryFor_of_fast (by kernel_rfl)
theorem ar_str_Lt (a b : Value) : argsOk "str.__lt__" ⟨[a, b], []⟩ := by unfold argsOk; kernel_rfl
theorem dc_str_Lt {z : Str} {t : Tok} {x : Addr} {o : Obj} {Q : Value → Shared → Prop} (ho : s.heap.get? x = some o) (hp : o.data = .plain) (h : Q .notImplemented s) : wpAny (model prog w) A (call (.builtin "str.__lt__") [.str z t, .ref x]) Q E s := by
  refine wpAny_call_entry sl_str_Lt rfl en_str_Lt ?_ (ar_str_Lt _ _)
  unfold Builtin.«str.__lt__» Builtin.Str.strCompare
  refine wpAny_bind (wpAny_of_eq (a := (Value.str z t, z, [Value.ref x])) rfl ?_)
  refine wpAny_bind ?_
  show wpAny _ _ (load x >>= fun ob => match ob.data with | .prim (.str s _) => pure (some s) | _ => pure none) _ _ _
  refine wpAny_bind (wpAny_load ho ?_)
  rw [hp]
  exact wpAny_pure (wpAny_bind (wpAny_rule (wpAny_pure ⟨_, rfl, h⟩)))
theorem sl_str_GtE : Slot "str" (cmpInfo .GtE).2.1 "str.__ge__" :=
  .of (owner := "str") (n := "__ge__") (by rw [typeLookup_type, builtinLookup_eq_fast]; kernel_rfl) (by decide +kernel) (by decide +kernel) (by decide +kernel)
    (by first | exact .inl (by decide +kernel) | exact .inr (by decide +kernel)) (by rw [isSubtype_type]; kernel_rfl)
theorem en_str_GtE : entryFor table "str.__ge__" = some Builtin.«str.__ge__» := entryFor_of_fast (by kernel_rfl)
theorem ar_str_GtE (a b : Value) : argsOk "str.__ge__" ⟨[a, b], []⟩ := by unfold argsOk; kernel_rfl
theorem dc_str_GtE {z : Str} {t : Tok} {x : Addr} {o : Obj} {Q : Value → Shared → Prop} (ho : s.heap.get? x = some o) (hp : o.data = .plain) (h : Q .notImplemented s) : wpAny (model prog w) A (call (.builtin "str.__ge__") [.str z t, .ref x]) Q E s := by
  refine wpAny_call_entry sl_str_GtE rfl en_str_GtE ?_ (ar_str_GtE _ _)
  unfold Builtin.«str.__ge__» Builtin.Str.strCompare
  refine wpAny_bind (wpAny_of_eq (a := (Value.str z t, z, [Value.ref x])) rfl ?_)
  refine wpAny_bind ?_
  show wpAny _ _ (load x >>= fun ob => match ob.data with | .prim (.str s _) => pure (some s) | _ => pure none) _ _ _
  refine wpAny_bind (wpAny_load ho ?_)
  rw [hp]
  exact wpAny_pure (wpAny_bind (wpAny_rule (wpAny_pure ⟨_, rfl, h⟩)))
theorem sl_tuple_Eq : Slot "tuple" (cmpInfo .Eq).2.1 "tuple.__eq__" :=
  .of (owner := "tuple") (n := "__eq__") (by rw [typeLookup_type, builtinLookup_eq_fast]; kernel_rfl) (by decide +kernel) (by decide +kernel) (by decide +kernel)
    (by first | exact .inl (by decide +kernel) | exact .inr (by decide +kernel)) (by rw [isSubtype_type]; kernel_rfl)
theorem en_tuple_Eq : entryFor table "tuple.__eq__" = some Builtin.«tuple.__eq__» := entryFor_of_fast (by kernel_rfl)
theorem ar_tuple_Eq (a b : Value) : argsOk "tuple.__eq__" ⟨[a, b], []⟩ := by unfold argsOk; kernel_rfl
theorem dc_tuple_Eq {l : Addr} {x : Addr} {Q : Value → Shared → Prop} (hT : s.TypeIs (.ref l) "tuple") (L : Looks (model prog w) s.heap (isInstance (.ref x) (.type "tuple")) false) (h : Q .notImplemented s) : wpAny (model prog w) A (call (.builtin "tuple.__eq__") [.ref l, .ref x]) Q E s := by
  refine wpAny_call_entry sl_tuple_Eq hT en_tuple_Eq ?_ (ar_tuple_Eq _ _)
  unfold Builtin.«tuple.__eq__»
  refine wpAny_bind (wpAny_of_eq (a := (Value.ref l, [Value.ref x])) rfl ?_)
  refine wpAny_bind (L.here ?_)
  exact wpAny_bind (wpAny_pure (wpAny_pure ⟨_, rfl, h⟩))
theorem sl_tuple_Lt : Slot "tuple" (cmpInfo .Lt).2.1 "tuple.__lt__" :=
  .of (owner := "tuple") (n := "__lt__") (by rw [typeLookup_type, builtinLookup_eq_fast]; kernel_rfl) (by decide +kernel) (by decide +kernel) (by decide +kernel)
    (by first | exact .inl (by decide +kernel) | exact .inr (by decide +kernel)) (by rw [isSubtype_type]; kernel_rfl)
theorem en_tuple_Lt : entryFor table "tuple.__lt__" = some Builtin.«tuple.__lt__» := entryFor_of_fast (by kernel_rfl)
theorem ar_tuple_Lt (a b : Value) : argsOk "tuple.__lt__" ⟨[a, b], []⟩ := by unfold argsOk; kernel_rfl
theorem dc_tuple_Lt {l : Addr} {x : Addr} {Q : Value → Shared → Prop} (hT : s.TypeIs (.ref l) "tuple") (L : Looks (model prog w) s.heap (isInstance (.ref x) (.type "tuple")) false) (h : Q .notImplemented s) : wpAny (model prog w) A (call (.builtin "tuple.__lt__") [.ref l, .ref x]) Q E s := by
  refine wpAny_call_entry sl_tuple_Lt hT en_tuple_Lt ?_ (ar_tuple_Lt _ _)
  unfold Builtin.«tuple.__lt__»
  refine wpAny_bind (wpAny_of_eq (a := (Value.ref l, [Value.ref x])) rfl ?_)
  refine wpAny_bind (L.here ?_)
  exact wpAny_bind (wpAny_pure (wpAny_pure ⟨_, rfl, h⟩))
theorem sl_tuple_GtE : Slot "tuple" (cmpInfo .GtE).2.1 "tuple.__ge__" :=
  .of (owner := "tuple") (n := "__ge__") (by rw [typeLookup_type, builtinLookup_eq_fast]; kernel_rfl) (by decide +kernel) (by decide +kernel) (by decide +kernel)
    (by first | exact .inl (by decide +kernel) | exact .inr (by decide +kernel)) (by rw [isSubtype_type]; kernel_rfl)
theorem en_tuple_GtE : entryFor table "tuple.__ge__" = some Builtin.«tuple.__ge__» := entryFor_of_fast (by kernel_rfl)
theorem ar_tuple_GtE (a b : Value) : argsOk "tuple.__ge__" ⟨[a, b], []⟩ := by unfold argsOk; kernel_rfl
theorem dc_tuple_GtE {l : Addr} {x : Addr} {Q : Value → Shared → Prop} (hT : s.TypeIs (.ref l) "tuple") (L : Looks (model prog w) s.heap (isInstance (.ref x) (.type "tuple")) false) (h : Q .notImplemented s) : wpAny (model prog w) A (call (.builtin "tuple.__ge__") [.ref l, .ref x]) Q E s := by
  refine wpAny_call_entry sl_tuple_GtE hT en_tuple_GtE ?_ (ar_tuple_GtE _ _)
  unfold Builtin.«tuple.__ge__»
  refine wpAny_bind (wpAny_of_eq (a := (Value.ref l, [Value.ref x])) rfl ?_)
  refine wpAny_bind (L.here ?_)
  exact wpAny_bind (wpAny_pure (wpAny_pure ⟨_, rfl, h⟩))
theorem sl_list_Eq : Slot "list" (cmpInfo .Eq).2.1 "list.__eq__" :=
  .of (owner := "list") (n := "__eq__") (by rw [typeLookup_type, builtinLookup_eq_fast]; kernel_rfl) (by decide +kernel) (by decide +kernel) (by decide +kernel)
    (by first | exact .inl (by decide +kernel) | exact .inr (by decide +kernel)) (by rw [isSubtype_type]; kernel_rfl)
theorem en_list_Eq : entryFor table "list.__eq__" = some Builtin.«list.__eq__» := entryFor_of_fast (by kernel_rfl)
theorem ar_list_Eq (a b : Value) : argsOk "list.__eq__" ⟨[a, b], []⟩ := by unfold argsOk; kernel_rfl
theorem dc_list_Eq {l : Addr} {x : Addr} {Q : Value → Shared → Prop} (hT : s.TypeIs (.ref l) "list") (L : Looks (model prog w) s.heap (isInstance (.ref x) (.type "list")) false) (h : Q .notImplemented s) : wpAny (model prog w) A (call (.builtin "list.__eq__") [.ref l, .ref x]) Q E s := by
  refine wpAny_call_entry sl_list_Eq hT en_list_Eq ?_ (ar_list_Eq _ _)
  unfold Builtin.«list.__eq__»
  refine wpAny_bind (wpAny_of_eq (a := (Value.ref l, [Value.ref x])) rfl ?_)
  refine wpAny_bind (L.here ?_)
  exact wpAny_bind (wpAny_pure (wpAny_pure ⟨_, rfl, h⟩))
theorem sl_list_Lt : Slot "list" (cmpInfo .Lt).2.1 "list.__lt__" :=
  .of (owner := "list") (n := "__lt__") (by rw [typeLookup_type, builtinLookup_eq_fast]; kernel_rfl) (by decide +kernel) (by decide +kernel) (by decide +kernel)
    (by first | exact .inl (by decide +kernel) | exact .inr (by decide +kernel)) (by rw [isSubtype_type]; kernel_rfl)
theorem en_list_Lt : entryFor table "list.__lt__" = some Builtin.«list.__lt__» := entryFor_of_fast (by kernel_rfl)
theorem ar_list_Lt (a b : Value) : argsOk "list.__lt__" ⟨[a, b], []⟩ := by unfold argsOk; kernel_rfl
theorem dc_list_Lt {l : Addr} {x : Addr} {Q : Value → Shared → Prop} (hT : s.TypeIs (.ref l) "list") (L : Looks (model prog w) s.heap (isInstance (.ref x) (.type "list")) false) (h : Q .notImplemented s) : wpAny (model prog w) A (call (.builtin "list.__lt__") [.ref l, .ref x]) Q E s := by
  refine wpAny_call_entry sl_list_Lt hT en_list_Lt ?_ (ar_list_Lt _ _)
  unfold Builtin.«list.__lt__»
  refine wpAny_bind (wpAny_of_eq (a := (Value.ref l, [Value.ref x])) rfl ?_)
  refine wpAny_bind (L.here ?_)
  exact wpAny_bind (wpAny_pure (wpAny_pure ⟨_, rfl, h⟩))
theorem sl_list_GtE : Slot "list" (cmpInfo .GtE).2.1 "list.__ge__" :=
  .of (owner := "list") (n := "__ge__") (by rw [typeLookup_type, builtinLookup_eq_fast]; kernel_rfl) (by decide +kernel) (by decide +kernel) (by decide +kernel)
    (by first | exact .inl (by decide +kernel) | exact .inr (by decide +kernel)) (by rw [isSubtype_type]; kernel_rfl)
theorem en_list_GtE : entryFor table "list.__ge__" = some Builtin.«list.__ge__» := entryFor_of_fast (by kernel_rfl)
theorem ar_list_GtE (a b : Value) : argsOk "list.__ge__" ⟨[a, b], []⟩ := by unfold argsOk; kernel_rfl
theorem dc_list_GtE {l : Addr} {x : Addr} {Q : Value → Shared → Prop} (hT : s.TypeIs (.ref l) "list") (L : Looks (model prog w) s.heap (isInstance (.ref x) (.type "list")) false) (h : Q .notImplemented s) : wpAny (model prog w) A (call (.builtin "list.__ge__") [.ref l, .ref x]) Q E s := by
  refine wpAny_call_entry sl_list_GtE hT en_list_GtE ?_ (ar_list_GtE _ _)
  unfold Builtin.«list.__ge__»
  refine wpAny_bind (wpAny_of_eq (a := (Value.ref l, [Value.ref x])) rfl ?_)
  refine wpAny_bind (L.here ?_)
  exact wpAny_bind (wpAny_pure (wpAny_pure ⟨_, rfl, h⟩))
theorem sl_dict_Eq : Slot "dict" (cmpInfo .Eq).2.1 "dict.__eq__" :=
  .of (owner := "dict") (n := "__eq__") (by rw [typeLookup_type, builtinLookup_eq_fast]; kernel_rfl) (by decide +kernel) (by decide +kernel) (by decide +kernel)
    (by first | exact .inl (by decide +kernel) | exact .inr (by decide +kernel)) (by rw [isSubtype_type]; kernel_rfl)
theorem en_dict_Eq : entryFor table "dict.__eq__" = some Builtin.«dict.__eq__» := entryFor_of_fast (by kernel_rfl)
theorem ar_dict_Eq (a b : Value) : argsOk "dict.__eq__" ⟨[a, b], []⟩ := by unfold argsOk; kernel_rfl
theorem dc_dict_Eq {l : Addr} {x : Addr} {Q : Value → Shared → Prop} (hT : s.TypeIs (.ref l) "dict") (L : Looks (model prog w) s.heap (isInstance (.ref x) (.type "dict")) false) (h : Q .notImplemented s) : wpAny (model prog w) A (call (.builtin "dict.__eq__") [.ref l, .ref x]) Q E s := by
  refine wpAny_call_entry sl_dict_Eq hT en_dict_Eq ?_ (ar_dict_Eq _ _)
  unfold Builtin.«dict.__eq__»
  refine wpAny_bind (wpAny_of_eq (a := (Value.ref l, Value.ref x)) (by rfl) ?_)
  refine wpAny_bind (L.here ?_)
  exact wpAny_bind (wpAny_rule (wpAny_bind (wpAny_pure (wpAny_pure ⟨_, rfl, h⟩))))
theorem sl_dict_Lt : Slot "dict" (cmpInfo .Lt).2.1 "dict.__lt__" :=
  .of (owner := "dict") (n := "__lt__") (by rw [typeLookup_type, builtinLookup_eq_fast]; kernel_rfl) (by decide +kernel) (by decide +kernel) (by decide +kernel)
    (by first | exact .inl (by decide +kernel) | exact .inr (by decide +kernel)) (by rw [isSubtype_type]; kernel_rfl)
theorem en_dict_Lt : entryFor table "dict.__lt__" = some Builtin.«dict.__lt__» := entryFor_of_fast (by kernel_rfl)
theorem ar_dict_Lt (a b : Value) : argsOk "dict.__lt__" ⟨[a, b], []⟩ := by unfold argsOk; kernel_rfl
theorem dc_dict_Lt {l : Addr} {x : Addr} {Q : Value → Shared → Prop} (hT : s.TypeIs (.ref l) "dict") (L : Looks (model prog w) s.heap (isInstance (.ref x) (.type "dict")) false) (h : Q .notImplemented s) : wpAny (model prog w) A (call (.builtin "dict.__lt__") [.ref l, .ref x]) Q E s := by
  refine wpAny_call_entry sl_dict_Lt hT en_dict_Lt ?_ (ar_dict_Lt _ _)
  unfold Builtin.«dict.__lt__»
  refine wpAny_bind (wpAny_of_eq (a := (Value.ref l, Value.ref x)) (by rfl) ?_)
  exact wpAny_pure ⟨_, rfl, h⟩
theorem sl_dict_GtE : Slot "dict" (cmpInfo .GtE).2.1 "dict.__ge__" :=
  .of (owner := "dict") (n := "__ge__") (by rw [typeLookup_type, builtinLookup_eq_fast]; kernel_rfl) (by decide +kernel) (by decide +kernel) (by decide +kernel)
    (by first | exact .inl (by decide +kernel) | exact .inr (by decide +kernel)) (by rw [isSubtype_type]; kernel_rfl)
theorem en_dict_GtE : entryFor table "dict.__ge__" = some Builtin.«dict.__ge__» := entryFor_of_fast (by kernel_rfl)
theorem ar_dict_GtE (a b : Value) : argsOk "dict.__ge__" ⟨[a, b], []⟩ := by unfold argsOk; kernel_rfl
theorem dc_dict_GtE {l : Addr} {x : Addr} {Q : Value → Shared → Prop} (hT : s.TypeIs (.ref l) "dict") (L : Looks (model prog w) s.heap (isInstance (.ref x) (.type "dict")) false) (h : Q .notImplemented s) : wpAny (model prog w) A (call (.builtin "dict.__ge__") [.ref l, .ref x]) Q E s := by
  refine wpAny_call_entry sl_dict_GtE hT en_dict_GtE ?_ (ar_dict_GtE _ _)
  unfold Builtin.«dict.__ge__»
  refine wpAny_bind (wpAny_of_eq (a := (Value.ref l, Value.ref x)) (by rfl) ?_)
  exact wpAny_pure ⟨_, rfl, h⟩
end
end Lw.Ow
namespace Lw.Ow
open PySem PySem.Spec PyProof.Rows PySem.W PySem.Calls
/-! ### own comparisons, the instance on the right; != by the own == -/
theorem sl_obj_ne : Slot "object" "__ne__" "object.__ne__" :=
  .of (owner := "object") (n := "__ne__") (by rw [typeLookup_type, builtinLookup_eq_fast]; kernel_rfl) (by decide +kernel) (by decide +kernel) (by decide +kernel)
    (by first | exact .inl (by decide +kernel) | exact .inr (by decide +kernel)) (by rw [isSubtype_type]; kernel_rfl)
section
variable {prog : Program} {w : World} {A : Around} {E : Value → Shared → Prop} {s : Shared} {K : Frag} {x C f : Addr} {ox : Obj} {od : Option Obj}
theorem cmp_back {op : CmpOp} {a : Value} {T id : String} {Q : Value → Shared → Prop} (hu : A.units < cLine) (X : K.In s.heap) (I : InstAt s.heap x ox C od) (hT : s.TypeIs a T) (sl : Slot T (cmpInfo op).2.1 id)
    (hd : ∀ Q' : Value → Shared → Prop, Q' .notImplemented s → wpAny (model prog w) A (call (.builtin id) [a, .ref x]) Q' E s) (hsub : subIn K (.ref C) (.type T) = some false)
    (one : wpAny (model prog w) A (tryCompare (.ref x) (cmpInfo op).2.2 a) (fun r s' => ∃ v, r = some v ∧ Q v s') E s) : wpAny (model prog w) A (richCompare op a (.ref x)) Q E s := by
  have two := wpAny_tryCompare_declines (Q := fun r s' => r = none ∧ s' = s) hT sl (hd _ ⟨rfl, rfl, rfl⟩)
  have hne : (Value.type T != Value.ref C) = true := by
    rw [bne_iff_ne]
    intro z
    cases z
  unfold richCompare
  simp only [hT.oneThing_none]
  refine wpAny_holding (wpAny_bind (wpAny_cRoomFor hu ?_))
  refine wpAny_bind (wpAny_typeOf hT ?_)
  refine wpAny_bind (I.type.here ?_)
  simp only [hne, if_true]
  refine wpAny_bind ((looks_subIn X hsub).here ?_)
  simp only [Bool.false_eq_true, if_false]
  refine wpAny_bind (wpAny_mono two (fun r s' z => ?_) fun _ _ e => e)
  obtain ⟨rfl, rfl⟩ := z
  simp only [Bool.not_false, if_true]
  refine wpAny_bind (wpAny_mono one (fun r s' z => ?_) fun _ _ e => e)
  obtain ⟨v, rfl, hq⟩ := z
  exact wpAny_pure hq
theorem try_own {nm : Str} {b : Value} {Q : Value → Shared → Prop} (X : K.In s.heap) (I : InstAt s.heap x ox C od) (hs : findIn K (.ref C) nm = some (some (.ref f))) (hf : isFn K (.ref f) = true) (h : wpAny (model prog w) A (call (.ref f) [.ref x, b]) (PySem.W.CmpBack Q) E s) :
    wpAny (model prog w) A (tryCompare (.ref x) nm b) (fun r s' => ∃ v, r = some v ∧ Q v s') E s := by
  unfold tryCompare
  refine wpAny_bind (ifBound_K X I hs hf (wpAny_mono h (fun v s' hv => ?_) fun _ _ e => e))
  cases v <;> first | exact hv.elim | exact wpAny_pure ⟨_, rfl, hv⟩
theorem ifBound_S {M : Model} {name : Str} {id : String} {args : List Value} {Q : Option Value → Shared → Prop} (X : K.In s.heap) (I : InstAt s.heap x ox C od) (hs : findIn K (.ref C) name = some (some (.builtin id))) (hb : ∀ self, bindSpecial (.builtin id) self = pure (.builtin id, [self]))
    (h : wpAny M A (call (.builtin id) (.ref x :: args)) (fun v => Q (some v)) E s) : wpAny M A (callSpecialIfBound? (.ref x) name args) Q E s := by
  simp only [callSpecialIfBound?, bindSpecialIfBound?]
  refine wpAny_holding (wpAny_bind (wpAny_bind (wpAny_bind (I.type.here ((looks_findIn X hs).here ?_)))))
  refine wpAny_bind (wpAny_askSetting (wpAny_ite ?_))
  have fin : wpAny M A (call (.builtin id) ([.ref x] ++ args) >>= fun v => pure (some v)) Q E s := wpAny_bind (wpAny_mono h (fun v s' h' => wpAny_pure h') fun _ _ h' => h')
  split
  · exact wpAny_bind ((Looks.of_pure (hb _)).here (wpAny_pure (by exact fin)))
  · exact wpAny_tryCatch (wpAny_bind ((Looks.of_pure (hb _)).here (wpAny_pure (by exact fin))))
theorem try_ne {b : Value} {Q : Value → Shared → Prop} (hu : A.in1.units < cLine) (X : K.In s.heap) (I : InstAt s.heap x ox C od) (hm : mroIn K C (.type "object") = some true) (hn : findIn K (.ref C) "__ne__" = some (some (.builtin "object.__ne__"))) (he : findIn K (.ref C) "__eq__" = some (some (.ref f))) (hf : isFn K (.ref f) = true)
    (h : wpAny (model prog w) A.in1 (call (.ref f) [.ref x, b]) (fun v s' => ∃ c, v = .bool c ∧ Q (.bool (!c)) s') E s) : wpAny (model prog w) A (tryCompare (.ref x) "__ne__" b) (fun r s' => ∃ v, r = some v ∧ Q v s') E s := by
  unfold tryCompare
  refine wpAny_bind (ifBound_S X I hn sl_obj_ne.bind (wpAny_call (codeAny_call_builtin sl_obj_ne.plain F.cmpEntry_ne (check_slot (i := "object.__ne__") (owner := "object") (n := "__ne__") F.cmpKind_ne F.cmpSplit_ne (I.type.andThen (looks_mroIn X hm)) (F.cmpArgs_ne _ _) ?_))))
  unfold Builtin.«object.__ne__»
  refine wpAny_bind (wpAny_of_eq (a := (Value.ref x, [b])) rfl ?_)
  refine wpAny_bind (m := cRoomFor _ _) (wpAny_cRoomFor hu ?_)
  refine wpAny_bind (m := callSpecialIfBound? (.ref x) (Str.ofString "__eq__") _) (ifBound_K X I he hf (wpAny_mono h (fun r s' hq => ?_) fun _ _ y => y))
  obtain ⟨c, rfl, q⟩ := hq
  refine wpAny_bind (m := truthy (.bool c)) (wpAny_truthy_bool ?_)
  first | exact wpAny_pure (wpAny_pure ⟨_, rfl, q⟩) | exact wpAny_pure ⟨_, rfl, q⟩ | exact ⟨_, rfl, wpAny_pure ⟨_, rfl, q⟩⟩
theorem cmp_ne {b tb : Value} {Q : Value → Shared → Prop} (hu : A.units < cLine) (X : K.In s.heap) (I : InstAt s.heap x ox C od) (hb : Looks (model prog w) s.heap (typeOf b) tb) (hn : notFirst K C tb = true)
    (one : wpAny (model prog w) A (tryCompare (.ref x) "__ne__" b) (fun r s' => ∃ v, r = some v ∧ Q v s') E s) : wpAny (model prog w) A (richCompare .NotEq (.ref x) b) Q E s := by
  unfold richCompare
  simp only [oneThing_ref]
  refine wpAny_holding (wpAny_bind (wpAny_cRoomFor hu ?_))
  refine wpAny_bind (I.type.here (wpAny_bind (hb.here ?_)))
  split
  · rename_i q
    have e : subIn K tb (.ref C) = some false := by
      rcases Bool.or_eq_true_iff.mp hn with e | e
      · rw [beq_iff_eq.mp e] at q; simp at q
      · exact beq_iff_eq.mp e
    refine wpAny_bind ((looks_subIn X e).here ?_)
    simp only [Bool.false_eq_true, if_false]
    refine wpAny_bind (wpAny_mono one (fun r s' z => ?_) fun _ _ e => e)
    obtain ⟨v, rfl, hq⟩ := z
    exact wpAny_pure hq
  · refine wpAny_bind (wpAny_pure ?_)
    simp only [Bool.false_eq_true, if_false]
    refine wpAny_bind (wpAny_mono one (fun r s' z => ?_) fun _ _ e => e)
    obtain ⟨v, rfl, hq⟩ := z
    exact wpAny_pure hq
end
/-- an int declines -/
structure DclI (op : CmpOp) : Prop where
  i : ∃ id, Slot "int" (cmpInfo op).2.1 id ∧ ∀ {prog : Program} {w : World} {A : Around} {E : Value → Shared → Prop} {s : Shared} {i : Int} {t : Tok} {x : Addr} {o : Obj} {Q : Value → Shared → Prop}, (s.heap.get? x = some o) → (o.data = .plain) →  Q .notImplemented s → wpAny (model prog w) A (call (.builtin id) [.int i t, .ref x]) Q E s
/-- the other built-in values decline, too -/
structure Dcl (op : CmpOp) : Prop where
  b : ∃ id, Slot "bool" (cmpInfo op).2.1 id ∧ ∀ {prog : Program} {w : World} {A : Around} {E : Value → Shared → Prop} {s : Shared} {b : Bool} {x : Addr} {o : Obj} {Q : Value → Shared → Prop}, (s.heap.get? x = some o) → (o.data = .plain) →  Q .notImplemented s → wpAny (model prog w) A (call (.builtin id) [.bool b, .ref x]) Q E s
  n : ∃ id, Slot "NoneType" (cmpInfo op).2.1 id ∧ ∀ {prog : Program} {w : World} {A : Around} {E : Value → Shared → Prop} {s : Shared}  {x : Addr}  {Q : Value → Shared → Prop},  Q .notImplemented s → wpAny (model prog w) A (call (.builtin id) [.none, .ref x]) Q E s
  s : ∃ id, Slot "str" (cmpInfo op).2.1 id ∧ ∀ {prog : Program} {w : World} {A : Around} {E : Value → Shared → Prop} {s : Shared} {z : Str} {t : Tok} {x : Addr} {o : Obj} {Q : Value → Shared → Prop}, (s.heap.get? x = some o) → (o.data = .plain) →  Q .notImplemented s → wpAny (model prog w) A (call (.builtin id) [.str z t, .ref x]) Q E s
  t : ∃ id, Slot "tuple" (cmpInfo op).2.1 id ∧ ∀ {prog : Program} {w : World} {A : Around} {E : Value → Shared → Prop} {s : Shared} {l : Addr} {x : Addr}  {Q : Value → Shared → Prop}, (s.TypeIs (.ref l) "tuple") → (Looks (model prog w) s.heap (isInstance (.ref x) (.type "tuple")) false) →  Q .notImplemented s → wpAny (model prog w) A (call (.builtin id) [.ref l, .ref x]) Q E s
  l : ∃ id, Slot "list" (cmpInfo op).2.1 id ∧ ∀ {prog : Program} {w : World} {A : Around} {E : Value → Shared → Prop} {s : Shared} {l : Addr} {x : Addr}  {Q : Value → Shared → Prop}, (s.TypeIs (.ref l) "list") → (Looks (model prog w) s.heap (isInstance (.ref x) (.type "list")) false) →  Q .notImplemented s → wpAny (model prog w) A (call (.builtin id) [.ref l, .ref x]) Q E s
  d : ∃ id, Slot "dict" (cmpInfo op).2.1 id ∧ ∀ {prog : Program} {w : World} {A : Around} {E : Value → Shared → Prop} {s : Shared} {l : Addr} {x : Addr}  {Q : Value → Shared → Prop}, (s.TypeIs (.ref l) "dict") → (Looks (model prog w) s.heap (isInstance (.ref x) (.type "dict")) false) →  Q .notImplemented s → wpAny (model prog w) A (call (.builtin id) [.ref l, .ref x]) Q E s
theorem dI_Eq : DclI .Eq := ⟨⟨_, sl_int_Eq, fun h1 h2 q => dc_int_Eq h1 h2 q⟩⟩
theorem dI_NotEq : DclI .NotEq := ⟨⟨_, sl_int_NotEq, fun h1 h2 q => dc_int_NotEq h1 h2 q⟩⟩
theorem dI_Lt : DclI .Lt := ⟨⟨_, sl_int_Lt, fun h1 h2 q => dc_int_Lt h1 h2 q⟩⟩
theorem dI_LtE : DclI .LtE := ⟨⟨_, sl_int_LtE, fun h1 h2 q => dc_int_LtE h1 h2 q⟩⟩
theorem dI_Gt : DclI .Gt := ⟨⟨_, sl_int_Gt, fun h1 h2 q => dc_int_Gt h1 h2 q⟩⟩
theorem dI_GtE : DclI .GtE := ⟨⟨_, sl_int_GtE, fun h1 h2 q => dc_int_GtE h1 h2 q⟩⟩
theorem dB_Eq : Dcl .Eq := ⟨⟨_, sl_bool_Eq, fun h1 h2 q => dc_bool_Eq h1 h2 q⟩, ⟨_, sl_NoneType_Eq, fun q => dc_NoneType_Eq q⟩, ⟨_, sl_str_Eq, fun h1 h2 q => dc_str_Eq h1 h2 q⟩, ⟨_, sl_tuple_Eq, fun h1 h2 q => dc_tuple_Eq h1 h2 q⟩, ⟨_, sl_list_Eq, fun h1 h2 q => dc_list_Eq h1 h2 q⟩, ⟨_, sl_dict_Eq, fun h1 h2 q => dc_dict_Eq h1 h2 q⟩⟩
theorem dB_Lt : Dcl .Lt := ⟨⟨_, sl_bool_Lt, fun h1 h2 q => dc_bool_Lt h1 h2 q⟩, ⟨_, sl_NoneType_Lt, fun q => dc_NoneType_Lt q⟩, ⟨_, sl_str_Lt, fun h1 h2 q => dc_str_Lt h1 h2 q⟩, ⟨_, sl_tuple_Lt, fun h1 h2 q => dc_tuple_Lt h1 h2 q⟩, ⟨_, sl_list_Lt, fun h1 h2 q => dc_list_Lt h1 h2 q⟩, ⟨_, sl_dict_Lt, fun h1 h2 q => dc_dict_Lt h1 h2 q⟩⟩
theorem dB_GtE : Dcl .GtE := ⟨⟨_, sl_bool_GtE, fun h1 h2 q => dc_bool_GtE h1 h2 q⟩, ⟨_, sl_NoneType_GtE, fun q => dc_NoneType_GtE q⟩, ⟨_, sl_str_GtE, fun h1 h2 q => dc_str_GtE h1 h2 q⟩, ⟨_, sl_tuple_GtE, fun h1 h2 q => dc_tuple_GtE h1 h2 q⟩, ⟨_, sl_list_GtE, fun h1 h2 q => dc_list_GtE h1 h2 q⟩, ⟨_, sl_dict_GtE, fun h1 h2 q => dc_dict_GtE h1 h2 q⟩⟩
end Lw.Ow
namespace Lw
open PySem PySem.Spec PyProof.Rows L2
/-- what an own comparison asks of the class -/
structure CmpC (K : PySem.W.Frag) (C : Addr) : Prop where
  sub : ∀ T ∈ Ow.BTs, PySem.W.subIn K (.ref C) (.type T) = some false
/-- a value on the left of an instance -/
inductive Bk (H : Hp) : V → Prop where
  | non : Bk H .non
  | bl (b : Bool) : Bk H (.bl b)
  | str (z : Str) : Bk H (.str z)
  | tup {a : Addr} {xs : List V} (h : H a = some (.tup xs)) : Bk H (.ref a)
  | lst {a : Addr} {xs : List V} (h : H a = some (.lst xs)) : Bk H (.ref a)
  | dct {a : Addr} {kvs : List (Key × V)} (h : H a = some (.dK kvs)) : Bk H (.ref a)
section
variable {X : Cx} {C : Addr} {k j : Nat} {sp : Sp} {E : XK} {op : CmpOp}
/-- x op y, the instance on the left -/
def rCF (K : PySem.W.Frag) (C : Addr) (sp : Sp) (E : XK) : R2 := fun x y H Q => ∃ a dx fs, x = .ref a ∧ H a = some (.ins C dx fs) ∧ ((∃ b dy gs, y = .ref b ∧ H b = some (.ins C dy gs)) ∨ ∃ T, Bt K H y T) ∧ sp [x, y] H Q E
theorem right_looks {pins : List (Addr × Obj)} {σ : L2.St} {H : Hp} {s : Shared} {y : V} {u : Value} (I : Inv X pins σ H s) (ry : RelV y u) (h : (∃ b dy gs, y = .ref b ∧ H b = some (.ins C dy gs)) ∨ ∃ T, Bt X.K H y T) :
    ∃ tb, PySem.W.Looks (model X.prog X.w) s.heap (typeOf u) tb ∧ PySem.W.notFirst X.K C tb = true := by
  rcases h with ⟨b, dy, gs, rfl, hb⟩ | ⟨T, hT⟩
  · cases (show u = Value.ref b from ry)
    obtain ⟨_, _, J⟩ := ins_at I hb
    exact ⟨.ref C, J.type, by simp [PySem.W.notFirst]⟩
  · exact ⟨.type T, hT.looks I ry, by unfold PySem.W.notFirst; rw [Ow.bt_sub hT.tyx.2]; simp⟩
theorem op_cmpF (hop : ∀ a b, compareOp op a b = richCompare op a b) (M : MetX X.prog X.w X.K X.mg X.base k C (cmpInfo op).2.1 sp) (hx : Passes (L2.CX X.prog X.w) X E) (hr : Room j X.A) (hk : k ≤ j) : OpR X (compareOp op) (rCF X.K C sp E) := by
  intro pins s σ H x y v u Q I rx ry h
  obtain ⟨a, dx, fs, rfl, ha, hy, q⟩ := h
  cases (show v = Value.ref a from rx)
  obtain ⟨_, _, J⟩ := ins_at I ha
  obtain ⟨tb, L, hn⟩ := right_looks I ry hy
  obtain ⟨g, hm, w, _⟩ := run_met (us := [.ref a, u]) (vs := [.ref a, y]) M hx hr hk I (.cons rfl (.cons ry .nil)) q
  obtain ⟨m, hF⟩ := I.fr
  rw [hop]
  exact PySem.W.cmp_K hr.units0 hF I.ok.mod.kin J L hn hm.at_ hm.fn w
/-- x op y, the instance on the right -/
def rCB (C : Addr) (P : Hp → V → Prop) (sp : Sp) (E : XK) : R2 := fun x y H Q => ∃ a dx fs, y = .ref a ∧ H a = some (.ins C dx fs) ∧ P H x ∧ sp [y, x] H Q E
theorem op_cmpBI (hop : ∀ a b, compareOp op a b = richCompare op a b) (cc : CmpC X.K C) (D : Ow.DclI op) (M : MetX X.prog X.w X.K X.mg X.base k C (cmpInfo op).2.2 sp) (hx : Passes (L2.CX X.prog X.w) X E) (hr : Room j X.A) (hk : k ≤ j) : OpR X (compareOp op) (rCB C (fun _ x => ∃ i, x = .int i) sp E) := by
  intro pins s σ H x y v u Q I rx ry h
  obtain ⟨a, dx, fs, rfl, ha, ⟨i, rfl⟩, q⟩ := h
  cases (show u = Value.ref a from ry)
  obtain ⟨ox, od, J, h1, h2⟩ := ins_plain I ha
  obtain ⟨g, hm, w, _⟩ := run_met (us := [.ref a, v]) (vs := [.ref a, .int i]) M hx hr hk I (.cons rfl (.cons rx .nil)) q
  obtain ⟨t, rfl⟩ := (show ∃ t, v = Value.int i t from rx)
  obtain ⟨id, sl, hd⟩ := D.i
  rw [hop]
  exact Ow.cmp_back hr.units0 I.kIn J (typeIs_int s i t) sl (fun Q' z => hd h1 h2 z) (cc.sub _ (by decide)) (Ow.try_own I.kIn J hm.at_ hm.fn w)
theorem op_cmpB (hop : ∀ a b, compareOp op a b = richCompare op a b) (cc : CmpC X.K C) (D : Ow.Dcl op) (M : MetX X.prog X.w X.K X.mg X.base k C (cmpInfo op).2.2 sp) (hx : Passes (L2.CX X.prog X.w) X E) (hr : Room j X.A) (hk : k ≤ j) : OpR X (compareOp op) (rCB C Bk sp E) := by
  intro pins s σ H x y v u Q I rx ry h
  obtain ⟨a, dx, fs, rfl, ha, hb, q⟩ := h
  cases (show u = Value.ref a from ry)
  obtain ⟨ox, od, J, h1, h2⟩ := ins_plain I ha
  obtain ⟨g, hm, w, _⟩ := run_met (us := [.ref a, v]) (vs := [.ref a, x]) M hx hr hk I (.cons rfl (.cons rx .nil)) q
  have one := Ow.try_own I.kIn J hm.at_ hm.fn w
  rw [hop]
  cases hb with
  | non =>
    cases (show v = Value.none from rx)
    obtain ⟨id, sl, hd⟩ := D.n
    exact Ow.cmp_back hr.units0 I.kIn J rfl sl (fun Q' z => hd z) (cc.sub _ (by decide)) one
  | bl b =>
    cases (show v = Value.bool b from rx)
    obtain ⟨id, sl, hd⟩ := D.b
    exact Ow.cmp_back hr.units0 I.kIn J rfl sl (fun Q' z => hd h1 h2 z) (cc.sub _ (by decide)) one
  | str z =>
    obtain ⟨t, rfl⟩ := (show ∃ t, v = Value.str z t from rx)
    obtain ⟨id, sl, hd⟩ := D.s
    exact Ow.cmp_back hr.units0 I.kIn J (typeIs_str s z t) sl (fun Q' z => hd h1 h2 z) (cc.sub _ (by decide)) one
  | @tup l xs hl =>
    cases (show v = Value.ref l from rx)
    obtain ⟨id, sl, hd⟩ := D.t
    have hT : s.TypeIs (.ref l) "tuple" := by
      obtain ⟨_, _, _, o, e1, e2, _⟩ := I.hok l _ hl
      exact ⟨o, e1, e2⟩
    have L : PySem.W.Looks (model X.prog X.w) s.heap (isInstance (.ref a) (.type "tuple")) false := J.type.andThen (PySem.W.looks_subIn I.kIn (cc.sub _ (by decide)))
    exact Ow.cmp_back hr.units0 I.kIn J hT sl (fun Q' z => hd hT L z) (cc.sub _ (by decide)) one
  | @lst l xs hl =>
    cases (show v = Value.ref l from rx)
    obtain ⟨id, sl, hd⟩ := D.l
    have hT : s.TypeIs (.ref l) "list" := by
      obtain ⟨_, _, _, _, e1⟩ := I.hok l _ hl
      exact ⟨_, e1, rfl⟩
    have L : PySem.W.Looks (model X.prog X.w) s.heap (isInstance (.ref a) (.type "list")) false := J.type.andThen (PySem.W.looks_subIn I.kIn (cc.sub _ (by decide)))
    exact Ow.cmp_back hr.units0 I.kIn J hT sl (fun Q' z => hd hT L z) (cc.sub _ (by decide)) one
  | @dct l kvs hl =>
    cases (show v = Value.ref l from rx)
    obtain ⟨id, sl, hd⟩ := D.d
    have hT : s.TypeIs (.ref l) "dict" := by
      obtain ⟨_, _, _, _, o, _, _, e1, e2, _⟩ := I.hok l _ hl
      exact ⟨o, e1, e2.1⟩
    have L : PySem.W.Looks (model X.prog X.w) s.heap (isInstance (.ref a) (.type "dict")) false := J.type.andThen (PySem.W.looks_subIn I.kIn (cc.sub _ (by decide)))
    exact Ow.cmp_back hr.units0 I.kIn J hT sl (fun Q' z => hd hT L z) (cc.sub _ (by decide)) one
end
end Lw
namespace Lw
open PySem PySem.Spec PyProof.Rows L2

open LamX
abbrev sLt : Stmt := inClass (top 15) 15
abbrev sEq : Stmt := inClass (top 15) 19
/-- what a comparison tells: by the products of both -/
def spCmp (K : PySem.W.Frag) (C D : Addr) (c : Int → Int → Bool) : Sp := fun vs H Q E => ∃ (a : Addr) (v : V) (o u : Int), vs = [.ref a, v] ∧ NumAt K C H (.ref a) o u ∧ ((∃ b dy gs, v = .ref b ∧ H b = some (.ins C dy gs)) ∨ ∃ T, Bt K H v T) ∧
  ((∃ p q, NumAt K C H v p q ∧ ∀ H', Same H H' → Q (.bl (c (o * q) (p * u))) H') ∨ Refuses K C D v H E)
def spEq (K : PySem.W.Frag) (C : Addr) : Sp := fun vs H Q _ => ∃ (a : Addr) (v : V) (o u : Int), vs = [.ref a, v] ∧ NumAt K C H (.ref a) o u ∧
  ((∃ p q, NumAt K C H v p q ∧ Q (.bl (decide (u = q) && decide (o = p))) H) ∨ (∃ t, Anyv K H v ∧ TyZ K H v t ∧ PySem.W.kitOne K t (.ref C) = some false ∧ isI v = false ∧ Q (.bl false) H))
section
variable {P : Program} {w : World} {K : PySem.W.Frag} {mg : Str → Option Value} {base : Heap}
theorem scLt : FnScope ["self", "other", "against"] ["self", "other"] (C8.fnScope sLt) := C8.fnScope_by (by decide +kernel)
theorem fn_lt {C D f1 g pO : Addr} {fd1 fdg : FuncData} (F : C8.Fun K "__lt__" "Ratio.__lt__" sLt f1 fd1) (hm : mg "Ratio" = some (.ref C)) (OM : OfM P w K mg base C D pO g fdg) (cl : Cls K C) (n1 : NoAttr K C "over") (n2 : NoAttr K C "under") : FnOk P w K mg base (L2.CX P w) 7 f1 fd1 ["self", "other"] (spCmp K C D fun x y => decide (x < y)) := by
  obtain ⟨oc, od, dV, kV, doc, pm, an, cdv, ct, osl, rfl, lk, hcd⟩ := F.ex
  refine fn_of lk hcd scLt (fun vs H Q E h => ?_) fun A outer s H vs Q E hr h => ?_
  · obtain ⟨a, v, o, u, rfl, _⟩ := h
    rfl
  · obtain ⟨a, v, o, u, rfl, na, _, h⟩ := h
    obtain ⟨⟨dxa, ha⟩, u0, mo, mu⟩ := na.ref
    refine ⟨_, (pss_cons (ps_set (i := 2) scLt.nd rfl (Or.inl rfl) (pe_static (pe_glob (v := .ref C) (by rfl) hm rfl) OM.S OM.F (hr.mono (by decide)) OM.b .nil (passes_call (takes_of rfl rfl rfl rfl) (fun _ _ _ _ z => z)) (pa_cons (pv 1) pa_nil)))
  (pss_one (ps_ret (pe_cmpR op_lt (pe_op op_mulW (pe_fld (pv 0) rfl) (pe_fld (pv 2) rfl)) (pe_op op_mulW (pe_fld (pv 2) rfl) (pe_fld (pv 0) rfl)) (nomark _))))), ?_⟩
    refine ⟨rfl, _, rfl, of_ok (h.imp (fun ⟨p, q, nv, go⟩ => ⟨p, q, nv, fun b H' s1 ⟨dxb, hb⟩ q0 mp mq => ?_⟩) id)⟩
    have ha' := s1 _ _ ha
    refine ⟨_, rfl, a, C, dxa, _, _, rfl, ha', cl, n1, flds_over o u, _, rfl, b, C, dxb, _, _, rfl, hb, cl, n2, flds_under p q, _, _, rfl, rfl, mid_mul mo mq, ?_⟩
    refine ⟨_, rfl, b, C, dxb, _, _, rfl, hb, cl, n1, flds_over p q, _, rfl, a, C, dxa, _, _, rfl, ha', cl, n2, flds_under o u, _, _, rfl, rfl, mid_mul mp mu, _, _, rfl, rfl, ?_⟩
    exact go _ s1
theorem dec_int (i j : Int) : decide (V.int i = V.int j) = decide (i = j) := by simp
theorem scEq : FnScope ["self", "other"] ["self", "other"] (C8.fnScope sEq) := C8.fnScope_by (by decide +kernel)
/-- an instance is neither an int nor a bool nor a text -/
structure NoB (K : PySem.W.Frag) (C : Addr) : Prop where
  i : PySem.W.kitOne K (.ref C) (.type "int") = some false
  b : PySem.W.kitOne K (.ref C) (.type "bool") = some false
  s : PySem.W.kitOne K (.ref C) (.type "str") = some false
theorem fn_eq {C f1 : Addr} {fd1 : FuncData} (F : C8.Fun K "__eq__" "Ratio.__eq__" sEq f1 fd1) (T : Txt mg) (hm : mg "Ratio" = some (.ref C)) (cl : Cls K C) (n1 : NoAttr K C "over") (n2 : NoAttr K C "under") (I : C8.InsC K C) (nb : NoB K C) (DI : C8.Cal P w K mg base 1 "is_integer" (spIsInt K) []) :
    FnOk P w K mg base (L2.CX P w) 3 f1 fd1 ["self", "other"] (spEq K C) := by
  obtain ⟨oc, od, dV, kV, doc, pm, an, cdv, ct, osl, rfl, lk, hcd⟩ := F.ex
  refine fn_of lk hcd scEq (fun vs H Q E h => ?_) fun A outer s H vs Q E hr h => ?_
  · obtain ⟨a, v, o, u, rfl, _⟩ := h
    rfl
  · obtain ⟨a, v, o, u, rfl, na, h⟩ := h
    obtain ⟨⟨dxa, ha⟩, u0, mo, mu⟩ := na.ref
    refine ⟨_, (pss_cons (ps_if (pt_val (C8.pe_c DI hr (by decide) (by rfl) (pa_cons (pv 1) pa_nil))) (pss_one (ps_ret (pe_and (pe_cmpR op_eq (pe_fld (pv 0) rfl) pe_int (nomark _)) (pe_one (pe_cmpR op_eq (pe_fld (pv 0) rfl) (pv 1) (nomark _)))))) pss_nil)
  (pss_one (ps_ret (pe_and (pe_callB call_isz (by rfl) T.n_isinstance (by decide +kernel) (pa_cons (pv 1) (pa_cons (pe_glob (v := .ref C) (by rfl) hm rfl) pa_nil))) (pe_and (pe_cmpR op_eq (pe_fld (pv 0) rfl) (pe_fld (pv 1) rfl) (nomark _)) (pe_one (pe_cmpR op_eq (pe_fld (pv 0) rfl) (pe_fld (pv 1) rfl) (nomark _)))))))), ?_⟩
    rcases h with ⟨p, q, nv, go⟩ | ⟨t, av, ty, kt, ni, go⟩
    · cases nv with
      | @rat b _ _ hb q0 mp mq =>
        obtain ⟨dxb, hb⟩ := hb
        have ty : TyZ K H (.ref b) (.ref C) := .x (.base (.ins hb I.cl I.ha I.hn I.htk I.hm))
        refine ⟨_, rfl, .ref b, rfl, .obj ty nb.i nb.b nb.s, ?_⟩
        refine ⟨_, rfl, iteF ?_⟩
        refine ⟨_, rfl, _, .ref C, .ref C, .ref C, true, rfl, .own C, ty, I.me, _, rfl, iteT ?_⟩
        refine ⟨_, rfl, a, C, dxa, _, _, rfl, ha, cl, n1, flds_over o u, _, rfl, b, C, dxb, _, _, rfl, hb, cl, n1, flds_over p q, rfl, ?_⟩
        rw [dec_int]
        cases hz : decide (o = p) with
        | false =>
          rw [hz, Bool.and_false] at go
          exact ⟨_, rfl, iteF go⟩
        | true =>
          rw [hz, Bool.and_true] at go
          refine ⟨_, rfl, iteT ⟨_, rfl, a, C, dxa, _, _, rfl, ha, cl, n2, flds_under o u, _, rfl, b, C, dxb, _, _, rfl, hb, cl, n2, flds_under p q, rfl, ?_⟩⟩
          rw [dec_int]
          exact go
      | int mi hk =>
        refine ⟨_, rfl, .int p, rfl, .int p, ?_⟩
        refine ⟨_, rfl, iteT ?_⟩
        refine ⟨_, rfl, a, C, dxa, _, _, rfl, ha, cl, n2, flds_under o u, rfl, ?_⟩
        rw [dec_int]
        cases hz : decide (u = 1) with
        | false =>
          rw [hz, Bool.false_and] at go
          exact ⟨_, rfl, iteF go⟩
        | true =>
          rw [hz, Bool.true_and] at go
          refine ⟨_, rfl, iteT ⟨_, rfl, a, C, dxa, _, _, rfl, ha, cl, n1, flds_over o u, _, rfl, rfl, ?_⟩⟩
          rw [dec_int]
          exact go
    · refine ⟨_, rfl, v, rfl, av, ?_⟩
      rw [ni]
      refine ⟨_, rfl, iteF ?_⟩
      exact ⟨_, rfl, v, .ref C, t, .ref C, false, rfl, .own C, ty, kt, _, rfl, iteF go⟩
end
end Lw
namespace Lw
open PySem PySem.Spec PyProof.Rows L2

open LamX
/-! ### a list comprehension whose items may raise -/
/-- how a comprehension's run ends; the frame is told -/
def endC (M : Model) (A : Around) (E : Value → Shared → Prop) (use : Option (Value → Sem Unit)) (Qf : Value → Shared → Prop) (acc : Value) (C : Addr) (fr : Option Addr) (r : Result) (s' : Shared) : Prop :=
  match r with
  | .ok f => compPost M A E use Qf acc C (.ok f) s'
  | .error x => ∃ m, s'.heap.Ns C m ∧ ∀ h2, Heap.SameBut C s'.heap h2 → ∀ ce : Env, ce.locals = C → ce.frame = fr → wpAny M A (PySem.passOn "comprehension.variables-let-go" x ce : Sem Value) (fun _ _ => False) E { s' with heap := h2 }
section
variable {M : Model} {A : Around} {E : Value → Shared → Prop} {s : Shared} {env : Env}
theorem comp_told {e : Expr} {sco : Scope} {at_ : Pos} {mkAcc fst : Sem Value} {g : Comprehension} {gs : List Comprehension} {clo : List (Str × Addr)} {use : Option (Value → Sem Unit)} {Qf : Value → Shared → Prop} (c1 : clausesOf e = g :: gs) (c2 : ∀ x, foldedSetIterable g.iter env x = pure x)
    (c3 : closureFor sco env = pure clo) (c4 : sco.kind = .function) (c5 : ∀ x ∈ sco.names, x.2 = .local → sco.names.lookup x.1 = some .local)
    (go : wpAny M A fst (fun x s1 => wpAny M A (pyIter x) (fun it s2 => wpAny M A mkAcc (fun acc s3 => wpAny M A (newFunctionEnv sco env.globals clo [] env.qual none .none (some env)) (fun ce s4 =>
      codeAny M A (.compStart e 0 it acc { ce with scope := relabel sco env }) (endC M A E use Qf acc ce.locals ce.frame) s4) E s3) E s2) E s1) E s) : wpAny M A (comprehension e sco env at_ mkAcc false fst use) Qf E s := by
  unfold comprehension
  rw [c3, c1]
  refine wpAny_bind (wpAny_mono go (fun x s1 g1 => ?_) fun _ _ z => z)
  refine wpAny_bind (wpAny_standAt (wpAny_bind (wpAny_of_eq (c2 x) (wpAny_bind (wpAny_holding (wpAny_mono g1 (fun it s2 g2 => ?_) fun _ _ z => z))))))
  refine wpAny_standIf (wpAny_bind (wpAny_mono g2 (fun acc s3 g3 => ?_) fun _ _ z => z))
  refine wpAny_bind (wpAny_pure (wpAny_bind (wpAny_mono g3 (fun ce s4 g4 => ?_) fun _ _ z => z)))
  dsimp only
  have loc : ∀ x ∈ (sco.names.filter fun x => (x.2 == .local || x.2 == .cell) && x.1 != (".0" : Str)).reverse, x.2 = .local → Env.kindOf { ce with scope := relabel sco env } x.1 = some .local := fun x hx hl =>
    lookup_relabel_local (c5 x (List.mem_filter.mp (List.mem_reverse.mp hx)).1 hl)
  have loc2 : ∀ x ∈ (sco.names.filter fun x => (x.2 == .local || x.2 == .cell) && x.1 != (".0" : Str)).reverse.drop 1 ++ (sco.names.filter fun x => (x.2 == .local || x.2 == .cell) && x.1 != (".0" : Str)).reverse.take 1,
      x.2 = .local → Env.kindOf { ce with scope := relabel sco env } x.1 = some .local := fun x hx hl => (List.mem_append.mp hx).elim (fun q => loc x (List.mem_of_mem_drop q) hl) (fun q => loc x (List.mem_of_mem_take q) hl)
  refine wpAny_holding (wpAny_bind (wpAny_attempt (wpAny_holding (wpAny_run (codeAny_mono g4 fun r t hr => ?_)))))
  match r, hr with
  | .ok f, hr =>
    cases use with
    | none =>
      obtain ⟨m, n1, n2⟩ := hr
      exact wpAny_bind (wpAny_holding (wpAny_comp_letGo (cenv := { ce with scope := relabel sco env }) c4 _ t m loc n1 fun h2 m2 _ sb => wpAny_pure (n2 h2 sb)))
    | some u =>
      refine wpAny_bind (wpAny_rule (wpAny_bind (wpAny_holding (wpAny_mono hr (fun _ t2 hr2 => ?_) fun _ _ z => z))))
      obtain ⟨m, n1, n2⟩ := hr2
      exact wpAny_bind (wpAny_comp_letGo (cenv := { ce with scope := relabel sco env }) c4 _ t2 m loc2 n1 fun h2 m2 _ sb => wpAny_pure (n2 h2 sb))
  | .error x, hr =>
    obtain ⟨m, n1, n2⟩ := hr
    exact wpAny_bind (wpAny_holding (wpAny_comp_letGo (cenv := { ce with scope := relabel sco env }) c4 _ t m loc n1 fun h2 m2 _ sb => wpAny_mono (n2 h2 sb _ rfl rfl) (fun _ _ f => f.elim) fun _ _ z => z))
end
/-- what a call within the block let out -/
def airB (X Y : Cx) (E : XK) (u : Value) (s' : Shared) : Prop := ∃ (pins : List (Addr × Obj)) (σ : L2.St) (H1 : Hp) (s1 : Shared), Inv Y pins σ H1 s1 ∧ CX X.prog X.w X.stack H1 s1 E u s'
abbrev blx (X : Cx) (s : Shared) (H : Hp) (sco : Scope) (ce : Env) (fp : List Addr) (E : XK) : Cx := { X.blk s H sco ce fp with xe := airB X (X.blk s H sco ce fp) E }
theorem to_blx {X : Cx} {s s1 : Shared} {H H1 : Hp} {sco : Scope} {ce : Env} {fp : List Addr} {E : XK} {pins : List (Addr × Obj)} {σ : L2.St} (I : Inv (X.blk s H sco ce fp) pins σ H1 s1) : Inv (blx X s H sco ce fp E) pins σ H1 s1 :=
  ⟨⟨I.ok.mod, I.ok.kind, I.ok.glob, I.ok.blt, I.ok.above, I.ok.inj, I.ok.has, I.ok.cab, I.ok.hd, I.ok.frames, I.ok.stk, I.ok.exf, I.ok.bs, I.ok.bsz, I.ok.noex, I.ok.exfs, I.ok.funs, I.ok.frf⟩, I.os, I.bare, I.base, I.loc, I.cell, I.free, I.freeC, I.pin, I.hok, I.len⟩
theorem of_blx {X : Cx} {s s1 : Shared} {H H1 : Hp} {sco : Scope} {ce : Env} {fp : List Addr} {E : XK} {pins : List (Addr × Obj)} {σ : L2.St} (I : Inv (blx X s H sco ce fp E) pins σ H1 s1) : Inv (X.blk s H sco ce fp) pins σ H1 s1 :=
  ⟨⟨I.ok.mod, I.ok.kind, I.ok.glob, I.ok.blt, I.ok.above, I.ok.inj, I.ok.has, I.ok.cab, I.ok.hd, I.ok.frames, I.ok.stk, I.ok.exf, I.ok.bs, I.ok.bsz, I.ok.noex, I.ok.exfs, I.ok.funs, I.ok.frf⟩, I.os, I.bare, I.base, I.loc, I.cell, I.free, I.freeC, I.pin, I.hok, I.len⟩
/-- a callee's exception may be let out of the block -/
theorem passes_blx {X : Cx} {s : Shared} {H : Hp} {sco : Scope} {ce : Env} {fp : List Addr} {E : XK} : Passes (L2.CX X.prog X.w) (blx X s H sco ce fp E) E := fun pins σ H1 s1 e s' I c => ⟨pins, σ, H1, s1, of_blx I, c⟩
theorem frames_but {h h2 B B2 : Heap} {C : Addr} (sb : ∀ b, b ≠ C → h2.get? b = h.get? b) (bb : ∀ b, B.get? b = none → B2.get? b = none) : ∀ {l : List Env}, (∀ L ∈ frs l, L ≠ C) → h.FunFrames B l → h2.FunFrames B2 l
  | [], _, _ => trivial
  | env :: l, nc, f => by
    obtain ⟨hk, ⟨L, o, hf, b0, ho, hd⟩, hr⟩ := f
    have ne : L ≠ C := nc L (List.mem_filterMap.mpr ⟨env, List.mem_cons_self, hf⟩)
    exact ⟨hk, ⟨L, o, hf, bb L b0, (sb L ne).trans ho, hd⟩, frames_but sb bb (fun L' hL => by
      obtain ⟨e', he, q⟩ := List.mem_filterMap.mp hL
      exact nc L' (List.mem_filterMap.mpr ⟨e', List.mem_cons_of_mem _ he, q⟩)) hr⟩
section
variable {X : Cx} {pins : List (Addr × Obj)} {σ : L2.St} {W : WX} {E : XK}
/-- out of the block, on through the frame -/
theorem air_out {s3 s5 s' : Shared} {H3 H5 : Hp} {sco : Scope} {ce : Env} {fp : List Addr} {pins5 : List (Addr × Obj)} {σ5 : L2.St} {u acc : Value} {use : Option (Value → Sem Unit)} {Qf : Value → Shared → Prop}
    (hk : X.stack = X.env :: X.outer) (hf : X.env.frame = some X.env.locals) (tk : Takes X W) (hW : ∀ cls d H', E cls d H' → W cls d σ H')
    (I3 : Inv X pins σ H3 s3) (f3 : ∀ b ∈ fp, FpOk X pins H3 b) (cL : ce.locals = s3.heap.objs.size) (cF : ce.frame = X.env.frame) (I5 : Inv (X.blk s3 H3 sco ce fp) pins5 σ5 H5 s5) (cx : CX X.prog X.w X.stack H5 s5 E u s') :
    notedBy (model X.prog X.w) X.A ce (fun e t => endC (model X.prog X.w) X.A X.xe use Qf acc s3.heap.objs.size X.env.frame (.error e) t) u s' := by
  obtain ⟨a, B, H', cls, d, rfl, fl, hok, ub, na, os, ag, hE⟩ := cx
  obtain ⟨G, g1, g2⟩ := restrict s'.heap fun b => (B.get? b).isSome || decide (b ∈ frs X.stack)
  have gB : ∀ b o, B.get? b = some o → G.get? b = some o := fun b o e => (g1 b (by simp [e])).trans (fl.1 b o e)
  have gF : ∀ b, b ∈ frs X.stack → G.get? b = s'.heap.get? b := fun b hb => g1 b (by simp [hb])
  have og : ∀ b o, G.get? b = some o → s'.heap.get? b = some o ∧ ((B.get? b).isSome = true ∨ b ∈ frs X.stack) := fun b o e => by
    cases q : ((B.get? b).isSome || decide (b ∈ frs X.stack)) with
    | false => rw [g2 b q] at e; cases e
    | true => exact ⟨(g1 b q).symm.trans e, by simpa [Bool.or_eq_true] using q⟩
  have nb : ∀ b o, G.get? b = some o → b ∉ frs X.stack → B.get? b = some o := fun b o e hb => by
    obtain ⟨e2, h | h⟩ := og b o e
    · obtain ⟨o2, q⟩ := Option.isSome_iff_exists.mp h
      rw [q, ← fl.1 b o2 q, e2]
    · exact absurd h hb
  have I6 : Inv (X.blk s3 H3 sco ce fp) pins5 σ5 H' { s5 with heap := G, gens := s'.gens, drawn := s'.drawn, toks := s'.toks } := by
    refine I5.call (ch := []) ⟨fun b o e n hb _ => gB b o (ub.keep b o e n hb), fun b o e n hb _ => ?_, fun b o e n _ => ub.free b o e n, fun b o e _ => ?_, ub.tups, ub.frzs, ub.tbls⟩ (hok.kept gB) ag (fun _ z => nomatch z)
    · obtain ⟨sl, q⟩ := ub.slot b o e hb
      exact ⟨sl, (gF b hb).trans q⟩
    · by_cases hb : b ∈ frs X.stack
      · exact (ub.slot b o e hb).elim fun sl q => ⟨_, (gF b hb).trans q⟩
      · exact (ub.there b o e hb).elim fun o2 q => ⟨o2, gB b o2 q⟩
  have I7 : Inv X pins σ H' { s5 with heap := G, gens := s'.gens, drawn := s'.drawn, toks := s'.toks } := I3.call' (ch := fp) I6.os I6.base I6.hok I6.bare fun b hb => ⟨(f3 b hb).2.2.2.1, (f3 b hb).2.1, (f3 b hb).2.2.2.2.1, (f3 b hb).2.2.2.2.2⟩
  have nC : H' s3.heap.objs.size = none := by
    have z : H' ce.locals = none := I6.free
    rwa [cL] at z
  obtain ⟨p0, p1, p2, p3, p4, p5⟩ := I3.fpOk (H' := H') (Nat.le_refl _) nC
  obtain ⟨mC, ⟨oC, es, ep, eC, dC, rC⟩, _⟩ := I6.loc
  have eC : G.get? ce.locals = some oC := eC
  rw [cL] at eC
  have nfC : ∀ L ∈ frs X.stack, L ≠ s3.heap.objs.size := fun L hL z => by
    obtain ⟨_, o, e, _⟩ := I3.stack.mem hL
    exact absurd (Heap.lt_size e) (by rw [z]; exact Nat.lt_irrefl _)
  generalize s3.heap.objs.size = C at *
  have bC : B.get? C = some oC := nb C oC eC fun z => nfC C z rfl
  have nrC : ∀ vs, oC.data ≠ .fields vs := fun vs e => by rw [dC] at e; cases e
  have eqN : (noteFrame (.ref a) ce : Sem Unit) = noteFrame (.ref a) X.env := by unfold noteFrame PySem.frameOf; rw [cF]
  unfold notedBy
  rw [eqN]
  rw [hk] at fl
  refine HandSPX.looks_onZ Zc.steady (by rw [I3.ok.frames, hk]) hf fl fun h1 held up1 => ?_
  rw [← hk] at held
  obtain ⟨slC, eC1⟩ := up1 C oC (og C oC eC).1 nrC
  refine ⟨mC, ⟨_, es, ep, eC1, dC, rC⟩, fun h2 sb ce' e1 e2 => ?_⟩
  obtain ⟨B2, b1, b2⟩ := restrict B fun b => decide (b ≠ C)
  have bb : ∀ b, b ≠ C → B2.get? b = B.get? b := fun b hb => b1 b (decide_eq_true hb)
  have bN : B2.get? C = none := b2 C (decide_eq_false fun z => z rfl)
  obtain ⟨k1, k2, k3, oe, vs, T, oT, ts, he, hz, hd, hv, hnT, hTe, hT, hdT, hfl⟩ := held
  have aC : a ≠ C := fun z => by rw [z, bC] at k2; cases k2
  have TC : T ≠ C := fun z => by rw [z, bC] at hnT; cases hnT
  have held2 : HandSPX.HeldZ B2 X.stack a (Zc cls d) X.env.locals h2 := by
    refine ⟨fun b o e => ?_, (bb a aC).trans k2, frames_but (fun b hb => sb.2 b hb) (fun b e => ?_) nfC k3, oe, vs, T, oT, ts, (sb.2 a aC).trans he, hz, hd, hv, (bb T TC).trans hnT, hTe, (sb.2 T TC).trans hT, hdT, hfl⟩
    · have ne : b ≠ C := fun z => by rw [z, bN] at e; cases e
      exact (sb.2 b ne).trans (k1 b o ((bb b ne).symm.trans e))
    · by_cases z : b = C
      · rw [z]; exact bN
      · exact (bb b z).trans e
  unfold PySem.passOn
  refine wpAny_bind (wpAny_field ((sb.2 a aC).trans he) hd hv ?_)
  rw [if_neg (by simp), e2, hf]
  refine wpAny_bind (HandSPX.setFlight_onZ held2 fun h4 held4 up4 => wpAny_throw ?_)
  obtain ⟨G2, q1, q2⟩ := restrict G fun b => decide (b ≠ C)
  have qq : ∀ b o, G2.get? b = some o → b ≠ C ∧ G.get? b = some o := fun b o e => by
    by_cases z : b = C
    · rw [z, q2 C (decide_eq_false fun z => z rfl)] at e; cases e
    · exact ⟨z, (q1 b (decide_eq_true z)).symm.trans e⟩
  have I8 : Inv X pins σ H' { s5 with heap := G2, gens := s'.gens, drawn := s'.drawn, toks := s'.toks } := I7.turned (it := C) (h' := G2) (t' := s'.toks) (fun b o hb e => (q1 b (decide_eq_true hb)).trans e) p0 p1 p3 p4 p5
  refine tk _ _ ⟨a, B2, { s5 with heap := G2, gens := s'.gens, drawn := s'.drawn, toks := s'.toks }, pins, σ, H', cls, d, rfl, I8, fun b o e hb => ?_, fun b o e nr => ?_, .inr (.inr held4), na, os, ag, hW _ _ _ hE⟩
  · obtain ⟨z, e⟩ := qq b o e
    exact (bb b z).trans (nb b o e hb)
  · obtain ⟨z, e⟩ := qq b o e
    obtain ⟨sl, e3⟩ := up1 b o (og b o e).1 nr
    obtain ⟨sl2, e4⟩ := up4 b _ ((sb.2 b z).trans e3) nr
    exact ⟨sl2, e4⟩
end
end Lw
namespace Lw
open PySem PySem.Spec PyProof.Rows L2

open LamX
section
variable {X : Cx} {W : WX} {E : XK}
/-- [elt for tg in iter if ..], elt may raise -/
theorem lc_may {pins : List (Addr × Obj)} {s : Shared} {σ : L2.St} {H : Hp} {Q : VK} {elt tg iter : Expr} {ifs : List Expr} {sco : Scope} {own : List (Str × Nat)} {pos pos2 : Pos} {wi : TI} {g : TG} {tt : TT} {te : TE} {use : Option (Value → Sem Unit)} {Qf : Value → Shared → Prop}
    (hc : X.calm = true) (hN : X.N.Nodup) (hk : X.stack = X.env :: X.outer) (hf : X.env.frame = some X.env.locals) (tk : Takes X W) (hW : ∀ cls d H', E cls d H' → W cls d σ H') (I : Inv X pins σ H s) (hi : PI X tg iter wi) (ok : BlkOk X.N X.env.scope sco own)
    (hg : ∀ (t : Shared) (H1 : Hp) (C : Addr) (cl : List (Str × Addr)) (fp : List Addr), PG (X.blk t H1 sco (compEnvC sco cl C X.env) fp) tg g)
    (ht : ∀ (t : Shared) (H1 : Hp) (C : Addr) (cl : List (Str × Addr)) (fp : List Addr), PTs (X.blk t H1 sco (compEnvC sco cl C X.env) fp) ifs tt)
    (he : ∀ (t : Shared) (H1 : Hp) (C : Addr) (cl : List (Str × Addr)) (fp : List Addr), PE (blx X t H1 sco (compEnvC sco cl C X.env) fp E) elt te) (fo : ∀ x, foldedSetIterable iter X.env x = pure x) (h : tLc wi g tt te (own.map (·.2)) σ H Q)
    (fin : ∀ D C t m H', Inv X pins σ H' t → Q (.ref D) H' → t.heap.Ns C m → FpOk X pins H' C → compPost (model X.prog X.w) X.A X.xe use Qf (.ref D) C (.ok .next) t) :
    wpAny (model X.prog X.w) X.A (comprehension (.ListComp elt [⟨tg, iter, ifs, 0⟩] sco pos) sco X.env pos2 (newList []) false (eval iter X.env) use) Qf X.xe s := by
  have fr : ∀ y ∈ sco.names, y.2 = .free → ∃ c, X.env.cells.lookup y.1 = some c := fun y hy e => (ok.free y hy e).elim (fun k => I.ok.has _ (.inl k)) (fun k => I.ok.has _ (.inr k))
  refine comp_told (use := use) rfl fo (closure_ok fr) ok.kind (fun y hy e => (ok.uniq y hy).trans (by rw [e])) (thn (hi.run pins s σ H _ I h) fun xv s1 hx => thn hx fun itv s2 q2 => ?_)
  obtain ⟨it, fp, tn, J, H2, rfl, I2, T, st2, f2, q⟩ := q2
  refine wpAny_newObj_type (newEnv_comp ?_) (by show 0 ≤ sizeLine; decide)
  generalize hD : s2.heap.objs.size = D
  obtain ⟨V1, ⟨m0, v0⟩, step⟩ := q D (I2.hok.fresh (Nat.le_of_eq hD))
  obtain ⟨s3, e3⟩ : ∃ s3 : Shared, s3 = { s2 with heap := s2.heap.push { cls := .type "list", data := .seq ([] : List Value).toArray } } := ⟨_, rfl⟩
  rw [← e3]
  have h3 : s3.heap = s2.heap.push { cls := .type "list", data := .seq ([] : List Value).toArray } := by rw [e3]
  have I3 : Inv X pins σ (upd H2 D (.lst [])) s3 := by
    rw [e3]
    refine I2.laid (t' := s2.toks) (fun b o e => Heap.get?_push_of_some _ e) (Nat.le_of_eq hD) ⟨Nat.zero_le _, [], 0, .nil, ?_⟩
    exact hD ▸ Heap.get?_push_size _ rfl
  have lt2 : ∀ b ∈ fp, b < s2.heap.objs.size := fun b hb => (T.obj _ _ st2 b hb).elim fun o e => Heap.lt_size e.1
  have f3 : ∀ b ∈ fp, FpOk X pins (upd H2 D (.lst [])) b ∧ b < s3.heap.objs.size := fun b hb => by
    have l := lt2 b hb
    refine ⟨⟨(upd_ne (by rw [← hD]; exact Nat.ne_of_lt l)).trans (f2 b hb).1, (f2 b hb).2⟩, ?_⟩
    rw [h3, Heap.size_push]
    exact Nat.lt_succ_of_lt l
  have st3 : tn 0 s3.heap := T.keep _ _ _ st2 fun b _ o e => h3 ▸ Heap.get?_push_of_some _ e
  have I4 := block_start I3 ok hN f3
  have pg := hg s3 (upd H2 D (.lst [])) s3.heap.objs.size (cellsFrom (s3.heap.objs.size + 1) sco.names (cloFrom X.env.cells sco.names [])) fp
  have pt := ht s3 (upd H2 D (.lst [])) s3.heap.objs.size (cellsFrom (s3.heap.objs.size + 1) sco.names (cloFrom X.env.cells sco.names [])) fp
  have pe := he s3 (upd H2 D (.lst [])) s3.heap.objs.size (cellsFrom (s3.heap.objs.size + 1) sco.names (cloFrom X.env.cells sco.names [])) fp
  show codeAny _ _ (.compStart (.ListComp elt [⟨tg, iter, ifs, 0⟩] sco pos) 0 (.ref it) (.ref D) (compEnvC sco (cellsFrom (s3.heap.objs.size + 1) sco.names (cloFrom X.env.cells sco.names [])) s3.heap.objs.size X.env)) (endC (model X.prog X.w) X.A X.xe use Qf (.ref D) s3.heap.objs.size X.env.frame) { s3 with heap := pushCells (s3.heap.push { cls := .type "dict", data := .dict #[] }) sco.names }
  obtain ⟨ce, hce⟩ : ∃ ce : Env, ce = compEnvC sco (cellsFrom (s3.heap.objs.size + 1) sco.names (cloFrom X.env.cells sco.names [])) s3.heap.objs.size X.env := ⟨_, rfl⟩
  rw [← hce] at I4 pg pt pe ⊢
  have cL : ce.locals = s3.heap.objs.size := by rw [hce]; rfl
  have cF : ce.frame = X.env.frame := by rw [hce]; rfl
  generalize upd H2 D (.lst []) = H3 at I3 I4 pg pt pe v0 f3
  obtain ⟨s4, e4⟩ : ∃ s4 : Shared, s4 = { s3 with heap := pushCells (s3.heap.push { cls := .type "dict", data := .dict #[] }) sco.names } := ⟨_, rfl⟩
  have st4 : tn 0 s4.heap := T.keep _ _ _ st3 fun b _ o e => e4 ▸ pushCells_keeps _ _ _ _ (Heap.get?_push_of_some _ e)
  rw [← e4] at I4 ⊢
  have still : ∀ {σ1 : L2.St} {H1 : Hp} {t : Shared}, Inv (X.blk s3 H3 sco ce fp) [] σ1 H1 t → (∀ b ∈ fp, H1 b = none) → ∀ b ∈ fp, FpOk (X.blk s3 H3 sco ce fp) [] H1 b := fun {σ1 H1 t} J n b hb =>
    ⟨n b hb, (J.ok.exf b hb).1, J.ok.exfs b hb, .inl hb, fun x c e => (J.ok.exf b hb).2 x c e, fun p hp => absurd (show p ∈ ([] : List (Addr × Obj)) ++ [] from hp) (by simp)⟩
  refine codeAny_compStart_list ?run (T.self X.A 0 _ _ _ st4 ?run)
  refine compLoop_any (fun n t => ∃ i H1, Inv (X.blk s3 H3 sco ce fp) [] (wipe σ (own.map (·.2))) H1 t ∧ tn i t.heap ∧ (∀ b ∈ fp, H1 b = none) ∧ V1 i n H1) ?_ m0 ⟨0, H3, I4, st4, fun b hb => (f3 b hb).1.1, v0⟩
  rintro n s5 ⟨i, H5, I5, st5, n5, v5⟩
  rcases step i n H5 v5 with ⟨stop, qq⟩ | ⟨go, Nx, hNx, turn⟩
  · refine thnF (T.done (X.blk s3 H3 sco ce fp) rfl rfl rfl hc i [] s5 _ H5 (fun _ _ => False) I5 (still I5 n5) st5 stop) fun r s6 ⟨hr, I6⟩ => ?_
    subst hr
    have I7 : Inv X pins σ H5 s6 := I3.call' (ch := fp) I6.os I6.base I6.hok I6.bare fun b hb => ⟨(f3 b hb).1.2.2.2.1, (f3 b hb).1.2.1, (f3 b hb).1.2.2.2.2.1, (f3 b hb).1.2.2.2.2.2⟩
    have nC : H5 s3.heap.objs.size = none := by
      have z : H5 ce.locals = none := I6.free
      rwa [cL] at z
    obtain ⟨m, hn, _⟩ := I6.loc
    have hn : s6.heap.Ns ce.locals m := hn
    rw [cL] at hn
    exact fin D s3.heap.objs.size s6 m H5 I7 qq hn (I3.fpOk (Nat.le_refl _) nC)
  · refine thnF (T.item (X.blk s3 H3 sco ce fp) rfl rfl rfl hc i [] s5 _ H5 (fun _ _ => False) I5 (still I5 n5) st5 go) fun r s6 ⟨u, hr, g6⟩ => ?_
    subst hr
    refine thnF g6 fun _ s7 ⟨x, H7, I7, r7, y7, st7, n7⟩ => ?_
    have I7p := I7.pinned (still I7 n7) (T.obj _ _ st7)
    refine thnF (pg.run _ s7 _ H7 x u _ I7p r7 (turn x H7 y7)) fun _ s8 ⟨σ8, H8, I8, w8, q8⟩ => ?_
    refine thnF (pt.run _ s8 σ8 H8 _ I8 q8) fun b s9 ⟨H9, I9, q9⟩ => ?_
    have done : ∀ {t : Shared} {H1 : Hp}, Inv (X.blk s3 H3 sco ce fp) ([] ++ pinsAt fp s7.heap) σ8 H1 t → Nx H1 → ∃ m, m < n ∧ ∃ i H1, Inv (X.blk s3 H3 sco ce fp) [] (wipe σ (own.map (·.2))) H1 t ∧ tn i t.heap ∧ (∀ b ∈ fp, H1 b = none) ∧ V1 i m H1 := fun {t H1} J nx => by
      obtain ⟨m2, lt, w2⟩ := hNx H1 nx
      have pin : ∀ b ∈ fp, ∀ o, s7.heap.get? b = some o → t.heap.get? b = some o ∧ H1 b = none := fun b hb o e =>
        ⟨(J.pin (b, o) (List.mem_append_right _ (List.mem_append_right _ (mem_pinsAt hb e)))).1, (J.pin (b, o) (List.mem_append_right _ (List.mem_append_right _ (mem_pinsAt hb e)))).2.1⟩
      refine ⟨m2, lt, i + 1, H1, (J.unpinned (pins := [])).weak (by rw [← w8, wipe_length]) (fun j v e => (wipe_some (vs := own.map (·.2)) (by rw [w8]; exact e)).1), T.keep _ _ _ st7 fun b hb o e => (pin b hb o e).1, fun b hb => ?_, w2⟩
      exact (T.obj _ _ st7 b hb).elim fun o e => (pin b hb o e.1).2
    cases b with
    | false => exact done I9 q9
    | true =>
      refine wpAny_mono (pe.run _ s9 σ8 H9 _ (to_blx I9) q9) (fun z s10 hz => ?_) fun u2 t2 hx => ?_
      · obtain ⟨yv, H10, I10, r10, acc, hD10, hz10, nx⟩ := hz
        exact app_ok (X := X.blk s3 H3 sco ce fp) (of_blx I10) hD10 hz10 r10 fun s11 I11 => done I11 nx
      · obtain ⟨p5, σ5, H6, s6', J, cx⟩ := hx
        exact air_out hk hf tk hW I3 (fun b hb => (f3 b hb).1) cL cF J cx
/-- as a value -/
theorem pe_lcMay {elt tg iter : Expr} {ifs : List Expr} {sco : Scope} {own : List (Str × Nat)} {pos : Pos} {wi : TI} {g : TG} {tt : TT} {te : TE} (hc : X.calm = true) (hN : X.N.Nodup) (hk : X.stack = X.env :: X.outer) (hf : X.env.frame = some X.env.locals) (tk : Takes X W) (hW : ∀ σ cls d H', E cls d H' → W cls d σ H')
    (hi : PI X tg iter wi) (ok : BlkOk X.N X.env.scope sco own)
    (hg : ∀ (t : Shared) (H1 : Hp) (C : Addr) (cl : List (Str × Addr)) (fp : List Addr), PG (X.blk t H1 sco (compEnvC sco cl C X.env) fp) tg g)
    (ht : ∀ (t : Shared) (H1 : Hp) (C : Addr) (cl : List (Str × Addr)) (fp : List Addr), PTs (X.blk t H1 sco (compEnvC sco cl C X.env) fp) ifs tt)
    (he : ∀ (t : Shared) (H1 : Hp) (C : Addr) (cl : List (Str × Addr)) (fp : List Addr), PE (blx X t H1 sco (compEnvC sco cl C X.env) fp E) elt te) (fo : ∀ x, foldedSetIterable iter X.env x = pure x := by intro _; rfl) :
    PE X (.ListComp elt [⟨tg, iter, ifs, 0⟩] sco pos) (tLc wi g tt te (own.map (·.2))) := by
  refine ⟨fun pins s σ H Q I h => ?_⟩
  rw [eval_ListComp]
  refine lc_may hc hN hk hf tk (hW σ) I hi ok hg ht he fo h fun D C t m H1 J q hn ⟨a0, a1, _, a3, a4, a5⟩ => ⟨m, hn, fun h2 sb => ?_⟩
  exact ⟨.ref D, H1, J.turned (t' := t.toks) (fun b o hb e => (sb.2 b hb).trans e) a0 a1 a3 a4 a5, rfl, q⟩
/-- name = [..] on one line, the name a local -/
theorem ps_setLcMay {i : Nat} {y : Str} {py : Pos} {elt tg iter : Expr} {ifs : List Expr} {sco : Scope} {own : List (Str × Nat)} {pos spos : Pos} {wi : TI} {g : TG} {tt : TT} {te : TE} (hc : X.calm = true) (hN : X.N.Nodup) (hk : X.stack = X.env :: X.outer) (hf : X.env.frame = some X.env.locals) (tk : Takes X W) (hW : ∀ σ cls d H', E cls d H' → W cls d σ H')
    (hy : X.N[i]? = some y) (hyl : X.env.scope.names.lookup y = some .local) (hsw : swapsWith (.ListComp elt [⟨tg, iter, ifs, 0⟩] sco pos) (some (.Name y py)) spos.line X.env = pure true) (hi : PI X tg iter wi) (ok : BlkOk X.N X.env.scope sco own)
    (hg : ∀ (t : Shared) (H1 : Hp) (C : Addr) (cl : List (Str × Addr)) (fp : List Addr), PG (X.blk t H1 sco (compEnvC sco cl C X.env) fp) tg g)
    (ht : ∀ (t : Shared) (H1 : Hp) (C : Addr) (cl : List (Str × Addr)) (fp : List Addr), PTs (X.blk t H1 sco (compEnvC sco cl C X.env) fp) ifs tt)
    (he : ∀ (t : Shared) (H1 : Hp) (C : Addr) (cl : List (Str × Addr)) (fp : List Addr), PE (blx X t H1 sco (compEnvC sco cl C X.env) fp E) elt te) (fo : ∀ x, foldedSetIterable iter X.env x = pure x := by intro _; rfl) :
    PS X (.Assign [.Name y py] (.ListComp elt [⟨tg, iter, ifs, 0⟩] sco pos) spos) (tAsg (tLc wi g tt te (own.map (·.2))) (gName i)) := by
  refine ⟨fun pins s σ H D I h => ?_⟩
  rw [exec_Assign_Name_used _ _ _ _ hsw]
  refine wpAny_bind (wpAny_standAt (wpAny_bind ?_))
  have h : tLc wi g tt te (own.map (·.2)) σ H (fun x H1 => gName i x σ H1 D.nx) := h
  refine wpAny_bind (thn (lc_may (use := some (assign (.Name y py) X.env)) (Qf := fun _ t => SP X pins D .next t) hc hN hk hf tk (hW σ) I hi ok hg ht he fo h fun L C t m H1 J q hn ⟨a0, a1, _, a3, a4, a5⟩ => ?_) fun _ t hq => wpAny_pure (wpAny_pure hq))
  show wpAny _ _ (assign (.Name y py) X.env (.ref L)) _ _ _
  refine wpAny_assign_Name (store_ok2 (v := V.ref L) J hN hy (.inl hyl) rfl (fun t2 J2 ⟨a, sb, ha⟩ => ?_) (.inr hyl))
  have ne : C ≠ a := fun z => ha.elim (fun w => a1 (z.trans w)) (fun w => a4 y a w z.symm)
  refine ⟨m, hn.sameBut sb ne, fun h4 sb4 => ?_⟩
  exact ⟨_, H1, J2.turned (t' := t2.toks) (fun b o hb e => (sb4.2 b hb).trans e) a0 a1 a3 a4 a5, q⟩
end
end Lw
namespace Lw
open PySem PySem.Spec PyProof.Rows L2

open LamX
abbrev sGre : Stmt := inClass (top 15) 2
theorem pi_or {X : Cx} {tg e : Expr} {w1 w2 : TI} (h1 : PI X tg e w1) (h2 : PI X tg e w2) : PI X tg e (fun σ H R => w1 σ H R ∨ w2 σ H R) := ⟨fun pins s σ H R I h => h.elim (h1.run pins s σ H R I) (h2.run pins s σ H R I)⟩
theorem NumAt.same {K : PySem.W.Frag} {C : Addr} {H H' : Hp} {v : V} {o u : Int} (h : NumAt K C H v o u) (s : Same H H') : NumAt K C H' v o u := by
  cases h with
  | rat h h0 hp hq => exact .rat (h.same s) h0 hp hq
  | int hi hk => exact .int hi hk
theorem NumAt.upd {K : PySem.W.Frag} {C : Addr} {H : Hp} {v : V} {o u : Int} {l : Addr} {xs : List V} {w : HO} (h : NumAt K C H v o u) (hl : H l = some (.lst xs)) : NumAt K C (upd H l w) v o u := by
  cases h with
  | rat h h0 hp hq =>
    obtain ⟨dx, ha⟩ := h
    exact .rat ⟨dx, by rw [upd_ne (fun z => by rw [z, hl] at ha; cases ha)]; exact ha⟩ h0 hp hq
  | int hi hk => exact .int hi hk
/-- the first numbers of a list, made ratios, stand in the list at L -/
def Made (K : PySem.W.Frag) (C : Addr) (ms : List (Int × Int)) (L : Addr) (ys : List V) (H : Hp) : Prop := H L = some (.lst ys) ∧ ∀ (j : Nat) (y : V), ys[j]? = some y → ∃ (n : Int × Int) (b : Addr), ms[j]? = some n ∧ y = .ref b ∧ NumAt K C H (.ref b) n.1 n.2
theorem Made.same {K : PySem.W.Frag} {C L : Addr} {ms : List (Int × Int)} {ys : List V} {H H' : Hp} (h : Made K C ms L ys H) (s : Same H H') : Made K C ms L ys H' := ⟨s _ _ h.1, fun j y e => by
  obtain ⟨n, b, e1, e2, na⟩ := h.2 j y e
  exact ⟨n, b, e1, e2, na.same s⟩⟩
def Lt2 (f r : Int × Int) : Prop := f.1 * r.2 < r.1 * f.2
instance (f r : Int × Int) : Decidable (Lt2 f r) := inferInstanceAs (Decidable (_ < _))
/-- the greatest one of several numbers, the first of equal ones -/
def best (n0 : Int × Int) (ns : List (Int × Int)) : Int × Int := ns.foldl (fun f r => if Lt2 f r then r else f) n0
theorem best_succ {n0 n : Int × Int} {ms : List (Int × Int)} {i : Nat} (e : ms[i]? = some n) : best n0 (ms.take (i + 1)) = if Lt2 (best n0 (ms.take i)) n then n else best n0 (ms.take i) := by
  unfold best
  rw [List.take_add_one, e, List.foldl_append]
  rfl
/-- v is neither a list nor a tuple, or an empty one -/
def Nol (K : PySem.W.Frag) (H : Hp) (v : V) : Prop := (∃ t, TyX K H v t ∧ PySem.W.kitAny K t [.type "list", .type "tuple"] = some false) ∨ ∃ a, v = .ref a ∧ (H a = some (.lst []) ∨ H a = some (.tup []))
def spGre (K : PySem.W.Frag) (C D : Addr) : Sp := fun vs H Q E => ∃ v : V, vs = [v] ∧
  ((Nol K H v ∧ ∀ d H', Same H H' → H' d = none → E (.ref D) (some d) (upd H' d (.xd [("value", v)]))) ∨
   ∃ (a : Addr) (xs : List V) (ms : List (Int × Int)), v = .ref a ∧ (H a = some (.lst xs) ∨ H a = some (.tup xs)) ∧ xs ≠ [] ∧ xs.length < sizeLine ∧ (∀ (j : Nat) (n : Int × Int), ms[j]? = some n → ∃ x, xs[j]? = some x ∧ NumAt K C H x n.1 n.2) ∧
     ((ms.length = xs.length ∧ ∀ b H' n0 p q, ms[0]? = some n0 → (p, q) = best n0 ms → Same H H' → RatAt C H' b p q → Q (.ref b) H') ∨ ∃ x, xs[ms.length]? = some x ∧ Refuses K C D x H E))
theorem seq_cls {K : PySem.W.Frag} {H : Hp} {a : Addr} {xs : List V} (h : H a = some (.lst xs) ∨ H a = some (.tup xs)) : ∃ t, TyX K H (.ref a) t ∧ PySem.W.kitAny K t [.type "list", .type "tuple"] = some true := by
  rcases h with h | h
  · exact ⟨.type "list", .base (.lst h), kitAny_cons (kit_ty (r := true) (by decide +kernel)) (fun z => by cases z) (fun _ => rfl)⟩
  · exact ⟨.type "tuple", .base (.tup h), kitAny_cons (kit_ty (r := false) (by decide +kernel)) (fun _ => kitAny_cons (kit_ty (r := true) (by decide +kernel)) (fun z => by cases z) (fun _ => rfl)) (fun z => by cases z)⟩
theorem Refuses.after {K : PySem.W.Frag} {C D : Addr} {x : V} {H H' : Hp} {E : XK} (h : Refuses K C D x H E) (s : Same H H') : Refuses K C D x H' E := by
  obtain ⟨t, av, ty, k1, k2, k3⟩ := h
  exact ⟨t, Lw.Anyv.same s av, Lw.TyZ.same s ty, k1, k2, fun d H2 s2 => k3 d H2 (s.trans s2)⟩
section
variable {P : Program} {w : World} {K : PySem.W.Frag} {mg : Str → Option Value} {base : Heap}
abbrev NGre : List Str := ["values", "ratios", "found", "ratio", "value"]
theorem scGre : FnScope NGre ["values"] (C8.fnScope sGre) := C8.fnScope_by (by decide +kernel)
theorem fn_gre {C D g f1 fE pO : Addr} {fd1 fdg fdE : FuncData} (F : C8.Fun K "greatest" "Ratio.greatest" sGre f1 fd1) (hm : mg "Ratio" = some (.ref C)) (T : Txt mg) (n_tup : mg "tuple" = none) (OM : OfM P w K mg base C D pO g fdg) (ER : Err P w K mg base D fE fdE)
    (ML : MetX P w K mg base 7 C "__lt__" (spCmp K C D fun x y => decide (x < y))) : FnOk P w K mg base (L2.CX P w) 8 f1 fd1 ["values"] (spGre K C D) := by
  obtain ⟨oc, od, dV, kV, doc, pm, an, cdv, ct, osl, rfl, lk, hcd⟩ := F.ex
  refine fn_of lk hcd scGre (fun vs H Q E h => ?_) fun A outer s H vs Q E hr h => ?_
  · obtain ⟨v, rfl, _⟩ := h
    rfl
  · obtain ⟨v, rfl, h⟩ := h
    have tk : Takes (cxOf (L2.CX P w) P w K mg base NGre "Ratio.greatest" (C8.fnScope sGre) f1 cdv A outer s H E) (fun cls d _ H' => E cls d H') := takes_of rfl rfl rfl rfl
    refine ⟨_, (pss_cons (ps_if (PW.pt (pw_or (pt_not (pt_val (pe_callB call_isiT (by rfl) T.n_isinstance (by decide +kernel) (pa_cons (pv 0) (pa_cons (pe_tup (pa_cons (pe_bltn (v := .ty "list") (by rfl) T.n_list (by decide +kernel) rfl) (pa_cons (pe_bltn (v := .ty "tuple") (by rfl) n_tup (by decide +kernel) rfl) pa_nil))) pa_nil))))) (pw_or1 (pt_cmpR op_eq (pe_callB call_len_seq (by rfl) T.n_len (by decide +kernel) (pa_cons (pv 0) pa_nil)) pe_int (nomark _))))) (pss_one (ps_bad (x := "BadRatio") (j := 5) rfl tk ER.T ER.iC ER.tI ER.F hr ER.b (by rfl) ER.hm (pv 0))) pss_nil)
  (pss_cons (ps_setLcMay (i := 1) (own := [("value", 4)]) (g := gName 4) (tt := tYes) (E := E) rfl scGre.nd rfl rfl tk (fun _ _ _ _ z => z) rfl rfl (sw_true rfl rfl rfl (by decide +kernel)) (pi_or (pi_list (pv 0)) (pi_tup (pv 0))) (blkOk_by (own := [("value", 4)]) (N := NGre) (sc := C8.fnScope sGre) (by decide +kernel)) (fun _ _ _ _ _ => pg_name (i := 4) scGre.nd rfl (Or.inl rfl)) (fun _ _ _ _ _ => pts_nil) (fun _ _ _ _ _ => (pe_static (pe_glob (v := .ref C) (by rfl) hm rfl) OM.S OM.F (hr.mono (by decide)) OM.b .nil passes_blx (pa_cons (pv 4) pa_nil))))
  (pss_cons (ps_set (i := 2) scGre.nd rfl (Or.inl rfl) (pe_ix ix_list (pv 1) pe_int (fun _ _ => rfl)))
  (pss_cons (ps_for (passes_of rfl) rfl (pi_list (pv 1)) (pg_name (i := 3) scGre.nd rfl (Or.inl rfl)) (pss_one (ps_if (pt_cmpR (op_cmpF (op := .Lt) (fun _ _ => rfl) ML (passes_call tk (fun _ _ _ _ z => z)) hr (by decide)) (pv 2) (pv 3) (nomark _)) (pss_one (ps_set (i := 2) scGre.nd rfl (Or.inl rfl) (pv 3))) pss_nil)))
  (pss_one (ps_ret (pv 2))))))), ?_⟩
    refine ⟨v, rfl, (by show 2 ≤ sizeLine; decide), fun t ft => ?_⟩
    have s1 := same_new (o := HO.tup [V.ty "list", V.ty "tuple"]) ft
    have et : upd H t (HO.tup [V.ty "list", V.ty "tuple"]) t = some (.tup [V.ty "list", V.ty "tuple"]) := upd_same
    generalize upd H t _ = H1 at s1 et ⊢
    rcases h with ⟨nol, k⟩ | ⟨a, xs, ms, rfl, ha, ne, sz, hm2, h⟩
    · rcases nol with ⟨ty, hty, hk⟩ | ⟨a, rfl, ha⟩
      · refine ⟨v, t, _, ty, _, false, rfl, et, .cons (.ty _) (.cons (.ty _) .nil), Lw.TyX.same s1 hty, hk, ?_⟩
        exact ⟨_, rfl, iteT (iteT ⟨_, rfl, bad_leaf (fun d hd => k d _ s1 hd)⟩)⟩
      · obtain ⟨ty, hty, hk⟩ := seq_cls (K := K) ha
        refine ⟨_, t, _, ty, _, true, rfl, et, .cons (.ty _) (.cons (.ty _) .nil), Lw.TyX.same s1 hty, hk, ?_⟩
        exact ⟨_, rfl, iteF ⟨_, rfl, a, [], rfl, ha.imp (fun z => SqL.of (s1 _ _ z)) (fun z => SqT.of (s1 _ _ z)), rfl, _, rfl, iteT ⟨_, rfl, bad_leaf (fun d hd => k d _ s1 hd)⟩⟩⟩
    · obtain ⟨ty, hty, hk⟩ := seq_cls (K := K) ha
      refine ⟨_, t, _, ty, _, true, rfl, et, .cons (.ty _) (.cons (.ty _) .nil), Lw.TyX.same s1 hty, hk, ?_⟩
      refine ⟨_, rfl, iteF ⟨_, rfl, a, xs, rfl, ha.imp (fun z => SqL.of (s1 _ _ z)) (fun z => SqT.of (s1 _ _ z)), rfl, _, rfl, ite2 (fun c => ?_) (fun c => ?_)⟩⟩
      · cases xs with
        | nil => exact absurd rfl ne
        | cons y ys =>
          have := of_decide_eq_true c
          exact absurd this (by intro z; have z := V.int.inj z; rw [List.length_cons] at z; omega)
      dsimp only [tNext, tSeq, tAsg]
      have after : ∀ (L : Addr) (ys : List V) (H2 : Hp), Same H1 H2 → ys.length = xs.length → Made K C ms L ys H2 → ms.length = xs.length → gName 1 (.ref L) (L2.start NGre [V.ref a]) H2 (tSeq (tAsg (tOp (rIxL K) (tVar 1) (tC (V.int 0))) (gName 2)) (tSeq (tFor (iList K (tVar 1)) (gName 3) (tIfS (tTest (tOp (rCF K C (spCmp K C D fun x y => decide (x < y)) E) (tVar 2) (tVar 3))) (tAsg (tVar 3) (gName 2)) tNext)) (tRet (tVar 2))) { nx := fun x H' => Q V.non H', rt := Q }) := fun L ys H2 s2 ly mk lm => ?after
      have end_ : ∀ (L : Addr) (H2 : Hp), (Same H1 H2 ∧ xs.length ≤ ms.length ∧ ∃ ys, ys.length = xs.length ∧ Made K C ms L ys H2) → gName 1 (.ref L) (L2.start NGre [V.ref a]) H2 (tSeq (tAsg (tOp (rIxL K) (tVar 1) (tC (V.int 0))) (gName 2)) (tSeq (tFor (iList K (tVar 1)) (gName 3) (tIfS (tTest (tOp (rCF K C (spCmp K C D fun x y => decide (x < y)) E) (tVar 2) (tVar 3))) (tAsg (tVar 3) (gName 2)) tNext)) (tRet (tVar 2))) { nx := fun x H' => Q V.non H', rt := Q }) := fun L H2 ⟨s2, l, ys, ly, mk⟩ => by
        refine after L ys H2 s2 ly mk ?_
        rcases h with ⟨e, _⟩ | ⟨x, e, _⟩
        · exact e
        · have := (List.getElem?_eq_some_iff.mp e).1
          omega
      have turn : ∀ (L : Addr), H1 L = none → ∀ (i : Nat) (x : V) (H2 : Hp), xs[i]? = some x → (Same H1 H2 ∧ i ≤ ms.length ∧ ∃ ys, ys.length = i ∧ Made K C ms L ys H2) →
          gName 4 x (wipe (L2.start NGre [V.ref a]) [4]) H2 fun σ2 H3 => wipe σ2 [4] = wipe (L2.start NGre [V.ref a]) [4] ∧ tYes σ2 H3 fun b H4 => if b = true then tStatic C (spOf K C D) [] E (tC (V.ref C)) (tCons (tVar 4) tNil) σ2 H4 fun y H5 => ∃ acc, H5 L = some (.lst acc) ∧ acc.length < sizeLine ∧ (Same H1 (upd H5 L (.lst (acc ++ [y]))) ∧ i + 1 ≤ ms.length ∧ ∃ ys, ys.length = i + 1 ∧ Made K C ms L ys (upd H5 L (.lst (acc ++ [y])))) else (Same H1 H4 ∧ i + 1 ≤ ms.length ∧ ∃ ys, ys.length = i + 1 ∧ Made K C ms L ys H4) := fun L hL i x H2 hx ⟨s2, l, ys, ly, mk⟩ => by
        refine ⟨rfl, ?_⟩
        show tStatic C (spOf K C D) [] E (tC (V.ref C)) (tCons (tVar 4) tNil) _ H2 _
        refine ⟨rfl, x, rfl, ?_⟩
        dsimp only [tNil]
        refine of_ok ?_
        by_cases c : i < ms.length
        · obtain ⟨x2, e2, na⟩ := hm2 i ms[i] (by simp [c])
          rw [hx] at e2
          cases e2
          refine .inl ⟨_, _, na.same (s1.trans s2), fun b H5 s5 hb q0 mp mq => ⟨ys, s5 _ _ mk.1, ?_, ?_, c, ys ++ [.ref b], by rw [List.length_append, ly]; rfl, upd_same, fun j y e => ?_⟩⟩
          · have := (List.getElem?_eq_some_iff.mp hx).1
            omega
          · intro b2 o hb2
            rw [upd_ne (fun z => by rw [z, hL] at hb2; cases hb2)]
            exact s5 _ _ (s2 _ _ hb2)
          · by_cases cj : j < ys.length
            · rw [List.getElem?_append_left cj] at e
              obtain ⟨n, b2, e1, e2, n2⟩ := (mk.same s5).2 j y e
              exact ⟨n, b2, e1, e2, n2.upd (s5 _ _ mk.1)⟩
            · rw [List.getElem?_append_right (by omega)] at e
              have lt := (List.getElem?_eq_some_iff.mp e).1
              have e0 : j - ys.length = 0 := by
                have : ([V.ref b] : List V).length = 1 := rfl
                omega
              rw [e0] at e
              have ej : j = i := by omega
              cases e
              exact ⟨_, b, by rw [ej]; simp [c], rfl, (NumAt.rat hb q0 mp mq).upd (s5 _ _ mk.1)⟩
        · have ei : i = ms.length := by omega
          rcases h with ⟨e, _⟩ | ⟨x2, e, rf⟩
          · have := (List.getElem?_eq_some_iff.mp hx).1
            omega
          · rw [← ei, hx] at e
            cases e
            exact .inr (rf.after (s1.trans s2))
      have start : ∀ L, H1 L = none → (Same H1 (upd H1 L (.lst [])) ∧ 0 ≤ ms.length ∧ ∃ ys : List V, ys.length = 0 ∧ Made K C ms L ys (upd H1 L (.lst []))) := fun L hL => ⟨same_new hL, Nat.zero_le _, [], rfl, upd_same, fun j y e => by cases j <;> cases e⟩
      · rcases ha with ha | ha
        · exact .inl ⟨.ref a, rfl, a, rfl, ⟨xs, SqL.of (s1 _ _ ha)⟩, fun L hL => lc_list (K := K) (a := a) (xs := xs) (fun i H2 => Same H1 H2 ∧ i ≤ ms.length ∧ ∃ ys, ys.length = i ∧ Made K C ms L ys H2) (start L hL) (fun i H2 _ ⟨s2, _⟩ => SqL.of (s2 _ _ (s1 _ _ ha))) (turn L hL) (end_ L)⟩
        · exact .inr ⟨.ref a, rfl, a, rfl, ⟨xs, SqT.of (s1 _ _ ha)⟩, fun L hL => lc_tup (K := K) (a := a) (xs := xs) (fun i H2 => Same H1 H2 ∧ i ≤ ms.length ∧ ∃ ys, ys.length = i ∧ Made K C ms L ys H2) (start L hL) (fun i H2 _ ⟨s2, _⟩ => SqT.of (s2 _ _ (s1 _ _ ha))) (turn L hL) (end_ L)⟩
      have k := (h.resolve_right fun ⟨x, e, _⟩ => by
        have := (List.getElem?_eq_some_iff.mp e).1
        omega).2
      have y1 : 0 < ys.length := by
        cases xs with
        | nil => exact absurd rfl ne
        | cons y ys => rw [ly, List.length_cons]; omega
      obtain ⟨n0, b0, en, ey, na0⟩ := mk.2 0 ys[0] (by simp [y1])
      dsimp only [gName, tSeq, tAsg]
      refine ⟨.ref L, rfl, L, ys, 0, .ref b0, rfl, rfl, SqL.of mk.1, ?_, ?_⟩
      · rw [← ey]
        show atI ys ((0 : Nat) : Int) = _
        exact atI_nat (by simp [y1])
      refine ⟨.ref L, rfl, L, rfl, ⟨_, SqL.of mk.1⟩, for_list (K := K) (a := L) (g := gName 3) (xs := ys) (fun i σ H3 => Same H2 H3 ∧ ∃ b e1, σ = [some (.ref a), some (.ref L), some (.ref b), e1, none] ∧ NumAt K C H3 (.ref b) (best n0 (ms.take i)).1 (best n0 (ms.take i)).2) ⟨Same.refl _, b0, _, rfl, na0⟩ (fun i σ H3 _ ⟨s3, _⟩ => SqL.of (s3 _ _ mk.1)) (fun i x σ H3 hx ⟨s3, b, e1, eσ, na⟩ => ?_) (fun σ H3 ⟨s3, b, e1, eσ, na⟩ => ?_)⟩
      · subst eσ
        obtain ⟨n, b2, e2, rfl, nb⟩ := mk.2 i x hx
        have nb := nb.same s3
        obtain ⟨⟨dxa, ha'⟩, _⟩ := na.ref
        obtain ⟨⟨dxb, hb'⟩, _⟩ := nb.ref
        refine ⟨.ref b, rfl, .ref b2, rfl, b, dxa, _, rfl, ha', .inl ⟨b2, dxb, _, rfl, hb'⟩, b, .ref b2, _, _, rfl, na, .inl ⟨b2, dxb, _, rfl, hb'⟩, .inl ⟨_, _, nb, fun H4 s4 => ⟨_, rfl, ite2 (fun c => ?_) (fun c => ?_)⟩⟩⟩
        · have lt : Lt2 (best n0 (ms.take i)) n := of_decide_eq_true c
          refine ⟨.ref b2, rfl, s3.trans s4, b2, _, rfl, ?_⟩
          rw [best_succ e2, if_pos lt]
          exact nb.same s4
        · have lt : ¬ Lt2 (best n0 (ms.take i)) n := fun z => c (decide_eq_true z)
          refine ⟨s3.trans s4, b, _, rfl, ?_⟩
          rw [best_succ e2, if_neg lt]
          exact na.same s4
      · subst eσ
        have : ms.take ys.length = ms := by rw [List.take_of_length_le]; omega
        rw [this] at na
        exact ⟨.ref b, rfl, k b H3 n0 _ _ en rfl ((s1.trans s2).trans s3) na.ref.1⟩
end
end Lw
namespace Lw
open PySem PySem.Spec PyProof.Rows L2

open LamX
abbrev sMad : Stmt := top 28
/-! ### calls by keywords: a static method; an __init__ with a default -/
section
variable {X : Cx} {CX : CXT} {C p g : Addr} {k : Nat} {fd : FuncData} {ps ks : List Str} {sp : Sp} {E : XK} {o : Expr} {kws : List Keyword} {m : Str} {pos apos : Pos} {ta : TE} {tkw : TA} {gU : List Value → List Value → List Value} {gV : List V → List V → List V} {pl : Sem Bool}
theorem pe_staticK (he : PE X o ta) (c : SMet X.K C m p g) (F : FnOk X.prog X.w X.K X.mg X.base CX k g fd ps sp) (hr : Room k X.A) (hb : KBn X.K fd ps 0 ks gU gV) (hx : Passes CX X E) (hkw : PK X kws tkw)
    (hall : (backToKw pos (keywordEach kws X.env)).all (·.1.isSome) = true := by rfl) (hks : (backToKw pos (keywordEach kws X.env)).filterMap (·.1) = ks := by rfl)
    (hpl : ((backTo pos (starEach [] X.env)).any (·.1) || (backToKw pos (keywordEach kws X.env)).any (·.1.isNone)) = false := by rfl)
    (ht : eval (.Call (.Attribute o m apos) [] kws pos) X.env = (do
      let ov ← eval o X.env
      standAt apos.atName
      let (f, first) ← holding [ov] (getMethod ov m pl)
      callWith pos f first (backTo pos (starEach [] X.env)) (backToKw pos (keywordEach kws X.env))) := by rfl) :
    PE X (.Call (.Attribute o m apos) [] kws pos) (fun σ H Q => ta σ H fun x H1 => x = .ref C ∧ tkw σ H1 fun zs H2 => zs.length = ks.length ∧ sp (gV [] zs) H2 Q E) := by
  refine ⟨fun pins s σ H Q I h => ?_⟩
  refine PySem.W.methodCall_KW (pl := pl) (thn (he.run pins s σ H _ I h) fun u s1 ⟨x, H1, I1, rx, ex, q⟩ => ?_) ht
  subst ex
  obtain rfl : u = Value.ref C := rx
  obtain ⟨mc, h1, h2, h3⟩ := c.mc
  obtain ⟨rest, h4⟩ := c.rc
  obtain ⟨fm, hF⟩ := I1.fr
  refine PySem.W.method_cls I1.kIn c.ga (PySem.W.cls_sm hF I1.ok.mod.kin h1 h2 h3 h4 rfl ?_)
  have I2 : Inv X pins σ H1 { s1 with toks := s1.toks + 1 } := I1.tok _
  refine PySem.W.callWith_KW0 (h₀ := X.base) I2.ok.mod.kin c.kp hall ?_ hpl
  refine thn (hkw.run pos pins _ σ H1 _ I2 q) fun ws s2 ⟨zs, H2, I3, rz, l2, q2⟩ => ⟨I3.kIn, ?_⟩
  rw [hks]
  exact run_fnN (us := []) (vs := []) F hr hb hx I3 .nil rz rfl l2 q2
end
section
variable {K : PySem.W.Frag} {x qual : Str} {params : Arguments} {body : List Stmt} {scope : Scope} {dvs : List V} {f : Addr} {fd : FuncData} {ps : List Str}
/-- positional defaults, no keyword-only ones; the keywords named ks -/
theorem kbinds1 (F : FunD K x qual params body scope dvs [] f fd) (n : Nat) (ks : List Str) (g : {α : Type} → List α → List α → List α → List α) (hd : dvs ≠ [])
    (hrel : ∀ {vs dz zs : List V} {us its ws : List Value}, Vals vs us → Vals dz its → Vals zs ws → Vals (g vs dz zs) (g us its ws))
    (h : ∀ (T : Addr) (kV doc pm : Value) (an : Option Addr) (cdv ct : Value) (us its ws : List Value), us.length = n → its.length = dvs.length → ws.length = ks.length →
      ∃ k, bindArgs (PySem.W.fnOf x qual params body scope (.ref T) kV doc pm an cdv ct) ⟨us, ks.zip ws⟩ = seqItems? (.ref T) >>= k ∧ k (some its.toArray) = pure (ps.zip (g us its ws))) :
    ∃ its : List Value, KBn K fd ps n ks (fun us ws => g us its ws) (fun vs zs => g vs dvs zs) := by
  obtain ⟨oc, od, dV, kV, doc, pm, an, cdv, ct, osl, rfl, lk, hcd, hD, hK⟩ := F.ex
  rcases hD with ⟨e, _⟩ | ⟨_, T, o, its, m, rfl, lT, oT, rT⟩
  · exact absurd e hd
  · refine ⟨its, ⟨fun s us ws X l1 l2 => ?_, fun r1 r2 => hrel r1 rT r2⟩⟩
    obtain ⟨k, e1, e2⟩ := h T kV doc pm an cdv ct us its ws l1 rT.length.symm l2
    refine BindsTo.of_looks fun M => ?_
    rw [e1]
    exact looks_items X lT oT (.of_pure e2)
end
/-- `makes` for a promise that is told of any heap -/
theorem makes' {K : PySem.W.Frag} {C D : Addr} {H' : Hp} {E : XK} {R : Hp → Prop} {t b : Int} {x dx : Addr} (b0 : b ≠ 0) (st : Small t) (sb : Small b) (hx : H' x = none) (hdx : H' dx = none) (ne : dx ≠ x)
    (new : ∀ H2, Same H' H2 → RatAt C H2 x (lov t b) (lun t b) → R H2) :
    spRat K C D (.ref x :: ([V.int t, V.int b] ++ [])) (upd (upd H' dx (.own x)) x (.ins C dx [])) (fun v H2 => v = .non ∧ R H2) E := by
  have s2 : Same H' (upd H' dx (.own x)) := same_new hdx
  have hx1 : upd H' dx (.own x) x = none := by rw [upd_ne ne.symm]; exact hx
  refine ⟨x, dx, .int t, .int b, rfl, .int _, .int _, upd_same, (fun h => by cases h), fun _ h2 => ?_, fun i j e1 e2 hj => ?_⟩
  · rcases h2 with h2 | h2
    · cases h2
    · exact absurd (V.int.inj h2) b0
  · cases e1
    cases e2
    refine ⟨st, sb, rfl, ?_⟩
    rw [upd_upd, made_over hj, made_under hj]
    exact new _ (s2.trans (same_new hx1)) ⟨dx, upd_same⟩
theorem NumAt.kp {K : PySem.W.Frag} {C p : Addr} {H H' : Hp} {v : V} {o u : Int} (h : NumAt K C H v o u) (k : Kp p H H') (ne : v ≠ .ref p) : NumAt K C H' v o u := by
  cases h with
  | rat h h0 hp hq =>
    obtain ⟨dx, ha⟩ := h
    exact .rat ⟨dx, k _ _ (fun e => ne (by rw [e])) ha⟩ h0 hp hq
  | int hi hk => exact .int hi hk
theorem mid32 {i : Int} (h : i.natAbs ≤ 10 ^ 32) : Mid i := Nat.lt_of_le_of_lt h (by decide +kernel)
theorem log32 {i : Int} (h : i.natAbs ≤ 10 ^ 32) : i.natAbs.log2 < 1920 := by
  by_cases z : i.natAbs = 0
  · rw [z]; decide +kernel
  · exact (Nat.log2_lt z).mpr (Nat.lt_of_le_of_lt h (by decide +kernel))
theorem shown32 {i : Int} (h : i.natAbs ≤ 10 ^ 32) : (PyData.int i).shown.length ≤ 34 := by
  have e := int_text_length_le10 (k := 33) (by decide) (Nat.lt_of_le_of_lt h (by decide +kernel) : i.natAbs < 10 ^ 33)
  show (Str.ofString (toString i)).length ≤ 34
  rw [PySem.ofString_length]
  exact e
theorem two_rp {K : PySem.W.Frag} {H : Hp} {a : Addr} {o u : Int} (h : H a = some (.lst [.int o, .int u])) (h1 : o.natAbs ≤ 10 ^ 32) (h2 : u.natAbs ≤ 10 ^ 32) : Rp K H (.ref a) (PyData.list [.int o, .int u]).shown := by
  refine .data (.lst (SqL.of h) (.cons (.int o) (.cons (.int u) .nil))) ?_ rfl (by show 1 ≤ 100; decide) ?_
  · exact PyData.showableAll_ints [o, u] fun n hn => by
      rcases List.mem_cons.mp hn with rfl | hn
      · exact log32 h1
      · rw [List.mem_singleton.mp hn]; exact log32 h2
  · refine Nat.le_trans (listText_len_le [(PyData.int o).shown, (PyData.int u).shown]) ?_
    have e1 := shown32 h1
    have e2 := shown32 h2
    simp only [List.map_cons, List.map_nil, List.sum_cons, List.sum_nil, List.length_cons, List.length_nil]
    rw [sizeLine_eq]
    omega
theorem le32 {t b : Int} (h1 : t.natAbs ≤ 10 ^ 32) (h2 : b.natAbs ≤ 10 ^ 32) : (lov t b).natAbs ≤ 10 ^ 32 ∧ (lun t b).natAbs ≤ 10 ^ 32 := ⟨Nat.le_trans (lov_le _ _) h1, Nat.le_trans (lun_le _ _) h2⟩
/-- under, then over, as the keywords stand -/
def kwG {α : Type} (us ws : List α) : List α := match ws with
  | [b, a] => us ++ [a, b]
  | _ => us
/-- the class of the ratios may be made by keywords -/
structure RatK (K : PySem.W.Frag) (fI g : Addr) (fdI fdg : FuncData) : Prop where
  kw : ∃ gU : List Value → List Value → List Value, KBn K fdI ["self", "over", "under"] 1 ["under", "over"] gU (fun vs zs => kwG vs zs)
  kof : ∃ gU : List Value → List Value → List Value, KBn K fdg ["value"] 0 ["value"] gU (fun _ zs => zs)
def spMad : Sp := fun vs H Q _ => ∃ (p pl : Addr) (n : Nat), vs = [.ref p] ∧ Pen H p pl n ∧ n ≤ 900000 ∧ ∀ H', Pen H' p pl (n + 4) → Kp p H H' → Q (.bl true) H'
section
variable {P : Program} {w : World} {K : PySem.W.Frag} {mg : Str → Option Value} {base : Heap}
abbrev NMad : List Str := ["_law_pen_here", "_law_due", "_law_some", "_law_made", "_law_top", "_law_bottom", "_law_lone", "_law_held"]
theorem scMad : FnScope NMad ["_law_pen_here"] (C8.fnScope sMad) := C8.fnScope_by (by decide +kernel)
theorem cal_mad {f C D fI gO pO : Addr} {fd fdI fdO : FuncData} {ds : List Value} (F : C8.Def K mg "_law_made_right" sMad f fd) (b : Binds K fd ["_law_pen_here"] []) (T : Txt mg) (O : Oks K C) (IC : C8.InsC K C) (cl : Cls K C) (nO : NoAttr K C "over") (nU : NoAttr K C "under")
    (RM : RatM P w K mg base C D fI fdI ds) (OM : OfM P w K mg base C D pO gO fdO) (RK : RatK K fI gO fdI fdO) (D3 : C8.Cal P w K mg base 2 "_law_least" spLea []) (D5 : C8.Cal P w K mg base 3 "_law_pair" spPai []) : CalG P w K mg base 10 "_law_made_right" spMad [] := by
  obtain ⟨gU1, kb1⟩ := RK.kw
  obtain ⟨gU2, kb2⟩ := RK.kof
  refine calG F b .nil scMad (fun vs H Q E h => ?_) (fun cdv A outer st H vs Q E hG hr h => ?_)
  · obtain ⟨p, pl, n, rfl, _⟩ := h
    rfl
  · obtain ⟨p, pl, n, rfl, hp, hn, k⟩ := h
    refine ⟨_, (pss_cons (ps_asg (C8.pe_c D5 hr (by decide) (by rfl) (pa_cons (pv 0) pa_nil)) (pg_tup (by rfl) (pgs_cons (pg_name (i := 4) scMad.nd rfl (Or.inl rfl)) (pgs_cons (pg_name (i := 5) scMad.nd rfl (Or.inl rfl)) pgs_nil))))
  (pss_cons (ps_set (i := 1) scMad.nd rfl (Or.inl rfl) (C8.pe_c D3 hr (by decide) (by rfl) (pa_cons (pv 4) (pa_cons (pv 5) pa_nil))))
  (pss_cons (ps_set (i := 2) scMad.nd rfl (Or.inl rfl) (pe_lst (pa_cons (pe_make RM.M RM.F (hr.mono (by decide)) (by rfl) RM.hm RM.b2 .nil (passes_call takes0 (fun _ _ _ _ z => z)) (pa_cons (pv 4) (pa_cons (pv 5) pa_nil))) (pa_cons (pe_makeK0 RM.M RM.F (hr.mono (by decide)) (by rfl) RM.hm kb1 (passes_call takes0 (fun _ _ _ _ z => z)) (pk_cons (pv 5) (pk_cons (pv 4) pk_nil))) (pa_cons (pe_static (pe_glob (v := .ref C) (by rfl) RM.hm rfl) OM.S OM.F (hr.mono (by decide)) OM.b .nil (passes_call takes0 (fun _ _ _ _ z => z)) (pa_cons (pe_make RM.M RM.F (hr.mono (by decide)) (by rfl) RM.hm RM.b2 .nil (passes_call takes0 (fun _ _ _ _ z => z)) (pa_cons (pv 4) (pa_cons (pv 5) pa_nil))) pa_nil)) pa_nil)))))
  (pss_cons (ps_for PassesOwn.never rfl (pi_list (pv 2)) (pg_name (i := 3) scMad.nd rfl (Or.inl rfl)) (pss_one (ps_if (PW.pt (pw_or (pt_cmpR op_ne (pe_callB (call_reprX hG (hr.mono (by decide))) (by rfl) T.n_repr (by decide +kernel) (pa_cons (pe_lst (pa_cons (pe_fld (pv 3) rfl) (pa_cons (pe_fld (pv 3) rfl) pa_nil))) pa_nil)) (pe_callB (call_reprX hG (hr.mono (by decide))) (by rfl) T.n_repr (by decide +kernel) (pa_cons (pe_lst (pa_cons (pe_ix ix_tup (pv 1) pe_int (fun _ _ => rfl)) (pa_cons (pe_ix ix_tup (pv 1) pe_int (fun _ _ => rfl)) pa_nil))) pa_nil)) (nomark _)) (pw_or1 (pt_not (pt_val (pe_callB call_isz (by rfl) T.n_isinstance (by decide +kernel) (pa_cons (pv 3) (pa_cons (pe_glob (v := .ref C) (by rfl) RM.hm rfl) pa_nil)))))))) (pss_one (ps_ret pe_bl)) pss_nil)))
  (pss_cons (ps_par (i := 6) (j := 7) rfl scMad.nd rfl rfl (by decide) rfl rfl (pa_cons (pe_make RM.M RM.F (hr.mono (by decide)) (by rfl) RM.hm RM.b1 RM.d1 (passes_call takes0 (fun _ _ _ _ z => z)) (pa_cons (pv 4) pa_nil)) (pa_cons (pe_staticK (pe_glob (v := .ref C) (by rfl) RM.hm rfl) OM.S OM.F (hr.mono (by decide)) kb2 (passes_call takes0 (fun _ _ _ _ z => z)) (pk_cons (pv 4) pk_nil)) pa_nil)) (by rfl))
  (pss_one (ps_ret (pe_cmpR (op_eqD hr.units) (pe_lst (pa_cons (pe_fld (pv 6) rfl) (pa_cons (pe_fld (pv 6) rfl) (pa_cons (pe_fld (pv 7) rfl) (pa_cons (pe_fld (pv 7) rfl) pa_nil))))) (pe_lst (pa_cons (pv 4) (pa_cons pe_int (pa_cons (pv 4) (pa_cons pe_int pa_nil))))) (nomark _))))))))), ?_⟩
    refine ⟨_, rfl, p, pl, n, rfl, hp, hn, fun t b a H1 m1 m2 b0 h1 f1 hp1 k1 => ?_⟩
    refine ⟨a, _, rfl, SqT.of h1, rfl, _, _, rfl, _, _, rfl, rfl, ?_⟩
    dsimp only [tSeq, tAsg, gName]
    refine ⟨_, rfl, _, rfl, t, b, rfl, b0, (mid32 m1).small, (mid32 m2).small, fun l fl => ?_⟩
    have s2 := same_new (o := HO.tup [V.int (lov t b), V.int (lun t b)]) fl
    have el : upd H1 l (HO.tup [V.int (lov t b), V.int (lun t b)]) l = some (.tup [V.int (lov t b), V.int (lun t b)]) := upd_same
    generalize upd H1 l _ = H2 at s2 el ⊢
    refine ⟨_, rfl, _, rfl, fun x dx hx hdx ne => ?_⟩
    refine makes' (t := t) (b := b) b0 (mid32 m1).small (mid32 m2).small hx hdx ne fun H3 s3 r1 => ?_
    refine ⟨_, rfl, _, rfl, rfl, rfl, fun x2 dx2 hx2 hdx2 ne2 => ?_⟩
    refine makes' (t := t) (b := b) b0 (mid32 m1).small (mid32 m2).small hx2 hdx2 ne2 fun H4 s4 r2 => ?_
    refine ⟨rfl, _, rfl, _, rfl, fun x3 dx3 hx3 hdx3 ne3 => ?_⟩
    refine makes' (t := t) (b := b) b0 (mid32 m1).small (mid32 m2).small hx3 hdx3 ne3 fun H5 s5 r3 => ?_
    obtain ⟨d3, e3⟩ := r3
    refine ⟨.ref x3, rfl, .inl ⟨x3, d3, _, rfl, e3, (by show 3 ≤ sizeLine; decide), fun q fq => ?_⟩⟩
    have s6 := same_new (o := HO.lst [V.ref x, V.ref x2, V.ref x3]) fq
    have eq : upd H5 q (HO.lst [V.ref x, V.ref x2, V.ref x3]) q = some (.lst [V.ref x, V.ref x2, V.ref x3]) := upd_same
    generalize upd H5 q _ = H6 at s6 eq ⊢
    have rx : ∀ y ∈ [x, x2, x3], RatAt C H6 y (lov t b) (lun t b) := fun y hy => by
      rcases List.mem_cons.mp hy with rfl | hy
      · exact ((r1.same s4).same s5).same s6
      rcases List.mem_cons.mp hy with rfl | hy
      · exact (r2.same s5).same s6
      rw [List.mem_singleton.mp hy]
      exact ⟨d3, s6 _ _ e3⟩
    have el := s6 _ _ (s5 _ _ (s4 _ _ (s3 _ _ el)))
    have ss : Same H1 H6 := (((s2.trans s3).trans s4).trans s5).trans s6
    obtain ⟨w1, w2⟩ := le32 m1 m2
    refine ⟨.ref q, rfl, q, rfl, ⟨_, SqL.of eq⟩, for_list (K := K) (a := q) (g := gName 3) (xs := [.ref x, .ref x2, .ref x3]) (fun i σ H' => Same H6 H' ∧ ∃ e1, σ = [some (.ref p), some (.ref l), some (.ref q), e1, some (.int t), some (.int b), none, none]) ⟨Same.refl _, _, rfl⟩ (fun i σ H' _ ⟨s, _⟩ => SqL.of (s _ _ eq)) (fun i y σ H' hy ⟨s, e1, eσ⟩ => ?_) (fun σ H' ⟨s, e1, eσ⟩ => ?_)⟩
    · subst eσ
      obtain ⟨z, rfl, hz⟩ : ∃ z, y = .ref z ∧ z ∈ [x, x2, x3] := by
        match i, hy with
        | 0, hy => cases hy; exact ⟨_, rfl, by simp⟩
        | 1, hy => cases hy; exact ⟨_, rfl, by simp⟩
        | 2, hy => cases hy; exact ⟨_, rfl, by simp⟩
        | k + 3, hy => cases hy
      obtain ⟨dz, ez⟩ := (rx z hz).same s
      refine ⟨_, rfl, z, C, dz, _, _, rfl, ez, cl, nO, flds_over _ _, _, rfl, z, C, dz, _, _, rfl, ez, cl, nU, flds_under _ _, (by show 2 ≤ sizeLine; decide), fun u1 f1 => ?_⟩
      have s7 := same_new (o := HO.lst [V.int (lov t b), V.int (lun t b)]) f1
      refine ⟨_, _, rfl, two_rp upd_same w1 w2, ?_⟩
      generalize upd H' u1 _ = H7 at s7 ⊢
      refine ⟨_, rfl, l, _, _, _, rfl, rfl, SqT.of (s7 _ _ (s _ _ el)), rfl, _, rfl, l, _, _, _, rfl, rfl, SqT.of (s7 _ _ (s _ _ el)), rfl, (by show 2 ≤ sizeLine; decide), fun u2 f2 => ?_⟩
      have s8 := same_new (o := HO.lst [V.int (lov t b), V.int (lun t b)]) f2
      refine ⟨_, _, rfl, two_rp upd_same w1 w2, rfl, _, rfl, ?_⟩
      generalize upd H7 u2 _ = H8 at s8 ⊢
      rw [show decide (V.str _ = V.str _) = true from decide_eq_true rfl]
      refine iteF ⟨_, rfl, .ref z, .ref C, .ref C, .ref C, true, rfl, .own C, .x (.base (.ins (s8 _ _ (s7 _ _ ez)) IC.cl IC.ha IC.hn IC.htk IC.hm)), IC.me, _, rfl, iteF ?_⟩
      exact ⟨(s.trans s7).trans s8, _, rfl⟩
    · subst eσ
      dsimp only [tSeq]
      refine ⟨_, rfl, fun y dy hy hdy ne4 => ?_⟩
      refine makes' (t := t) (b := 1) (by decide) (mid32 m1).small (show (1 : Nat) < 2 ^ 4000 from Nat.one_lt_two_pow (by decide)) hy hdy ne4 fun H7 s7 r4 => ?_
      refine ⟨rfl, _, rfl, rfl, of_ok (.inl ⟨t, 1, .int (mid32 m1) O.i, fun z H8 s8 r5 _ _ _ => ?_⟩)⟩
      rw [(lov_one t).1, (lov_one t).2] at r4
      obtain ⟨d4, e4⟩ := r4.same s8
      obtain ⟨d5, e5⟩ := r5
      refine ⟨_, _, rfl, ?_⟩
      dsimp only [tSeq]
      refine ⟨_, rfl, y, C, d4, _, _, rfl, e4, cl, nO, flds_over _ _, _, rfl, y, C, d4, _, _, rfl, e4, cl, nU, flds_under _ _, _, rfl, z, C, d5, _, _, rfl, e5, cl, nO, flds_over _ _, _, rfl, z, C, d5, _, _, rfl, e5, cl, nU, flds_under _ _, (by show 4 ≤ sizeLine; decide), fun u1 f1 => ?_⟩
      have s9 := same_new (o := HO.lst ([t, 1, t, 1].map V.int)) f1
      have e9 : upd H8 u1 (HO.lst ([t, 1, t, 1].map V.int)) u1 = some (.lst ([t, 1, t, 1].map V.int)) := upd_same
      refine ⟨_, rfl, _, rfl, (by show 4 ≤ sizeLine; decide), fun u2 f2 => ?_⟩
      have s10 := same_new (o := HO.lst ([t, 1, t, 1].map V.int)) f2
      refine ⟨.list ([t, 1, t, 1].map PyData.int), .list ([t, 1, t, 1].map PyData.int), .lst (SqL.of (s10 _ _ e9)) (dp_ints [t, 1, t, 1]), .lst (SqL.of upd_same) (dp_ints [t, 1, t, 1]), shaped_ints [t, 1, t, 1], shaped_ints [t, 1, t, 1], ?_⟩
      rw [SeqAt.eqv_refl _ (SeqAt.canLay_of_shaped (shaped_ints [t, 1, t, 1]))]
      have sall := ((((ss.trans s).trans s7).trans s8).trans s9).trans s10
      exact k _ (hp1.keep sall) (k1.trans (.of sall))
end
end Lw
namespace Lw
open PySem PySem.Spec PyProof.Rows L2

open LamX
abbrev sRef : Stmt := top 29
/-- a def whose code object is known -/
structure DefC (K : PySem.W.Frag) (mg : Str → Option Value) (x : Str) (st : Stmt) (f : Addr) (fd : FuncData) (c : Addr) : Prop where
  ex : ∃ (oc : Value) (od : Option Addr) (dV kV doc pm : Value) (an : Option Addr) (ct : Value) (osl : Array (Option Value)),
    fd = PySem.W.fnOf x x (C8.fnArgs st) (C8.fnBody st) (C8.fnScope st) dV kV doc pm an (.ref c) ct ∧ K.lookup f = some ⟨oc, od, .func fd, osl⟩ ∧ PySem.W.codeIn K (.ref c) x = true
  mgf : mg x = some (.ref f)
  kp : PySem.W.keepIn K (.ref f) = true
theorem calGC {P : Program} {w : World} {K : PySem.W.Frag} {mg : Str → Option Value} {base : Heap} {x : Str} {st : Stmt} {f c : Addr} {fd : FuncData} {N ps : List Str} {ds : List Value} {dvs : List V} {k : Nat} {sp : Sp} (F : DefC K mg x st f fd c) (b : Binds K fd ps ds) (d : Vals dvs ds) (S : FnScope N ps (C8.fnScope st)) (len : ∀ vs H Q E, sp vs H Q E → vs.length = ps.length)
    (body : ∀ (A : Around) (outer : List Env) (s : Shared) (H : Hp) (vs : List V) (Q : VK) (E : XK), (A.deeper (envOfC x (C8.fnScope st) s.heap.objs.size f (.ref c))).guards = some [] → Room k (A.deeper (envOfC x (C8.fnScope st) s.heap.objs.size f (.ref c))) → sp vs H Q E →
      ∃ t, PSs (cxOf C8.CX0 P w K mg base N x (C8.fnScope st) f (.ref c) A outer s H E).nox (C8.fnBody st) t ∧ t { nx := fun _ H' => Q .non H', rt := Q } (start N vs) H) : CalG P w K mg base (k + 1) x sp dvs := by
  refine ⟨f, fd, ps, ds, ⟨len, ?_⟩, F.mgf, F.kp, b, d⟩
  intro A outer s H args us vs Q E hg hr e0 hb r hs
  obtain ⟨oc, od, dV, kV, doc, pm, an, ct, osl, rfl, lk, hcd⟩ := F.ex
  refine LamX.run_ofS lk hcd S hr e0 hb r (len _ _ _ _ hs) fun hr' => ?_
  obtain ⟨t, h1, h2⟩ := body A outer s H vs Q E hg hr' hs
  exact ⟨t, h1.nox, h2⟩
theorem Tabs.put {T : List (Addr × Str)} {H : Hp} {l : Addr} {o : HO} {xs : List V} (t : Tabs T H) (hl : H l = some (.lst xs)) : Tabs T (upd H l o) := by
  intro q hq
  obtain ⟨ps, h1, h2, h3⟩ := t q hq
  refine ⟨ps, ?_, h2, fun pos cv hc => ?_⟩
  · rw [upd_ne (fun e => by rw [e, hl] at h1; cases h1)]; exact h1
  · obtain ⟨c, e1, e2⟩ := h3 pos cv hc
    refine ⟨c, e1, ?_⟩
    rw [upd_ne (fun e => by rw [e, hl] at e2; unfold CodeO at e2; cases e2)]; exact e2
theorem Tabs.kp {T : List (Addr × Str)} {p pl : Addr} {n : Nat} {H H' : Hp} (t : Tabs T H) (hp : Pen H p pl n) (k : Kp p H H') : Tabs T H' := by
  intro q hq
  obtain ⟨ps, h1, h2, h3⟩ := t q hq
  obtain ⟨xs, a, g, hh, _⟩ := hp
  refine ⟨ps, k _ _ (fun e => ?_) h1, h2, fun pos cv hc => ?_⟩
  · rw [e, hh.at_] at h1; cases h1
  · obtain ⟨c, e1, e2⟩ := h3 pos cv hc
    refine ⟨c, e1, k _ _ (fun e => ?_) e2⟩
    rw [e, hh.at_] at e2
    unfold CodeO at e2
    cases e2
/-- what stands goes on standing, but for the tables of code objects -/
theorem Pen.extn {H H' : Hp} {p l : Addr} {n : Nat} (h : Pen H p l n) (e : ExtN H H') : Pen H' p l n := by
  obtain ⟨xs, a, g, ⟨h1, h2, h3, h4, h5⟩, h6⟩ := h
  have nl : ∀ (ys : List V) ps, HO.lst ys ≠ .tbl ps := fun ys ps z => by cases z
  exact ⟨xs, a, g, ⟨e _ _ h1 (nl _), e _ _ h2 (nl _), h3, h4, h5⟩, h6⟩
theorem NumAt.extn {K : PySem.W.Frag} {C : Addr} {H H' : Hp} {v : V} {o u : Int} (h : NumAt K C H v o u) (e : ExtN H H') : NumAt K C H' v o u := by
  cases h with
  | rat h h0 hp hq =>
    obtain ⟨dx, ha⟩ := h
    exact .rat ⟨dx, e _ _ ha fun ps z => by cases z⟩ h0 hp hq
  | int hi hk => exact .int hi hk
theorem Oc.extn {H H' : Hp} {v : V} {r : Str} (h : Oc H v r) (e : ExtN H H') : Oc H' v r := by
  cases h with
  | non => exact .non
  | bl b => exact .bl b
  | str z h => exact .str z h
  | tup xs h g => exact .tup xs (e _ _ h fun ps z => by cases z) g
  | lst xs h g => exact .lst xs (e _ _ h fun ps z => by cases z) g
  | dct h => exact .dct (e _ _ h fun ps z => by cases z)
/-- a drawn value of any kind, its text -/
inductive Ov (H : Hp) : V → Str → Prop where
  | oc {v : V} {r : Str} (h : Oc H v r) : Ov H v r
  | int (i : Int) (h : i.natAbs ≤ 10) (s : PyData.strOk (toString i) = true) : Ov H (.int i) (toString i)
  | d12 {a : Addr} (h : H a = some (.dK [(.inl 1, .int 2)])) : Ov H (.ref a) (PyData.dict [(.int 1, .int 2)]).shown
theorem Ov.move {H H' : Hp} {v : V} {r : Str} (h : Ov H v r) (k : ∀ a o, v = .ref a → H a = some o → (∀ ps, o ≠ .tbl ps) → H' a = some o) : Ov H' v r := by
  cases h with
  | oc h =>
    cases h with
    | non => exact .oc .non
    | bl b => exact .oc (.bl b)
    | str z h => exact .oc (.str z h)
    | tup xs h g => exact .oc (.tup xs (k _ _ rfl h fun ps z => by cases z) g)
    | lst xs h g => exact .oc (.lst xs (k _ _ rfl h fun ps z => by cases z) g)
    | dct h => exact .oc (.dct (k _ _ rfl h fun ps z => by cases z))
  | int i h s => exact .int i h s
  | d12 h => exact .d12 (k _ _ rfl h fun ps z => by cases z)
theorem Ov.same {H H' : Hp} {v : V} {r : Str} (h : Ov H v r) (s : Same H H') : Ov H' v r := h.move fun a o _ e _ => s a o e
theorem Ov.extn {H H' : Hp} {v : V} {r : Str} (h : Ov H v r) (e : ExtN H H') : Ov H' v r := h.move fun a o _ ha n => e a o ha n
theorem Ov.rp {K : PySem.W.Frag} {H : Hp} {v : V} {r : Str} (h : Ov H v r) : Rp K H v r := by
  cases h with
  | oc h => exact h.rp
  | int i h s => exact .int i (log32 (Nat.le_trans h (by decide +kernel)))
  | d12 h => exact .d12 h
theorem Ov.sok {H : Hp} {v : V} {r : Str} (h : Ov H v r) : PyData.strOk r = true := by
  cases h with
  | oc h => exact h.sok
  | int i h s => exact s
  | d12 h => decide +kernel
theorem Ov.any {K : PySem.W.Frag} {H : Hp} {v : V} {r : Str} (h : Ov H v r) : Anyv K H v := by
  have od : ∀ {a : Addr} {T : String}, T = "tuple" ∨ T = "list" ∨ T = "dict" → TyX K H (.ref a) (.type T) → Anyv K H (.ref a) := fun {a T} e z => by
    rcases e with rfl | rfl | rfl <;> exact .obj (.x z) (kit_ty (by decide +kernel)) (kit_ty (by decide +kernel)) (kit_ty (by decide +kernel))
  cases h with
  | oc h =>
    cases h with
    | non => exact .non
    | bl b => exact .bl b
    | str z h => exact .str z
    | tup xs h g => exact od (.inl rfl) (.base (.tup h))
    | lst xs h g => exact od (.inr (.inl rfl)) (.base (.lst h))
    | dct h => exact od (.inr (.inr rfl)) (.base (.dK h))
  | int i h s => exact .int i
  | d12 h => exact od (.inr (.inr rfl)) (.base (.dK h))
/-- as an under it is refused: no integer, or 0 -/
def Bad (H : Hp) (v : V) (r : Str) : Prop := Ov H v r ∧ (isI v = false ∨ v = .int 0)
theorem Oc.noI {H : Hp} {v : V} {r : Str} (h : Oc H v r) : isI v = false := by cases h <;> rfl
theorem Oc.ne_new {H : Hp} {v : V} {r : Str} {l : Addr} (h : Oc H v r) (hl : H l = none) : v ≠ .ref l := by
  intro z
  subst z
  cases h with
  | tup xs h g => rw [hl] at h; cases h
  | lst xs h g => rw [hl] at h; cases h
  | dct h => rw [hl] at h; cases h
theorem Ov.ne_new {H : Hp} {v : V} {r : Str} {l : Addr} (h : Ov H v r) (hl : H l = none) : v ≠ .ref l := by
  cases h with
  | oc h => exact h.ne_new hl
  | int i h s => exact fun z => by cases z
  | d12 h => exact fun z => by cases z; rw [hl] at h; cases h
/-- _law_heard of a lambda that raises BadRatio(v) -/
theorem heard_at {K : PySem.W.Frag} {T : List (Addr × Str)} {D : Addr} {v : V} {r : Str} {σ : L2.St} {H : Hp} {Q : VK} {te : XK → TE} (tb : Tabs T H) (ov : Ov H v r)
    (run : ∀ (H1 : Hp) (E : XK) (Qx : VK), ExtN H H1 → (∀ d H', Same H1 H' → H' d = none → E (.ref D) (some d) (upd H' d (.xd [("value", v)]))) → te E σ H1 Qx)
    (k : ∀ (t : Addr) (H3 : Hp), ExtN H H3 → Tabs T H3 → (∀ b o, H b = some o → (∀ ps, o ≠ .tbl ps) → b ≠ t) → H3 t = some (.tup [.str "ratio", .str r]) → Q (.ref t) H3) :
    tLam T (TTheard K D) te σ H Q := by
  refine ⟨tb, fun H1 e1 t1 => ⟨v, r, run H1 _ _ e1 fun d H2 s2 hd => ?_⟩⟩
  refine ⟨rfl, d, rfl, upd_same, ((ov.extn e1).same (s2.trans (same_new hd))).rp, fun t H3 s3 ft e3 => ?_⟩
  have s12 := s2.trans (same_new (o := HO.xd [("value", v)]) hd)
  have s13 : Same H1 H3 := s12.trans s3
  refine k t H3 (fun b o hb n => s13 _ _ (e1 _ _ hb n)) (t1.ext s13) (fun b o hb n e => ?_) e3
  have z := s12 _ _ (e1 _ _ hb n)
  rw [e, ft] at z
  cases z
/-- what __init__ is handed when it refuses the first or the second value -/
theorem refuse_make {K : PySem.W.Frag} {C D : Addr} {H1 : Hp} {E : XK} {R : V → Hp → Prop} {va vb v : V} {x dx : Addr} (aa : Anyv K H1 va) (ab : Anyv K H1 vb) (hx : H1 x = none) (hdx : H1 dx = none) (ne : dx ≠ x)
    (hv : (isI va = false ∧ v = va) ∨ (isI va = true ∧ v = vb ∧ (isI vb = false ∨ vb = .int 0))) (k : ∀ d H', Same H1 H' → H' d = none → E (.ref D) (some d) (upd H' d (.xd [("value", v)]))) :
    spRat K C D (.ref x :: ([va, vb] ++ [])) (upd (upd H1 dx (.own x)) x (.ins C dx [])) R E := by
  have s2 : Same H1 (upd H1 dx (.own x)) := same_new hdx
  have hx1 : upd H1 dx (.own x) x = none := by rw [upd_ne ne.symm]; exact hx
  have s3 := s2.trans (same_new (o := HO.ins C dx []) hx1)
  refine ⟨x, dx, va, vb, rfl, Lw.Anyv.same s3 aa, Lw.Anyv.same s3 ab, upd_same, fun h d hd => ?_, fun h1 h2 d hd => ?_, fun i j e1 e2 hj => ?_⟩
  · rcases hv with ⟨_, e⟩ | ⟨e, _⟩
    · rw [← e]; exact k d _ s3 hd
    · rw [h] at e; cases e
  · rcases hv with ⟨e, _⟩ | ⟨_, e, _⟩
    · rw [h1] at e; cases e
    · rw [← e]; exact k d _ s3 hd
  · exfalso
    cases e1
    cases e2
    rcases hv with ⟨e, _⟩ | ⟨_, _, e | e⟩
    · cases e
    · cases e
    · exact hj (V.int.inj e)
end Lw
namespace Lw
open PySem PySem.Spec PyProof.Rows L2

open LamX
/-- what goes on standing while the list at l grows -/
structure Stb (l : Addr) (Φ : Hp → Prop) : Prop where
  ext : ∀ {H H' : Hp}, ExtN H H' → Φ H → Φ H'
  put : ∀ {H : Hp} {xs : List V} {o : HO}, H l = some (.lst xs) → Φ H → Φ (upd H l o)
/-- what stands while the answers are gathered -/
structure Iw (Φ : Hp → Prop) (T : List (Addr × Str)) (p pl l : Addr) (m : Nat) (H : Hp) (ts : List (Addr × Str)) : Prop where
  pen : Pen H p pl m
  lp : l ≠ p
  lpl : l ≠ pl
  tab : Tabs T H
  phi : Φ H
  all : H l = some (.lst (ts.map fun q => V.ref q.1))
  tx : ∀ q ∈ ts, H q.1 = some (.tup [.str "ratio", .str q.2])
section
variable {K : PySem.W.Frag} {C D : Addr} {T : List (Addr × Str)} {p pl l : Addr} {m : Nat} {H : Hp} {Φ : Hp → Prop} {ts : List (Addr × Str)}
theorem Iw.put (sb : Stb l Φ) (iw : Iw Φ T p pl l m H ts) {t : Addr} {r : Str} {H3 : Hp} (e : ExtN H H3) (t3 : Tabs T H3) (et : H3 t = some (.tup [.str "ratio", .str r])) :
    H3 l = some (.lst (ts.map fun q => V.ref q.1)) ∧ Iw Φ T p pl l m (upd H3 l (.lst ((ts.map fun q => V.ref q.1) ++ [.ref t]))) (ts ++ [(t, r)]) := by
  obtain ⟨pen, lp, lpl, tab, phi, al, tx⟩ := iw
  have nl : ∀ (ys : List V) ps, HO.lst ys ≠ .tbl ps := fun ys ps z => by cases z
  have l3 := e _ _ al (nl _)
  refine ⟨l3, (pen.extn e).over lp lpl, lp, lpl, Lw.Tabs.put t3 l3, sb.put l3 (sb.ext e phi), ?_, fun q hq => ?_⟩
  · rw [upd_same, List.map_append]; rfl
  · rcases List.mem_append.mp hq with hq | hq
    · have z := e _ _ (tx q hq) (fun ps z => by cases z)
      rw [upd_ne (fun w => by rw [w, l3] at z; cases z)]
      exact z
    · cases List.mem_singleton.mp hq
      show upd H3 l _ t = some (.tup [.str "ratio", .str r])
      rw [upd_ne (fun w => by rw [w, l3] at et; cases et)]
      exact et
theorem Iw.step {σ : L2.St} {En : Ends} {te : XK → TE} {v : V} {r : Str} (sb : Stb l Φ) (iw : Iw Φ T p pl l m H ts) (ov : Ov H v r) (sz : ts.length < 10) (s1 : σ[1]? = some (some (.ref l)))
    (run : ∀ (H1 : Hp) (E : XK) (Qx : VK), ExtN H H1 → (∀ d H', Same H1 H' → H' d = none → E (.ref D) (some d) (upd H' d (.xd [("value", v)]))) → te E σ H1 Qx)
    (k : ∀ t H3, Iw Φ T p pl l m H3 (ts ++ [(t, r)]) → En.nx σ H3) :
    tDrop (tBM K "list" rAppend (tVar 1) (tCons (tLam T (TTheard K D) te) tNil)) En σ H := by
  refine ⟨_, s1, .inl ⟨rfl, _, SqL.of iw.all⟩, heard_at iw.tab ov run fun t H3 e t3 nt et => ?_⟩
  obtain ⟨l3, iw3⟩ := Iw.put sb iw e t3 et
  exact ⟨l, _, _, rfl, rfl, l3, by rw [List.length_map, sizeLine_eq]; omega, k t _ iw3⟩
end
theorem Bad.ext {H H' : Hp} {v : V} {r : Str} (e : ExtN H H') (h : Bad H v r) : Bad H' v r := ⟨h.1.extn e, h.2⟩
theorem Ov.put {H : Hp} {v : V} {r : Str} {l : Addr} {o : HO} (h : Ov H v r) (n : v ≠ .ref l) : Ov (upd H l o) v r := h.move fun a o2 ev ha _ => by rw [upd_ne (fun z => n (by rw [ev, z]))]; exact ha
theorem Oc.put {H : Hp} {v : V} {r : Str} {l : Addr} {o : HO} (h : Oc H v r) (n : v ≠ .ref l) : Oc (upd H l o) v r := h.move fun a o2 ev ha => by rw [upd_ne (fun z => n (by rw [ev, z]))]; exact ha
theorem stb1 {l : Addr} {vo vb : V} {ro rb : Str} (n1 : vo ≠ .ref l) (n2 : vb ≠ .ref l) : Stb l (fun H => Oc H vo ro ∧ Bad H vb rb) :=
  ⟨fun e h => ⟨h.1.extn e, h.2.ext e⟩, fun _ h => ⟨h.1.put n1, h.2.1.put n2, h.2.2⟩⟩
/-- a value that is neither a list nor a tuple, or an empty one; its text -/
def Lot (H : Hp) (v : V) (r : Str) : Prop := Ov H v r ∧ ((∀ a, v ≠ .ref a) ∨ ∃ a, v = .ref a ∧ (H a = some (.lst []) ∨ H a = some (.tup []) ∨ ∃ kvs, H a = some (.dK kvs)))
theorem Lot.move {H H' : Hp} {v : V} {r : Str} (h : Lot H v r) (k : ∀ a o, v = .ref a → H a = some o → (∀ ps, o ≠ .tbl ps) → H' a = some o) : Lot H' v r :=
  ⟨h.1.move k, h.2.imp id fun ⟨a, ev, h⟩ => ⟨a, ev, h.imp (fun z => k a _ ev z fun _ w => by cases w) (Or.imp (fun z => k a _ ev z fun _ w => by cases w) fun ⟨kvs, z⟩ => ⟨kvs, k a _ ev z fun _ w => by cases w⟩)⟩⟩
theorem any_no {K : PySem.W.Frag} {T : String} (h1 : kitB T "list" = some false) (h2 : kitB T "tuple" = some false) : PySem.W.kitAny K (.type T) [.type "list", .type "tuple"] = some false :=
  kitAny_cons (kit_ty (r := false) h1) (fun _ => kitAny_cons (kit_ty (r := false) h2) (fun _ => kitAny_nil) (fun z => by cases z)) (fun z => by cases z)
theorem Lot.nol {K : PySem.W.Frag} {H : Hp} {v : V} {r : Str} (h : Lot H v r) : Nol K H v := by
  obtain ⟨ov, h | ⟨a, rfl, h⟩⟩ := h
  · cases ov with
    | oc o =>
      cases o with
      | non => exact .inl ⟨.type "NoneType", .base .non, any_no (by decide +kernel) (by decide +kernel)⟩
      | bl b => exact .inl ⟨.type "bool", .base (.bl b), any_no (by decide +kernel) (by decide +kernel)⟩
      | str z _ => exact .inl ⟨.type "str", .base (.str z), any_no (by decide +kernel) (by decide +kernel)⟩
      | tup xs _ _ => exact absurd rfl (h _)
      | lst xs _ _ => exact absurd rfl (h _)
      | dct _ => exact absurd rfl (h _)
    | int i _ _ => exact .inl ⟨.type "int", .base (.int i), any_no (by decide +kernel) (by decide +kernel)⟩
    | d12 _ => exact absurd rfl (h _)
  · rcases h with h | h | ⟨kvs, h⟩
    · exact .inr ⟨a, rfl, .inl h⟩
    · exact .inr ⟨a, rfl, .inr h⟩
    · exact .inl ⟨.type "dict", .base (.dK h), any_no (by decide +kernel) (by decide +kernel)⟩
/-- the list that greatest is asked about: numbers, then what is none -/
def Mixed (K : PySem.W.Frag) (C : Addr) (sp : Addr) (xs : List V) (ms : List (Int × Int)) (vo : V) (H : Hp) : Prop :=
  H sp = some (.lst xs) ∧ xs[ms.length]? = some vo ∧ xs.length < 10 ∧ ∀ (j : Nat) (n : Int × Int), ms[j]? = some n → ∃ x, xs[j]? = some x ∧ NumAt K C H x n.1 n.2
theorem stb2 {K : PySem.W.Frag} {C l sp : Addr} {xs : List V} {ms : List (Int × Int)} {vo vl : V} {ro rl : Str} (n1 : vo ≠ .ref l) (n2 : vl ≠ .ref l) (n3 : sp ≠ l) : Stb l (fun H => Oc H vo ro ∧ Lot H vl rl ∧ Mixed K C sp xs ms vo H) :=
  ⟨fun e h => ⟨h.1.extn e, h.2.1.move fun a o _ ha n => e a o ha n, e _ _ h.2.2.1 (fun _ z => by cases z), h.2.2.2.1, h.2.2.2.2.1, fun j n hj => (h.2.2.2.2.2 j n hj).elim fun x hx => ⟨x, hx.1, hx.2.extn e⟩⟩,
   fun hl h => ⟨h.1.put n1, h.2.1.move fun a o ev ha _ => by rw [upd_ne (fun z => n2 (by rw [ev, z]))]; exact ha, by rw [upd_ne n3]; exact h.2.2.1, h.2.2.2.1, h.2.2.2.2.1, fun j n hj => (h.2.2.2.2.2 j n hj).elim fun x hx => ⟨x, hx.1, hx.2.upd hl⟩⟩⟩
/-- the pairs ("ratio", text) in a list, as data -/
def dRat (rs : List Str) : PyData := .list (rs.map fun r => .tuple [.str "ratio", .str r])
theorem dRat_shaped : ∀ {rs : List Str}, (∀ r ∈ rs, PyData.strOk r = true) → rs.length ≤ 4 → SeqAt.shaped (dRat rs) = true := by
  intro rs h hl
  match rs, h, hl with
  | [], _, _ => decide +kernel
  | [a], h, _ =>
    have ha := h a (by simp)
    simp [dRat, SeqAt.shaped, PyData.canLay0, PyData.canLayAll0, PyData.depth, PyData.depthAll, ha]; decide +kernel
  | [a, b], h, _ =>
    have ha := h a (by simp)
    have hb := h b (by simp)
    simp [dRat, SeqAt.shaped, PyData.canLay0, PyData.canLayAll0, PyData.depth, PyData.depthAll, ha, hb]; decide +kernel
  | [a, b, c], h, _ =>
    have ha := h a (by simp)
    have hb := h b (by simp)
    have hc := h c (by simp)
    simp [dRat, SeqAt.shaped, PyData.canLay0, PyData.canLayAll0, PyData.depth, PyData.depthAll, ha, hb, hc]; decide +kernel
  | [a, b, c, d], h, _ =>
    have ha := h a (by simp)
    have hb := h b (by simp)
    have hc := h c (by simp)
    have hd := h d (by simp)
    simp [dRat, SeqAt.shaped, PyData.canLay0, PyData.canLayAll0, PyData.depth, PyData.depthAll, ha, hb, hc, hd]; decide +kernel
theorem dp_rats {K : PySem.W.Frag} {H : Hp} : ∀ {ts : List (Addr × Str)}, (∀ q ∈ ts, H q.1 = some (.tup [.str "ratio", .str q.2])) → DpAll K H (ts.map fun q => V.ref q.1) ((ts.map (·.2)).map fun r => .tuple [.str "ratio", .str r])
  | [], _ => .nil
  | q :: ts, h => .cons (.tup (SqT.of (h q List.mem_cons_self)) (.cons (.str _) (.cons (.str _) .nil))) (dp_rats fun z hz => h z (List.mem_cons_of_mem _ hz))
theorem dp_rat {K : PySem.W.Frag} {H : Hp} {l : Addr} {ts : List (Addr × Str)} (hl : H l = some (.lst (ts.map fun q => V.ref q.1))) (h : ∀ q ∈ ts, H q.1 = some (.tup [.str "ratio", .str q.2])) : Dp K H (.ref l) (dRat (ts.map (·.2))) := .lst (SqL.of hl) (dp_rats h)
end Lw
namespace Lw
open PySem PySem.Spec PyProof.Rows L2

open LamX
/-- Ratio.greatest, ready to be called -/
structure GrM (P : Program) (w : World) (K : PySem.W.Frag) (mg : Str → Option Value) (base : Heap) (C D p g : Addr) (fdg : FuncData) : Prop where
  S : SMet K C "greatest" p g
  F : FnOk P w K mg base (L2.CX P w) 8 g fdg ["values"] (spGre K C D)
  b : Binds K fdg ["values"] []
abbrev tabOf (B B2 : Addr) : List (Addr × Str) := [(B, (("_law_refused_right" : Str) ++ (".<locals>." : Str)) ++ ("<lambda>" : Str)), (B2, (("_law_inner_right" : Str) ++ (".<locals>." : Str)) ++ ("<lambda>" : Str))]
theorem tabOf_own {B B2 : Addr} (n : B2 ≠ B) (p : Addr × Str) (hp : p ∈ tabOf B B2) (e : p.1 = B) : p.2 = (("_law_refused_right" : Str) ++ (".<locals>." : Str)) ++ ("<lambda>" : Str) := by
  rcases List.mem_cons.mp hp with rfl | hp
  · rfl
  · rw [List.mem_singleton.mp hp] at e
    exact absurd e n
def spRef (B B2 : Addr) : Sp := fun vs H Q _ => ∃ (p pl : Addr) (n : Nat), vs = [.ref p] ∧ Pen H p pl n ∧ n ≤ 900000 ∧ Tabs (tabOf B B2) H ∧ ∀ H', Pen H' p pl (n + 5) → Tabs (tabOf B B2) H' → Q (.bl true) H'
section
variable {P : Program} {w : World} {K : PySem.W.Frag} {mg : Str → Option Value} {base : Heap}
abbrev NRef : List Str := ["_law_pen_here", "_law_heard_here", "_law_lot", "_law_some", "_law_odd_here", "_law_bad", "_law_top"]
theorem scRef : FnScope NRef ["_law_pen_here"] (C8.fnScope sRef) := C8.fnScope_by (by decide +kernel)
theorem ten (i : Int) (h : i.natAbs ≤ 10) : Mid i := Nat.lt_of_le_of_lt h (by decide)
theorem cal_ref {f c B B2 C D L gH fI gO pO gG pG : Addr} {fd fdH fdI fdO fdG : FuncData} {ds : List Value} (F : DefC K mg "_law_refused_right" sRef f fd c) (b : Binds K fd ["_law_pen_here"] []) (FH : C8.Def K mg "_law_heard" sHea gH fdH) (bH : Binds K fdH ["_law_ask"] []) (TB : TabB base mg c B) (nB : B2 ≠ B)
    (R : Hrd K mg D L) (T : Txt mg) (O : Oks K C) (RM : RatM P w K mg base C D fI fdI ds) (OM : OfM P w K mg base C D pO gO fdO) (GM : GrM P w K mg base C D pG gG fdG) (D1 : C8.Cal P w K mg base 1 "_law_draw" spDraw []) (D2 : C8.Cal P w K mg base 2 "_law_pick" (spPick K) []) (D4 : C8.Cal P w K mg base 3 "_law_odd" spOdd []) :
    CalG P w K mg base 12 "_law_refused_right" (spRef B B2) [] := by
  obtain ⟨ocH, odH, dVH, kVH, docH, pmH, anH, cdvH, ctH, oslH, rfl, lkH, cdH⟩ := FH.fn.ex
  refine calGC F b .nil scRef (fun vs H Q E h => ?_) (fun A outer st H vs Q E hG hr h => ?_)
  · obtain ⟨p, pl, n, rfl, _⟩ := h
    rfl
  · obtain ⟨p, pl, n, rfl, hp, hn, ht, k⟩ := h
    refine ⟨_, (pss_cons (ps_asg (pe_tup (pa_cons (C8.pe_c D4 hr (by decide) (by rfl) (pa_cons (pv 0) pa_nil)) (pa_cons (C8.pe_c D2 hr (by decide) (by rfl) (pa_cons (pv 0) (pa_cons (pe_lst (pa_cons pe_non (pa_cons pe_bl (pa_cons pe_str (pa_cons (pe_tup (pa_cons pe_int pa_nil)) (pa_cons pe_int (pa_cons (pe_lst pa_nil) pa_nil))))))) pa_nil))) (pa_cons (C8.pe_c D2 hr (by decide) (by rfl) (pa_cons (pv 0) (pa_cons (pe_lst (pa_cons pe_int (pa_cons pe_int (pa_cons (pe_un un_neg pe_int) pa_nil)))) pa_nil))) pa_nil)))) (pg_tup (by rfl) (pgs_cons (pg_name (i := 4) scRef.nd rfl (Or.inr rfl)) (pgs_cons (pg_name (i := 5) scRef.nd rfl (Or.inr rfl)) (pgs_cons (pg_name (i := 6) scRef.nd rfl (Or.inr rfl)) pgs_nil)))))
  (pss_cons (ps_set (i := 1) scRef.nd rfl (Or.inl rfl) (pe_lst (pa_cons (pe_lamcall (k := 9) (T := tabOf B B2) (t := fun E => tMake C (spRat K C D) [] E (tCons (tVar 4) (tCons (tVar 5) tNil))) (by rfl) FH.mgf FH.kp lkH cdH bH scHea rfl (.inl rfl) (heard_gives R T hG (hr.mono (by decide))) TB rfl List.mem_cons_self (fun p hp e => tabOf_own nB p hp e) hr (lamS_by (by rfl)) rfl (fun _ _ _ _ _ => rfl)
      (fun A outer s H E f c2 hr2 => (pe_make RM.M RM.F (hr2.mono (by decide)) (by rfl) RM.hm RM.b2 .nil (passes_call (takes_of rfl rfl rfl rfl) (fun _ _ _ _ z => z)) (pa_cons (pv 4) (pa_cons (pv 5) pa_nil))))) pa_nil)))
  (pss_cons (ps_expr (pe_bm PySem.F.plainAttrs_list PySem.F.slot_list_append PySem.F.type_list_append mt_append (pv 1) (pa_cons (pe_lamcall (k := 9) (T := tabOf B B2) (t := fun E => tMake C (spRat K C D) [] E (tCons (tVar 6) (tCons (tVar 5) tNil))) (by rfl) FH.mgf FH.kp lkH cdH bH scHea rfl (.inl rfl) (heard_gives R T hG (hr.mono (by decide))) TB rfl List.mem_cons_self (fun p hp e => tabOf_own nB p hp e) hr (lamS_by (by rfl)) rfl (fun _ _ _ _ _ => rfl)
      (fun A outer s H E f c2 hr2 => (pe_make RM.M RM.F (hr2.mono (by decide)) (by rfl) RM.hm RM.b2 .nil (passes_call (takes_of rfl rfl rfl rfl) (fun _ _ _ _ z => z)) (pa_cons (pv 6) (pa_cons (pv 5) pa_nil))))) pa_nil)))
  (pss_cons (ps_expr (pe_bm PySem.F.plainAttrs_list PySem.F.slot_list_append PySem.F.type_list_append mt_append (pv 1) (pa_cons (pe_lamcall (k := 9) (T := tabOf B B2) (t := fun E => tMake C (spRat K C D) [] E (tCons (tVar 5) (tCons (tC (.int 0)) tNil))) (by rfl) FH.mgf FH.kp lkH cdH bH scHea rfl (.inl rfl) (heard_gives R T hG (hr.mono (by decide))) TB rfl List.mem_cons_self (fun p hp e => tabOf_own nB p hp e) hr (lamS_by (by rfl)) rfl (fun _ _ _ _ _ => rfl)
      (fun A outer s H E f c2 hr2 => (pe_make RM.M RM.F (hr2.mono (by decide)) (by rfl) RM.hm RM.b2 .nil (passes_call (takes_of rfl rfl rfl rfl) (fun _ _ _ _ z => z)) (pa_cons (pv 5) (pa_cons pe_int pa_nil))))) pa_nil)))
  (pss_cons (ps_expr (pe_bm PySem.F.plainAttrs_list PySem.F.slot_list_append PySem.F.type_list_append mt_append (pv 1) (pa_cons (pe_lamcall (k := 9) (T := tabOf B B2) (t := fun E => tStatic C (spOf K C D) [] E (tC (.ref C)) (tCons (tVar 4) tNil)) (by rfl) FH.mgf FH.kp lkH cdH bH scHea rfl (.inl rfl) (heard_gives R T hG (hr.mono (by decide))) TB rfl List.mem_cons_self (fun p hp e => tabOf_own nB p hp e) hr (lamS_by (by rfl)) rfl (fun _ _ _ _ _ => rfl)
      (fun A outer s H E f c2 hr2 => (pe_static (pe_glob (v := .ref C) (by rfl) RM.hm rfl) OM.S OM.F (hr2.mono (by decide)) OM.b .nil (passes_call (takes_of rfl rfl rfl rfl) (fun _ _ _ _ z => z)) (pa_cons (pv 4) pa_nil)))) pa_nil)))
  (pss_cons (ps_if (pt_cmpR (op_neD hr.units) (pv 1) (pe_lst (pa_cons (pe_tup (pa_cons pe_str (pa_cons (pe_callB (call_reprX hG (hr.mono (by decide))) (by rfl) T.n_repr (by decide +kernel) (pa_cons (pv 4) pa_nil)) pa_nil))) (pa_cons (pe_tup (pa_cons pe_str (pa_cons (pe_callB (call_reprX hG (hr.mono (by decide))) (by rfl) T.n_repr (by decide +kernel) (pa_cons (pv 5) pa_nil)) pa_nil))) (pa_cons (pe_tup (pa_cons pe_str (pa_cons (pe_callB (call_reprX hG (hr.mono (by decide))) (by rfl) T.n_repr (by decide +kernel) (pa_cons (pv 5) pa_nil)) pa_nil))) (pa_cons (pe_tup (pa_cons pe_str (pa_cons (pe_callB (call_reprX hG (hr.mono (by decide))) (by rfl) T.n_repr (by decide +kernel) (pa_cons (pv 4) pa_nil)) pa_nil))) pa_nil))))) (nomark _)) (pss_one (ps_ret pe_bl)) pss_nil)
  (pss_cons (ps_set (i := 2) scRef.nd rfl (Or.inr rfl) (C8.pe_c D2 hr (by decide) (by rfl) (pa_cons (pv 0) (pa_cons (pe_lst (pa_cons pe_non (pa_cons pe_int (pa_cons pe_bl (pa_cons pe_str (pa_cons pe_dnewK (pa_cons (pe_tup pa_nil) (pa_cons (pe_lst pa_nil) (pa_cons (pe_disp (pps_cons pe_int pe_int pps_nil) (by rfl) (by rfl) (fun z => by cases z) (by decide)) (pa_cons pe_int pa_nil)))))))))) pa_nil))))
  (pss_cons (ps_set (i := 3) scRef.nd rfl (Or.inr rfl) (pe_slice sl_list (pe_lst (pa_cons (pe_make RM.M RM.F (hr.mono (by decide)) (by rfl) RM.hm RM.b2 .nil (passes_call takes0 (fun _ _ _ _ z => z)) (pa_cons pe_int (pa_cons pe_int pa_nil))) (pa_cons (pv 6) (pa_cons (pv 4) (pa_cons (pv 5) pa_nil))))) (po_some (C8.pe_c D1 hr (by decide) (by rfl) (pa_cons (pv 0) (pa_cons pe_int pa_nil)))) po_none))
  (pss_cons (ps_set (i := 1) scRef.nd rfl (Or.inl rfl) (pe_lst (pa_cons (pe_lamcall (k := 9) (T := tabOf B B2) (t := fun E => tStatic C (spGre K C D) [] E (tC (.ref C)) (tCons (tVar 3) tNil)) (by rfl) FH.mgf FH.kp lkH cdH bH scHea rfl (.inl rfl) (heard_gives R T hG (hr.mono (by decide))) TB rfl List.mem_cons_self (fun p hp e => tabOf_own nB p hp e) hr (lamS_by (by rfl)) rfl (fun _ _ _ _ _ => rfl)
      (fun A outer s H E f c2 hr2 => (pe_static (pe_glob (v := .ref C) (by rfl) RM.hm rfl) GM.S GM.F (hr2.mono (by decide)) GM.b .nil (passes_call (takes_of rfl rfl rfl rfl) (fun _ _ _ _ z => z)) (pa_cons (pv 3) pa_nil)))) pa_nil)))
  (pss_cons (ps_expr (pe_bm PySem.F.plainAttrs_list PySem.F.slot_list_append PySem.F.type_list_append mt_append (pv 1) (pa_cons (pe_lamcall (k := 9) (T := tabOf B B2) (t := fun E => tStatic C (spGre K C D) [] E (tC (.ref C)) (tCons (tVar 2) tNil)) (by rfl) FH.mgf FH.kp lkH cdH bH scHea rfl (.inl rfl) (heard_gives R T hG (hr.mono (by decide))) TB rfl List.mem_cons_self (fun p hp e => tabOf_own nB p hp e) hr (lamS_by (by rfl)) rfl (fun _ _ _ _ _ => rfl)
      (fun A outer s H E f c2 hr2 => (pe_static (pe_glob (v := .ref C) (by rfl) RM.hm rfl) GM.S GM.F (hr2.mono (by decide)) GM.b .nil (passes_call (takes_of rfl rfl rfl rfl) (fun _ _ _ _ z => z)) (pa_cons (pv 2) pa_nil)))) pa_nil)))
  (pss_one (ps_ret (pe_cmpR (op_eqD hr.units) (pv 1) (pe_lst (pa_cons (pe_tup (pa_cons pe_str (pa_cons (pe_callB (call_reprX hG (hr.mono (by decide))) (by rfl) T.n_repr (by decide +kernel) (pa_cons (pv 4) pa_nil)) pa_nil))) (pa_cons (pe_tup (pa_cons pe_str (pa_cons (pe_callB (call_reprX hG (hr.mono (by decide))) (by rfl) T.n_repr (by decide +kernel) (pa_cons (pv 2) pa_nil)) pa_nil))) pa_nil))) (nomark _)))))))))))))), ?_⟩
    refine ⟨_, rfl, p, pl, n, rfl, hp, hn, fun vo ro H1 oc1 nvo hp1 k1 => ?_⟩
    refine ⟨_, rfl, (by show 1 ≤ sizeLine; decide), fun q1 f1 => ⟨(by show 0 ≤ sizeLine; decide), fun q2 f2 => ⟨(by show 6 ≤ sizeLine; decide), fun l1 f3 => ?_⟩⟩⟩
    have s1 := same_new (o := HO.tup [V.int 3]) f1
    have a1 : upd H1 q1 (HO.tup [V.int 3]) q1 = some (.tup [V.int 3]) := upd_same
    have n1 : q1 ≠ p := hp1.ne_new f1
    generalize upd H1 q1 _ = G1 at s1 a1 f2 f3 ⊢
    have hg1 := hp1.keep s1
    have s2 := same_new (o := HO.lst []) f2
    have a2 : upd G1 q2 (HO.lst []) q2 = some (.lst []) := upd_same
    have n2 : q2 ≠ p := hg1.ne_new f2
    generalize upd G1 q2 _ = G2 at s2 a2 f3 ⊢
    have hg2 := hg1.keep s2
    have s3 := same_new (o := HO.lst [V.non, V.bl true, V.str "2", V.ref q1, V.int 0, V.ref q2]) f3
    refine ⟨p, pl, l1, n + 1, _, rfl, hg2.keep s3, by omega, SqL.of upd_same, hg2.ne_new f3, (by show 0 < 6; decide), (by show 6 < 1000000; decide), fun j vb H2 hj hp2 k2 => ?_⟩
    have far : ∀ b o, b ≠ p → G2 b = some o → H2 b = some o := fun b o hb e => k2 b o hb (s3 b o e)
    obtain ⟨rb, bad2, nvb⟩ : ∃ rb, Bad H2 vb rb ∧ vb ≠ .ref p := by
      have hv := List.mem_of_getElem? hj
      simp only [List.mem_cons, List.not_mem_nil, or_false] at hv
      rcases hv with rfl | rfl | rfl | rfl | rfl | rfl
      · exact ⟨_, ⟨.oc .non, .inl rfl⟩, by simp⟩
      · exact ⟨_, ⟨.oc (.bl true), .inl rfl⟩, by simp⟩
      · exact ⟨_, ⟨.oc (.str _ (by decide +kernel)), .inl rfl⟩, by simp⟩
      · exact ⟨_, ⟨.oc (.tup [3] (far _ _ n1 (s2 _ _ a1)) (by decide +kernel)), .inl rfl⟩, fun e => n1 (V.ref.inj e)⟩
      · exact ⟨_, ⟨.int 0 (by decide) (by decide +kernel), .inr rfl⟩, by simp⟩
      · exact ⟨_, ⟨.oc (.lst [] (far _ _ n2 a2) (by decide +kernel)), .inl rfl⟩, fun e => n2 (V.ref.inj e)⟩
    have kk12 : Kp p H1 H2 := fun b o hb e => far b o hb (s2 _ _ (s1 _ _ e))
    refine ⟨_, rfl, _, rfl, (by show 3 ≤ sizeLine; decide), fun l2 f4 => ?_⟩
    have s4 := same_new (o := HO.lst [V.int 0, V.int 5, V.int (-3)]) f4
    refine ⟨p, pl, l2, n + 2, _, rfl, hp2.keep s4, by omega, SqL.of upd_same, hp2.ne_new f4, (by show 0 < 3; decide), (by show 3 < 1000000; decide), fun j2 vt H3 hj2 hp3 k3 => ?_⟩
    obtain ⟨it, rfl, hit⟩ : ∃ i : Int, vt = .int i ∧ i.natAbs ≤ 10 := by
      have hv := List.mem_of_getElem? hj2
      simp only [List.mem_cons, List.not_mem_nil, or_false] at hv
      rcases hv with rfl | rfl | rfl
      · exact ⟨0, rfl, by decide⟩
      · exact ⟨5, rfl, by decide⟩
      · exact ⟨-3, rfl, by decide⟩
    have kk23 : Kp p H2 H3 := fun b o hb e => k3 b o hb (s4 b o e)
    have oc3 : Oc H3 vo ro := (oc1.move fun a o ev ha => kk12 _ _ (fun e => nvo (by rw [ev, e])) ha).move fun a o ev ha => kk23 _ _ (fun e => nvo (by rw [ev, e])) ha
    have bad3 : Bad H3 vb rb := ⟨bad2.1.move fun a o ev ha _ => kk23 _ _ (fun e => nvb (by rw [ev, e])) ha, bad2.2⟩
    have t3 : Tabs (tabOf B B2) H3 := Lw.Tabs.kp (Lw.Tabs.kp (Lw.Tabs.kp ht hp k1) hp1 kk12) hp2 kk23
    refine ⟨(by show 3 ≤ sizeLine; decide), fun t ft => ⟨t, _, rfl, SqT.of upd_same, rfl, _, _, rfl, _, _, rfl, _, _, rfl, rfl, ?_⟩⟩
    have s5 := same_new (o := HO.tup [vo, vb, V.int it]) ft
    generalize upd H3 t _ = H4 at s5 ⊢
    have oc4 := oc3.same s5
    have bad4 : Bad H4 vb rb := ⟨bad3.1.same s5, bad3.2⟩
    have t4 := t3.ext s5
    have hp4 := hp3.keep s5
    clear k1 k2 k3 kk12 kk23 far hp hp1 hp2 hp3 hg1 hg2 oc1 oc3 bad2 bad3 t3 s1 s2 s3 s4 s5 a1 a2 f1 f2 f3 f4 hj hj2
    dsimp only [gName, tSeq]
    refine heard_at t4 (.oc oc4) (fun G E Qx e kx => ?_) fun q H5 e5 t5 nq eq => ?_
    · exact ⟨_, rfl, _, rfl, fun x dx hx hdx ne => refuse_make (Ov.any (.oc (oc4.extn e))) (bad4.1.extn e).any hx hdx ne (.inl ⟨oc4.noI, rfl⟩) kx⟩
    refine ⟨(by show 1 ≤ sizeLine; decide), fun l fl => ?_⟩
    have s6 := same_new (o := HO.lst [V.ref q]) fl
    have hp5 := hp4.extn e5
    have oc5 := oc4.extn e5
    have bad5 := bad4.ext e5
    have no : vo ≠ .ref l := oc5.ne_new fl
    have nb : vb ≠ .ref l := bad5.1.ne_new fl
    have iw1 : Iw (fun H => Oc H vo ro ∧ Bad H vb rb) (tabOf B B2) p pl l (n + 3) (upd H5 l (.lst [.ref q])) [(q, ro)] :=
      ⟨hp5.keep s6, hp5.ne_new fl, hp5.ne_new2 fl, t5.ext s6, ⟨oc5.same s6, bad5.1.same s6, bad5.2⟩, upd_same, fun z hz => by cases List.mem_singleton.mp hz; exact s6 _ _ eq⟩
    generalize upd H5 l _ = H6 at iw1 ⊢
    dsimp only [gName, tSeq]
    refine Iw.step (stb1 no nb) iw1 iw1.phi.2.1 (by simp) rfl (fun G E Qx e kx => ?_) fun q2 H7 iw2 => ?_
    · have bd := iw1.phi.2.ext e
      exact ⟨_, rfl, _, rfl, fun x dx hx hdx ne => refuse_make (.int _) bd.1.any hx hdx ne (.inr ⟨rfl, rfl, bd.2⟩) kx⟩
    dsimp only [tSeq]
    refine Iw.step (stb1 no nb) iw2 iw2.phi.2.1 (by simp) rfl (fun G E Qx e kx => ?_) fun q3 H8 iw3 => ?_
    · have bd := iw2.phi.2.ext e
      refine ⟨_, rfl, fun x dx hx hdx ne => refuse_make bd.1.any (.int _) hx hdx ne ?_ kx⟩
      rcases bd.2 with h | h
      · exact .inl ⟨h, rfl⟩
      · exact .inr ⟨by rw [h]; rfl, h, .inr rfl⟩
    dsimp only [tSeq]
    refine Iw.step (stb1 no nb) iw3 (.oc iw3.phi.1) (by simp) rfl (fun G E Qx e kx => ?_) fun q4 H9 iw4 => ?_
    · refine ⟨rfl, _, rfl, ?_⟩
      dsimp only [tNil]
      exact of_ok (.inr (Oc.refuses O (iw3.phi.1.extn e) kx))
    dsimp only [tSeq]
    obtain ⟨hp9, _, _, t9, ⟨oc9, bad9⟩, all9, tx9⟩ := iw4
    have sz2 : 2 ≤ sizeLine := by decide
    refine ⟨_, rfl, _, rfl, vo, ro, rfl, oc9.rp, sz2, fun z1 g1 => ?_⟩
    have s1 := same_new (o := HO.tup [V.str "ratio", V.str ro]) g1
    have b1 : upd H9 z1 (HO.tup [V.str "ratio", V.str ro]) z1 = some (.tup [V.str "ratio", V.str ro]) := upd_same
    generalize upd H9 z1 _ = G1 at s1 b1 ⊢
    refine ⟨_, rfl, vb, rb, rfl, (bad9.1.same s1).rp, sz2, fun z2 g2 => ?_⟩
    have s2 := same_new (o := HO.tup [V.str "ratio", V.str rb]) g2
    have b2 : upd G1 z2 (HO.tup [V.str "ratio", V.str rb]) z2 = some (.tup [V.str "ratio", V.str rb]) := upd_same
    generalize upd G1 z2 _ = G2 at s2 b2 ⊢
    refine ⟨_, rfl, vb, rb, rfl, (bad9.1.same (s1.trans s2)).rp, sz2, fun z3 g3 => ?_⟩
    have s3 := same_new (o := HO.tup [V.str "ratio", V.str rb]) g3
    have b3 : upd G2 z3 (HO.tup [V.str "ratio", V.str rb]) z3 = some (.tup [V.str "ratio", V.str rb]) := upd_same
    generalize upd G2 z3 _ = G3 at s3 b3 ⊢
    refine ⟨_, rfl, vo, ro, rfl, ((oc9.same s1).same (s2.trans s3)).rp, sz2, fun z4 g4 => ?_⟩
    have s4 := same_new (o := HO.tup [V.str "ratio", V.str ro]) g4
    have b4 : upd G3 z4 (HO.tup [V.str "ratio", V.str ro]) z4 = some (.tup [V.str "ratio", V.str ro]) := upd_same
    generalize upd G3 z4 _ = G4 at s4 b4 ⊢
    refine ⟨(by show 4 ≤ sizeLine; decide), fun l3 g5 => ?_⟩
    have s5 := same_new (o := HO.lst ([(z1, ro), (z2, rb), (z3, rb), (z4, ro)].map fun q => V.ref q.1)) g5
    have b5 : upd G4 l3 (HO.lst ([(z1, ro), (z2, rb), (z3, rb), (z4, ro)].map fun q => V.ref q.1)) l3 = some (HO.lst ([(z1, ro), (z2, rb), (z3, rb), (z4, ro)].map fun q => V.ref q.1)) := upd_same
    change rNeD K (.ref l) (.ref l3) (upd G4 l3 (HO.lst ([(z1, ro), (z2, rb), (z3, rb), (z4, ro)].map fun q => V.ref q.1))) _
    generalize upd G4 l3 _ = G5 at s5 b5 ⊢
    have sall : Same H9 G5 := (((s1.trans s2).trans s3).trans s4).trans s5
    have c1 := s5 _ _ (s4 _ _ (s3 _ _ (s2 _ _ b1)))
    have c2 := s5 _ _ (s4 _ _ (s3 _ _ b2))
    have c3 := s5 _ _ (s4 _ _ b3)
    have c4 := s5 _ _ b4
    have shp : SeqAt.shaped (dRat [ro, rb, rb, ro]) = true := dRat_shaped (fun r hr => by
      simp only [List.mem_cons, List.not_mem_nil, or_false] at hr
      rcases hr with rfl | rfl | rfl | rfl
      · exact oc9.sok
      · exact bad9.1.sok
      · exact bad9.1.sok
      · exact oc9.sok) (by simp)
    have d1 : Dp K G5 (.ref l) (dRat [ro, rb, rb, ro]) := dp_rat (ts := [(q, ro)] ++ [(q2, rb)] ++ [(q3, rb)] ++ [(q4, ro)]) (sall _ _ all9) fun z hz => sall _ _ (tx9 z hz)
    have d2 : Dp K G5 (.ref l3) (dRat [ro, rb, rb, ro]) := dp_rat (ts := [(z1, ro), (z2, rb), (z3, rb), (z4, ro)]) b5 fun z hz => by
      simp only [List.mem_cons, List.not_mem_nil, or_false] at hz
      rcases hz with rfl | rfl | rfl | rfl
      · exact c1
      · exact c2
      · exact c3
      · exact c4
    refine ⟨_, _, d1, d2, shp, shp, ?_⟩
    rw [SeqAt.eqv_refl _ (SeqAt.canLay_of_shaped shp)]
    refine ⟨_, rfl, iteF ?_⟩
    have hp10 := hp9.keep sall
    have t10 := t9.ext sall
    have oc10 := oc9.same sall
    clear s1 s2 s3 s4 s5 b1 b2 b3 b4 b5 c1 c2 c3 c4 d1 d2 shp g1 g2 g3 g4 g5 sall tx9 all9 bad9 oc9 hp9 t9 iw1 iw2 iw3 no nb
    dsimp only [tNext, tSeq, tAsg, gName]
    refine ⟨_, rfl, fun q1 f1 => ?_⟩
    have s1 := same_new (o := HO.dK []) f1
    have a1 : upd G5 q1 (HO.dK []) q1 = some (.dK []) := upd_same
    have n1 : q1 ≠ p := hp10.ne_new f1
    generalize upd G5 q1 _ = J1 at s1 a1 ⊢
    have hj1 := hp10.keep s1
    refine ⟨(by show 0 ≤ sizeLine; decide), fun q2 f2 => ?_⟩
    have s2 := same_new (o := HO.tup []) f2
    have a2 : upd J1 q2 (HO.tup []) q2 = some (.tup []) := upd_same
    have n2 : q2 ≠ p := hj1.ne_new f2
    generalize upd J1 q2 _ = J2 at s2 a2 ⊢
    have hj2 := hj1.keep s2
    refine ⟨(by show 0 ≤ sizeLine; decide), fun q3 f3 => ?_⟩
    have s3 := same_new (o := HO.lst []) f3
    have a3 : upd J2 q3 (HO.lst []) q3 = some (.lst []) := upd_same
    have n3 : q3 ≠ p := hj2.ne_new f3
    generalize upd J2 q3 _ = J3 at s3 a3 ⊢
    have hj3 := hj2.keep s3
    refine fun q4 f4 => ⟨upd_same, [(.inl 1, .int 2)], rfl, (by decide), ?_⟩
    rw [upd_upd]
    have s4 := same_new (o := HO.dK (mergeK [] [(.inl 1, V.int 2)])) f4
    have a4 : upd J3 q4 (HO.dK (mergeK [] [(.inl 1, V.int 2)])) q4 = some (.dK [(.inl 1, V.int 2)]) := upd_same
    have n4 : q4 ≠ p := hj3.ne_new f4
    generalize upd J3 q4 _ = J4 at s4 a4 ⊢
    have hj4 := hj3.keep s4
    refine ⟨(by show 9 ≤ sizeLine; decide), fun l4 f5 => ?_⟩
    have s5 := same_new (o := HO.lst [V.non, V.int 0, V.bl true, V.str "1", V.ref q1, V.ref q2, V.ref q3, V.ref q4, V.int 7]) f5
    refine ⟨p, pl, l4, n + 3, _, rfl, hj4.keep s5, by omega, SqL.of upd_same, hj4.ne_new f5, (by show 0 < 9; decide), (by show 9 < 1000000; decide), fun j vl K1 hj hpk kk => ?_⟩
    have far : ∀ b o, b ≠ p → J4 b = some o → K1 b = some o := fun b o hb e => kk b o hb (s5 b o e)
    obtain ⟨rl, lot, nvl⟩ : ∃ rl, Lot K1 vl rl ∧ vl ≠ .ref p := by
      have hv := List.mem_of_getElem? hj
      simp only [List.mem_cons, List.not_mem_nil, or_false] at hv
      have e1 := far _ _ n1 (s4 _ _ (s3 _ _ (s2 _ _ a1)))
      have e2 := far _ _ n2 (s4 _ _ (s3 _ _ a2))
      have e3 := far _ _ n3 (s4 _ _ a3)
      have e4 := far _ _ n4 a4
      rcases hv with rfl | rfl | rfl | rfl | rfl | rfl | rfl | rfl | rfl
      · exact ⟨_, ⟨.oc .non, .inl (by simp)⟩, by simp⟩
      · exact ⟨_, ⟨.int 0 (by decide) (by decide +kernel), .inl (by simp)⟩, by simp⟩
      · exact ⟨_, ⟨.oc (.bl true), .inl (by simp)⟩, by simp⟩
      · exact ⟨_, ⟨.oc (.str _ (by decide +kernel)), .inl (by simp)⟩, by simp⟩
      · exact ⟨_, ⟨.oc (.dct e1), .inr ⟨q1, rfl, .inr (.inr ⟨_, e1⟩)⟩⟩, fun e => n1 (V.ref.inj e)⟩
      · exact ⟨_, ⟨.oc (.tup [] e2 (by decide +kernel)), .inr ⟨q2, rfl, .inr (.inl e2)⟩⟩, fun e => n2 (V.ref.inj e)⟩
      · exact ⟨_, ⟨.oc (.lst [] e3 (by decide +kernel)), .inr ⟨q3, rfl, .inl e3⟩⟩, fun e => n3 (V.ref.inj e)⟩
      · exact ⟨_, ⟨.d12 e4, .inr ⟨q4, rfl, .inr (.inr ⟨_, e4⟩)⟩⟩, fun e => n4 (V.ref.inj e)⟩
      · exact ⟨_, ⟨.int 7 (by decide) (by decide +kernel), .inl (by simp)⟩, by simp⟩
    have kG : Kp p G5 K1 := fun b o hb e => far b o hb (s4 _ _ (s3 _ _ (s2 _ _ (s1 _ _ e))))
    have oc1 : Oc K1 vo ro := oc10.move fun a o ev ha => kG _ _ (fun e => nvo (by rw [ev, e])) ha
    have t1 := Lw.Tabs.kp t10 hp10 kG
    clear kG far kk s1 s2 s3 s4 s5 a1 a2 a3 a4 f1 f2 f3 f4 f5 n1 n2 n3 n4 hj hj1 hj2 hj3 hj4 oc10 t10 hp10
    refine fun x dx hx hdx ne => ?_
    refine makes' (t := 1) (b := 2) (by decide) (ten _ (by decide)).small (ten _ (by decide)).small hx hdx ne fun K2 s1 ra => ?_
    refine ⟨_, rfl, _, rfl, _, rfl, (by show 4 ≤ sizeLine; decide), fun l5 f6 => ?_⟩
    have s2 := same_new (o := HO.lst [V.ref x, V.int it, vo, vb]) f6
    have a5 : upd K2 l5 (HO.lst [V.ref x, V.int it, vo, vb]) l5 = some (.lst [V.ref x, V.int it, vo, vb]) := upd_same
    have n5 : l5 ≠ p := (hpk.keep s1).ne_new f6
    generalize upd K2 l5 _ = K3 at s2 a5 ⊢
    have ss := s1.trans s2
    refine ⟨_, rfl, p, pl, n + 4, 3, rfl, by decide, by decide, hpk.keep ss, by omega, fun r K4 r0 r3 hpk4 kk4 => ⟨_, rfl, l5, _, rfl, SqL.of (kk4 _ _ n5 a5), fun sp fsp => ?_⟩⟩
    have nx : V.ref x ≠ .ref p := fun e => by
      obtain ⟨dz, hz⟩ := ra
      exact hpk.ne_new hx (V.ref.inj e)
    have na : NumAt K C K4 (.ref x) (lov 1 2) (lun 1 2) := ((NumAt.rat ra (lun_pos (by decide)) (ten _ (Nat.le_trans (lov_le _ _) (by decide))) (ten _ (Nat.le_trans (lun_le _ _) (by decide)))).same s2).kp kk4 nx
    have oc4 : Oc K4 vo ro := (oc1.same ss).move fun a o ev ha => kk4 _ _ (fun e => nvo (by rw [ev, e])) ha
    have lot4 : Lot K4 vl rl := (lot.move fun a o _ ha _ => ss a o ha).move fun a o ev ha _ => kk4 _ _ (fun e => nvl (by rw [ev, e])) ha
    have t4 := Lw.Tabs.kp (t1.ext ss) (hpk.keep ss) kk4
    obtain ⟨xs, ms, exs, e1, e2, e3⟩ : ∃ (xs : List V) (ms : List (Int × Int)), cutV [V.ref x, V.int it, vo, vb] (some r) none = xs ∧ xs[ms.length]? = some vo ∧ xs.length < 10 ∧ ∀ (j : Nat) (n : Int × Int), ms[j]? = some n → ∃ x, xs[j]? = some x ∧ NumAt K C K4 x n.1 n.2 := by
      have ni : NumAt K C K4 (.int it) it 1 := .int (ten _ hit) O.i
      obtain rfl | rfl | rfl : r = 0 ∨ r = 1 ∨ r = 2 := by omega
      · refine ⟨_, [(lov 1 2, lun 1 2), (it, 1)], rfl, rfl, by show 4 < 10; decide, fun j n hn => ?_⟩
        match j, hn with
        | 0, hn => cases hn; exact ⟨_, rfl, na⟩
        | 1, hn => cases hn; exact ⟨_, rfl, ni⟩
        | k + 2, hn => cases hn
      · refine ⟨_, [(it, 1)], rfl, rfl, by show 3 < 10; decide, fun j n hn => ?_⟩
        match j, hn with
        | 0, hn => cases hn; exact ⟨_, rfl, ni⟩
        | k + 1, hn => cases hn
      · exact ⟨_, [], rfl, rfl, by show 2 < 10; decide, fun j n hn => by cases hn⟩
    rw [exs]
    have s3 := same_new (o := HO.lst xs) fsp
    have mx : Mixed K C sp xs ms vo (upd K4 sp (HO.lst xs)) := ⟨upd_same, e1, e2, fun j n hn => (e3 j n hn).elim fun x hx => ⟨x, hx.1, hx.2.same s3⟩⟩
    generalize upd K4 sp _ = K5 at s3 mx ⊢
    have hp5 := hpk4.keep s3
    have oc5 := oc4.same s3
    have lot5 : Lot K5 vl rl := lot4.move fun a o _ ha _ => s3 a o ha
    have t5 := t4.ext s3
    clear s1 s2 s3 ss a5 f6 fsp e1 e2 e3 exs na oc1 oc4 lot lot4 t1 t4 hpk hpk4 kk4 ra
    refine heard_at t5 (.oc oc5) (fun G E Qx e kx => ?_) fun q H5 e5 t5' nq eq => ?_
    · refine ⟨rfl, _, rfl, ?_⟩
      dsimp only [tNil]
      refine ⟨.ref sp, rfl, .inr ⟨sp, xs, ms, rfl, .inl (e _ _ mx.1 fun _ z => by cases z), fun z => ?_, Nat.lt_trans mx.2.2.1 (by decide), fun j n hn => (mx.2.2.2 j n hn).elim fun x hx => ⟨x, hx.1, hx.2.extn e⟩, .inr ⟨vo, mx.2.1, Oc.refuses O (oc5.extn e) kx⟩⟩⟩
      have z2 := mx.2.1
      rw [z] at z2
      cases z2
    refine ⟨(by show 1 ≤ sizeLine; decide), fun l6 fl => ?_⟩
    have s6 := same_new (o := HO.lst [V.ref q]) fl
    have hp6 := hp5.extn e5
    have oc6 := oc5.extn e5
    have lot6 : Lot H5 vl rl := lot5.move fun a o _ ha n => e5 a o ha n
    have sp6 : sp ≠ l6 := fun z => by
      have w := e5 _ _ mx.1 fun _ z => by cases z
      rw [z, fl] at w
      cases w
    have no : vo ≠ .ref l6 := oc6.ne_new fl
    have nl : vl ≠ .ref l6 := lot6.1.ne_new fl
    have iw1 : Iw (fun H => Oc H vo ro ∧ Lot H vl rl ∧ Mixed K C sp xs ms vo H) (tabOf B B2) p pl l6 (n + 5) (upd H5 l6 (.lst [.ref q])) [(q, ro)] :=
      ⟨hp6.keep s6, hp6.ne_new fl, hp6.ne_new2 fl, t5'.ext s6, ⟨oc6.same s6, lot6.move fun a o _ ha _ => s6 a o ha, s6 _ _ (e5 _ _ mx.1 fun _ z => by cases z), mx.2.1, mx.2.2.1, fun j n hn => (mx.2.2.2 j n hn).elim fun x hx => ⟨x, hx.1, (hx.2.extn e5).same s6⟩⟩, upd_same, fun z hz => by cases List.mem_singleton.mp hz; exact s6 _ _ eq⟩
    generalize upd H5 l6 _ = H6 at iw1 ⊢
    refine Iw.step (stb2 no nl sp6) iw1 iw1.phi.2.1.1 (by simp) rfl (fun G E Qx e kx => ?_) fun q2 H7 iw2 => ?_
    · refine ⟨rfl, _, rfl, ?_⟩
      dsimp only [tNil]
      exact ⟨vl, rfl, .inl ⟨(iw1.phi.2.1.move fun a o _ ha n => e a o ha n).nol, kx⟩⟩
    obtain ⟨hp9, _, _, t9, ⟨oc9, lot9, _⟩, all9, tx9⟩ := iw2
    refine ⟨_, rfl, _, rfl, vo, ro, rfl, oc9.rp, sz2, fun z1 g1 => ?_⟩
    have s1 := same_new (o := HO.tup [V.str "ratio", V.str ro]) g1
    have b1 : upd H7 z1 (HO.tup [V.str "ratio", V.str ro]) z1 = some (.tup [V.str "ratio", V.str ro]) := upd_same
    generalize upd H7 z1 _ = U1 at s1 b1 ⊢
    refine ⟨_, rfl, vl, rl, rfl, (lot9.1.same s1).rp, sz2, fun z2 g2 => ?_⟩
    have s2 := same_new (o := HO.tup [V.str "ratio", V.str rl]) g2
    have b2 : upd U1 z2 (HO.tup [V.str "ratio", V.str rl]) z2 = some (.tup [V.str "ratio", V.str rl]) := upd_same
    generalize upd U1 z2 _ = U2 at s2 b2 ⊢
    refine ⟨sz2, fun l3 g5 => ?_⟩
    have s5 := same_new (o := HO.lst ([(z1, ro), (z2, rl)].map fun q => V.ref q.1)) g5
    have b5 : upd U2 l3 (HO.lst ([(z1, ro), (z2, rl)].map fun q => V.ref q.1)) l3 = some (HO.lst ([(z1, ro), (z2, rl)].map fun q => V.ref q.1)) := upd_same
    change rEqD K (.ref l6) (.ref l3) (upd U2 l3 (HO.lst ([(z1, ro), (z2, rl)].map fun q => V.ref q.1))) _
    generalize upd U2 l3 _ = U5 at s5 b5 ⊢
    have sall : Same H7 U5 := (s1.trans s2).trans s5
    have shp : SeqAt.shaped (dRat [ro, rl]) = true := dRat_shaped (fun r hr => by
      simp only [List.mem_cons, List.not_mem_nil, or_false] at hr
      rcases hr with rfl | rfl
      · exact oc9.sok
      · exact lot9.1.sok) (by simp)
    have d1 : Dp K U5 (.ref l6) (dRat [ro, rl]) := dp_rat (ts := [(q, ro)] ++ [(q2, rl)]) (sall _ _ all9) fun z hz => sall _ _ (tx9 z hz)
    have d2 : Dp K U5 (.ref l3) (dRat [ro, rl]) := dp_rat (ts := [(z1, ro), (z2, rl)]) b5 fun z hz => by
      simp only [List.mem_cons, List.not_mem_nil, or_false] at hz
      rcases hz with rfl | rfl
      · exact s5 _ _ (s2 _ _ b1)
      · exact s5 _ _ b2
    refine ⟨_, _, d1, d2, shp, shp, ?_⟩
    rw [SeqAt.eqv_refl _ (SeqAt.canLay_of_shaped shp)]
    exact k _ (hp9.keep sall) (t9.ext sall)
end
end Lw
namespace Lw
open PySem PySem.Spec PyProof.Rows L2

open LamX
/-! ### plain defs called while an exception is handled: they raise nothing -/
/-- the body's context there -/
def cxW (CX : CXT) (P : Program) (w : World) (K : PySem.W.Frag) (mg : Str → Option Value) (base : Heap) (N : List Str) (nm : Str) (sc : Scope) (f : Addr) (cd : Value) (A : Around) (out : List Env) (s : Shared) (H : Hp) (E : XK) : Cx :=
  { cxOf CX P w K mg base N nm sc f cd A out s H E with calm := false }
structure FnW (P : Program) (w : World) (K : PySem.W.Frag) (mg : Str → Option Value) (base : Heap) (k : Nat) (f : Addr) (fd : FuncData) (ps : List Str) (sp : Sp) : Prop where
  len : ∀ vs H Q E, sp vs H Q E → vs.length = ps.length
  run : ∀ (A : Around) (out : List Env) (s : Shared) (H : Hp) (us : List Value) (vs : List V) (Q : VK), L2H.RoomH k A → Env0 P w K mg base A out s H → BindsTo s fd ⟨us, []⟩ (ps.zip us) → Vals vs us → sp vs H Q C8.E0 →
    codeAny (model P w) A (.call (.ref f) ⟨us, []⟩) (CR C8.CX0 out P w H s Q C8.E0) s
theorem Env0.cold {P : Program} {w : World} {K : PySem.W.Frag} {mg : Str → Option Value} {base : Heap} {A : Around} {out : List Env} {s : Shared} {H : Hp} (e : Env0 P w K mg base A out s H) : Env0 P w K mg base { A with handled := none } out s H :=
  ⟨e.frames, e.mod, e.bs, e.bsz, e.funs, e.frf, e.hok, e.bare⟩
theorem fn_ofW {P : Program} {w : World} {K : PySem.W.Frag} {mg : Str → Option Value} {base : Heap} {k : Nat} {x q : Str} {st : Stmt} {f : Addr} {fd : FuncData} {N ps : List Str} {sp : Sp} (F : C8.Fun K x q st f fd) (S : FnScope N ps (C8.fnScope st)) (len : ∀ vs H Q E, sp vs H Q E → vs.length = ps.length)
    (body : ∀ (cdv : Value) (A : Around) (out : List Env) (s : Shared) (H : Hp) (vs : List V) (Q : VK), L2H.RoomH k (A.deeper (envOfC q (C8.fnScope st) s.heap.objs.size f cdv)) → sp vs H Q C8.E0 →
      ∃ t, PSs (cxW C8.CX0 P w K mg base N q (C8.fnScope st) f cdv A out s H C8.E0) (C8.fnBody st) t ∧ t { nx := fun _ H' => Q .non H', rt := Q } (start N vs) H) : FnW P w K mg base (k + 1) f fd ps sp := by
  obtain ⟨oc, od, dV, kV, doc, pm, an, cdv, ct, osl, rfl, lk, hcd⟩ := F.ex
  refine ⟨len, fun A out s H us vs Q hr e0 hb r hsp => ?_⟩
  have KIn : K.In s.heap := e0.mod.kin.keeps fun b o e => (e0.bs b o e).1
  have room : s.heap.NoLimit := e0.mod.nolimit.keeps fun b o e => (e0.bs b o e).1
  have kinds : ∀ y ∈ ps.zip us, (C8.fnScope st).names.lookup y.1 = some .local ∨ ((C8.fnScope st).names.lookup y.1 = some .cell ∧ ((cellsFrom (s.heap.objs.size + 1) (C8.fnScope st).names []).lookup y.1).isSome = true) := fun ⟨m, v⟩ hy => by
    rcases S.par m (List.of_mem_zip hy).1 with z | z
    · exact .inl z
    · exact .inr ⟨z, PySem.W.cellsFrom_some _ _ _ (.inl z)⟩
  refine codeAny_call_function hr.depth (KIn _ _ lk) rfl S.co S.gen rfl (PySem.W.codeRec_of KIn hcd) (hb _ _ _ _ ?_)
  refine wpAny_newFunctionEnv_cells S.kind kinds fun env he s1 cll => ?_
  subst he
  refine ⟨room.keeps cll.toInCall.keep, codeAny_func ?_⟩
  obtain ⟨t, ht, hq⟩ := body cdv A out s H vs Q (hr.deeper _) hsp
  have I0 := inv_start (CX := C8.CX0) (A := { A with handled := none }) (E := C8.E0) S rfl (Lw.Env0.cold e0) (len _ _ _ _ hsp) r cll
  have I : Inv (cxW C8.CX0 P w K mg base N q (C8.fnScope st) f cdv A out s H C8.E0) [] (start N vs) H s1 := by
    have ok := I0.ok
    exact ⟨⟨ok.mod, ok.kind, ok.glob, ok.blt, ok.above, ok.inj, ok.has, ok.cab, (fun z => absurd (show false = true from z) Bool.false_ne_true), Around.frames_deeper e0.frames, ok.stk, ok.exf, ok.bs, ok.bsz, ok.noex, ok.exfs, ok.funs, ok.frf⟩,
      I0.os, I0.bare, I0.base, I0.loc, I0.cell, I0.free, I0.freeC, I0.pin, I0.hok, I0.len⟩
  refine wpAny_mono (ht.run [] s1 (start N vs) H _ I hq) (fun fl s' hs => ?_) fun e s' hs => hs
  cases fl with
  | ret u =>
    obtain ⟨v, σ', H', J, rv, z⟩ := hs
    exact ⟨v, H', J.os, J.bare, J.base, J.hok, rv, z⟩
  | next =>
    obtain ⟨σ', H', J, z⟩ := hs
    exact ⟨.non, H', J.os, J.bare, J.base, J.hok, rfl, z⟩
  | brk => exact hs.choose_spec.choose_spec.2.elim
  | cont => exact hs.choose_spec.choose_spec.2.elim
structure CalW (P : Program) (w : World) (K : PySem.W.Frag) (mg : Str → Option Value) (base : Heap) (k : Nat) (x : Str) (sp : Sp) : Prop where
  ex : ∃ (f : Addr) (fd : FuncData) (ps : List Str), FnW P w K mg base k f fd ps sp ∧ mg x = some (.ref f) ∧ PySem.W.keepIn K (.ref f) = true ∧ Binds K fd ps []
structure MetW (P : Program) (w : World) (K : PySem.W.Frag) (mg : Str → Option Value) (base : Heap) (k : Nat) (C : Addr) (m : Str) (sp : Sp) : Prop where
  ex : ∃ (f : Addr) (fd : FuncData) (ps : List Str), FnW P w K mg base k f fd ps sp ∧ Meth K C m f ∧ Binds K fd ps []
section
variable {X : Cx} {k j : Nat} {x : Str} {sp : Sp} {p pos : Pos} {e : Expr} {es : List Expr} {t : TA} {pins : List (Addr × Obj)} {σ : L2.St} {H : Hp} {s : Shared} {C : Addr}
theorem run_fnW {A : Around} {f : Addr} {fd : FuncData} {ps : List Str} {us : List Value} {vs : List V} {Q : VK} (F : FnW X.prog X.w X.K X.mg X.base k f fd ps sp) (b : Binds X.K fd ps []) (hr : L2H.RoomH k A) (e0 : Env0 X.prog X.w X.K X.mg X.base A X.stack s H) (I : Inv X pins σ H s) (r : Vals vs us) (q : sp vs H Q C8.E0) :
    wpAny (model X.prog X.w) A (call (.ref f) us) (EP X pins σ Q) X.xe s := by
  have l : us.length = ps.length := r.length.symm.trans (F.len _ _ _ _ q)
  have b' := b s us I.kIn (by rw [List.append_nil]; exact l)
  rw [List.append_nil] at b'
  refine wpAny_call (codeAny_mono (F.run A X.stack s H us vs Q hr e0 b' r q) fun r s' hq => ?_)
  match r, hq with
  | .error e, hq => exact hq.elim
  | .ok (.ret u), hq => exact I.after hq
  | .ok .next, hq => exact hq.elim
  | .ok .brk, hq => exact hq.elim
  | .ok .cont, hq => exact hq.elim
theorem pe_cW (c : CalW X.prog X.w X.K X.mg X.base k x sp) (hr : L2H.RoomH j X.A) (hk : k ≤ j) (hg : Gl X x) (ha : PA X (e :: es) t)
    (hdb : (x == ("__debug__" : Str)) = false := by decide) (he : starEach (e :: es) X.env = (false, eval e X.env) :: starEach es X.env := by rfl) (hpl : (backTo pos (starEach es X.env)).any (·.1) = false := by rfl) :
    PE X (.Call (.Name x p) (e :: es) [] pos) (tCall sp [] C8.E0 t) := by
  obtain ⟨f, fd, ps, F, hm, kp, b⟩ := c.ex
  refine ⟨fun pins s σ H Q I h => ?_⟩
  refine wpAny_Call_Name_kw (ld_glob I hg hm ?_ hdb)
  refine PySem.W.callWith_K (h₀ := X.base) I.ok.mod.kin kp (thn (ha.run pos pins s σ H _ I h) fun us s1 g => ?_) he hpl
  obtain ⟨vs, H1, I1, r, q⟩ := g
  exact ⟨I1.kIn, run_fnW F b (hr.mono hk) I1.env0 I1 r (by rw [List.append_nil] at q; exact q)⟩
end
section
variable {P : Program} {w : World} {K : PySem.W.Frag} {mg : Str → Option Value} {base : Heap}
theorem fn_isintW {f : Addr} {fd : FuncData} (F : C8.Def K mg "is_integer" sIsInt f fd) (T : Txt mg) : FnW P w K mg base 1 f fd ["value"] (spIsInt K) := by
  refine fn_ofW F.fn scIsInt (fun vs H Q E h => ?_) (fun cdv A outer st H vs Q hr h => ?_)
  · obtain ⟨x, rfl, _⟩ := h
    rfl
  · obtain ⟨x, rfl, a, k⟩ := h
    refine ⟨_, (pss_one (ps_ret (pe_and (pe_callB call_isz (by rfl) T.n_isinstance (by decide +kernel) (pa_cons (pv 0) (pa_cons (pe_bltn (v := .ty "int") (by rfl) T.n_int (by decide +kernel) rfl) pa_nil))) (pe_one (pe_not (pe_callB call_isz (by rfl) T.n_isinstance (by decide +kernel) (pa_cons (pv 0) (pa_cons (pe_bltn (v := .ty "bool") (by rfl) T.n_bool (by decide +kernel) rfl) pa_nil)))))))), ?_⟩
    refine ⟨_, rfl, ?_⟩
    dsimp only [tCons, tC, tNil]
    refine isz_int a ⟨_, rfl, ?_⟩
    cases a with
    | int i =>
      refine iteT ⟨_, rfl, ?_⟩
      dsimp only [tCons, tC, tNil]
      exact isz_bool (.int i) ⟨_, rfl, k⟩
    | bl b =>
      refine iteT ⟨_, rfl, ?_⟩
      dsimp only [tCons, tC, tNil]
      exact isz_bool (.bl b) ⟨_, rfl, k⟩
    | non => exact iteF k
    | str z => exact iteF k
    | obj h h1 h2 h3 => exact iteF k
theorem fn_eqW {C f1 : Addr} {fd1 : FuncData} (F : C8.Fun K "__eq__" "Ratio.__eq__" sEq f1 fd1) (T : Txt mg) (hm : mg "Ratio" = some (.ref C)) (cl : Cls K C) (n1 : NoAttr K C "over") (n2 : NoAttr K C "under") (I : C8.InsC K C) (nb : NoB K C) (DI : CalW P w K mg base 1 "is_integer" (spIsInt K)) :
    FnW P w K mg base 3 f1 fd1 ["self", "other"] (spEq K C) := by
  refine fn_ofW F scEq (fun vs H Q E h => ?_) fun cdv A outer s H vs Q hr h => ?_
  · obtain ⟨a, v, o, u, rfl, _⟩ := h
    rfl
  · obtain ⟨a, v, o, u, rfl, na, h⟩ := h
    obtain ⟨⟨dxa, ha⟩, u0, mo, mu⟩ := na.ref
    refine ⟨_, (pss_cons (ps_if (pt_val (pe_cW DI hr (by decide) (by rfl) (pa_cons (pv 1) pa_nil))) (pss_one (ps_ret (pe_and (pe_cmpR op_eq (pe_fld (pv 0) rfl) pe_int (nomark _)) (pe_one (pe_cmpR op_eq (pe_fld (pv 0) rfl) (pv 1) (nomark _)))))) pss_nil)
  (pss_one (ps_ret (pe_and (pe_callB call_isz (by rfl) T.n_isinstance (by decide +kernel) (pa_cons (pv 1) (pa_cons (pe_glob (v := .ref C) (by rfl) hm rfl) pa_nil))) (pe_and (pe_cmpR op_eq (pe_fld (pv 0) rfl) (pe_fld (pv 1) rfl) (nomark _)) (pe_one (pe_cmpR op_eq (pe_fld (pv 0) rfl) (pe_fld (pv 1) rfl) (nomark _)))))))), ?_⟩
    rcases h with ⟨p, q, nv, go⟩ | ⟨t, av, ty, kt, ni, go⟩
    · cases nv with
      | @rat b _ _ hb q0 mp mq =>
        obtain ⟨dxb, hb⟩ := hb
        have ty : TyZ K H (.ref b) (.ref C) := .x (.base (.ins hb I.cl I.ha I.hn I.htk I.hm))
        refine ⟨_, rfl, .ref b, rfl, .obj ty nb.i nb.b nb.s, ?_⟩
        refine ⟨_, rfl, iteF ?_⟩
        refine ⟨_, rfl, _, .ref C, .ref C, .ref C, true, rfl, .own C, ty, I.me, _, rfl, iteT ?_⟩
        refine ⟨_, rfl, a, C, dxa, _, _, rfl, ha, cl, n1, flds_over o u, _, rfl, b, C, dxb, _, _, rfl, hb, cl, n1, flds_over p q, rfl, ?_⟩
        rw [dec_int]
        cases hz : decide (o = p) with
        | false =>
          rw [hz, Bool.and_false] at go
          exact ⟨_, rfl, iteF go⟩
        | true =>
          rw [hz, Bool.and_true] at go
          refine ⟨_, rfl, iteT ⟨_, rfl, a, C, dxa, _, _, rfl, ha, cl, n2, flds_under o u, _, rfl, b, C, dxb, _, _, rfl, hb, cl, n2, flds_under p q, rfl, ?_⟩⟩
          rw [dec_int]
          exact go
      | int mi hk =>
        refine ⟨_, rfl, .int p, rfl, .int p, ?_⟩
        refine ⟨_, rfl, iteT ?_⟩
        refine ⟨_, rfl, a, C, dxa, _, _, rfl, ha, cl, n2, flds_under o u, rfl, ?_⟩
        rw [dec_int]
        cases hz : decide (u = 1) with
        | false =>
          rw [hz, Bool.false_and] at go
          exact ⟨_, rfl, iteF go⟩
        | true =>
          rw [hz, Bool.true_and] at go
          refine ⟨_, rfl, iteT ⟨_, rfl, a, C, dxa, _, _, rfl, ha, cl, n1, flds_over o u, _, rfl, rfl, ?_⟩⟩
          rw [dec_int]
          exact go
    · refine ⟨_, rfl, v, rfl, av, ?_⟩
      rw [ni]
      refine ⟨_, rfl, iteF ?_⟩
      exact ⟨_, rfl, v, .ref C, t, .ref C, false, rfl, .own C, ty, kt, _, rfl, iteF go⟩
end
end Lw
namespace Lw
open PySem PySem.Spec PyProof.Rows L2

open LamX
section
variable {X : Cx} {C D a : Addr} {k j : Nat}
/-- == of two instances by the own __eq__, while an exception is handled -/
def rEqO (K : PySem.W.Frag) (C : Addr) : R2 := fun x y H Q => ∃ (z t : Addr) (o u p q : Int), x = .ref z ∧ y = .ref t ∧ NumAt K C H (.ref z) o u ∧ NumAt K C H (.ref t) p q ∧ Q (.bl (decide (u = q) && decide (o = p))) H
theorem op_eqW (M : MetW X.prog X.w X.K X.mg X.base k C "__eq__" (spEq X.K C)) (hr : L2H.RoomH j X.A) (hk : k ≤ j) : OpR X (compareOp .Eq) (rEqO X.K C) := by
  intro pins s σ H x y v u Q I rx ry h
  obtain ⟨z, t, o, un, p, q, rfl, rfl, n1, n2, go⟩ := h
  cases (show v = Value.ref z from rx)
  cases (show u = Value.ref t from ry)
  obtain ⟨⟨dp, hp⟩, _⟩ := n1.ref
  obtain ⟨⟨dq, hq⟩, _⟩ := n2.ref
  obtain ⟨_, _, J⟩ := ins_at I hp
  obtain ⟨_, _, J'⟩ := ins_at I hq
  obtain ⟨m, hF⟩ := I.fr
  have hr1 : L2H.RoomH k X.A := ⟨by have := hr.dp; omega, by have := hr.un; omega⟩
  obtain ⟨g, fd, ps, F, hm, b⟩ := M.ex
  have w := run_fnW (Q := fun v H' => v = .bl (decide (un = q) && decide (o = p)) ∧ H' = H) (us := [.ref z, .ref t]) (vs := [.ref z, .ref t]) F b hr1 I.env0 I (.cons rfl (.cons rfl .nil)) ⟨z, .ref t, o, un, rfl, n1, .inl ⟨p, q, n2, rfl, rfl⟩⟩
  show wpAny _ _ (richCompare .Eq (.ref z) (.ref t)) _ _ _
  refine PySem.W.cmp_K (op := .Eq) (tb := .ref C) (by have := hr1.un; omega) hF I.ok.mod.kin J J'.type (by simp [PySem.W.notFirst]) hm.at_ hm.fn (wpAny_mono w (fun v' s' q' => ?_) fun _ _ x => x)
  obtain ⟨z', H', I', rz, rfl, rfl⟩ := q'
  cases (show v' = Value.bool _ from rz)
  exact ⟨.bl (decide (un = q) && decide (o = p)), _, I', rfl, go⟩
/-- isinstance(error, ..) in the suite, the exception has attributes -/
def rIsEd (K : PySem.W.Frag) (D a : Addr) (cls : Value) (d : Option Addr) : List V → Hp → VK → Prop := fun xs H Q => ∃ (c : V) (cv : Value) (b : Bool) (dd : Addr) (fs : List (Str × V)), xs = [.ref a, c] ∧ ClsV c cv ∧ cls = .ref D ∧ d = some dd ∧ H dd = some (.xd fs) ∧ PySem.W.kitOne K (.ref D) cv = some b ∧ Q (.bl b) H
theorem call_isEd {oe : Obj} {cls : Value} {d : Option Addr} {pn : List (Addr × Obj)} (cl : Hx.XCls X.K D) (hz : Zc cls d oe) (hf : ∃ vs, oe.data = .fields vs) : CallR (X.suite a ((a, oe) :: pn)) (.builtin "isinstance") (rIsEd X.K D a cls d) := by
  intro pins s σ H xs us Q I r h
  obtain ⟨c, cv, b, dd, fs, rfl, hc, rfl, rfl, ea, e, q⟩ := h
  obtain ⟨w1, w2, rfl, r1, r2⟩ := vals2 r
  obtain rfl := hc.eq r2
  obtain rfl : w1 = Value.ref a := r1
  obtain ⟨ha, _⟩ := I.pin (a, oe) (List.mem_append_left _ List.mem_cons_self)
  obtain ⟨vs, hd⟩ := hf
  have ob : ObjOk X.prog X.w H s.heap dd (.xd fs) := I.hok dd _ ea
  obtain ⟨mA, hns, hr⟩ := ob
  obtain ⟨od, ho, hl⟩ := lookIn_ns hns
  have J : PySem.W.InstAt s.heap a oe D (some od) := ⟨ha, hz.1, by unfold PySem.W.notCls; rw [hd] <;> rfl, by rw [hz.2]; exact ho⟩
  exact PySem.W.kia_one (Hx.kitx_held cl) I.kIn J e (fun z => by cases z) fun tk => ⟨.bl b, H, I.kept (t' := tk) fun _ _ z => z, rfl, q⟩
end
abbrev sInn : Stmt := top 30
abbrev suOf : List Stmt → List Stmt
  | [_, _, _, .For _ _ [.Try _ [.ExceptHandler _ _ s _] _ _ _] _ _, _] => s
  | _ => []
abbrev suB : List Stmt := suOf (C8.fnBody sInn)
abbrev tSu (K : PySem.W.Frag) (C D a : Addr) (cls : Value) (d : Option Addr) : TS := tDrop (tBM K "list" rAppend (tVar 3) (tCons (tAndV (tCB (rIsEd K D a cls d) (tCons (tVar 4) (tCons (tC (.ref D)) tNil))) (tOp (rEqO K C) (tXf a cls d D "value" (tVar 4)) (tVar 2))) tNil))
abbrev NInn : List Str := ["_law_asks", "_law_ask", "_law_half", "_law_caught", "error"]
abbrev tabI (B : Addr) : List (Addr × Str) := [(B, (("_law_inner_right" : Str) ++ (".<locals>." : Str)) ++ ("<lambda>" : Str))]
/-- what stands while the asks are asked -/
structure Ib (X : Cx) (K : PySem.W.Frag) (C l0 l1 a1 f1 f2 : Addr) (T1 T2 : XK → TE) (H : Hp) (bs : List V) : Prop where
  cau : H l0 = some (.lst bs)
  ask : H l1 = some (.lst [.ref f1, .ref f2])
  low : NumAt K C H (.ref a1) (lov 1 2) (lun 1 2)
  k1 : Kept X 10 H f1 T1
  k2 : Kept X 10 H f2 T2
theorem Ib.same {X : Cx} {K : PySem.W.Frag} {C l0 l1 a1 f1 f2 : Addr} {T1 T2 : XK → TE} {H H' : Hp} {bs : List V} (i : Ib X K C l0 l1 a1 f1 f2 T1 T2 H bs) (s : Same H H') : Ib X K C l0 l1 a1 f1 f2 T1 T2 H' bs :=
  ⟨s _ _ i.cau, s _ _ i.ask, i.low.same s, i.k1.same s, i.k2.same s⟩
theorem Kept.upd {X : Cx} {k : Nat} {H : Hp} {f l : Addr} {t : XK → TE} {xs : List V} {o : HO} (h : Kept X k H f t) (hl : H l = some (.lst xs)) : Kept X k (upd H l o) f t := h.move fun b u e _ n => by
  rw [upd_ne (fun z => by rw [z, hl] at e; cases e; exact n _ rfl)]
  exact e
theorem Ib.app {X : Cx} {K : PySem.W.Frag} {C l0 l1 a1 f1 f2 : Addr} {T1 T2 : XK → TE} {H : Hp} {bs : List V} (i : Ib X K C l0 l1 a1 f1 f2 T1 T2 H bs) (ne : l1 ≠ l0) (cs : List V) : Ib X K C l0 l1 a1 f1 f2 T1 T2 (upd H l0 (.lst cs)) cs :=
  ⟨upd_same, by rw [upd_ne ne]; exact i.ask, i.low.upd i.cau, i.k1.upd i.cau, i.k2.upd i.cau⟩
abbrev tLap (X : Cx) (K : PySem.W.Frag) (C D L' : Addr) : TS := fun D_1 σ H_1 => tDrop (fun σ H_2 Q => ∃ f_1 t E_1, σ[1]? = some (some (V.ref f_1)) ∧ Kept X 10 H_2 f_1 t ∧ (∀ cls d H', E_1 cls d H' → wHeld X.K (.ref L') 4 X.N.length (tSu K C D) D_1 cls d σ H') ∧ t E_1 σ H_2 Q) D_1 σ H_1
/-- the suite of a lap: what is caught is a BadRatio of the half -/
theorem lap_w {X : Cx} {K : PySem.W.Frag} {mg : Str → Option Value} {C D L' l0 l1 a1 f1 f2 : Addr} {T1 T2 : XK → TE} {bs : List V} {En : Ends} {e1 : Option V} (R : Hrd K mg D L') (n10 : l1 ≠ l0) (sz : bs.length < sizeLine)
    (go : ∀ H'', Ib X K C l0 l1 a1 f1 f2 T1 T2 H'' (bs ++ [.bl true]) → En.nx [some (.ref l1), e1, some (.ref a1), some (.ref l0), none] H'') :
    ∀ cls d H', (cls = .ref D ∧ ∃ dd, d = some dd ∧ H' dd = some (.xd [("value", .ref a1)]) ∧ Ib X K C l0 l1 a1 f1 f2 T1 T2 H' bs) → wHeld K (.ref L') 4 5 (tSu K C D) En cls d [some (.ref l1), e1, some (.ref a1), some (.ref l0), none] H' := by
  rintro cls d H' ⟨rfl, dd, rfl, e2, ib⟩ _
  refine ⟨R.ex, fun a na => ?_⟩
  refine ⟨.ref l0, rfl, .inl ⟨rfl, _, SqL.of ib.cau⟩, ?_⟩
  refine ⟨.ref a, rfl, .ref D, .ref D, true, dd, _, rfl, .own D, rfl, rfl, e2, R.me, true, rfl, ?_⟩
  rw [if_pos rfl]
  refine ⟨.ref a, rfl, rfl, rfl, dd, _, .ref a1, rfl, e2, rfl, ?_⟩
  refine ⟨.ref a1, rfl, a1, a1, _, _, _, _, rfl, rfl, ib.low, ib.low, ?_⟩
  rw [decide_eq_true (rfl : lun 1 2 = lun 1 2), decide_eq_true (rfl : lov 1 2 = lov 1 2)]
  refine ⟨l0, bs, .bl true, rfl, rfl, ib.cau, sz, fun na' => ?_⟩
  exact go _ ((ib.app n10 _).same (same_new na'))
def spInn (B : Addr) : Sp := fun vs H Q _ => vs = [] ∧ Tabs (tabI B) H ∧ ∀ H', Q (.bl true) H'
section
variable {P : Program} {w : World} {K : PySem.W.Frag} {mg : Str → Option Value} {base : Heap}
theorem scInn : FnScope NInn [] (C8.fnScope sInn) := C8.fnScope_by (by decide +kernel)
abbrev XI (P : Program) (w : World) (K : PySem.W.Frag) (mg : Str → Option Value) (base : Heap) (f c : Addr) (A : Around) (outer : List Env) (s : Shared) (H : Hp) (E : XK) : Cx := (cxOf C8.CX0 P w K mg base NInn "_law_inner_right" (C8.fnScope sInn) f (.ref c) A outer s H E).nox
theorem cal_inn {f c B2 C D L' fI : Addr} {fd fdI : FuncData} {ds : List Value} (F : DefC K mg "_law_inner_right" sInn f fd c) (b : Binds K fd [] []) (TB : TabB base mg c B2)
    (R : Hrd K mg D L') (T : Txt mg) (IC : C8.InsC K C) (nb : NoB K C) (RM : RatM P w K mg base C D fI fdI ds) (MW : MetW P w K mg base 3 C "__eq__" (spEq K C)) :
    CalG P w K mg base 13 "_law_inner_right" (spInn B2) [] := by
  refine calGC F b .nil scInn (fun vs H Q E h => ?_) (fun A outer st H vs Q E hG hr h => ?_)
  · rw [h.1]; rfl
  · obtain ⟨rfl, ht, k⟩ := h
    have su := fun (a : Addr) (oe : Obj) (cls : Value) (d : Option Addr) (pn : List (Addr × Obj)) (hz : Zc cls d oe) (hf : ∃ vs, oe.data = .fields vs) => ((pss_one (ps_expr (pe_bm PySem.F.plainAttrs_list PySem.F.slot_list_append PySem.F.type_list_append mt_append (pv 3) (pa_cons (pe_and (pe_callB (call_isEd R.xc hz hf) (by rfl) T.n_isinstance (by decide +kernel) (pa_cons (pv 4) (pa_cons (pe_glob (v := .ref D) (by rfl) R.md rfl) pa_nil))) (pe_one (pe_cmpR (op_eqW MW (j := 4) (⟨(hr.mono (by decide : 4 ≤ 12)).dp, (hr.mono (by decide : 4 ≤ 12)).un⟩ : L2H.RoomH 4 ((XI P w K mg base f c A outer st H E).suite a ((a, oe) :: pn)).A) (by decide)) (pe_xf R.xf R.no hz hf (pv 4)) (pv 2) (nomark _)))) pa_nil)))) : PSs ((XI P w K mg base f c A outer st H E).suite a ((a, oe) :: pn)) suB (tSu K C D a cls d))
    refine ⟨_, (pss_cons (ps_asg (pe_tup (pa_cons (pe_make RM.M RM.F (hr.mono (by decide)) (by rfl) RM.hm RM.b2 .nil (passes_call takes0 (fun _ _ _ _ z => z)) (pa_cons pe_int (pa_cons pe_int pa_nil))) (pa_cons (pe_lst pa_nil) pa_nil))) (pg_tup (by rfl) (pgs_cons (pg_name (i := 2) scInn.nd rfl (Or.inr rfl)) (pgs_cons (pg_name (i := 3) scInn.nd rfl (Or.inl rfl)) pgs_nil))))
  (pss_cons (ps_set (i := 0) scInn.nd rfl (Or.inl rfl) (pe_lst (pa_cons (pe_lamK (T := tabI B2) (k := 10) (t := fun E => tMake C (spRat K C D) [.int 1] E (tCons (tVar 2) tNil)) TB rfl (List.mem_singleton.mpr rfl) (fun p hp => by rw [List.mem_singleton.mp hp]; intro _; rfl) rfl ⟨lamS_by (by rfl), (fun _ _ _ _ _ => rfl), fun A outer s H E f c2 hr2 => (pe_make RM.M RM.F (hr2.mono (by decide)) (by rfl) RM.hm RM.b1 RM.d1 (passes_call (takes_of rfl rfl rfl rfl) (fun _ _ _ _ z => z)) (pa_cons (pv 2) pa_nil))⟩) pa_nil)))
  (pss_cons (ps_expr (pe_bm PySem.F.plainAttrs_list PySem.F.slot_list_append PySem.F.type_list_append mt_append (pv 0) (pa_cons (pe_lamK (T := tabI B2) (k := 10) (t := fun E => tMake C (spRat K C D) [] E (tCons (tC (.int 3)) (tCons (tVar 2) tNil))) TB rfl (List.mem_singleton.mpr rfl) (fun p hp => by rw [List.mem_singleton.mp hp]; intro _; rfl) rfl ⟨lamS_by (by rfl), (fun _ _ _ _ _ => rfl), fun A outer s H E f c2 hr2 => (pe_make RM.M RM.F (hr2.mono (by decide)) (by rfl) RM.hm RM.b2 .nil (passes_call (takes_of rfl rfl rfl rfl) (fun _ _ _ _ z => z)) (pa_cons pe_int (pa_cons (pv 2) pa_nil)))⟩) pa_nil)))
  (pss_cons (ps_for PassesOwn.never rfl (pi_list (pv 0)) (pg_name (i := 1) scInn.nd rfl (Or.inl rfl)) (pss_one (ps_try_held (X := XI P w K mg base f c A outer st H E) (c := .ref L') (i := 4) rfl rfl scInn.nd rfl (by rfl) ⟨by rfl, by decide, .inl R.ml⟩ rfl (fun W pn xe tk _ => pss_one (ps_expr (pe_keptcall (k := 10) (i := 1) tk (hr.mono (by decide)) (by rfl) (.inl rfl)))) su)))
  (pss_one (ps_ret (pe_cmpR (op_eqD hr.units) (pv 3) (pe_lst (pa_cons pe_bl (pa_cons pe_bl pa_nil))) (nomark _)))))))), ?_⟩
    refine fun a1 d1 hx1 hd1 ne1 => ?_
    refine makes' (t := 1) (b := 2) (by decide) (ten _ (by decide)).small (ten _ (by decide)).small hx1 hd1 ne1 fun H2 s2 r1 => ?_
    refine ⟨(by show 0 ≤ sizeLine; decide), fun l0 f0 => ?_⟩
    have s3 := same_new (o := HO.lst []) f0
    have low : NumAt K C (upd H2 l0 (.lst [])) (.ref a1) (lov 1 2) (lun 1 2) := (NumAt.rat r1 (lun_pos (by decide)) (ten _ (Nat.le_trans (lov_le _ _) (by decide))) (ten _ (Nat.le_trans (lun_le _ _) (by decide)))).same s3
    have cau : upd H2 l0 (.lst []) l0 = some (.lst []) := upd_same
    have ht3 : Tabs (tabI B2) (upd H2 l0 (.lst [])) := (ht.ext s2).ext s3
    have ss : Same H (upd H2 l0 (.lst [])) := s2.trans s3
    generalize upd H2 l0 (.lst []) = H3 at low cau ht3 ss ⊢
    refine ⟨(by show 2 ≤ sizeLine; decide), fun q1 f1 => ?_⟩
    have s4 := same_new (o := HO.tup [V.ref a1, V.ref l0]) f1
    refine ⟨q1, _, rfl, SqT.of upd_same, rfl, _, _, rfl, _, _, rfl, rfl, ?_⟩
    have low := low.same s4
    have cau := s4 _ _ cau
    have ht4 := ht3.ext s4
    generalize upd H3 q1 _ = H4 at low cau ht4 ⊢
    dsimp only [gName, tSeq]
    refine ⟨ht4, fun g1 H5 e5 t5 nf1 k1 => ?_⟩
    refine ⟨(by show 1 ≤ sizeLine; decide), fun l1 fl1 => ?_⟩
    have s6 := same_new (o := HO.lst [V.ref g1]) fl1
    have low := (low.extn e5).same s6
    have cau5 := e5 _ _ cau (fun _ z => by cases z)
    have n10 : l1 ≠ l0 := fun e => by rw [e, cau5] at fl1; cases fl1
    have cau := s6 _ _ cau5
    have t6 := t5.ext s6
    have k1 := k1.same s6
    have ask : upd H5 l1 (HO.lst [V.ref g1]) l1 = some (.lst [V.ref g1]) := upd_same
    generalize upd H5 l1 _ = H6 at low cau t6 k1 ask ⊢
    dsimp only [gName, tSeq]
    refine ⟨.ref l1, rfl, .inl ⟨rfl, _, SqL.of ask⟩, ?_⟩
    refine ⟨t6, fun g2 H7 e7 t7 nf2 k2 => ?_⟩
    have ask := e7 _ _ ask (fun _ z => by cases z)
    refine ⟨l1, [V.ref g1], .ref g2, rfl, rfl, ask, (by show 1 < sizeLine; decide), ?_⟩
    have low := (low.extn e7).upd (w := HO.lst ([V.ref g1] ++ [V.ref g2])) ask
    have cau := e7 _ _ cau (fun _ z => by cases z)
    have k1 := (k1.extn e7).upd (o := HO.lst ([V.ref g1] ++ [V.ref g2])) ask
    have k2 := k2.upd (o := HO.lst ([V.ref g1] ++ [V.ref g2])) ask
    have t8 := Lw.Tabs.put (T := tabI B2) t7 (o := HO.lst ([V.ref g1] ++ [V.ref g2])) ask
    have cau : upd H7 l1 (HO.lst ([V.ref g1] ++ [V.ref g2])) l0 = some (.lst []) := by rw [upd_ne n10.symm]; exact cau
    have ask : upd H7 l1 (HO.lst ([V.ref g1] ++ [V.ref g2])) l1 = some (.lst [V.ref g1, V.ref g2]) := upd_same
    generalize upd H7 l1 _ = H8 at low cau k1 k2 t8 ask ⊢
    dsimp only [gName, tSeq]
    have ib0 : Ib (XI P w K mg base f c A outer st H E) K C l0 l1 a1 g1 g2 _ _ H8 [] := ⟨cau, ask, low, k1, k2⟩
    have anyR : ∀ {G : Hp}, NumAt K C G (.ref a1) (lov 1 2) (lun 1 2) → Anyv K G (.ref a1) := fun {G} na => by
      obtain ⟨⟨dx, ha⟩, _⟩ := na.ref
      exact .obj (.x (.base (.ins ha IC.cl IC.ha IC.hn IC.htk IC.hm))) nb.i nb.b nb.s
    refine ⟨.ref l1, rfl, l1, rfl, ⟨_, SqL.of ask⟩, for_list (K := K) (a := l1) (g := gName 1) (tb := tLap (XI P w K mg base f c A outer st H E) K C D L') (D := { nx := tRet (tOp (rEqD K) (tVar 3) (tLst (tCons (tC (V.bl true)) (tCons (tC (V.bl true)) tNil)))) { nx := fun x H' => Q V.non H', rt := Q }, rt := Q }) (xs := [.ref g1, .ref g2]) (fun i σ H' => ∃ e1, σ = [some (V.ref l1), e1, some (V.ref a1), some (V.ref l0), none] ∧ Ib (XI P w K mg base f c A outer st H E) K C l0 l1 a1 g1 g2 _ _ H' (List.replicate i (.bl true))) ⟨_, rfl, ib0⟩ (fun i σ H' _ ⟨_, _, ib⟩ => SqL.of ib.ask) (fun i x σ H' hx ⟨e1, hσ, ib⟩ => ?_) (fun σ H' ⟨e1, hσ, ib⟩ => ?_)⟩
    · subst hσ
      have sz : (List.replicate i (V.bl true)).length < sizeLine := by
        have : i < 2 := (List.getElem?_eq_some_iff.mp hx).1
        rw [List.length_replicate]
        exact Nat.lt_trans this (by decide)
      obtain ⟨rfl, rfl⟩ | ⟨rfl, rfl⟩ : (i = 0 ∧ x = .ref g1) ∨ (i = 1 ∧ x = .ref g2) := by
        match i, hx with
        | 0, hx => exact .inl ⟨rfl, (Option.some.inj hx).symm⟩
        | 1, hx => exact .inr ⟨rfl, (Option.some.inj hx).symm⟩
        | n + 2, hx => cases hx
      · refine ⟨g1, _, (fun cls d H'' => cls = .ref D ∧ ∃ dd, d = some dd ∧ H'' dd = some (.xd [("value", .ref a1)]) ∧ Ib (XI P w K mg base f c A outer st H E) K C l0 l1 a1 g1 g2 _ _ H'' (List.replicate 0 (.bl true))), rfl, ib.k1, lap_w R n10 sz (fun H'' z => ⟨_, rfl, z⟩), ?_⟩
        exact ⟨.ref a1, rfl, fun x dx hx hdx ne => refuse_make (anyR ib.low) (.int _) hx hdx ne (.inl ⟨rfl, rfl⟩) (fun d H'' s hd => ⟨rfl, d, rfl, upd_same, (ib.same s).same (same_new hd)⟩)⟩
      · refine ⟨g2, _, (fun cls d H'' => cls = .ref D ∧ ∃ dd, d = some dd ∧ H'' dd = some (.xd [("value", .ref a1)]) ∧ Ib (XI P w K mg base f c A outer st H E) K C l0 l1 a1 g1 g2 _ _ H'' (List.replicate 1 (.bl true))), rfl, ib.k2, lap_w R n10 sz (fun H'' z => ⟨_, rfl, z⟩), ?_⟩
        exact ⟨.ref a1, rfl, fun x dx hx hdx ne => refuse_make (.int _) (anyR ib.low) hx hdx ne (.inr ⟨rfl, rfl, .inl rfl⟩) (fun d H'' s hd => ⟨rfl, d, rfl, upd_same, (ib.same s).same (same_new hd)⟩)⟩
    · subst hσ
      refine ⟨.ref l0, rfl, (by show 2 ≤ sizeLine; decide), fun l5 f5 => ?_⟩
      refine ⟨.list [.bool true, .bool true], .list [.bool true, .bool true], .lst (SqL.of (same_new f5 _ _ ib.cau)) (.cons (.bl true) (.cons (.bl true) .nil)), .lst (SqL.of upd_same) (.cons (.bl true) (.cons (.bl true) .nil)), by decide +kernel, by decide +kernel, ?_⟩
      rw [show PyData.eqv (.list [.bool true, .bool true]) (.list [.bool true, .bool true]) = true by decide +kernel]
      exact k _
end
end Lw
namespace Lw
open PySem PySem.Spec PyProof.Rows L2

open LamX
abbrev sGr : Stmt := top 31
/-- pairs that were drawn: their list at L, each a tuple of its own -/
structure Qs (p L : Addr) (qs : List (Addr × Int × Int)) (H : Hp) : Prop where
  dp : L ≠ p
  ls : H L = some (.lst (qs.map fun q => V.ref q.1))
  it : ∀ q ∈ qs, H q.1 = some (.tup [.int q.2.1, .int q.2.2]) ∧ q.2.1.natAbs ≤ 10 ^ 32 ∧ q.2.2.natAbs ≤ 10 ^ 32 ∧ q.2.2 ≠ 0 ∧ q.1 ≠ p
theorem Qs.kp {p L : Addr} {qs : List (Addr × Int × Int)} {H H' : Hp} (h : Qs p L qs H) (k : Kp p H H') : Qs p L qs H' := ⟨h.dp, k _ _ h.dp h.ls, fun q hq => ⟨k _ _ (h.it q hq).2.2.2.2 (h.it q hq).1, (h.it q hq).2⟩⟩
def lf (q : Addr × Int × Int) : Int × Int := (lov q.2.1 q.2.2, lun q.2.1 q.2.2)
/-- the pair whose number is the greatest, the first of equal ones -/
def bestq (q0 : Addr × Int × Int) (qs : List (Addr × Int × Int)) : Addr × Int × Int := qs.foldl (fun f r => if Lt2 (lf f) (lf r) then r else f) q0
theorem bestq_lf : ∀ (qs : List (Addr × Int × Int)) (q0 : Addr × Int × Int), lf (bestq q0 qs) = best (lf q0) (qs.map lf)
  | [], _ => rfl
  | q :: qs, q0 => by
    unfold bestq best
    rw [List.map_cons, List.foldl_cons, List.foldl_cons]
    have ih := bestq_lf qs (if Lt2 (lf q0) (lf q) then q else q0)
    unfold bestq best at ih
    rw [ih]
    split <;> rfl
theorem bestq_mem : ∀ (qs : List (Addr × Int × Int)) (q0 : Addr × Int × Int), bestq q0 qs ∈ q0 :: qs
  | [], _ => List.mem_cons_self
  | q :: qs, q0 => by
    have ih := bestq_mem qs (if Lt2 (lf q0) (lf q) then q else q0)
    have e : bestq q0 (q :: qs) = bestq (if Lt2 (lf q0) (lf q) then q else q0) qs := rfl
    rw [e]
    rcases List.mem_cons.mp ih with h | h
    · rw [h]
      split
      · exact List.mem_cons_of_mem _ List.mem_cons_self
      · exact List.mem_cons_self
    · exact List.mem_cons_of_mem _ (List.mem_cons_of_mem _ h)
theorem bestq_succ {q0 q : Addr × Int × Int} {qs : List (Addr × Int × Int)} {i : Nat} (e : qs[i]? = some q) : bestq q0 (qs.take (i + 1)) = if Lt2 (lf (bestq q0 (qs.take i))) (lf q) then q else bestq q0 (qs.take i) := by
  unfold bestq
  rw [List.take_add_one, e, List.foldl_append]
  rfl
theorem best_self (n : Int × Int) (ns : List (Int × Int)) : best n (n :: ns) = best n ns := by
  unfold best
  rw [List.foldl_cons, if_neg (show ¬ Lt2 n n from Int.lt_irrefl _)]
theorem cut1 (y : V) (ys : List V) : cutV (y :: ys) (some 1) none = ys := by
  unfold cutV
  rw [show HT.sIx (y :: ys).length 0 (some 1) = 1 from by show min 1 (y :: ys).length = 1; rw [List.length_cons]; omega, show HT.sIx (y :: ys).length (y :: ys).length none = (y :: ys).length from rfl, List.length_cons, List.drop_one, List.tail_cons, Nat.add_sub_cancel, List.take_length]
/-- the numbers of the first pairs, in a list at ln -/
def Nmd (K : PySem.W.Frag) (C p ln : Addr) (qs : List (Addr × Int × Int)) (xs : List V) (H : Hp) : Prop := ln ≠ p ∧ H ln = some (.lst xs) ∧ ∀ (j : Nat) (x : V), xs[j]? = some x → x ≠ .ref p ∧ ∃ q, qs[j]? = some q ∧ NumAt K C H x (lf q).1 (lf q).2
theorem Nmd.kp {K : PySem.W.Frag} {C p ln : Addr} {qs : List (Addr × Int × Int)} {xs : List V} {H H' : Hp} (h : Nmd K C p ln qs xs H) (k : Kp p H H') : Nmd K C p ln qs xs H' := ⟨h.1, k _ _ h.1 h.2.1, fun j x e => by
  obtain ⟨n, q, e1, e2⟩ := h.2.2 j x e
  exact ⟨n, q, e1, Lw.NumAt.kp e2 k n⟩⟩
theorem Nmd.put {K : PySem.W.Frag} {C p ln : Addr} {qs : List (Addr × Int × Int)} {xs : List V} {H : Hp} {x : V} {q : Addr × Int × Int} (h : Nmd K C p ln qs xs H) (nx : x ≠ .ref p) (e : qs[xs.length]? = some q) (na : NumAt K C H x (lf q).1 (lf q).2) :
    Nmd K C p ln qs (xs ++ [x]) (upd H ln (.lst (xs ++ [x]))) := by
  refine ⟨h.1, upd_same, fun j y ey => ?_⟩
  by_cases c : j < xs.length
  · rw [List.getElem?_append_left c] at ey
    obtain ⟨n, q2, e1, e2⟩ := h.2.2 j y ey
    exact ⟨n, q2, e1, e2.upd h.2.1⟩
  · rw [List.getElem?_append_right (by omega)] at ey
    have lt := (List.getElem?_eq_some_iff.mp ey).1
    have e0 : j - xs.length = 0 := by
      have : ([x] : List V).length = 1 := rfl
      omega
    rw [e0] at ey
    have ej : j = xs.length := by omega
    cases ey
    exact ⟨nx, q, by rw [ej]; exact e, na.upd h.2.1⟩
theorem gre_of {K : PySem.W.Frag} {C D p ln a : Addr} {q0 bq : Addr × Int × Int} {rest : List (Addr × Int × Int)} {xs : List V} {G G0 : Hp} {Q : VK} {E : XK} (ha : G a = some (.lst xs) ∨ G a = some (.tup xs)) (lx : xs.length = (q0 :: rest).length) (l5 : xs.length ≤ 5) (nd : Nmd K C p ln (q0 :: rest) xs G0) (s : Kp p G0 G)
    (eb : lf bq = best (lf q0) (rest.map lf)) (k : ∀ b H', Same G H' → RatAt C H' b (lf bq).1 (lf bq).2 → Q (.ref b) H') : spGre K C D [.ref a] G Q E := by
  refine ⟨_, rfl, .inr ⟨a, xs, (q0 :: rest).map lf, rfl, ha, (fun z => by rw [z] at lx; cases lx), (by rw [sizeLine_eq]; omega), fun j n hn => ?_, .inl ⟨by rw [List.length_map, lx], fun b H' n0 u v e0 e1 s1 r1 => k b H' s1 ?_⟩⟩⟩
  · have lt : j < xs.length := by
      have := (List.getElem?_eq_some_iff.mp hn).1
      rw [List.length_map] at this
      omega
    obtain ⟨nx, q, e1, e2⟩ := nd.2.2 j xs[j] (by simp [lt])
    rw [List.getElem?_map, e1] at hn
    cases hn
    exact ⟨xs[j], by simp [lt], Lw.NumAt.kp e2 s nx⟩
  · rw [List.map_cons] at e0 e1
    cases e0
    rw [best_self, ← eb] at e1
    rw [← e1]
    exact r1
def spGr : Sp := fun vs H Q _ => ∃ (p pl : Addr) (n : Nat), vs = [.ref p] ∧ Pen H p pl n ∧ n ≤ 800000 ∧ ∀ H', Pen H' p pl (n + 30) → Kp p H H' → Q (.bl true) H'
section
variable {P : Program} {w : World} {K : PySem.W.Frag} {mg : Str → Option Value} {base : Heap}
abbrev NGr : List Str := ["_law_pen_here", "_law_pairs_so", "_law_best_so", "_law_pair_here", "_law_found", "_law_due", "_law_numbers", "_law_top", "_law_bottom", "_law_lap", "_law_one_so", "_law_two_so"]
theorem scGr : FnScope NGr ["_law_pen_here"] (C8.fnScope sGr) := C8.fnScope_by (by decide +kernel)
theorem cal_gr {f C D fI gG pG : Addr} {fd fdI fdG : FuncData} {ds : List Value} (F : C8.Def K mg "_law_greatest_right" sGr f fd) (b : Binds K fd ["_law_pen_here"] []) (T : Txt mg) (n_tup : mg "tuple" = none) (O : Oks K C) (IC : C8.InsC K C) (cl : Cls K C) (nO : NoAttr K C "over") (nU : NoAttr K C "under")
    (RM : RatM P w K mg base C D fI fdI ds) (GM : GrM P w K mg base C D pG gG fdG) (D1 : C8.Cal P w K mg base 1 "_law_draw" spDraw []) (D3 : C8.Cal P w K mg base 2 "_law_least" spLea []) (D5 : C8.Cal P w K mg base 3 "_law_pair" spPai []) : C8.Cal P w K mg base 10 "_law_greatest_right" spGr [] := by
  refine C8.cal0 F b .nil scGr (fun vs H Q E h => ?_) (fun cdv A outer st H vs Q E hr h => ?_)
  · obtain ⟨p, pl, n, rfl, _⟩ := h
    rfl
  · obtain ⟨p, pl, n, rfl, hp, hn, k⟩ := h
    refine ⟨_, (pss_cons (ps_setLc (i := 1) (own := [("_law_lap", 9)]) (g := gName 9) (tt := tYes) rfl scGr.nd rfl rfl (sw_true rfl rfl rfl (by decide +kernel)) (pi_range1 (by rfl) T.n_range (pa_cons (pe_op op_add pe_int (C8.pe_c D1 hr (by decide) (by rfl) (pa_cons (pv 0) (pa_cons pe_int pa_nil)))) pa_nil)) (blkOk_by (own := [("_law_lap", 9)]) (N := ["_law_pen_here", "_law_pairs_so", "_law_best_so", "_law_pair_here", "_law_found", "_law_due", "_law_numbers", "_law_top", "_law_bottom", "_law_lap", "_law_one_so", "_law_two_so"]) (sc := (C8.fnScope sGr)) (by decide +kernel)) (fun _ _ _ _ _ => pg_name (i := 9) scGr.nd rfl (Or.inl rfl)) (fun _ _ _ _ _ => pts_nil) (fun _ _ _ _ _ => (C8.pe_c D5 hr (by decide) (by rfl) (pa_cons (pv 0) pa_nil))))
  (pss_cons (ps_set (i := 2) scGr.nd rfl (Or.inl rfl) (pe_ix ix_list (pv 1) pe_int (fun _ _ => rfl)))
  (pss_cons (ps_for PassesOwn.never rfl (pi_list (pe_slice sl_list (pv 1) (po_some pe_int) po_none)) (pg_name (i := 3) scGr.nd rfl (Or.inl rfl)) (pss_cons (ps_par (i := 10) (j := 11) rfl scGr.nd rfl rfl (by decide) rfl rfl (pa_cons (C8.pe_c D3 hr (by decide) (by rfl) (pa_cons (pe_ix ix_tup (pv 2) pe_int (fun _ _ => rfl)) (pa_cons (pe_ix ix_tup (pv 2) pe_int (fun _ _ => rfl)) pa_nil))) (pa_cons (C8.pe_c D3 hr (by decide) (by rfl) (pa_cons (pe_ix ix_tup (pv 3) pe_int (fun _ _ => rfl)) (pa_cons (pe_ix ix_tup (pv 3) pe_int (fun _ _ => rfl)) pa_nil))) pa_nil)) (by rfl))
  (pss_one (ps_set (i := 2) scGr.nd rfl (Or.inl rfl) (pe_ifExp (pt_cmpR op_gt (pe_op op_mulW (pe_ix ix_tup (pv 11) pe_int (fun _ _ => rfl)) (pe_ix ix_tup (pv 10) pe_int (fun _ _ => rfl))) (pe_op op_mulW (pe_ix ix_tup (pv 10) pe_int (fun _ _ => rfl)) (pe_ix ix_tup (pv 11) pe_int (fun _ _ => rfl))) (nomark _)) (pv 3) (pv 2))))))
  (pss_cons (ps_par (i := 5) (j := 6) rfl scGr.nd rfl rfl (by decide) rfl rfl (pa_cons (C8.pe_c D3 hr (by decide) (by rfl) (pa_cons (pe_ix ix_tup (pv 2) pe_int (fun _ _ => rfl)) (pa_cons (pe_ix ix_tup (pv 2) pe_int (fun _ _ => rfl)) pa_nil))) (pa_cons (pe_lst pa_nil) pa_nil)) (by rfl))
  (pss_cons (ps_for PassesOwn.never rfl (pi_list (pv 1)) (pg_tup (by rfl) (pgs_cons (pg_name (i := 7) scGr.nd rfl (Or.inl rfl)) (pgs_cons (pg_name (i := 8) scGr.nd rfl (Or.inl rfl)) pgs_nil))) (pss_one (ps_expr (pe_bm PySem.F.plainAttrs_list PySem.F.slot_list_append PySem.F.type_list_append mt_append (pv 6) (pa_cons (pe_ifExp (PW.pt (pw_and (pt_cmpR op_eq (pv 8) pe_int (nomark _)) (pw_and1 (pt_cmpR op_eq (C8.pe_c D1 hr (by decide) (by rfl) (pa_cons (pv 0) (pa_cons pe_int pa_nil))) pe_int (nomark _))))) (pv 7) (pe_make RM.M RM.F (hr.mono (by decide)) (by rfl) RM.hm RM.b2 .nil (passes_call takes0 (fun _ _ _ _ z => z)) (pa_cons (pv 7) (pa_cons (pv 8) pa_nil)))) pa_nil)))))
  (pss_cons (ps_set (i := 4) scGr.nd rfl (Or.inl rfl) (pe_static (pe_glob (v := .ref C) (by rfl) RM.hm rfl) GM.S GM.F (hr.mono (by decide)) GM.b .nil (passes_call takes0 (fun _ _ _ _ z => z)) (pa_cons (pe_ifExp (pt_cmpR op_eq (C8.pe_c D1 hr (by decide) (by rfl) (pa_cons (pv 0) (pa_cons pe_int pa_nil))) pe_int (nomark _)) (pe_callTy call_tuple_of (by rfl) n_tup (by decide +kernel) (pa_cons (pv 6) pa_nil)) (pv 6)) pa_nil)))
  (pss_one (ps_ret (pe_and (pe_callB call_isz (by rfl) T.n_isinstance (by decide +kernel) (pa_cons (pv 4) (pa_cons (pe_glob (v := .ref C) (by rfl) RM.hm rfl) pa_nil))) (pe_one (pe_cmpR (op_eqD hr.units) (pe_lst (pa_cons (pe_fld (pv 4) rfl) (pa_cons (pe_fld (pv 4) rfl) pa_nil))) (pe_lst (pa_cons (pe_ix ix_tup (pv 5) pe_int (fun _ _ => rfl)) (pa_cons (pe_ix ix_tup (pv 5) pe_int (fun _ _ => rfl)) pa_nil))) (nomark _)))))))))))), ?_⟩
    refine ⟨_, rfl, p, pl, n, 5, rfl, by decide, by decide, hp, by omega, fun r H1 r0 r5 hp1 k1 => ⟨_, _, rfl, rfl, _, rfl, by omega, by omega, fun L hL => ?_⟩⟩
    have nLp := hp1.ne_new hL
    have nLl := hp1.ne_new2 hL
    have hL0 : H L = none := by
      cases e : H L with
      | none => rfl
      | some o => rw [k1 _ _ nLp e] at hL; cases hL
    refine lc_range (lo := 0) (n := (1 + r).toNat) (fun i H' => Pen H' p pl (n + 1 + 4 * i) ∧ Kp p H H' ∧ ∃ qs, qs.length = i ∧ Qs p L qs H') ⟨hp1.keep (same_new hL), k1.trans (.of (same_new hL)), [], rfl, nLp, upd_same, fun q hq => by cases hq⟩ (fun i H' hi ⟨hpi, ki, qs, lq, hq⟩ => ?_) (fun H2 ⟨hp2, k2, qs, lq, hq⟩ => ?_)
    · refine ⟨rfl, ?_⟩
      show tCall spPai [] C8.E0 (tCons (tVar 0) tNil) _ H' _
      refine ⟨_, rfl, p, pl, n + 1 + 4 * i, rfl, hpi, by omega, fun t b l H3 m1 m2 b0 hl nl hp3 k3 => ?_⟩
      have hq3 := hq.kp k3
      have lp : l ≠ p := hpi.ne_new nl
      have lL : l ≠ L := fun z => by rw [z, hq.ls] at nl; cases nl
      refine ⟨_, hq3.ls, ?_, hp3.over nLp nLl |>.more (by omega), fun b2 o hb2 e => ?_, qs ++ [(l, t, b)], by rw [List.length_append, lq]; rfl, nLp, ?_, fun q hq' => ?_⟩
      · rw [List.length_map, lq, sizeLine_eq]; omega
      · rw [upd_ne (fun z => by rw [z, hL0] at e; cases e)]
        exact k3 _ _ hb2 (ki _ _ hb2 e)
      · rw [upd_same, List.map_append]; rfl
      · rcases List.mem_append.mp hq' with hq' | hq'
        · obtain ⟨e1, e2, e3, e4, e5⟩ := hq3.it q hq'
          exact ⟨by rw [upd_ne (fun z => by rw [z, hq3.ls] at e1; cases e1)]; exact e1, e2, e3, e4, e5⟩
        · cases List.mem_singleton.mp hq'
          exact ⟨by rw [upd_ne lL]; exact hl, m1, m2, b0, lp⟩
    have lq5 : qs.length ≤ 5 := by omega
    obtain ⟨q0, rest, rfl⟩ : ∃ q0 rest, qs = q0 :: rest := by
      cases qs with
      | nil => rw [List.length_nil] at lq; omega
      | cons q0 rest => exact ⟨q0, rest, rfl⟩
    have hp2 := hp2.more (m := n + 21) (by omega)
    clear lq hp1 k1 hL hL0
    dsimp only [gName, tSeq, tAsg]
    refine ⟨_, rfl, L, _, 0, .ref q0.1, rfl, rfl, SqL.of hq.ls, ?_, ?_⟩
    · show atI _ ((0 : Nat) : Int) = _
      exact atI_nat rfl
    refine ⟨_, rfl, _, rfl, L, _, rfl, SqL.of hq.ls, fun L2 fL2 => ?_⟩
    rw [List.map_cons, cut1]
    have s1 := same_new (o := HO.lst (rest.map fun q => V.ref q.1)) fL2
    have e2 : upd H2 L2 (HO.lst (rest.map fun q => V.ref q.1)) L2 = some (.lst (rest.map fun q => V.ref q.1)) := upd_same
    have nL2 := hp2.ne_new fL2
    generalize upd H2 L2 _ = H3 at s1 e2 ⊢
    have hp3 := hp2.keep s1
    have k3 := k2.trans (.of s1)
    have hq3 := hq.kp (.of s1)
    have qmem : ∀ {i : Nat}, bestq q0 (rest.take i) ∈ q0 :: rest := fun {i} => by
      rcases List.mem_cons.mp (bestq_mem (rest.take i) q0) with h | h
      · rw [h]; exact List.mem_cons_self
      · exact List.mem_cons_of_mem _ (List.mem_of_mem_take h)
    refine ⟨L2, rfl, ⟨_, SqL.of e2⟩, for_list (K := K) (a := L2) (g := gName 3) (xs := rest.map fun q => V.ref q.1) (fun i σ H' => Same H3 H' ∧ ∃ e3 e10 e11, σ = [some (.ref p), some (.ref L), some (.ref (bestq q0 (rest.take i)).1), e3, none, none, none, none, none, none, e10, e11]) ⟨Same.refl _, _, _, _, rfl⟩ (fun i σ H' _ ⟨s2, _⟩ => SqL.of (s2 _ _ e2)) (fun i x σ H' hx ⟨s2, e3, e10, e11, eσ⟩ => ?_) (fun σ H' ⟨s2, e3, e10, e11, eσ⟩ => ?_)⟩
    · subst eσ
      rw [List.getElem?_map] at hx
      obtain ⟨q, eq, rfl⟩ := Option.map_eq_some_iff.mp hx
      have hq' := hq3.kp (.of s2)
      have mq : q ∈ q0 :: rest := List.mem_cons_of_mem _ (List.mem_of_getElem? eq)
      have mb := qmem (i := i)
      generalize hbq : bestq q0 (rest.take i) = bq at mb ⊢
      obtain ⟨b1, b2, b3, b4, b5⟩ := hq'.it bq mb
      obtain ⟨c1, c2, c3, c4, c5⟩ := hq'.it q mq
      refine ⟨_, rfl, bq.1, _, _, _, rfl, rfl, SqT.of b1, rfl, _, rfl, bq.1, _, _, _, rfl, rfl, SqT.of b1, rfl, bq.2.1, bq.2.2, rfl, b4, (mid32 b2).small, (mid32 b3).small, fun l1 f1 => ?_⟩
      have s3 := same_new (o := HO.tup [V.int (lov bq.2.1 bq.2.2), V.int (lun bq.2.1 bq.2.2)]) f1
      have g1 : upd H' l1 (HO.tup [V.int (lov bq.2.1 bq.2.2), V.int (lun bq.2.1 bq.2.2)]) l1 = some (.tup [V.int (lov bq.2.1 bq.2.2), V.int (lun bq.2.1 bq.2.2)]) := upd_same
      generalize upd H' l1 _ = H4 at s3 g1 ⊢
      refine ⟨_, rfl, q.1, _, _, _, rfl, rfl, SqT.of (s3 _ _ c1), rfl, _, rfl, q.1, _, _, _, rfl, rfl, SqT.of (s3 _ _ c1), rfl, q.2.1, q.2.2, rfl, c4, (mid32 c2).small, (mid32 c3).small, fun l2 f2 => ?_⟩
      have s4 := same_new (o := HO.tup [V.int (lov q.2.1 q.2.2), V.int (lun q.2.1 q.2.2)]) f2
      have g2 : upd H4 l2 (HO.tup [V.int (lov q.2.1 q.2.2), V.int (lun q.2.1 q.2.2)]) l2 = some (.tup [V.int (lov q.2.1 q.2.2), V.int (lun q.2.1 q.2.2)]) := upd_same
      generalize upd H4 l2 _ = H5 at s4 g2 ⊢
      have g1 := s4 _ _ g1
      obtain ⟨w1, w2⟩ := le32 b2 b3
      obtain ⟨w3, w4⟩ := le32 c2 c3
      refine ⟨_, _, rfl, ?_⟩
      dsimp only [tSeq, tAsg]
      refine ⟨_, rfl, l2, _, _, _, rfl, rfl, SqT.of g2, rfl, _, rfl, l1, _, _, _, rfl, rfl, SqT.of g1, rfl, _, _, rfl, rfl, mid_mul (mid32 w3) (mid32 w2), ?_⟩
      refine ⟨_, rfl, l1, _, _, _, rfl, rfl, SqT.of g1, rfl, _, rfl, l2, _, _, _, rfl, rfl, SqT.of g2, rfl, _, _, rfl, rfl, mid_mul (mid32 w1) (mid32 w4), _, _, rfl, rfl, _, rfl, ite2 (fun c => ?_) (fun c => ?_)⟩
      · have lt : Lt2 (lf (bestq q0 (rest.take i))) (lf q) := by rw [hbq]; exact of_decide_eq_true c
        refine ⟨_, rfl, (s2.trans s3).trans s4, some (.ref q.1), some (.ref l1), some (.ref l2), ?_⟩
        rw [bestq_succ eq, if_pos lt]
        rfl
      · have lt : ¬ Lt2 (lf (bestq q0 (rest.take i))) (lf q) := by rw [hbq]; exact fun z => c (decide_eq_true z)
        refine ⟨_, rfl, (s2.trans s3).trans s4, some (.ref q.1), some (.ref l1), some (.ref l2), ?_⟩
        rw [bestq_succ eq, if_neg lt, hbq]
        rfl
    subst eσ
    rw [List.length_map, List.take_length]
    have mb : bestq q0 rest ∈ q0 :: rest := bestq_mem rest q0
    have eb := bestq_lf rest q0
    generalize bestq q0 rest = bq at mb eb ⊢
    have hq4 := hq3.kp (.of s2)
    have hp4 := hp3.keep s2
    have k4 := k3.trans (.of s2)
    clear hq3 hp3 k3 s1 s2 e2 hp2 k2 hq qmem fL2 nL2
    dsimp only [tSeq]
    obtain ⟨b1, b2, b3, b4, b5⟩ := hq4.it bq mb
    refine ⟨_, rfl, bq.1, _, _, _, rfl, rfl, SqT.of b1, rfl, _, rfl, bq.1, _, _, _, rfl, rfl, SqT.of b1, rfl, bq.2.1, bq.2.2, rfl, b4, (mid32 b2).small, (mid32 b3).small, fun ld f1 => ?_⟩
    have s3 := same_new (o := HO.tup [V.int (lov bq.2.1 bq.2.2), V.int (lun bq.2.1 bq.2.2)]) f1
    have g1 : upd H' ld (HO.tup [V.int (lov bq.2.1 bq.2.2), V.int (lun bq.2.1 bq.2.2)]) ld = some (.tup [V.int (lov bq.2.1 bq.2.2), V.int (lun bq.2.1 bq.2.2)]) := upd_same
    have ndp := hp4.ne_new f1
    generalize upd H' ld _ = H4 at s3 g1 ⊢
    have hp5 := hp4.keep s3
    refine ⟨(by show 0 ≤ sizeLine; decide), fun ln f2 => ?_⟩
    have s4 := same_new (o := HO.lst []) f2
    have nd5 : Nmd K C p ln (q0 :: rest) [] (upd H4 ln (HO.lst [])) := ⟨hp5.ne_new f2, upd_same, fun j x e => by cases j <;> cases e⟩
    have nlp := hp5.ne_new f2
    have nll := hp5.ne_new2 f2
    have nld : ln ≠ ld := fun z => by rw [z, g1] at f2; cases f2
    have nlL : ln ≠ L := fun z => by rw [z, (hq4.kp (.of s3)).ls] at f2; cases f2
    have nlq : ∀ q ∈ q0 :: rest, q.1 ≠ ln := fun q hq z => by
      have := ((hq4.kp (.of s3)).it q hq).1
      rw [z, f2] at this
      cases this
    have nH : H ln = none := by
      cases e : H ln with
      | none => rfl
      | some o =>
        have z := s3 _ _ (k4 _ _ nlp e)
        rw [z] at f2
        cases f2
    have g1 := s4 _ _ g1
    generalize upd H4 ln (HO.lst []) = H5 at s4 nd5 g1 ⊢
    have hp5 := hp5.keep s4
    have hq5 := (hq4.kp (.of s3)).kp (.of s4)
    have k5 := (k4.trans (.of s3)).trans (.of s4)
    refine ⟨_, _, rfl, ?_⟩
    dsimp only [tSeq]
    refine ⟨_, rfl, L, rfl, ⟨_, SqL.of hq5.ls⟩, for_list (K := K) (a := L) (xs := (q0 :: rest).map fun q => V.ref q.1) (fun i σ H' => Pen H' p pl (n + 21 + i) ∧ Kp p H H' ∧ Qs p L (q0 :: rest) H' ∧ H' ld = some (.tup [V.int (lov bq.2.1 bq.2.2), V.int (lun bq.2.1 bq.2.2)]) ∧ (∃ xs, xs.length = i ∧ Nmd K C p ln (q0 :: rest) xs H') ∧ ∃ e3 e7 e8 e10 e11, σ = [some (.ref p), some (.ref L), some (.ref bq.1), e3, none, some (.ref ld), some (.ref ln), e7, e8, none, e10, e11]) ⟨hp5, k5, hq5, g1, ⟨[], rfl, nd5⟩, _, _, _, _, _, rfl⟩ (fun i σ H' _ ⟨_, _, hq, _⟩ => SqL.of hq.ls) (fun i x σ H6 hx ⟨hp6, k6, hq6, d6, ⟨xs, lx, nd6⟩, e3, e7, e8, e10, e11, eσ⟩ => ?_) (fun σ H6 ⟨hp6, k6, hq6, d6, ⟨xs, lx, nd6⟩, e3, e7, e8, e10, e11, eσ⟩ => ?_)⟩
    · subst eσ
      rw [List.getElem?_map] at hx
      obtain ⟨q, eq, rfl⟩ := Option.map_eq_some_iff.mp hx
      have mq := List.mem_of_getElem? eq
      have hi : i < 5 := Nat.lt_of_lt_of_le (List.getElem?_eq_some_iff.mp eq).1 lq5
      obtain ⟨c1, c2, c3, c4, c5⟩ := hq6.it q mq
      have cc2 := c2
      refine ⟨q.1, _, rfl, SqT.of c1, rfl, _, _, rfl, _, _, rfl, rfl, ?_⟩
      have app : ∀ (x : V) (G : Hp) (e10 e11 : Option V), Pen G p pl (n + 21 + (i + 1)) → Kp p H6 G → x ≠ .ref p → NumAt K C G x (lf q).1 (lf q).2 → ∃ (a : Addr) (ys : List V) (v : V), V.ref ln = .ref a ∧ [x] = [v] ∧ G a = some (.lst ys) ∧ ys.length < sizeLine ∧
          (Pen (upd G a (.lst (ys ++ [v]))) p pl (n + 21 + (i + 1)) ∧ Kp p H (upd G a (.lst (ys ++ [v]))) ∧ Qs p L (q0 :: rest) (upd G a (.lst (ys ++ [v]))) ∧ upd G a (.lst (ys ++ [v])) ld = some (.tup [V.int (lov bq.2.1 bq.2.2), V.int (lun bq.2.1 bq.2.2)]) ∧ (∃ xs, xs.length = i + 1 ∧ Nmd K C p ln (q0 :: rest) xs (upd G a (.lst (ys ++ [v])))) ∧ ∃ f3 f7 f8 f10 f11, [some (V.ref p), some (.ref L), some (.ref bq.1), e3, none, some (.ref ld), some (.ref ln), some (.int q.2.1), some (.int q.2.2), none, e10, e11] = [some (V.ref p), some (.ref L), some (.ref bq.1), f3, none, some (.ref ld), some (.ref ln), f7, f8, none, f10, f11]) := fun x G e10 e11 hpG kG nx na => by
        have ndG := nd6.kp kG
        have hqG := hq6.kp kG
        refine ⟨ln, xs, x, rfl, rfl, ndG.2.1, by rw [lx, sizeLine_eq]; omega, hpG.over nlp nll, fun b o hb e => ?_, ⟨hqG.dp, by rw [upd_ne nlL.symm]; exact hqG.ls, fun z hz => ?_⟩, by rw [upd_ne nld.symm]; exact kG _ _ ndp d6, ⟨xs ++ [x], by rw [List.length_append, lx]; rfl, ndG.put nx (by rw [lx]; exact eq) na⟩, _, _, _, _, _, rfl⟩
        · rw [upd_ne (fun z => by rw [z, nH] at e; cases e)]
          exact kG _ _ hb (k6 _ _ hb e)
        · exact ⟨by rw [upd_ne (nlq z hz)]; exact (hqG.it z hz).1, (hqG.it z hz).2⟩
      have mk : ∀ (G : Hp) (e10 e11 : Option V) (Q7 : VK), Pen G p pl (n + 21 + (i + 1)) → Kp p H6 G → (∀ x G2, Pen G2 p pl (n + 21 + (i + 1)) → Kp p H6 G2 → x ≠ .ref p → NumAt K C G2 x (lf q).1 (lf q).2 → Q7 x G2) →
          tMake C (spRat K C D) [] (fun _ _ _ => False) (tCons (tVar 7) (tCons (tVar 8) tNil)) [some (V.ref p), some (.ref L), some (.ref bq.1), e3, none, some (.ref ld), some (.ref ln), some (.int q.2.1), some (.int q.2.2), none, e10, e11] G Q7 := fun G e10 e11 Q7 hpG kG go => by
        refine ⟨_, rfl, _, rfl, fun y dy hy hdy ne => ?_⟩
        refine makes' (t := q.2.1) (b := q.2.2) c4 (mid32 c2).small (mid32 c3).small hy hdy ne fun H8 s8 r8 => ?_
        exact go (.ref y) H8 (hpG.keep s8) (kG.trans (.of s8)) (fun z => hpG.ne_new hy (V.ref.inj z)) (.rat r8 (lun_pos c4) ((mid32 c2).of (lov_le _ _)) ((mid32 c3).of (lun_le _ _)))
      refine ⟨.ref ln, rfl, .inl ⟨rfl, _, SqL.of nd6.2.1⟩, ?_⟩
      refine ⟨_, rfl, rfl, _, rfl, ite2 (fun c => ?_) (fun c => ?_)⟩
      · have b1 : q.2.2 = 1 := V.int.inj (of_decide_eq_true c)
        refine ⟨_, rfl, p, pl, n + 21 + i, 2, rfl, by decide, by decide, hp6, by omega, fun r H7 r0 r2 hp7 k7 => ⟨rfl, _, rfl, ite2 (fun c2 => ?_) (fun c2 => ?_)⟩⟩
        · refine ⟨_, rfl, app (.int q.2.1) H7 e10 e11 hp7 k7 (by simp) ?_⟩
          have e : lf q = (q.2.1, 1) := by
            unfold lf
            rw [b1, (lov_one _).1, (lov_one _).2]
          rw [e]
          exact .int (mid32 cc2) O.i
        · exact mk H7 e10 e11 _ hp7 k7 (fun x G2 h1 h2 h3 h4 => app x G2 e10 e11 h1 h2 h3 h4)
      · refine iteF ?_
        exact mk H6 e10 e11 _ (hp6.more (by omega)) (fun b o hb e => e) (fun x G2 h1 h2 h3 h4 => app x G2 e10 e11 h1 h2 h3 h4)
    subst eσ
    rw [List.length_map] at lx hp6
    dsimp only [tSeq]
    have fin : ∀ (a : Addr) (G : Hp), Kp p H6 G → Pen G p pl (n + 30) → (G a = some (.lst xs) ∨ G a = some (.tup xs)) → spGre K C D [.ref a] G (fun x H1 => tAndV (tCB (rIsz K) (tCons (tVar 4) (tCons (tC (V.ref C)) tNil))) (tOp (rEqD K) (tLst (tCons (tFld K (tVar 4) "over") (tCons (tFld K (tVar 4) "under") tNil))) (tLst (tCons (tOp (rIxT K) (tVar 5) (tC (V.int 0))) (tCons (tOp (rIxT K) (tVar 5) (tC (V.int 1))) tNil)))) [some (V.ref p), some (.ref L), some (.ref bq.1), e3, some x, some (.ref ld), some (.ref ln), e7, e8, none, e10, e11] H1 Q) (fun _ _ _ => False) := fun a G kG hpG ha => by
      refine gre_of ha lx (by omega) nd6 kG eb fun b H8 s8 r8 => ?_
      have d8 := s8 _ _ (kG _ _ ndp d6)
      obtain ⟨dx, hb⟩ := r8
      refine ⟨_, rfl, .ref b, .ref C, .ref C, .ref C, true, rfl, .own C, .x (.base (.ins hb IC.cl IC.ha IC.hn IC.htk IC.hm)), IC.me, true, rfl, ?_⟩
      rw [if_pos rfl]
      refine ⟨_, rfl, b, C, dx, _, _, rfl, hb, cl, nO, flds_over _ _, _, rfl, b, C, dx, _, _, rfl, hb, cl, nU, flds_under _ _, (by show 2 ≤ sizeLine; decide), fun u1 f1 => ?_⟩
      have t1 := same_new (o := HO.lst ([(lf bq).1, (lf bq).2].map V.int)) f1
      have t2 : upd H8 u1 (HO.lst ([(lf bq).1, (lf bq).2].map V.int)) u1 = some (.lst ([(lf bq).1, (lf bq).2].map V.int)) := upd_same
      refine ⟨_, rfl, ld, _, _, _, rfl, rfl, SqT.of (t1 _ _ d8), rfl, _, rfl, ld, _, _, _, rfl, rfl, SqT.of (t1 _ _ d8), rfl, (by show 2 ≤ sizeLine; decide), fun u2 f2 => ?_⟩
      have t3 := same_new (o := HO.lst ([(lf bq).1, (lf bq).2].map V.int)) f2
      refine ⟨.list ([(lf bq).1, (lf bq).2].map PyData.int), .list ([(lf bq).1, (lf bq).2].map PyData.int), .lst (SqL.of (t3 _ _ t2)) (dp_ints [(lf bq).1, (lf bq).2]), .lst (SqL.of upd_same) (dp_ints [(lf bq).1, (lf bq).2]), shaped_ints [(lf bq).1, (lf bq).2], shaped_ints [(lf bq).1, (lf bq).2], ?_⟩
      rw [SeqAt.eqv_refl _ (SeqAt.canLay_of_shaped (shaped_ints [(lf bq).1, (lf bq).2]))]
      have sall := (s8.trans t1).trans t3
      exact k _ (hpG.keep sall) ((k6.trans kG).trans (.of sall))
    refine ⟨rfl, ?_⟩
    refine ⟨_, rfl, p, pl, n + 21 + (q0 :: rest).length, 2, rfl, by decide, by decide, hp6, by omega, fun r H7 r0 r2 hp7 k7 => ⟨rfl, _, rfl, ite2 (fun c2 => ?_) (fun c2 => ?_)⟩⟩
    · refine ⟨_, rfl, ln, xs, rfl, .inl ⟨SqL.of (nd6.kp k7).2.1, fun l fl => ?_⟩⟩
      have t1 := same_new (o := HO.tup xs) fl
      exact fin l _ (k7.trans (.of t1)) ((hp7.keep t1).more (by omega)) (.inr upd_same)
    · exact ⟨_, rfl, fin ln H7 k7 (hp7.more (by omega)) (.inl (nd6.kp k7).2.1)⟩
end
end Lw
namespace Lw
open PySem PySem.Spec PyProof.Rows L2

open LamX
abbrev sLaw : Stmt := top 32
section
variable {X : Cx} {k j : Nat} {x : Str} {sp : Sp} {dvs : List V} {p pos : Pos}
/-- f(), f a def that is reached by its name -/
theorem pe_g0 (c : CalG X.prog X.w X.K X.mg X.base k x sp dvs) (hG : X.A.guards = some []) (hr : Room j X.A) (hk : k ≤ j) (hg : Gl X x)
    (hdb : (x == ("__debug__" : Str)) = false := by decide) : PE X (.Call (.Name x p) [] [] pos) (tCall sp dvs C8.E0 tNil) := by
  obtain ⟨f, fd, ps, ds, F, hm, kp, b, d⟩ := c.ex
  refine ⟨fun pins s σ H Q I h => ?_⟩
  refine wpAny_Call_Name_kw (ld_glob I hg hm ?_ hdb)
  refine PySem.W.callWith_K0 I.kIn kp ?_
  have q : sp ([] ++ dvs) H Q C8.E0 := h
  have r2 : Vals ([] ++ dvs) ([] ++ ds) := d
  have hl : (([] : List Value) ++ ds).length = ps.length := r2.length.symm.trans (F.len _ _ _ _ q)
  refine wpAny_call (codeAny_mono (F.run X.A X.stack s H ⟨[], []⟩ ([] ++ ds) ([] ++ dvs) Q C8.E0 hG (hr.mono hk) I.env0 (b s [] I.kIn hl) r2 q) fun r s' hq => ?_)
  match r, hq with
  | .error e, hq => exact hq.elim
  | .ok (.ret u), hq => exact I.after hq
  | .ok .next, hq => exact hq.elim
  | .ok .brk, hq => exact hq.elim
  | .ok .cont, hq => exact hq.elim
end
theorem fnG {P : Program} {w : World} {K : PySem.W.Frag} {mg : Str → Option Value} {base : Heap} {x : Str} {st : Stmt} {f : Addr} {fd : FuncData} {N ps : List Str} {k : Nat} {sp : Sp} (F : C8.Fun K x x st f fd) (S : FnScope N ps (C8.fnScope st))
    (len : ∀ vs H Q E, sp vs H Q E → vs.length = ps.length)
    (body : ∀ (cdv : Value) (A : Around) (outer : List Env) (s : Shared) (H : Hp) (vs : List V) (Q : VK) (E : XK), (A.deeper (envOfC x (C8.fnScope st) s.heap.objs.size f cdv)).guards = some [] → Room k (A.deeper (envOfC x (C8.fnScope st) s.heap.objs.size f cdv)) → sp vs H Q E →
      ∃ t, PSs (cxOf C8.CX0 P w K mg base N x (C8.fnScope st) f cdv A outer s H E).nox (C8.fnBody st) t ∧ t { nx := fun _ H' => Q .non H', rt := Q } (start N vs) H) : FnG P w K mg base (k + 1) f fd ps sp := by
  refine ⟨len, ?_⟩
  intro A outer s H args us vs Q E hg hr e0 hb r hs
  obtain ⟨oc, od, dV, kV, doc, pm, an, cdv, ct, osl, rfl, lk, hcd⟩ := F.ex
  refine LamX.run_ofS lk hcd S hr e0 hb r (len _ _ _ _ hs) fun hr' => ?_
  obtain ⟨t, h1, h2⟩ := body cdv A outer s H vs Q E hg hr' hs
  exact ⟨t, h1.nox, h2⟩
theorem Tabs.sub {T T' : List (Addr × Str)} {H : Hp} (t : Tabs T H) (h : ∀ q ∈ T', q ∈ T) : Tabs T' H := fun q hq => t q (h q hq)
def spLaw (K : PySem.W.Frag) (B B2 : Addr) : Sp := fun vs H Q _ => ∃ (a : Addr) (ns : List Int), vs = [.ref a] ∧ SqL K H a (ns.map V.int) ∧ ns.length ≤ 63 ∧ Tabs (tabOf B B2) H ∧ ∀ H', Q (.bl true) H'
section
variable {P : Program} {w : World} {K : PySem.W.Frag} {mg : Str → Option Value} {base : Heap}
theorem scLaw : FnScope ["_law_script", "_law_pen_here", "_law_lap"] ["_law_script"] (C8.fnScope sLaw) := C8.fnScope_by (by decide +kernel)
theorem fn_law {f B B2 C D fI gG pG : Addr} {fd fdI fdG : FuncData} {ds : List Value} (F : C8.Fun K "law" "law" sLaw f fd) (T : Txt mg) (O : Oks K C) (cl : Cls K C) (nO : NoAttr K C "over") (nU : NoAttr K C "under") (RM : RatM P w K mg base C D fI fdI ds)
    (GM : GrM P w K mg base C D pG gG fdG) (kb : ∃ gU : List Value → List Value → List Value, KBn K fdG ["values"] 0 ["values"] gU (fun _ zs => zs)) (D0 : C8.Cal P w K mg base 1 "_law_pen" (spPen K) []) (DM : CalG P w K mg base 10 "_law_made_right" spMad []) (DR : CalG P w K mg base 12 "_law_refused_right" (spRef B B2) [])
    (DG : C8.Cal P w K mg base 10 "_law_greatest_right" spGr []) (DI : CalG P w K mg base 13 "_law_inner_right" (spInn B2) []) : FnG P w K mg base 14 f fd ["_law_script"] (spLaw K B B2) := by
  obtain ⟨gU3, kb3⟩ := kb
  refine fnG F scLaw (fun vs H Q E h => ?_) (fun cdv A outer st H vs Q E hG hr h => ?_)
  · obtain ⟨a, ns, rfl, _⟩ := h
    rfl
  · obtain ⟨a, ns, rfl, hs, hl, ht, k⟩ := h
    refine ⟨_, (pss_cons (ps_set (i := 1) scLaw.nd rfl (Or.inl rfl) (C8.pe_c D0 hr (by decide) (by rfl) (pa_cons (pv 0) pa_nil)))
  (pss_cons (ps_for PassesOwn.never rfl (pi_range1 (by rfl) T.n_range (pa_cons pe_int pa_nil)) (pg_name (i := 2) scLaw.nd rfl (Or.inl rfl)) (pss_one (ps_if (PW.pt (pw_or (pt_not (pt_val (pe_g DM hG hr (by decide) (by rfl) (pa_cons (pv 1) pa_nil)))) (pw_or (pt_not (pt_val (pe_g DR hG hr (by decide) (by rfl) (pa_cons (pv 1) pa_nil)))) (pw_or1 (pt_not (pt_val (C8.pe_c DG hr (by decide) (by rfl) (pa_cons (pv 1) pa_nil)))))))) (pss_one (ps_ret pe_bl)) pss_nil)))
  (pss_cons (ps_if (PW.pt (pw_or (pt_not (pt_val (pe_g0 DI hG hr (by decide) (by rfl)))) (pw_or (pt_cmpR op_ne (pe_fld (pe_static (pe_glob (v := .ref C) (by rfl) RM.hm rfl) GM.S GM.F (hr.mono (by decide)) GM.b .nil (passes_call takes0 (fun _ _ _ _ z => z)) (pa_cons (pe_tup (pa_cons pe_int pa_nil)) pa_nil)) rfl) pe_int (nomark _)) (pw_or1 (pt_cmpR op_ne (pe_fld (pe_staticK (pe_glob (v := .ref C) (by rfl) RM.hm rfl) GM.S GM.F (hr.mono (by decide)) kb3 (passes_call takes0 (fun _ _ _ _ z => z)) (pk_cons (pe_lst (pa_cons pe_int (pa_cons (pe_make RM.M RM.F (hr.mono (by decide)) (by rfl) RM.hm RM.b2 .nil (passes_call takes0 (fun _ _ _ _ z => z)) (pa_cons pe_int (pa_cons pe_int pa_nil))) pa_nil))) pk_nil)) rfl) pe_int (nomark _)))))) (pss_one (ps_ret pe_bl)) pss_nil)
  (pss_one (ps_ret (pe_cmpR (op_eqD hr.units) (pe_lst (pa_cons (pe_fld (pe_make RM.M RM.F (hr.mono (by decide)) (by rfl) RM.hm RM.b2 .nil (passes_call takes0 (fun _ _ _ _ z => z)) (pa_cons pe_int (pa_cons (pe_un un_neg pe_int) pa_nil))) rfl) (pa_cons (pe_fld (pe_make RM.M RM.F (hr.mono (by decide)) (by rfl) RM.hm RM.b2 .nil (passes_call takes0 (fun _ _ _ _ z => z)) (pa_cons pe_int (pa_cons (pe_un un_neg pe_int) pa_nil))) rfl) (pa_cons (pe_fld (pe_make RM.M RM.F (hr.mono (by decide)) (by rfl) RM.hm RM.b2 .nil (passes_call takes0 (fun _ _ _ _ z => z)) (pa_cons pe_int (pa_cons (pe_un un_neg pe_int) pa_nil))) rfl) (pa_cons (pe_fld (pe_make RM.M RM.F (hr.mono (by decide)) (by rfl) RM.hm RM.b2 .nil (passes_call takes0 (fun _ _ _ _ z => z)) (pa_cons pe_int (pa_cons (pe_un un_neg pe_int) pa_nil))) rfl) pa_nil))))) (pe_lst (pa_cons pe_int (pa_cons pe_int (pa_cons (pe_un un_neg pe_int) (pa_cons pe_int pa_nil))))) (nomark _))))))), ?_⟩
    refine ⟨_, rfl, a, ns, rfl, hs, hl, fun p pl H1 hp1 s1 _ => ?_⟩
    have ht1 := ht.ext s1
    refine ⟨_, rfl, by decide, by decide, for_range (fun i σ' H' => ∃ x2, σ' = [some (V.ref a), some (V.ref p), x2] ∧ Pen H' p pl (39 * i) ∧ Tabs (tabOf B B2) H') ⟨_, rfl, hp1, ht1⟩ ?_ ?_⟩
    · rintro i σ1 H2 hi ⟨x2, rfl, hp2, ht2⟩
      have hi9 : i < 8 := hi
      refine ⟨_, rfl, p, pl, 39 * i, rfl, hp2, by omega, fun H3 hp3 k3 => ⟨_, rfl, iteF ?_⟩⟩
      have ht3 := Lw.Tabs.kp ht2 hp2 k3
      refine ⟨_, rfl, p, pl, 39 * i + 4, rfl, hp3, by omega, ht3, fun H4 hp4 ht4 => ⟨_, rfl, iteF ?_⟩⟩
      refine ⟨_, rfl, p, pl, 39 * i + 9, rfl, hp4, by omega, fun H5 hp5 k5 => ⟨_, rfl, iteF ?_⟩⟩
      exact ⟨_, rfl, hp5.more (by omega), Lw.Tabs.kp ht4 hp4 k5⟩
    · rintro σ3 H3 ⟨x2, rfl, hp3, ht3⟩
      dsimp only [tSeq]
      refine ⟨rfl, Lw.Tabs.sub ht3 fun q hq => List.mem_cons_of_mem _ hq, fun H4 => ⟨_, rfl, iteF ?_⟩⟩
      refine ⟨rfl, (by show 1 ≤ sizeLine; decide), fun t ft => ?_⟩
      refine ⟨_, rfl, .inr ⟨t, [.int 1], [(1, 1)], rfl, .inr upd_same, by simp, by decide, fun j n hn => ?_, .inl ⟨rfl, fun b H5 n0 u v e0 e1 s5 r5 => ?_⟩⟩⟩
      · match j, hn with
        | 0, hn => cases hn; exact ⟨_, rfl, .int (ten _ (by decide)) O.i⟩
        | j + 1, hn => cases hn
      cases e0
      rw [show best (1, 1) [((1 : Int), (1 : Int))] = (1, 1) by decide +kernel] at e1
      cases e1
      obtain ⟨d5, h5⟩ := r5
      refine ⟨b, C, d5, _, _, rfl, h5, cl, nO, flds_over _ _, rfl, _, rfl, iteF ?_⟩
      refine ⟨rfl, fun y dy hy hdy ne => ?_⟩
      refine makes' (t := 5) (b := 2) (by decide) (ten _ (by decide)).small (ten _ (by decide)).small hy hdy ne fun H6 s6 r6 => ?_
      refine ⟨(by show 2 ≤ sizeLine; decide), fun l fl => ⟨rfl, ?_⟩⟩
      have s7 := same_new (o := HO.lst [V.int 2, V.ref y]) fl
      refine ⟨_, rfl, .inr ⟨l, [.int 2, .ref y], [(2, 1), (lov 5 2, lun 5 2)], rfl, .inl upd_same, by simp, (by show 2 < sizeLine; decide), fun j n hn => ?_, .inl ⟨rfl, fun b2 H8 n0 u v e0 e1 s8 r8 => ?_⟩⟩⟩
      · match j, hn with
        | 0, hn => cases hn; exact ⟨_, rfl, .int (ten _ (by decide)) O.i⟩
        | 1, hn => cases hn; exact ⟨_, rfl, .rat (r6.same s7) (lun_pos (by decide)) (ten _ (by decide +kernel)) (ten _ (by decide +kernel))⟩
        | j + 2, hn => cases hn
      cases e0
      rw [show best (2, 1) [((2 : Int), (1 : Int)), (lov 5 2, lun 5 2)] = (5, 2) by decide +kernel] at e1
      cases e1
      obtain ⟨d8, h8⟩ := r8
      refine ⟨b2, C, d8, _, _, rfl, h8, cl, nU, flds_under _ _, rfl, _, rfl, iteF ?_⟩
      dsimp only [tNext]
      refine ⟨7, rfl, fun y1 z1 hy1 hz1 n1 => ?_⟩
      refine makes' (t := 0) (b := -7) (by decide) (ten _ (by decide)).small (ten _ (by decide)).small hy1 hz1 n1 fun G1 t1 r1 => ?_
      obtain ⟨w1, h1'⟩ := r1
      refine ⟨y1, C, w1, _, _, rfl, h1', cl, nO, flds_over _ _, 7, rfl, fun y2 z2 hy2 hz2 n2 => ?_⟩
      refine makes' (t := 0) (b := -7) (by decide) (ten _ (by decide)).small (ten _ (by decide)).small hy2 hz2 n2 fun G2 t2 r2 => ?_
      obtain ⟨w2, h2'⟩ := r2
      refine ⟨y2, C, w2, _, _, rfl, h2', cl, nU, flds_under _ _, 4, rfl, fun y3 z3 hy3 hz3 n3 => ?_⟩
      refine makes' (t := 6) (b := -4) (by decide) (ten _ (by decide)).small (ten _ (by decide)).small hy3 hz3 n3 fun G3 t3 r3 => ?_
      obtain ⟨w3, h3'⟩ := r3
      refine ⟨y3, C, w3, _, _, rfl, h3', cl, nO, flds_over _ _, 4, rfl, fun y4 z4 hy4 hz4 n4 => ?_⟩
      refine makes' (t := 6) (b := -4) (by decide) (ten _ (by decide)).small (ten _ (by decide)).small hy4 hz4 n4 fun G4 t4 r4 => ?_
      obtain ⟨w4, h4'⟩ := r4
      refine ⟨y4, C, w4, _, _, rfl, h4', cl, nU, flds_under _ _, (by show 4 ≤ sizeLine; decide), fun u1 f1 => ?_⟩
      rw [show lov 0 (-7) = 0 by decide +kernel, show lun 0 (-7) = 1 by decide +kernel, show lov 6 (-4) = -3 by decide +kernel, show lun 6 (-4) = 2 by decide +kernel] at *
      have q1 : upd G4 u1 (HO.lst ([0, 1, -3, 2].map V.int)) u1 = some (.lst ([0, 1, -3, 2].map V.int)) := upd_same
      change tLst _ _ (upd G4 u1 (HO.lst ([0, 1, -3, 2].map V.int))) _
      refine ⟨3, rfl, (by show 4 ≤ sizeLine; decide), fun u2 f2 => ?_⟩
      have t5 := same_new (o := HO.lst ([0, 1, -3, 2].map V.int)) f2
      refine ⟨.list ([0, 1, -3, 2].map PyData.int), .list ([0, 1, -3, 2].map PyData.int), .lst (SqL.of (t5 _ _ q1)) (dp_ints [0, 1, -3, 2]), .lst (SqL.of upd_same) (dp_ints [0, 1, -3, 2]), shaped_ints [0, 1, -3, 2], shaped_ints [0, 1, -3, 2], ?_⟩
      rw [SeqAt.eqv_refl _ (SeqAt.canLay_of_shaped (shaped_ints [0, 1, -3, 2]))]
      exact k _
end
end Lw
namespace Lw
open PySem PySem.Spec PyProof.Rows L2

open LamX
/-! ### the call of the law where nothing is being shown, with tables of code objects -/
/-- what is tracked when the law is entered: the tables, and the script unless it is written -/
def Entry (K : PySem.W.Frag) (h : Heap) (a : Addr) (Bs : List Addr) (ns : List Int) (H : Hp) : Prop :=
  (∀ B ∈ Bs, H B = some (.tbl #[])) ∧ SqL K H a (ns.map V.int) ∧ (∀ b u, H b = some u → (b ∈ Bs ∧ u = .tbl #[]) ∨ (b = a ∧ K.lookup a = none ∧ ∃ o xs, u = .frz o (.lst xs) ∧ h.get? a = some o))
theorem entry {P : Program} {w : World} {K : PySem.W.Frag} {h : Heap} {a : Addr} {Bs : List Addr} {vs : List Value} {ns : List Int} (KX : K.In h) (hT : ∀ B ∈ Bs, h.get? B = some { cls := .none, data := .fields #[] }) (ha : h.get? a = some { cls := .type "list", data := .seq vs.toArray }) (hi : IntsAre vs ns) (hl : ns.length ≤ sizeLine) :
    a ∉ Bs ∧ ∃ H, Entry K h a Bs ns H ∧ HOk P w H h := by
  have rv := vals_ints hi
  have lv := hi.length
  have ne : a ∉ Bs := fun e => by
    have hT := hT a e
    rw [ha] at hT
    have z : Data.seq vs.toArray _ = Data.fields #[] := congrArg Obj.data (Option.some.inj hT)
    cases z
  refine ⟨ne, ?_⟩
  cases hk : K.lookup a with
  | some o =>
    have e := KX a o hk
    rw [ha] at e
    cases e
    refine ⟨fun b => if b ∈ Bs then some (.tbl #[]) else none, ⟨fun B hB => if_pos hB, .inr ⟨_, vs.toArray, _, hk, rfl, rfl, rfl, by rw [List.size_toArray, lv]; exact hl, by simpa using rv⟩, fun b u z => ?_⟩, fun b u z => ?_⟩
    · by_cases q : b ∈ Bs
      · exact .inl ⟨q, (Option.some.inj ((if_pos q).symm.trans z)).symm⟩
      · cases (if_neg q).symm.trans z
    · by_cases q : b ∈ Bs
      · cases (if_pos q).symm.trans z
        exact hT b q
      · cases (if_neg q).symm.trans z
  | none =>
    refine ⟨fun b => if b ∈ Bs then some (.tbl #[]) else if b = a then some (.frz { cls := .type "list", data := .seq vs.toArray } (.lst (ns.map V.int))) else none,
      ⟨fun B hB => if_pos hB, .inl (.inr ⟨_, (if_neg ne).trans (if_pos rfl)⟩), fun b u z => ?_⟩, fun b u z => ?_⟩
    · by_cases q : b ∈ Bs
      · exact .inl ⟨q, (Option.some.inj ((if_pos q).symm.trans z)).symm⟩
      · have z2 := (if_neg q).symm.trans z
        by_cases q2 : b = a
        · exact .inr ⟨q2, hk, _, _, (Option.some.inj ((if_pos q2).symm.trans z2)).symm, ha⟩
        · cases (if_neg q2).symm.trans z2
    · by_cases q : b ∈ Bs
      · cases (if_pos q).symm.trans z
        exact hT b q
      · have z2 := (if_neg q).symm.trans z
        by_cases q2 : b = a
        · cases (if_pos q2).symm.trans z2
          rw [q2]
          exact ⟨ha, by rw [List.length_map]; exact hl, vs, _, rv, ha⟩
        · cases (if_neg q2).symm.trans z2
theorem law_end {P : Program} {w : World} {K : PySem.W.Frag} {mg mb : Str → Option Value} {k : Nat} {fa a : Addr} {Bs : List Addr} {fd : FuncData} {x : Str} {sp : Sp} {s₁ : Shared} {vs : List Value} {ns : List Int}
    (KX : K.In s₁.heap) (hns : s₁.heap.Ns mainGlobals mg) (hb : s₁.heap.Ns builtinsNs mb) (hbb : ∀ x : Str, x ≠ "__name__" → mb x = bootBuiltins x) (hlim : s₁.heap.NoLimit) (hg : s₁.gens = #[])
    (hT : ∀ B ∈ Bs, s₁.heap.get? B = some { cls := .none, data := .fields #[] }) (nT : ∀ B ∈ Bs, K.lookup B = none) (C : ∀ B ∈ Bs, ∃ c, PySem.W.CodeHd s₁.heap c B)
    (hbm : ∃ (bm : Addr) (ob : Obj), mg "__builtins__" = some (.ref bm) ∧ bm ≠ builtinsNs ∧ s₁.heap.get? bm = some ob ∧ ob.cls = .type "module" ∧ ob.dict = some builtinsNs ∧ ob.data = .plain)
    (ha : s₁.heap.get? a = some { cls := .type "list", data := .seq vs.toArray }) (hi : IntsAre vs ns) (hl : ns.length ≤ sizeLine) (hr : Room k callerA)
    (F : ∀ base : Heap, K.In base → base.Ns mainGlobals mg → (∀ B ∈ Bs, ∀ c, PySem.W.CodeHd s₁.heap c B → TabB base mg c B) → FnG P w K mg base k fa fd [x] sp) (hbind : ∀ (s : Shared) (u : Value), BindsTo s fd ⟨[u], []⟩ [(x, u)])
    (hsp : ∀ H : Hp, (∀ B ∈ Bs, H B = some (.tbl #[])) → SqL K H a (ns.map V.int) → sp [.ref a] H (fun v _ => v = .bl true) C8.E0) :
    codeAny (model P w) callerA (.call (.ref fa) ⟨[.ref a], []⟩) (fun r s' => r = .ok (.ret (.bool true)) ∧ OldK s₁.heap s'.heap ∧ s'.os = s₁.os ∧ AllBare s'.gens) s₁ := by
  obtain ⟨ne, H, ⟨hB, hS, hA⟩, hok⟩ := entry (P := P) (w := w) KX hT ha hi hl
  -- what is neither a table nor the script is untracked
  have free : ∀ {b : Addr} {o : Obj}, s₁.heap.get? b = some o → (∀ vs n, o.data ≠ .seq vs n) → o.data ≠ .fields #[] → H b = none := fun {b o} e h1 h2 => by
    cases q : H b with
    | none => rfl
    | some u =>
      rcases hA b u q with ⟨e', _⟩ | ⟨e', _⟩
      · rw [hT b e'] at e
        cases e
        exact absurd rfl h2
      · rw [e', ha] at e
        cases e
        exact absurd rfl (h1 _ _)
  have through : ∀ {b : Addr} {o : Obj}, s₁.heap.get? b = some o → H b = none → (hidT s₁.heap H).get? b = some o := fun e n => hidT_get e n
  have nsT : ∀ {b : Addr} {m : Str → Option Value}, s₁.heap.Ns b m → (hidT s₁.heap H).Ns b m := fun {b m} ⟨o, es, ep, e, d, r⟩ => by
    refine ⟨o, es, ep, through e (free e (fun vs n z => ?_) fun z => ?_), d, r⟩ <;> · rw [d] at z; cases z
  have inT : K.In (hidT s₁.heap H) := fun b o e => by
    refine through (KX b o e) ?_
    cases q : H b with
    | none => rfl
    | some u =>
      rcases hA b u q with ⟨e', _⟩ | ⟨e', n, _⟩
      · rw [nT b e'] at e; cases e
      · rw [e', n] at e; cases e
  have modT : L2.Mod K mg (hidT s₁.heap H) := by
    obtain ⟨mc, h1, h2⟩ := hlim
    exact ⟨inT, nsT hns, ⟨mb, nsT hb, hbb⟩, ⟨mc, nsT h1, h2⟩⟩
  have tabT : ∀ B ∈ Bs, ∀ c, PySem.W.CodeHd s₁.heap c B → TabB (hidT s₁.heap H) mg c B := fun B hBs c C => by
    refine ⟨?_, ?_, fun z => ?_⟩
    · obtain ⟨o, us, file, tf, flags, tg, inF, text, tt, e1, r1, r2, r3, r4⟩ := C
      refine ⟨o, us, file, tf, flags, tg, inF, text, tt, through e1 (free e1 (fun vs n z => ?_) fun z => ?_), r1, r2, r3, r4⟩
      · rw [r2] at z; cases z
      · rw [r2] at z; cases z
        simp at r3
    · obtain ⟨bm, ob, b1, b2, b3, b4, b5, b6⟩ := hbm
      refine ⟨bm, ob, b1, b2, fun q => ?_, fun q => ?_, through b3 (free b3 (fun vs n z => ?_) fun z => ?_), b4, b5, b6⟩
      · obtain ⟨o, es, ep, e, d, _⟩ := hns
        rw [q, e] at b3
        cases b3
        rw [d] at b6
        cases b6
      · rw [q, hT B hBs] at b3
        cases b3
        cases b6
      · rw [b6] at z; cases z
      · rw [b6] at z; cases z
    · obtain ⟨o, es, ep, e, d, _⟩ := hns
      rw [z, hT B hBs] at e
      cases e
      cases d
  have e0 : Env0 P w K mg (hidT s₁.heap H) callerA [] s₁ H := ⟨rfl, modT, fun b o e => of_hidT e, Nat.le_of_eq (hidT_size _ _), trivial, fun b hb => absurd (show b ∈ ([] : List Addr) from hb) (by simp), hok, .of_eq hg⟩
  refine codeAny_mono ((F _ inT (nsT hns) tabT).run callerA [] s₁ H ⟨[.ref a], []⟩ [.ref a] [.ref a] _ _ rfl hr e0 (hbind s₁ (.ref a)) (.cons rfl .nil) (hsp H hB hS)) fun r s' q => ?_
  match r, q with
  | .error e, q => exact (show False from q).elim
  | .ok .next, q => exact (show False from q).elim
  | .ok .brk, q => exact (show False from q).elim
  | .ok .cont, q => exact (show False from q).elim
  | .ok (.ret u), q =>
    obtain ⟨v, H', os, bare, un, hok', r', qv⟩ := q
    have qv' : v = .bl true := qv
    subst qv'
    obtain rfl : u = Value.bool true := r'
    have same : ∀ b o, b ∉ Bs → s₁.heap.get? b = some o → s'.heap.get? b = some o := fun b o nb e => by
      cases q : H b with
      | none => exact un.keep b o e q (by intro z; exact absurd (show b ∈ ([] : List Addr) from z) (by simp)) (by simp)
      | some u =>
        rcases hA b u q with ⟨z, _⟩ | ⟨e', _, ob, xs, rfl, hob⟩
        · exact absurd z nb
        · obtain ⟨e2, _⟩ := hok' b _ (un.frzs b ob _ q)
          rw [e', hob] at e
          cases e
          exact e2
    refine ⟨rfl, ⟨fun b o e => ?_, fun b o e => ?_⟩, os, bare⟩
    · by_cases hb : b ∈ Bs
      · obtain ⟨more, hmore⟩ := un.tbls b #[] (hB b hb)
        have atB := hok' b _ hmore
        obtain ⟨c, C⟩ := C b hb
        have hT := hT b hb
        rw [hT] at e
        cases e
        exact .inr (.inl ⟨(C.tab hT).isCodeTable, rfl, #[], _, rfl, atB⟩)
      · exact .inl (same b o hb e)
    · by_cases hb : b ∈ Bs
      · obtain ⟨more, hmore⟩ := un.tbls b #[] (hB b hb)
        exact ⟨_, hok' b _ hmore⟩
      · exact ⟨o, same b o hb e⟩
theorem tabIn_of {K : PySem.W.Frag} {x : Str} {f c B : Addr} {oc occ : Value} {od odc : Option Addr} {fd : FuncData} {sl slc : Array (Option Value)} {us : Array Value} (h1 : PySem.W.nsIn K mainGlobals x = some (some (.ref f))) (h2 : K.lookup f = some ⟨oc, od, .func fd, sl⟩) (hc : fd.code = .ref c)
    (h3 : K.lookup c = some ⟨occ, odc, .fields us, slc⟩) (h4 : us[11]? = some (.ref B)) : PySem.W.tabIn K x = some (c, B) := by
  unfold PySem.W.tabIn
  rw [h1]
  dsimp only
  rw [h2]
  dsimp only
  rw [hc]
  dsimp only
  rw [h3]
  dsimp only
  rw [h4]
theorem walk_end {l : PySem.W.OpenLaw} {n k : Nat} {q : Program} {loose : List Str} {XP : (Str → Option Value) → Heap → Prop} {YP : World → Heap → Prop} {d : DefRec} {K : Params → PySem.W.Frag} {x : Str} {xt xt2 : Str}
    (hn : l.most = some n) (hn2 : n ≤ 63) (hdf : d.params.defaults = []) (hr : Room k callerA) (hY : ∀ (w : World) (h : Heap), YP w h → (K w.params).In h) (hrec : ((recsOf q).find? fun e => e.name == xt).isSome = true) (hrec2 : ((recsOf q).find? fun e => e.name == xt2).isSome = true)
    (F : ∀ (w : World) (mg : Str → Option Value) (fa : Addr) (h : Heap), (K w.params).In h → h.Ns mainGlobals mg → mg d.name = some (.ref fa) → ∃ (fd : FuncData) (c B c2 B2 : Addr), PySem.W.tabIn (K w.params) xt = some (c, B) ∧ (K w.params).lookup B = none ∧ PySem.W.tabIn (K w.params) xt2 = some (c2, B2) ∧ (K w.params).lookup B2 = none ∧ (∀ (s : Shared) (u : Value), BindsTo s fd ⟨[u], []⟩ [(x, u)]) ∧
      ∀ base : Heap, (K w.params).In base → base.Ns mainGlobals mg → TabB base mg c B → TabB base mg c2 B2 → FnG l.prog w (K w.params) mg base k fa fd [x] (spLaw (K w.params) B B2)) :
    PySem.W.WalkO q loose XP YP l.row.toRowW d [] (fun f vs => PySem.call f vs) := by
  refine Att.attach_callB hn hdf fun w s₀ s₁ mg mb fa o pm cd doc a vs ns G Y ho hd hcd hmg hobj hints hlen hbits hg => ?_
  have KX := hY w _ Y
  obtain ⟨fd, c, B, c2, B2, ht, nT, ht2, nT2, hb, hF⟩ := F w mg fa _ KX G.T.g hmg
  obtain ⟨dr, hdr⟩ := Option.isSome_iff_exists.mp hrec
  obtain ⟨dr2, hdr2⟩ := Option.isSome_iff_exists.mp hrec2
  obtain ⟨hC, hT⟩ := PySem.W.tab_of G.T KX hdr ht
  obtain ⟨hC2, hT2⟩ := PySem.W.tab_of G.T KX hdr2 ht2
  have two : ∀ {p : Addr → Prop}, p B → p B2 → ∀ b ∈ [B, B2], p b := fun {p} h1 h2 b hb => by
    rcases List.mem_cons.mp hb with rfl | hb
    · exact h1
    · rw [List.mem_singleton.mp hb]; exact h2
  exact law_end (Bs := [B, B2]) KX G.T.g G.T.b G.T.builtins G.T.nolimit hg (two hT hT2) (two nT nT2) (two ⟨_, hC⟩ ⟨_, hC2⟩) G.T.bmain hobj hints (Nat.le_trans (Nat.le_trans hlen hn2) (by decide)) hr
    (fun base kin ns tb => hF base kin ns (tb B List.mem_cons_self c hC) (tb B2 (List.mem_cons_of_mem _ List.mem_cons_self) c2 hC2)) hb fun H hB hS =>
    ⟨a, ns, rfl, hS, Nat.le_trans hlen hn2, fun p hp => (by
      rcases List.mem_cons.mp hp with rfl | hp
      · exact TabS.nil (hB B List.mem_cons_self)
      · rw [List.mem_singleton.mp hp]; exact TabS.nil (hB B2 (List.mem_cons_of_mem _ List.mem_cons_self))), fun _ => rfl⟩
end Lw
namespace Lw
open PySem PySem.Spec PyProof.Rows L2

open LamX

theorem kwG_rel {vs zs : List V} {us ws : List Value} (r1 : Vals vs us) (r3 : Vals zs ws) : Vals (kwG vs zs) (kwG us ws) := by
  cases r3 with
  | nil => exact r1
  | cons h1 t1 =>
    cases t1 with
    | nil => exact r1
    | cons h2 t2 =>
      cases t2 with
      | nil => exact r1.append (.cons h2 (.cons h1 .nil))
      | cons h3 t3 => exact r1
/-- no defaults, keywords alone -/
theorem kb_none {K : PySem.W.Frag} {x q : Str} {st : Stmt} {f : Addr} {fd : FuncData} {ps : List Str} (F : C8.Fun K x q st f fd) (df : fd.defaults = .none) (hp : ps.length = 1) (h : ∀ (kV doc pm : Value) (an : Option Addr) (cdv ct : Value) (ws : List Value), ws.length = 1 → bindArgs (PySem.W.fnOf x q (C8.fnArgs st) (C8.fnBody st) (C8.fnScope st) .none kV doc pm an cdv ct) ⟨[], ps.zip ws⟩ = pure (ps.zip ws)) :
    KBn K fd ps 0 ps (fun _ ws => ws) (fun _ zs => zs) := by
  obtain ⟨oc, od, dV, kV, doc, pm, an, cdv, ct, osl, rfl, lk, hcd⟩ := F.ex
  have e : dV = .none := df
  subst e
  refine ⟨fun s us ws X h1 h2 => ?_, fun _ r => r⟩
  match us, h1 with
  | [], _ => exact .of_eq (h kV doc pm an cdv ct ws (h2.trans hp))
theorem MetX.up {P : Program} {w : World} {K : PySem.W.Frag} {mg : Str → Option Value} {base : Heap} {k j : Nat} {C : Addr} {m : Str} {sp : Sp} (M : MetX P w K mg base k C m sp) (h : k ≤ j) : MetX P w K mg base j C m sp := by
  obtain ⟨g, fd, ps, h1, F, h3⟩ := M.ex
  exact ⟨g, fd, ps, h1, F.mono h, h3⟩
theorem all_known {l : PySem.W.OpenLaw} {w : World} {K : PySem.W.Frag} {h : Heap} {mg : Str → Option Value} {fa : Addr} (X : K.In h) (G : h.Ns mainGlobals mg) (hfa : mg "law" = some (.ref fa))
    {C : Addr}
    {fii : Addr} {ocii kVii dcii pmii ctii cdii : Value} {odii anii : Option Addr} {slii : Array (Option Value)}
    {flp : Addr} {oclp kVlp dclp pmlp ctlp cdlp : Value} {odlp anlp : Option Addr} {sllp : Array (Option Value)}
    {fld : Addr} {ocld kVld dcld pmld ctld cdld : Value} {odld anld : Option Addr} {slld : Array (Option Value)}
    {flk : Addr} {oclk kVlk dclk pmlk ctlk cdlk : Value} {odlk anlk : Option Addr} {sllk : Array (Option Value)}
    {flc : Addr} {oclc kVlc dclc pmlc ctlc cdlc : Value} {odlc anlc : Option Addr} {sllc : Array (Option Value)}
    {fll : Addr} {ocll kVll dcll pmll ctll cdll : Value} {odll anll : Option Addr} {slll : Array (Option Value)}
    {flq : Addr} {oclq kVlq dclq pmlq ctlq cdlq : Value} {odlq anlq : Option Addr} {sllq : Array (Option Value)}
    {flh : Addr} {oclh kVlh dclh pmlh ctlh cdlh : Value} {odlh anlh : Option Addr} {sllh : Array (Option Value)}
    {flo : Addr} {oclo kVlo dclo pmlo ctlo cdlo : Value} {odlo anlo : Option Addr} {sllo : Array (Option Value)}
    {flm : Addr} {oclm kVlm dclm pmlm ctlm cdlm : Value} {odlm anlm : Option Addr} {sllm : Array (Option Value)}
    {flg : Addr} {oclg kVlg dclg pmlg ctlg cdlg : Value} {odlg anlg : Option Addr} {sllg : Array (Option Value)}
    {flt : Addr} {oclt kVlt dclt pmlt ctlt : Value} {odlt anlt : Option Addr} {sllt : Array (Option Value)}
    {flb : Addr} {oclb kVlb dclb pmlb ctlb : Value} {odlb anlb : Option Addr} {sllb : Array (Option Value)}
    {fla : Addr} {ocla kVla dcla pmla ctla cdla : Value} {odla anla : Option Addr} {slla : Array (Option Value)}
    {fmo : Addr} {ocmo kVmo dcmo pmmo ctmo cdmo : Value} {odmo anmo : Option Addr} {slmo : Array (Option Value)}
    {fmr : Addr} {ocmr kVmr dcmr pmmr ctmr cdmr : Value} {odmr anmr : Option Addr} {slmr : Array (Option Value)}
    {fml : Addr} {ocml kVml dcml pmml ctml cdml : Value} {odml anml : Option Addr} {slml : Array (Option Value)}
    {fme : Addr} {ocme kVme dcme pmme ctme cdme : Value} {odme anme : Option Addr} {slme : Array (Option Value)}
    {pO : Addr} {mcC : Value} {restO : List Value}
    {pG : Addr} {restG : List Value}
    {fI Td : Addr} {ocI kVI dcI pmI cdI ctI ocD : Value} {odI anI odD : Option Addr} {slI slD : Array (Option Value)} {tD : Tok} {nD : Nat}
    {D L fE : Addr} {ocE kVE dcE pmE cdE ctE : Value} {odE anE : Option Addr} {slE : Array (Option Value)} {nmD qD : Str} {ND : Addr} {bsD bmD : List Value} {snD : List Str} {subD : List Value} {abD : Bool} {colD : Option Bool} {ddD : Option Addr} {e0 e1 e2 e3 e5 : Option Value}
    {cT B : Addr} {ocT : Value} {odT : Option Addr} {usT : Array Value} {slT : Array (Option Value)}
    {cU B2 : Addr} {ocU : Value} {odU : Option Addr} {usU : Array Value} {slU : Array (Option Value)}
    (aii : PySem.W.nsIn K mainGlobals "is_integer" = some (some (.ref fii)))
    (lii : K.lookup fii = some ⟨ocii, odii, .func (PySem.W.fnOf "is_integer" "is_integer" (C8.fnArgs sIsInt) (C8.fnBody sIsInt) (C8.fnScope sIsInt) .none kVii dcii pmii anii cdii ctii), slii⟩)
    (cii : PySem.W.codeIn K cdii "is_integer" = true)
    (kii : PySem.W.keepIn K (.ref fii) = true)
    (alp : PySem.W.nsIn K mainGlobals "_law_pen" = some (some (.ref flp)))
    (llp : K.lookup flp = some ⟨oclp, odlp, .func (PySem.W.fnOf "_law_pen" "_law_pen" (C8.fnArgs sPen) (C8.fnBody sPen) (C8.fnScope sPen) .none kVlp dclp pmlp anlp cdlp ctlp), sllp⟩)
    (clp : PySem.W.codeIn K cdlp "_law_pen" = true)
    (klp : PySem.W.keepIn K (.ref flp) = true)
    (ald : PySem.W.nsIn K mainGlobals "_law_draw" = some (some (.ref fld)))
    (lld : K.lookup fld = some ⟨ocld, odld, .func (PySem.W.fnOf "_law_draw" "_law_draw" (C8.fnArgs sDraw) (C8.fnBody sDraw) (C8.fnScope sDraw) .none kVld dcld pmld anld cdld ctld), slld⟩)
    (cld : PySem.W.codeIn K cdld "_law_draw" = true)
    (kld : PySem.W.keepIn K (.ref fld) = true)
    (alk : PySem.W.nsIn K mainGlobals "_law_pick" = some (some (.ref flk)))
    (llk : K.lookup flk = some ⟨oclk, odlk, .func (PySem.W.fnOf "_law_pick" "_law_pick" (C8.fnArgs sPick) (C8.fnBody sPick) (C8.fnScope sPick) .none kVlk dclk pmlk anlk cdlk ctlk), sllk⟩)
    (clk : PySem.W.codeIn K cdlk "_law_pick" = true)
    (klk : PySem.W.keepIn K (.ref flk) = true)
    (alc : PySem.W.nsIn K mainGlobals "_law_common" = some (some (.ref flc)))
    (llc : K.lookup flc = some ⟨oclc, odlc, .func (PySem.W.fnOf "_law_common" "_law_common" (C8.fnArgs sCom) (C8.fnBody sCom) (C8.fnScope sCom) .none kVlc dclc pmlc anlc cdlc ctlc), sllc⟩)
    (clc : PySem.W.codeIn K cdlc "_law_common" = true)
    (klc : PySem.W.keepIn K (.ref flc) = true)
    (all : PySem.W.nsIn K mainGlobals "_law_least" = some (some (.ref fll)))
    (lll : K.lookup fll = some ⟨ocll, odll, .func (PySem.W.fnOf "_law_least" "_law_least" (C8.fnArgs sLea) (C8.fnBody sLea) (C8.fnScope sLea) .none kVll dcll pmll anll cdll ctll), slll⟩)
    (cll : PySem.W.codeIn K cdll "_law_least" = true)
    (kll : PySem.W.keepIn K (.ref fll) = true)
    (alq : PySem.W.nsIn K mainGlobals "_law_pair" = some (some (.ref flq)))
    (llq : K.lookup flq = some ⟨oclq, odlq, .func (PySem.W.fnOf "_law_pair" "_law_pair" (C8.fnArgs sPai) (C8.fnBody sPai) (C8.fnScope sPai) .none kVlq dclq pmlq anlq cdlq ctlq), sllq⟩)
    (clq : PySem.W.codeIn K cdlq "_law_pair" = true)
    (klq : PySem.W.keepIn K (.ref flq) = true)
    (alh : PySem.W.nsIn K mainGlobals "_law_heard" = some (some (.ref flh)))
    (llh : K.lookup flh = some ⟨oclh, odlh, .func (PySem.W.fnOf "_law_heard" "_law_heard" (C8.fnArgs sHea) (C8.fnBody sHea) (C8.fnScope sHea) .none kVlh dclh pmlh anlh cdlh ctlh), sllh⟩)
    (clh : PySem.W.codeIn K cdlh "_law_heard" = true)
    (klh : PySem.W.keepIn K (.ref flh) = true)
    (alo : PySem.W.nsIn K mainGlobals "_law_odd" = some (some (.ref flo)))
    (llo : K.lookup flo = some ⟨oclo, odlo, .func (PySem.W.fnOf "_law_odd" "_law_odd" (C8.fnArgs sOdd) (C8.fnBody sOdd) (C8.fnScope sOdd) .none kVlo dclo pmlo anlo cdlo ctlo), sllo⟩)
    (clo : PySem.W.codeIn K cdlo "_law_odd" = true)
    (klo : PySem.W.keepIn K (.ref flo) = true)
    (alm : PySem.W.nsIn K mainGlobals "_law_made_right" = some (some (.ref flm)))
    (llm : K.lookup flm = some ⟨oclm, odlm, .func (PySem.W.fnOf "_law_made_right" "_law_made_right" (C8.fnArgs sMad) (C8.fnBody sMad) (C8.fnScope sMad) .none kVlm dclm pmlm anlm cdlm ctlm), sllm⟩)
    (clm : PySem.W.codeIn K cdlm "_law_made_right" = true)
    (klm : PySem.W.keepIn K (.ref flm) = true)
    (alg : PySem.W.nsIn K mainGlobals "_law_greatest_right" = some (some (.ref flg)))
    (llg : K.lookup flg = some ⟨oclg, odlg, .func (PySem.W.fnOf "_law_greatest_right" "_law_greatest_right" (C8.fnArgs sGr) (C8.fnBody sGr) (C8.fnScope sGr) .none kVlg dclg pmlg anlg cdlg ctlg), sllg⟩)
    (clg : PySem.W.codeIn K cdlg "_law_greatest_right" = true)
    (klg : PySem.W.keepIn K (.ref flg) = true)
    (alt : PySem.W.nsIn K mainGlobals "_law_refused_right" = some (some (.ref flt)))
    (llt : K.lookup flt = some ⟨oclt, odlt, .func (PySem.W.fnOf "_law_refused_right" "_law_refused_right" (C8.fnArgs sRef) (C8.fnBody sRef) (C8.fnScope sRef) .none kVlt dclt pmlt anlt (.ref cT) ctlt), sllt⟩)
    (clt : PySem.W.codeIn K (.ref cT) "_law_refused_right" = true)
    (klt : PySem.W.keepIn K (.ref flt) = true)
    (alb : PySem.W.nsIn K mainGlobals "_law_inner_right" = some (some (.ref flb)))
    (llb : K.lookup flb = some ⟨oclb, odlb, .func (PySem.W.fnOf "_law_inner_right" "_law_inner_right" (C8.fnArgs sInn) (C8.fnBody sInn) (C8.fnScope sInn) .none kVlb dclb pmlb anlb (.ref cU) ctlb), sllb⟩)
    (clb : PySem.W.codeIn K (.ref cU) "_law_inner_right" = true)
    (klb : PySem.W.keepIn K (.ref flb) = true)
    (ala : PySem.W.nsIn K mainGlobals "law" = some (some (.ref fla)))
    (lla : K.lookup fla = some ⟨ocla, odla, .func (PySem.W.fnOf "law" "law" (C8.fnArgs sLaw) (C8.fnBody sLaw) (C8.fnScope sLaw) .none kVla dcla pmla anla cdla ctla), slla⟩)
    (cla : PySem.W.codeIn K cdla "law" = true)
    (kla : PySem.W.keepIn K (.ref fla) = true)
    (lmo : K.lookup fmo = some ⟨ocmo, odmo, .func (PySem.W.fnOf "of" "Ratio.of" (C8.fnArgs sOf) (C8.fnBody sOf) (C8.fnScope sOf) .none kVmo dcmo pmmo anmo cdmo ctmo), slmo⟩)
    (cmo : PySem.W.codeIn K cdmo "Ratio.of" = true)
    (kmo : PySem.W.keepIn K (.ref fmo) = true)
    (lmr : K.lookup fmr = some ⟨ocmr, odmr, .func (PySem.W.fnOf "greatest" "Ratio.greatest" (C8.fnArgs sGre) (C8.fnBody sGre) (C8.fnScope sGre) .none kVmr dcmr pmmr anmr cdmr ctmr), slmr⟩)
    (cmr : PySem.W.codeIn K cdmr "Ratio.greatest" = true)
    (kmr : PySem.W.keepIn K (.ref fmr) = true)
    (aml : PySem.W.findIn K (.ref C) ("__lt__") = some (some (.ref fml)))
    (iml : PySem.W.isFn K (.ref fml) = true)
    (lml : K.lookup fml = some ⟨ocml, odml, .func (PySem.W.fnOf "__lt__" "Ratio.__lt__" (C8.fnArgs sLt) (C8.fnBody sLt) (C8.fnScope sLt) .none kVml dcml pmml anml cdml ctml), slml⟩)
    (cml : PySem.W.codeIn K cdml "Ratio.__lt__" = true)
    (kml : PySem.W.keepIn K (.ref fml) = true)
    (ame : PySem.W.findIn K (.ref C) ("__eq__") = some (some (.ref fme)))
    (ime : PySem.W.isFn K (.ref fme) = true)
    (lme : K.lookup fme = some ⟨ocme, odme, .func (PySem.W.fnOf "__eq__" "Ratio.__eq__" (C8.fnArgs sEq) (C8.fnBody sEq) (C8.fnScope sEq) .none kVme dcme pmme anme cdme ctme), slme⟩)
    (cme : PySem.W.codeIn K cdme "Ratio.__eq__" = true)
    (kme : PySem.W.keepIn K (.ref fme) = true)
    (sT : PySem.W.typeIn K (.ref C) = some mcC)
    (sR : PySem.W.readsIn K C mcC = true)
    (sF : PySem.W.findCls K (.ref C) mcC "of" = some (.get (.builtin "staticmethod.__get__") (.ref pO) .none (.ref C)))
    (sFg : PySem.W.findCls K (.ref C) mcC "greatest" = some (.get (.builtin "staticmethod.__get__") (.ref pG) .none (.ref C)))
    (sG : PySem.W.specialIn K (.ref C) "__getattribute__" = some (some (.builtin "type.__getattribute__")))
    (sO : PySem.W.recIn K pO "staticmethod" = some (.ref fmo :: restO))
    (sOg : PySem.W.recIn K pG "staticmethod" = some (.ref fmr :: restG))
    (aC : PySem.W.nsIn K mainGlobals "Ratio" = some (some (.ref C)))
    (aI : PySem.W.findIn K (.ref C) "__init__" = some (some (.ref fI)))
    (iI : PySem.W.isFn K (.ref fI) = true)
    (lI : K.lookup fI = some ⟨ocI, odI, .func (PySem.W.fnOf "__init__" "Ratio.__init__" (C8.fnArgs sRat) (C8.fnBody sRat) (C8.fnScope sRat) (.ref Td) kVI dcI pmI anI cdI ctI), slI⟩)
    (cI : PySem.W.codeIn K cdI "Ratio.__init__" = true)
    (kI : PySem.W.keepIn K (.ref fI) = true)
    (lD : K.lookup Td = some ⟨ocD, odD, .seq #[.int 1 tD] nD, slD⟩)
    (pg : PySem.W.plainGet K C Str.empty = true)
    (hd : PySem.W.hasDictIn K C = true)
    (po : PySem.W.plainOver K C = true)
    (sa : PySem.W.findIn K (.ref C) "__setattr__" = some (some (.builtin "object.__setattr__")))
    (mk : PySem.W.makesIn K C = true)
    (kC : PySem.W.keepIn K (.ref C) = true)
    (nO : PySem.W.findIn K (.ref C) "over" = some none)
    (nU : PySem.W.findIn K (.ref C) "under" = some none)
    (hC : PySem.W.findIn K (.ref C) "__class__" = some (some (.builtin "object.__class__")))
    (hG : PySem.W.specialIn K (.builtin "object.__class__") "__get__" = some (some (.builtin "getset_descriptor.__get__")))
    (hK : PySem.W.takesIn K (.builtin "object.__class__") = some true)
    (hM : PySem.W.mroIn K C (.type "object") = some true)
    (o_int : PySem.W.kitOne K (.ref C) (.type "int") = some false)
    (o_bool : PySem.W.kitOne K (.ref C) (.type "bool") = some false)
    (o_str : PySem.W.kitOne K (.ref C) (.type "str") = some false)
    (qi : PySem.W.kitOne K (.type "int") (.ref C) = some false)
    (qn : PySem.W.kitOne K (.type "NoneType") (.ref C) = some false)
    (qb : PySem.W.kitOne K (.type "bool") (.ref C) = some false)
    (qs : PySem.W.kitOne K (.type "str") (.ref C) = some false)
    (qt : PySem.W.kitOne K (.type "tuple") (.ref C) = some false)
    (ql : PySem.W.kitOne K (.type "list") (.ref C) = some false)
    (qd : PySem.W.kitOne K (.type "dict") (.ref C) = some false)
    (aD : PySem.W.nsIn K mainGlobals "BadRatio" = some (some (.ref D)))
    (aL : PySem.W.nsIn K mainGlobals "LateError" = some (some (.ref L)))
    (xD : K.lookup D = some (excClassObj nmD qD D ND bsD bmD true snD subD abD colD ddD e0 e1 e2 e3 e5 "ValueError.__new__"))
    (xB : PySem.HandSPX.refsVE bmD = true)
    (xs : PySem.W.findIn K (.ref D) "__setattr__" = some (some (.builtin "object.__setattr__")))
    (xe : PySem.W.subIn K (.ref D) (.type "BaseException") = some true)
    (xt : PySem.W.typeIn K (.ref D) = some (.type "type"))
    (xk : PySem.W.keepIn K (.ref D) = true)
    (xi : PySem.W.findIn K (.ref D) "__init__" = some (some (.ref fE)))
    (xf : PySem.W.typeIn K (.ref fE) = some (.type "function"))
    (lE : K.lookup fE = some ⟨ocE, odE, .func (PySem.W.fnOf "__init__" "BadRatio.__init__" (C8.fnArgs sErr) (C8.fnBody sErr) (C8.fnScope sErr) .none kVE dcE pmE anE cdE ctE), slE⟩)
    (cE : PySem.W.codeIn K cdE "BadRatio.__init__" = true)
    (xv : PySem.W.findIn K (.ref D) "value" = some none)
    (xg : PySem.W.findIn K (.ref D) "__getattribute__" = some (some (.builtin "BaseException.__getattribute__")))
    (xn : PySem.W.findIn K (.ref D) "__getattr__" = some none)
    (xd : PySem.W.hasDictIn K D = true)
    (xc : PySem.W.findIn K (.ref D) "__class__" = some (some (.builtin "object.__class__")))
    (xm : PySem.W.mroIn K D (.type "object") = some true)
    (xo : PySem.W.kitOne K (.ref D) (.ref D) = some true)
    (xL : PySem.W.exmOne K (.ref D) (.ref L) = some true)
    (lT : K.lookup cT = some ⟨ocT, odT, .fields usT, slT⟩)
    (vT : usT[11]? = some (.ref B))
    (nT : K.lookup B = none)
    (lU : K.lookup cU = some ⟨ocU, odU, .fields usU, slU⟩)
    (vU : usU[11]? = some (.ref B2))
    (nU2 : K.lookup B2 = none)
    (nB : B2 ≠ B)
    (z_tuple : PySem.W.nsIn K mainGlobals "tuple" = some none)
    (z_int : PySem.W.nsIn K mainGlobals "int" = some none)
    (z_list : PySem.W.nsIn K mainGlobals "list" = some none)
    (z_len : PySem.W.nsIn K mainGlobals "len" = some none)
    (z_abs : PySem.W.nsIn K mainGlobals "abs" = some none)
    (z_bool : PySem.W.nsIn K mainGlobals "bool" = some none)
    (z_str : PySem.W.nsIn K mainGlobals "str" = some none)
    (z_isinstance : PySem.W.nsIn K mainGlobals "isinstance" = some none)
    (z_range : PySem.W.nsIn K mainGlobals "range" = some none)
    (z_repr : PySem.W.nsIn K mainGlobals "repr" = some none)
    (z_all : PySem.W.nsIn K mainGlobals "all" = some none)
    (gG : PySem.W.nsIn K mainGlobals "gcd" = some (some (.builtin "math.gcd"))) :
    ∃ (fd : FuncData) (c B c2 B2 : Addr), PySem.W.tabIn K "_law_refused_right" = some (c, B) ∧ K.lookup B = none ∧ PySem.W.tabIn K "_law_inner_right" = some (c2, B2) ∧ K.lookup B2 = none ∧ (∀ (s : Shared) (u : Value), BindsTo s fd ⟨[u], []⟩ [("_law_script", u)]) ∧
      ∀ base : Heap, K.In base → base.Ns mainGlobals mg → TabB base mg c B → TabB base mg c2 B2 → FnG l.prog w K mg base 14 fa fd ["_law_script"] (spLaw K B B2) := by
  have e := hfa.symm.trans (PySem.W.mg_of X G ala)
  cases e
  have Fii : C8.Def K mg "is_integer" sIsInt fii _ := ⟨⟨_, _, _, _, _, _, _, _, _, _, rfl, lii, cii⟩, PySem.W.mg_of X G aii, kii⟩
  have bii : Binds K _ ["value"] [] := Fii.fn.binds rfl fun _ _ _ _ _ _ us hl => match us, hl with | [_], _ => rfl
  have Flp : C8.Def K mg "_law_pen" sPen flp _ := ⟨⟨_, _, _, _, _, _, _, _, _, _, rfl, llp, clp⟩, PySem.W.mg_of X G alp, klp⟩
  have blp : Binds K _ ["_law_script"] [] := Flp.fn.binds rfl fun _ _ _ _ _ _ us hl => match us, hl with | [_], _ => rfl
  have Fld : C8.Def K mg "_law_draw" sDraw fld _ := ⟨⟨_, _, _, _, _, _, _, _, _, _, rfl, lld, cld⟩, PySem.W.mg_of X G ald, kld⟩
  have bld : Binds K _ ["_law_pen_here", "_law_many"] [] := Fld.fn.binds rfl fun _ _ _ _ _ _ us hl => match us, hl with | [_, _], _ => rfl
  have Flk : C8.Def K mg "_law_pick" sPick flk _ := ⟨⟨_, _, _, _, _, _, _, _, _, _, rfl, llk, clk⟩, PySem.W.mg_of X G alk, klk⟩
  have blk : Binds K _ ["_law_pen_here", "_law_some"] [] := Flk.fn.binds rfl fun _ _ _ _ _ _ us hl => match us, hl with | [_, _], _ => rfl
  have Flc : C8.Def K mg "_law_common" sCom flc _ := ⟨⟨_, _, _, _, _, _, _, _, _, _, rfl, llc, clc⟩, PySem.W.mg_of X G alc, klc⟩
  have blc : Binds K _ ["_law_one_so", "_law_two_so"] [] := Flc.fn.binds rfl fun _ _ _ _ _ _ us hl => match us, hl with | [_, _], _ => rfl
  have Fll : C8.Def K mg "_law_least" sLea fll _ := ⟨⟨_, _, _, _, _, _, _, _, _, _, rfl, lll, cll⟩, PySem.W.mg_of X G all, kll⟩
  have bll : Binds K _ ["_law_top", "_law_bottom"] [] := Fll.fn.binds rfl fun _ _ _ _ _ _ us hl => match us, hl with | [_, _], _ => rfl
  have Flq : C8.Def K mg "_law_pair" sPai flq _ := ⟨⟨_, _, _, _, _, _, _, _, _, _, rfl, llq, clq⟩, PySem.W.mg_of X G alq, klq⟩
  have blq : Binds K _ ["_law_pen_here"] [] := Flq.fn.binds rfl fun _ _ _ _ _ _ us hl => match us, hl with | [_], _ => rfl
  have Flh : C8.Def K mg "_law_heard" sHea flh _ := ⟨⟨_, _, _, _, _, _, _, _, _, _, rfl, llh, clh⟩, PySem.W.mg_of X G alh, klh⟩
  have blh : Binds K _ ["_law_ask"] [] := Flh.fn.binds rfl fun _ _ _ _ _ _ us hl => match us, hl with | [_], _ => rfl
  have Flo : C8.Def K mg "_law_odd" sOdd flo _ := ⟨⟨_, _, _, _, _, _, _, _, _, _, rfl, llo, clo⟩, PySem.W.mg_of X G alo, klo⟩
  have blo : Binds K _ ["_law_pen_here"] [] := Flo.fn.binds rfl fun _ _ _ _ _ _ us hl => match us, hl with | [_], _ => rfl
  have Flm : C8.Def K mg "_law_made_right" sMad flm _ := ⟨⟨_, _, _, _, _, _, _, _, _, _, rfl, llm, clm⟩, PySem.W.mg_of X G alm, klm⟩
  have blm : Binds K _ ["_law_pen_here"] [] := Flm.fn.binds rfl fun _ _ _ _ _ _ us hl => match us, hl with | [_], _ => rfl
  have Flg : C8.Def K mg "_law_greatest_right" sGr flg _ := ⟨⟨_, _, _, _, _, _, _, _, _, _, rfl, llg, clg⟩, PySem.W.mg_of X G alg, klg⟩
  have blg : Binds K _ ["_law_pen_here"] [] := Flg.fn.binds rfl fun _ _ _ _ _ _ us hl => match us, hl with | [_], _ => rfl
  have Flt : DefC K mg "_law_refused_right" sRef flt _ cT := ⟨⟨_, _, _, _, _, _, _, _, _, rfl, llt, clt⟩, PySem.W.mg_of X G alt, klt⟩
  have blt : Binds K _ ["_law_pen_here"] [] := C8.Fun.binds (st := sRef) (x := "_law_refused_right") (qual := "_law_refused_right") (f := flt) ⟨_, _, _, _, _, _, _, _, _, _, rfl, llt, clt⟩ rfl fun _ _ _ _ _ _ us hl => match us, hl with | [_], _ => rfl
  have Flb : DefC K mg "_law_inner_right" sInn flb _ cU := ⟨⟨_, _, _, _, _, _, _, _, _, rfl, llb, clb⟩, PySem.W.mg_of X G alb, klb⟩
  have blb : Binds K _ [] [] := C8.Fun.binds (st := sInn) (x := "_law_inner_right") (qual := "_law_inner_right") (f := flb) ⟨_, _, _, _, _, _, _, _, _, _, rfl, llb, clb⟩ rfl fun _ _ _ _ _ _ us hl => match us, hl with | [], _ => rfl
  have Fla : C8.Def K mg "law" sLaw fa _ := ⟨⟨_, _, _, _, _, _, _, _, _, _, rfl, lla, cla⟩, PySem.W.mg_of X G ala, kla⟩
  have bla : Binds K _ ["_law_script"] [] := Fla.fn.binds rfl fun _ _ _ _ _ _ us hl => match us, hl with | [_], _ => rfl
  have Fmo : C8.Fun K "of" "Ratio.of" sOf fmo _ := ⟨_, _, _, _, _, _, _, _, _, _, rfl, lmo, cmo⟩
  have bmo : Binds K _ ["value"] [] := Fmo.binds rfl fun _ _ _ _ _ _ us hl => match us, hl with | [_], _ => rfl
  have Fmr : C8.Fun K "greatest" "Ratio.greatest" sGre fmr _ := ⟨_, _, _, _, _, _, _, _, _, _, rfl, lmr, cmr⟩
  have bmr : Binds K _ ["values"] [] := Fmr.binds rfl fun _ _ _ _ _ _ us hl => match us, hl with | [_], _ => rfl
  have Fml : C8.Fun K "__lt__" "Ratio.__lt__" sLt fml _ := ⟨_, _, _, _, _, _, _, _, _, _, rfl, lml, cml⟩
  have bml : Binds K _ ["self", "other"] [] := Fml.binds rfl fun _ _ _ _ _ _ us hl => match us, hl with | [_, _], _ => rfl
  have tml : Meth K C ("__lt__") fml := ⟨aml, iml, kml⟩
  have Fme : C8.Fun K "__eq__" "Ratio.__eq__" sEq fme _ := ⟨_, _, _, _, _, _, _, _, _, _, rfl, lme, cme⟩
  have bme : Binds K _ ["self", "other"] [] := Fme.binds rfl fun _ _ _ _ _ _ us hl => match us, hl with | [_, _], _ => rfl
  have tme : Meth K C ("__eq__") fme := ⟨ame, ime, kme⟩
  have T : Txt mg := { n_int := PySem.W.mg_none_of X G z_int, n_list := PySem.W.mg_none_of X G z_list, n_len := PySem.W.mg_none_of X G z_len, n_abs := PySem.W.mg_none_of X G z_abs, n_bool := PySem.W.mg_none_of X G z_bool, n_str := PySem.W.mg_none_of X G z_str, n_isinstance := PySem.W.mg_none_of X G z_isinstance, n_range := PySem.W.mg_none_of X G z_range, n_repr := PySem.W.mg_none_of X G z_repr, n_all := PySem.W.mg_none_of X G z_all }
  have cl : Cls K C := ⟨pg, hd, po, sa⟩
  have IC : C8.InsC K C := ⟨cl, hC, hG, hK, hM, by unfold PySem.W.kitOne; rw [if_pos (by simp)]⟩
  have O : Oks K C := ⟨qi, qn, qb, qs, qt, ql, qd⟩
  have nb : NoB K C := ⟨o_int, o_bool, o_str⟩
  have FI : C8.Fun K "__init__" "Ratio.__init__" sRat fI _ := ⟨_, _, _, _, _, _, _, _, _, _, rfl, lI, cI⟩
  have FD : FunD K "__init__" "Ratio.__init__" (C8.fnArgs sRat) (C8.fnBody sRat) (C8.fnScope sRat) [.int 1] [] fI _ := ⟨⟨_, _, _, _, _, _, _, _, _, _, rfl, lI, cI, .inr ⟨by simp, Td, _, [.int 1 tD], nD, rfl, lD, rfl, .cons ⟨_, rfl⟩ .nil⟩, .inl rfl⟩, kI⟩
  obtain ⟨ds3, vd3, bI3⟩ := FD.binds1 (ps := ["self", "over", "under"]) 3 1 (by simp) rfl (fun Tq kVq dcq pmq anq cdq ctq us its h1 h2 => match us, its, h1, h2 with | [_, _, _], [_], _, _ => ⟨_, rfl, rfl⟩)
  obtain ⟨ds2, vd2, bI2⟩ := FD.binds1 (ps := ["self", "over", "under"]) 2 0 (by simp) rfl (fun Tq kVq dcq pmq anq cdq ctq us its h1 h2 => match us, its, h1, h2 with | [_, _], [_], _, _ => ⟨_, rfl, rfl⟩)
  cases vd3
  obtain ⟨itsK, kbI⟩ := kbinds1 FD (ps := ["self", "over", "under"]) 1 ["under", "over"] (fun vs _ zs => kwG vs zs) (by simp) (fun {vs dz zs us its ws} r1 r2 r3 => kwG_rel r1 r3) (fun Tq kVq dcq pmq anq cdq ctq us its ws h1 h2 h3 => match us, its, ws, h1, h2, h3 with | [_], [_], [_, _], _, _, _ => ⟨_, rfl, rfl⟩)
  have kbO : ∃ gU : List Value → List Value → List Value, KBn K _ ["value"] 0 ["value"] gU (fun _ zs => zs) := ⟨fun _ ws => ws, kb_none Fmo rfl rfl fun _ _ _ _ _ _ ws hl => match ws, hl with | [_], _ => rfl⟩
  have kbG : ∃ gU : List Value → List Value → List Value, KBn K _ ["values"] 0 ["values"] gU (fun _ zs => zs) := ⟨fun _ ws => ws, kb_none Fmr rfl rfl fun _ _ _ _ _ _ ws hl => match ws, hl with | [_], _ => rfl⟩
  have FE : C8.Fun K "__init__" "BadRatio.__init__" sErr fE _ := ⟨_, _, _, _, _, _, _, _, _, _, rfl, lE, cE⟩
  have bE : Binds K _ ["self", "value"] [] := FE.binds rfl fun _ _ _ _ _ _ us hl => match us, hl with | [_, _], _ => rfl
  have OX : OexC K D := ⟨⟨_, _, _, _, _, _, _, _, _, _, _, _, _, _, _, xD, xB⟩, xs, xe, xt, xk⟩
  have R : Hrd K mg D L := { xf := ⟨xg, xn, xe, xd⟩, no := xv, xc := ⟨xg, xn, xe, xd, xc, hG, hK, xm⟩, me := xo, ml := PySem.W.mg_of X G aL, md := PySem.W.mg_of X G aD, ex := xL }
  refine ⟨PySem.W.fnOf "law" "law" (C8.fnArgs sLaw) (C8.fnBody sLaw) (C8.fnScope sLaw) .none kVla dcla pmla anla cdla ctla, cT, B, cU, B2, tabIn_of alt llt rfl lT vT, nT, tabIn_of alb llb rfl lU vU, nU2, fun s u => .of_eq rfl, fun base KB GB TB TB2 => ?_⟩
  have ER : Err l.prog w K mg base D fE _ := ⟨OX, xi, xf, fn_err FE OX xv, bE, PySem.W.mg_of X G aD⟩
  have Dii := cal_isint (P := l.prog) (w := w) (base := base) Fii bii T
  have Wii : CalW l.prog w K mg base 1 "is_integer" (spIsInt K) := ⟨_, _, _, fn_isintW Fii T, PySem.W.mg_of X G aii, kii, bii⟩
  have mI : Mk K C fI := ⟨mk, aI, iI, kC⟩
  have RM : RatM l.prog w K mg base C D fI _ ds2 := ⟨mI, fn_rat FI cl nO nU (PySem.W.mg_of X G gG) Dii ER, PySem.W.mg_of X G aC, bI2, vd2, bI3⟩
  have OM : OfM l.prog w K mg base C D pO fmo _ := ⟨⟨⟨_, sT, sR, sF⟩, sG, ⟨_, sO⟩, kmo⟩, fn_of' Fmo T IC RM, bmo⟩
  have RK : RatK K fI fmo _ _ := ⟨⟨_, kbI⟩, kbO⟩
  have Ml : MetX l.prog w K mg base 7 C "__lt__" (spCmp K C D fun x y => decide (x < y)) := ⟨_, _, _, tml, fn_lt Fml (PySem.W.mg_of X G aC) OM cl nO nU, bml⟩
  have GM : GrM l.prog w K mg base C D pG fmr _ := ⟨⟨⟨_, sT, sR, sFg⟩, sG, ⟨_, sOg⟩, kmr⟩, fn_gre Fmr (PySem.W.mg_of X G aC) T (PySem.W.mg_none_of X G z_tuple) OM ER Ml, bmr⟩
  have MW : MetW l.prog w K mg base 3 C "__eq__" (spEq K C) := ⟨_, _, _, fn_eqW Fme T (PySem.W.mg_of X G aC) cl nO nU IC nb Wii, tme, bme⟩
  have D1 := cal_draw (P := l.prog) (w := w) (K := K) (base := base) Fld bld T.toTxt0
  have D2 := cal_pick Flk blk T.toTxt0 D1
  have D0 := cal_pen (P := l.prog) (w := w) (base := base) Flp blp T.toTxt0
  have Dc := cal_com (P := l.prog) (w := w) (base := base) Flc blc T.toTxt0
  have D3 := cal_lea Fll bll T.toTxt0 Dc
  have D5 := cal_pai Flq blq T.toTxt0 D1 D2
  have D4 := cal_odd (P := l.prog) (w := w) (base := base) Flo blo D2
  have DM := cal_mad Flm blm T O IC cl nO nU RM OM RK D3 D5
  have DG := cal_gr Flg blg T (PySem.W.mg_none_of X G z_tuple) O IC cl nO nU RM GM D1 D3 D5
  have DR := cal_ref Flt blt Flh blh TB nB R T O RM OM GM D1 D2 D4
  have DI := cal_inn Flb blb TB2 R T IC nb RM MW
  exact fn_law Fla.fn T O cl nO nU RM GM kbG D0 DM DR DG DI
end Lw
open PySem PySem.W PyProof.Rows
set_option maxRecDepth 100000 in
set_option maxHeartbeats 0 in
theorem PySem.Challenge.cw_latechunks_k04_ratios_made_holds : PySem.Challenge.rw_latechunks_k04_ratios_made.Holds := by
  w_on; o_law; k_head; (case hw => w_witness2)
  k_fill
  refine Lw.walk_end (l := PySem.Challenge.rw_latechunks_k04_ratios_made) (x := "_law_script") (xt := "_law_refused_right") (xt2 := "_law_inner_right") (k := 14) rfl (by decide) rfl ⟨rfl, by decide, by decide⟩ (fun w h Y => PySem.W.km_in_of Y) ?hrec ?hrec2 ?F
  case hrec => first | rfl | decide +kernel
  case hrec2 => first | rfl | decide +kernel
  case F =>
    intro w mg fa h KX G hmg
    refine' Lw.all_known KX G hmg ?aii ?lii ?cii ?kii ?alp ?llp ?clp ?klp ?ald ?lld ?cld ?kld ?alk ?llk ?clk ?klk ?alc ?llc ?clc ?klc ?all ?lll ?cll ?kll ?alq ?llq ?clq ?klq ?alh ?llh ?clh ?klh ?alo ?llo ?clo ?klo ?alm ?llm ?clm ?klm ?alg ?llg ?clg ?klg ?alt ?llt ?clt ?klt ?alb ?llb ?clb ?klb ?ala ?lla ?cla ?kla ?lmo ?cmo ?kmo ?lmr ?cmr ?kmr ?aml ?iml ?lml ?cml ?kml ?ame ?ime ?lme ?cme ?kme ?sT ?sR ?sF ?sFg ?sG ?sO ?sOg ?aC ?aI ?iI ?lI ?cI ?kI ?lD ?pg ?hd ?po ?sa ?mk ?kC ?nO ?nU ?hC ?hG ?hK ?hM ?o_int ?o_bool ?o_str ?qi ?qn ?qb ?qs ?qt ?ql ?qd ?aD ?aL ?xD ?xB ?xs ?xe ?xt ?xk ?xi ?xf ?lE ?cE ?xv ?xg ?xn ?xd ?xc ?xm ?xo ?xL ?lT ?vT ?nT ?lU ?vU ?nU2 ?nB ?z_tuple ?z_int ?z_list ?z_len ?z_abs ?z_bool ?z_str ?z_isinstance ?z_range ?z_repr ?z_all ?gG
    (case aC => k_is); (case aD => k_is); (case aL => k_is); (case sT => k_is)
    (case sR => k_is); (case sF => k_is); (case sFg => k_is); (case sG => k_is)
    (case sO => k_is); (case sOg => k_is); (case aii => k_is); (case lii => k_is)
    (case cii => k_is); (case kii => k_is); (case alp => k_is); (case llp => k_is)
    (case clp => k_is); (case klp => k_is); (case ald => k_is); (case lld => k_is)
    (case cld => k_is); (case kld => k_is); (case alk => k_is); (case llk => k_is)
    (case clk => k_is); (case klk => k_is); (case alc => k_is); (case llc => k_is)
    (case clc => k_is); (case klc => k_is); (case all => k_is); (case lll => k_is)
    (case cll => k_is); (case kll => k_is); (case alq => k_is); (case llq => k_is)
    (case clq => k_is); (case klq => k_is); (case alh => k_is); (case llh => k_is)
    (case clh => k_is); (case klh => k_is); (case alo => k_is); (case llo => k_is)
    (case clo => k_is); (case klo => k_is); (case alm => k_is); (case llm => k_is)
    (case clm => k_is); (case klm => k_is); (case alg => k_is); (case llg => k_is)
    (case clg => k_is); (case klg => k_is); (case alt => k_is); (case llt => k_is)
    (case clt => k_is); (case klt => k_is); (case alb => k_is); (case llb => k_is)
    (case clb => k_is); (case klb => k_is); (case ala => k_is); (case lla => k_is)
    (case cla => k_is); (case kla => k_is); (case lmo => k_is); (case cmo => k_is)
    (case kmo => k_is); (case lmr => k_is); (case cmr => k_is); (case kmr => k_is)
    (case aml => k_is); (case iml => k_is); (case lml => k_is); (case cml => k_is)
    (case kml => k_is); (case ame => k_is); (case ime => k_is); (case lme => k_is)
    (case cme => k_is); (case kme => k_is); (case aI => k_is); (case iI => k_is)
    (case lI => k_is); (case cI => k_is); (case kI => k_is); (case lD => k_is)
    (case pg => k_is); (case hd => k_is); (case po => k_is); (case sa => k_is)
    (case mk => k_is); (case kC => k_is); (case nO => k_is); (case nU => k_is)
    (case hC => k_is); (case hG => k_is); (case hK => k_is); (case hM => k_is)
    (case o_int => first | kernel_rfl | rfl | decide +kernel); (case o_bool => first | kernel_rfl | rfl | decide +kernel); (case o_str => first | kernel_rfl | rfl | decide +kernel); (case qi => first | kernel_rfl | rfl | decide +kernel)
    (case qn => first | kernel_rfl | rfl | decide +kernel); (case qb => first | kernel_rfl | rfl | decide +kernel); (case qs => first | kernel_rfl | rfl | decide +kernel); (case qt => first | kernel_rfl | rfl | decide +kernel)
    (case ql => first | kernel_rfl | rfl | decide +kernel); (case qd => first | kernel_rfl | rfl | decide +kernel); (case xD => k_is); (case xB => first | rfl | decide +kernel)
    (case xs => k_is); (case xe => k_is); (case xt => k_is); (case xk => k_is)
    (case xi => k_is); (case xf => k_is); (case lE => k_is); (case cE => k_is)
    (case xv => k_is); (case xg => k_is); (case xn => k_is); (case xd => k_is)
    (case xc => k_is); (case xm => k_is); (case xo => first | kernel_rfl | rfl | decide +kernel); (case xL => first | kernel_rfl | rfl | decide +kernel)
    (case lT => k_is); (case vT => first | rfl | decide +kernel); (case nT => first | kernel_rfl | rfl); (case lU => k_is)
    (case vU => first | rfl | decide +kernel); (case nU2 => first | kernel_rfl | rfl); (case nB => decide); (case z_tuple => k_is)
    (case z_int => k_is); (case z_list => k_is); (case z_len => k_is); (case z_abs => k_is)
    (case z_bool => k_is); (case z_str => k_is); (case z_isinstance => k_is); (case z_range => k_is)
    (case z_repr => k_is); (case z_all => k_is); (case gG => k_is)
