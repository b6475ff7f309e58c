import PyProof.Rows.All
import Wide.All
import OpenK.AllK
import Wide.FinOn
import HandS.ForMost
import HandS.Wide
import HandS.Codes
import HandS.EndBits
import HandS.Lambda
import HandS.IsInst
import PyProof.IsiBase
import KE.KIsAll
import HandS.Walk
import HandS.StrMore
import PyProof.StrOps2
import HandS.Words
import HandS.Gcd
import HandS.SlotsOwn
import KE.KOpsOwn
import PyProof.TwoTypes
import HandS.Exc
import HandS.ExcField
import HandS.ExcIs
import HandS.ClsMeth
import HandS.ExcInit
import PyProof.Rows.StrOr
import KE.KIntText
import HandS.Style
import HandS.Dict
import HandS.Defaults
import HandS.Text
import HandS.FStr
import HandS.RaiseMore
import KE.KCallOwn
import HandS.Comp
import HandS.More
import PyProof.StrWalks
import HandS.TryOnly
import HandS.EndTab
import PySem.Challenge.RW_latechunks_k08_texts_of_ratios
set_option Elab.async false
set_option linter.all false
set_option maxRecDepth 100000
set_option maxHeartbeats 4000000
namespace Lw
open PySem PySem.Spec PyProof.Rows L2
def top (i : Nat) : Stmt := PySem.Challenge.pw_latechunks_k08_texts_of_ratios.main.body.getD i (.Pass ⟨0, 0, 0, 0⟩)

theorem stir {x s : Int} (hx0 : 0 ≤ x) (hx : x < 2147483648) (hs0 : 0 ≤ s) (hs : s ≤ 1000000) (e f g : Int) (he0 : 0 ≤ e) (he : e ≤ 1000) (hf0 : 0 ≤ f) (hf : f ≤ 1000000) (hg0 : 0 ≤ g) (hg : g ≤ 1000000) :
    (x * (2 * s + e) + f * s * s + g).natAbs < 2 ^ 64 := by
  have a0 : 0 ≤ x * (2 * s + e) := Int.mul_nonneg hx0 (by omega)
  have a1 : x * (2 * s + e) ≤ 2147483648 * 2001000 := Int.mul_le_mul (by omega) (by omega) (by omega) (by omega)
  have b0 : 0 ≤ f * s := Int.mul_nonneg hf0 hs0
  have b1 : f * s ≤ 1000000 * 1000000 := Int.mul_le_mul hf hs hs0 (by omega)
  have c0 : 0 ≤ f * s * s := Int.mul_nonneg b0 hs0
  have c1 : f * s * s ≤ 1000000 * 1000000 * 1000000 := Int.mul_le_mul b1 hs hs0 (by omega)
  omega
theorem fsmall {f s : Int} (hf0 : 0 ≤ f) (hf : f ≤ 1000000) (hs0 : 0 ≤ s) (hs : s ≤ 1000000) : -(2 ^ 64) < f * s ∧ f * s < 2 ^ 64 := by
  have b0 : 0 ≤ f * s := Int.mul_nonneg hf0 hs0
  have b1 : f * s ≤ 1000000 * 1000000 := Int.mul_le_mul hf hs hs0 (by omega)
  omega
theorem fm0 {a d : Int} (hd : 0 < d) : 0 ≤ Int.fmod a d := Int.fmod_nonneg_of_pos _ hd
theorem fm1 {a d : Int} (hd : 0 < d) (h : d ≤ 2147483648) : Int.fmod a d < 2147483648 := Int.lt_of_lt_of_le (Int.fmod_lt_of_pos _ hd) h
theorem fm64 {a d : Int} (hd : 0 < d) (h : d ≤ 2147483648) : -(2 ^ 64) < Int.fmod a d ∧ Int.fmod a d < 2 ^ 64 := by
  have h0 := fm0 (a := a) hd
  have h1 := fm1 (a := a) hd h
  omega
theorem ite_false_of {c : Bool} {A B : Prop} (h : ¬ c = true) (hb : B) : if c = true then A else B := by rw [if_neg h]; exact hb
/-- behind an if: what both ways end in -/
theorem join_if {t u : TS} {D : Ends} {b : Bool} {σ : L2.St} {H : Hp} (Pj : L2.St → Hp → Prop) (hr : ∀ σ' H', Pj σ' H' → D.nx σ' H') (h : (∀ σ' H', Pj σ' H' → D.nx σ' H') → if b = true then t D σ H else u D σ H) : if b = true then t D σ H else u D σ H := h hr
theorem lay_ints : ∀ xs : List Int, PyData.canLayAll0 (xs.map PyData.int) = true
  | [] => rfl
  | x :: r => by
    show (PyData.canLay0 (.int x) && PyData.canLayAll0 (r.map PyData.int)) = true
    rw [lay_ints r]; rfl
theorem depth_ints : ∀ xs : List Int, PyData.depthAll (xs.map PyData.int) = 0
  | [] => rfl
  | x :: r => by
    show max (PyData.depth (.int x)) (PyData.depthAll (r.map PyData.int)) = 0
    rw [depth_ints r]; rfl
theorem shaped_ints (xs : List Int) : SeqAt.shaped (.list (xs.map PyData.int)) = true := by
  unfold SeqAt.shaped
  have h1 : PyData.canLay0 (.list (xs.map PyData.int)) = true := lay_ints xs
  have h2 : PyData.depth (.list (xs.map PyData.int)) = 1 := by
    show PyData.depthAll (xs.map PyData.int) + 1 = 1
    rw [depth_ints]
  rw [h1, h2]; rfl
theorem dp_ints {K : PySem.W.Frag} {H : Hp} : ∀ xs : List Int, DpAll K H (xs.map V.int) (xs.map PyData.int)
  | [] => .nil
  | x :: r => .cons (.int x) (dp_ints r)
theorem eqv_nil (xs : List Int) : PyData.eqv (.list (xs.map PyData.int)) (.list []) = decide (xs = []) := by
  cases xs <;> rfl
abbrev sPen : Stmt := top 20
abbrev sDraw : Stmt := top 21
abbrev sPick : Stmt := top 22
/-- all but what stands at p is as it was -/
def Kp (p : Addr) (H H' : Hp) : Prop := ∀ b o, b ≠ p → H b = some o → H' b = some o
/-- a pen at p: its numbers at l, its place, its rest -/
structure PenAt (H : Hp) (p l : Addr) (xs : List Int) (s g : Int) : Prop where
  at_ : H p = some (.lst [.ref l, .int s, .int g])
  ls : H l = some (.lst (xs.map V.int))
  ne : p ≠ l
  s0 : 0 ≤ s
  g0 : 0 ≤ g
def Pen (H : Hp) (p l : Addr) (n : Nat) : Prop := ∃ xs s g, PenAt H p l xs s g ∧ s ≤ n
def spDraw : Sp := fun vs H Q _ => ∃ (p l : Addr) (n : Nat) (m : Int), vs = [.ref p, .int m] ∧ 0 < m ∧ m < 2 ^ 200 ∧ Pen H p l n ∧ n ≤ 1000000 ∧
  ∀ (r : Int) (H' : Hp), 0 ≤ r → r < m → Pen H' p l (n + 1) → Kp p H H' → Q (.int r) H'
structure Txt0 (mg : Str → Option Value) : Prop where
  n_int : mg "int" = none
  n_list : mg "list" = none
  n_len : mg "len" = none
  n_abs : mg "abs" = none
section
variable {P : Program} {w : World} {K : PySem.W.Frag} {mg : Str → Option Value} {base : Heap}
theorem scDraw : FnScope ["_law_pen_here", "_law_many", "_law_digit", "_law_spot", "_law_cell", "_law_great", "_law_stirred"] ["_law_pen_here", "_law_many"] (C8.fnScope sDraw) := C8.fnScope_by (by decide +kernel)
theorem cal_draw {f : Addr} {fd : FuncData} (F : C8.Def K mg "_law_draw" sDraw f fd) (b : Binds K fd ["_law_pen_here", "_law_many"] []) (T : Txt0 mg) : C8.Cal P w K mg base 1 "_law_draw" spDraw [] := by
  refine C8.cal0 F b .nil scDraw (fun vs H Q E h => ?_) (fun cdv A outer st H vs Q E hr h => ?_)
  · obtain ⟨p, l, n, m, rfl, _⟩ := h
    rfl
  · obtain ⟨p, l, n, m, rfl, hm, hm2, ⟨xs, s, g, ⟨hp, hl, ne, s0, g0⟩, hs⟩, hn, k⟩ := h
    refine ⟨_, (pss_cons (ps_if (pt_cmpR op_gt (pe_ix ix_list (pv 0) pe_int (fun _ _ => rfl)) pe_int (nomark _)) (pss_cons (ps_set (i := 2) scDraw.nd rfl (Or.inl rfl) (pe_op op_modN (pe_callTy call_int1 (by rfl) T.n_int (by decide +kernel) (pa_cons (pe_ix ix_list (pv 0) pe_int (fun _ _ => rfl)) pa_nil)) (pv 1)))
  (pss_cons (ps_asg (pe_op op_fdivW (pe_callTy call_int1 (by rfl) T.n_int (by decide +kernel) (pa_cons (pe_ix ix_list (pv 0) pe_int (fun _ _ => rfl)) pa_nil)) (pv 1)) (pg_sub (pv 0) pe_int set_list))
  (pss_one (ps_ret (pv 2))))) pss_nil)
  (pss_cons (ps_set (i := 3) scDraw.nd rfl (Or.inl rfl) (pe_ix ix_list (pv 0) pe_int (fun _ _ => rfl)))
  (pss_cons (ps_asg (pe_op op_add (pv 3) pe_int) (pg_sub (pv 0) pe_int set_list))
  (pss_cons (ps_set (i := 4) scDraw.nd rfl (Or.inl rfl) (pe_op op_add (pe_op op_mul pe_int (pv 3)) pe_int))
  (pss_cons (ps_if (pt_cmpR (op_neD hr.units) (pe_ix ix_list (pv 0) pe_int (fun _ _ => rfl)) (pe_lst pa_nil) (nomark _)) (pss_one (ps_set (i := 4) scDraw.nd rfl (Or.inl rfl) (pe_ix ix_list (pe_ix ix_list (pv 0) pe_int (fun _ _ => rfl)) (pe_op op_modN (pe_callTy call_int1 (by rfl) T.n_int (by decide +kernel) (pa_cons (pv 3) pa_nil)) (pe_callB call_len_seq (by rfl) T.n_len (by decide +kernel) (pa_cons (pe_ix ix_list (pv 0) pe_int (fun _ _ => rfl)) pa_nil))) (fun _ _ => rfl)))) pss_nil)
  (pss_cons (ps_if (PW.pt (pw_and (pt_cmpR op_lt (pv 3) (pe_callB call_len_seq (by rfl) T.n_len (by decide +kernel) (pa_cons (pe_ix ix_list (pv 0) pe_int (fun _ _ => rfl)) pa_nil)) (nomark _)) (pw_and1 (pt_cmpR op_ge (pe_callB call_abs (by rfl) T.n_abs (by decide +kernel) (pa_cons (pv 4) pa_nil)) (pe_op op_pow pe_int pe_int) (nomark _))))) (pss_cons (ps_set (i := 5) scDraw.nd rfl (Or.inl rfl) (pe_op op_add (pe_op op_mul pe_int (pe_op op_sub (pe_callB call_abs (by rfl) T.n_abs (by decide +kernel) (pa_cons (pv 4) pa_nil)) (pe_op op_pow pe_int pe_int))) (pe_callTy call_int1 (by rfl) T.n_int (by decide +kernel) (pa_cons (pe_cmpR op_lt (pv 4) pe_int (nomark _)) pa_nil))))
  (pss_cons (ps_asg (pe_op op_fdivW (pe_callTy call_int1 (by rfl) T.n_int (by decide +kernel) (pa_cons (pv 5) pa_nil)) (pv 1)) (pg_sub (pv 0) pe_int set_list))
  (pss_one (ps_ret (pe_op op_modN (pe_callTy call_int1 (by rfl) T.n_int (by decide +kernel) (pa_cons (pv 5) pa_nil)) (pv 1)))))) pss_nil)
  (pss_cons (ps_set (i := 6) scDraw.nd rfl (Or.inl rfl) (pe_op op_modN (pe_callTy call_int1 (by rfl) T.n_int (by decide +kernel) (pa_cons (pe_op op_pow (pe_op op_add (pe_op op_add (pe_op op_modN (pe_callTy call_int1 (by rfl) T.n_int (by decide +kernel) (pa_cons (pv 4) pa_nil)) pe_int) (pe_op op_mul pe_int (pv 3))) pe_int) pe_int) pa_nil)) pe_int))
  (pss_cons (ps_set (i := 6) scDraw.nd rfl (Or.inl rfl) (pe_op op_modN (pe_callTy call_int1 (by rfl) T.n_int (by decide +kernel) (pa_cons (pe_op op_pow (pe_op op_add (pe_op op_add (pe_op op_mul (pv 6) (pe_op op_add (pe_op op_mul pe_int (pv 3)) pe_int)) (pe_op op_mul (pe_op op_mul pe_int (pv 3)) (pv 3))) pe_int) pe_int) pa_nil)) pe_int))
  (pss_one (ps_ret (pe_op op_modN (pe_callTy call_int1 (by rfl) T.n_int (by decide +kernel) (pa_cons (pe_op op_fdivW (pv 6) pe_int) pa_nil)) (pv 1)))))))))))), ?_⟩
    have hmb : CDivW 0 m := wide_div (b := 200) hm (by omega) (by decide) (by decide)
    refine ⟨_, rfl, p, _, _, _, rfl, rfl, SqL.of hp, rfl, _, _, rfl, rfl, _, rfl, ite2 (fun c => ?_) (fun c => ?_)⟩
    · -- the rest is above 0: a digit of it
      refine ⟨_, rfl, p, _, _, _, rfl, rfl, SqL.of hp, rfl, Or.inl ⟨_, rfl, ?_⟩⟩
      refine ⟨_, rfl, _, _, rfl, rfl, (by omega), ?_⟩
      refine ⟨_, rfl, p, _, _, _, rfl, rfl, SqL.of hp, rfl, Or.inl ⟨_, rfl, ?_⟩⟩
      refine ⟨_, rfl, _, _, rfl, rfl, hmb, ?_⟩
      refine ⟨_, rfl, p, _, _, _, rfl, rfl, hp, rfl, ?_⟩
      refine ⟨_, rfl, ?_⟩
      refine k _ _ (Int.fmod_nonneg_of_pos _ hm) (Int.fmod_lt_of_pos _ hm) ⟨xs, s, g / m, ⟨?_, ?_, ne, s0, Int.ediv_nonneg g0 (Int.le_of_lt hm)⟩, by omega⟩ fun b o hb e => ?_
      · rw [upd_same]; rfl
      · rw [upd_ne (Ne.symm ne)]; exact hl
      · rw [upd_ne hb]; exact e
    · -- the next place
      refine ⟨_, rfl, p, _, _, _, rfl, rfl, SqL.of hp, rfl, ?_⟩
      refine ⟨_, rfl, _, _, rfl, rfl, _, rfl, p, _, _, _, rfl, rfl, hp, rfl, ?_⟩
      have hp1 : upd H p (.lst [V.ref l, V.int (s + 1), V.int g]) p = some (.lst [V.ref l, V.int (s + 1), V.int g]) := upd_same
      have hl1 : upd H p (.lst [V.ref l, V.int (s + 1), V.int g]) l = some (.lst (xs.map V.int)) := by rw [upd_ne (Ne.symm ne)]; exact hl
      have k1 : Kp p H (upd H p (.lst [V.ref l, V.int (s + 1), V.int g])) := fun b o hb e => by rw [upd_ne hb]; exact e
      show tSeq _ _ _ _ (upd H p (.lst [V.ref l, V.int (s + 1), V.int g]))
      generalize upd H p (.lst [V.ref l, V.int (s + 1), V.int g]) = H1 at hp1 hl1 k1 ⊢
      have fin : ∀ (r g' : Int) (H' : Hp), 0 ≤ r → r < m → 0 ≤ g' → H' p = some (.lst [V.ref l, V.int (s + 1), V.int g']) → Kp p H1 H' → Q (.int r) H' := fun r g' H' h0 h1 h2 h3 h4 =>
        k r H' h0 h1 ⟨xs, s + 1, g', ⟨h3, h4 _ _ (Ne.symm ne) hl1, ne, by omega, h2⟩, by omega⟩ fun b o hb e => h4 b o hb (k1 b o hb e)
      refine ⟨_, rfl, _, _, rfl, rfl, Or.inl (by decide), _, _, rfl, rfl, ?_⟩
      refine ⟨_, rfl, p, _, _, _, rfl, rfl, SqL.of hp1, rfl, (by show 0 ≤ sizeLine; decide), fun q hq => ?_⟩
      have lq : l ≠ q := ne_of_none hl1 hq
      have pq : p ≠ q := ne_of_none hp1 hq
      have hl2 : upd H1 q (.lst []) l = some (.lst (xs.map V.int)) := by rw [upd_ne lq]; exact hl1
      have hp2 : upd H1 q (.lst []) p = some (.lst [V.ref l, V.int (s + 1), V.int g]) := by rw [upd_ne pq]; exact hp1
      have k2 : Kp p H1 (upd H1 q (.lst [])) := fun b o hb e => by rw [upd_ne (ne_of_none e hq)]; exact e
      refine ⟨.list (xs.map PyData.int), .list [], .lst (SqL.of hl2) (dp_ints xs), .lst (SqL.of upd_same) .nil, shaped_ints xs, rfl, _, rfl, ?_⟩
      generalize upd H1 q (.lst []) = H2 at hl2 hp2 k2 ⊢
      refine join_if (fun σ' H' => ∃ cell : Int, σ' = [some (V.ref p), some (V.int m), none, some (V.int s), some (V.int cell), none, none] ∧ H' = H2) ?rest (fun go => ?_)
      case rest =>
        rintro σ' H' ⟨cell, rfl, rfl⟩
        refine ⟨_, rfl, _, rfl, p, _, _, _, rfl, rfl, SqL.of hp2, rfl, l, xs.map V.int, rfl, .inl (SqL.of hl2), _, _, rfl, rfl, _, rfl, ?_⟩
        refine ite2 (fun c2 => ?_) (fun c2 => ?_)
        · refine ⟨_, rfl, _, rfl, _, _, rfl, rfl, ⟨by decide, by decide, by decide⟩, _, _, rfl, rfl, _, rfl, ?_⟩
          refine ite2 (fun c3 => ?_) (fun c3 => ?_)
          · refine ⟨_, rfl, _, rfl, _, _, rfl, rfl, ⟨by decide, by decide, by decide⟩, _, _, rfl, rfl, _, _, rfl, rfl, Or.inl (by decide), _, rfl, _, _, rfl, rfl, Or.inr ⟨_, rfl, _, _, rfl, rfl, ?_⟩⟩
            have hge : (10 : Int) ^ (18 : Int).toNat ≤ (if cell < 0 then -cell else cell) := of_decide_eq_true c3
            generalize hG : 2 * ((if cell < 0 then -cell else cell) - 10 ^ (18 : Int).toNat) + (if decide (cell < 0) = true then (1 : Int) else 0) = G
            have hG0 : 0 ≤ G := by
              rw [← hG]
              have h1 : 0 ≤ (if decide (cell < 0) = true then (1 : Int) else 0) := by split <;> decide
              omega
            refine ⟨_, rfl, Or.inl ⟨_, rfl, _, rfl, _, _, rfl, rfl, (by exact hmb), _, rfl, p, _, _, _, rfl, rfl, hp2, rfl, ?_⟩⟩
            refine ⟨_, rfl, Or.inl ⟨_, rfl, _, rfl, _, _, rfl, rfl, (by show ¬ (_ = _); omega), ?_⟩⟩
            refine fin _ (G / m) _ (fm0 hm) (Int.fmod_lt_of_pos _ hm) (Int.ediv_nonneg hG0 (Int.le_of_lt hm)) ?_ fun b o hb e => ?_
            · rw [upd_same, ← hG]; rfl
            · rw [upd_ne hb]; exact k2 b o hb e
          · refine ⟨_, rfl, Or.inl ⟨_, rfl, ?_⟩⟩
            refine ⟨_, _, rfl, rfl, (by show ¬ (_ = _); decide), _, rfl, _, _, rfl, rfl, Or.inl (by decide), _, _, rfl, rfl, _, _, rfl, rfl, ?_⟩
            generalize hz : Int.fmod cell _ = z
            have hz0 : 0 ≤ z := by rw [← hz]; exact fm0 (by decide)
            have hz1 : z < 2147483648 := by rw [← hz]; exact fm1 (by decide) (by decide)
            refine ⟨_, _, rfl, rfl, ⟨by decide, by decide, by omega⟩, Or.inl ⟨_, rfl, ?_⟩⟩
            refine ⟨_, _, rfl, rfl, (by show ¬ (_ = _); decide), ?_⟩
            refine ⟨_, rfl, _, rfl, _, _, rfl, rfl, Or.inl (by decide), _, _, rfl, rfl, _, _, rfl, rfl, Or.inl (by exact fm64 (by decide) (by decide)), ?_⟩
            refine ⟨_, rfl, _, _, rfl, rfl, Or.inl (by decide), _, rfl, _, _, rfl, rfl, Or.inl (by exact fsmall (by decide) (by decide) s0 (by omega)), _, _, rfl, rfl, _, _, rfl, rfl, ?_⟩
            refine ⟨_, _, rfl, rfl, ⟨by decide, by decide, by exact stir (fm0 (by decide)) (fm1 (by decide) (by decide)) s0 (by omega) _ _ _ (by decide) (by decide) (by decide) (by decide) (by decide) (by decide)⟩, Or.inl ⟨_, rfl, ?_⟩⟩
            refine ⟨_, _, rfl, rfl, (by show ¬ (_ = _); decide), ?_⟩
            refine ⟨_, rfl, _, _, rfl, rfl, ⟨by decide, by decide⟩, Or.inl ⟨_, rfl, _, rfl, _, _, rfl, rfl, (by show ¬ (_ = _); omega), ?_⟩⟩
            exact fin _ g _ (fm0 hm) (Int.fmod_lt_of_pos _ hm) g0 hp2 k2
        · refine iteF ?_
          refine ⟨_, rfl, Or.inl ⟨_, rfl, ?_⟩⟩
          refine ⟨_, _, rfl, rfl, (by show ¬ (_ = _); decide), _, rfl, _, _, rfl, rfl, Or.inl (by decide), _, _, rfl, rfl, _, _, rfl, rfl, ?_⟩
          generalize hz : Int.fmod cell _ = z
          have hz0 : 0 ≤ z := by rw [← hz]; exact fm0 (by decide)
          have hz1 : z < 2147483648 := by rw [← hz]; exact fm1 (by decide) (by decide)
          refine ⟨_, _, rfl, rfl, ⟨by decide, by decide, by omega⟩, Or.inl ⟨_, rfl, ?_⟩⟩
          refine ⟨_, _, rfl, rfl, (by show ¬ (_ = _); decide), ?_⟩
          refine ⟨_, rfl, _, rfl, _, _, rfl, rfl, Or.inl (by decide), _, _, rfl, rfl, _, _, rfl, rfl, Or.inl (by exact fm64 (by decide) (by decide)), ?_⟩
          refine ⟨_, rfl, _, _, rfl, rfl, Or.inl (by decide), _, rfl, _, _, rfl, rfl, Or.inl (by exact fsmall (by decide) (by decide) s0 (by omega)), _, _, rfl, rfl, _, _, rfl, rfl, ?_⟩
          refine ⟨_, _, rfl, rfl, ⟨by decide, by decide, by exact stir (fm0 (by decide)) (fm1 (by decide) (by decide)) s0 (by omega) _ _ _ (by decide) (by decide) (by decide) (by decide) (by decide) (by decide)⟩, Or.inl ⟨_, rfl, ?_⟩⟩
          refine ⟨_, _, rfl, rfl, (by show ¬ (_ = _); decide), ?_⟩
          refine ⟨_, rfl, _, _, rfl, rfl, ⟨by decide, by decide⟩, Or.inl ⟨_, rfl, _, rfl, _, _, rfl, rfl, (by show ¬ (_ = _); omega), ?_⟩⟩
          exact fin _ g _ (fm0 hm) (Int.fmod_lt_of_pos _ hm) g0 hp2 k2
      refine ite2 (fun c1 => ?_) (fun c1 => ?_)
      · rw [eqv_nil] at c1
        have hx : xs ≠ [] := by simpa using c1
        have hlen : 0 < xs.length := List.length_pos_iff.mpr hx
        refine ⟨_, rfl, p, _, _, _, rfl, rfl, SqL.of hp2, rfl, ?_⟩
        refine ⟨_, rfl, Or.inl ⟨_, rfl, ?_⟩⟩
        refine ⟨_, rfl, p, _, _, _, rfl, rfl, SqL.of hp2, rfl, l, xs.map V.int, rfl, .inl (SqL.of hl2), ?_⟩
        have hL : ((xs.map V.int).length : Int) = (xs.length : Int) := by rw [List.length_map]
        have hb1 : 0 ≤ s.fmod ((xs.map V.int).length : Int) := Int.fmod_nonneg_of_pos _ (by omega)
        have hb2 : s.fmod ((xs.map V.int).length : Int) < ((xs.map V.int).length : Int) := Int.fmod_lt_of_pos _ (by omega)
        obtain ⟨j, hj⟩ : ∃ j : Nat, s.fmod ((xs.map V.int).length : Int) = (j : Int) := ⟨(s.fmod ((xs.map V.int).length : Int)).toNat, by omega⟩
        have hjl : j < xs.length := by omega
        have hat : atI (xs.map V.int) (s.fmod ((xs.map V.int).length : Int)) = some (V.int xs[j]) := by
          rw [hj]; exact atI_nat (by simp [hjl])
        refine ⟨_, _, rfl, rfl, (by omega), ?_⟩
        refine ⟨l, _, _, V.int xs[j], rfl, rfl, SqL.of hl2, hat, ?_⟩
        exact go _ _ ⟨xs[j], rfl, rfl⟩
      · exact go _ _ ⟨_, rfl, rfl⟩
end
end Lw
namespace Lw
open PySem PySem.Spec PyProof.Rows L2

theorem Kp.refl (p : Addr) (H : Hp) : Kp p H H := fun _ _ _ e => e
theorem Kp.trans {p : Addr} {H H1 H2 : Hp} (a : Kp p H H1) (b : Kp p H1 H2) : Kp p H H2 := fun c o hc e => b c o hc (a c o hc e)
theorem Kp.of {p : Addr} {H H' : Hp} (s : Same H H') : Kp p H H' := fun b o _ e => s b o e
theorem Kp.seq {K : PySem.W.Frag} {p a : Addr} {H H' : Hp} {ys : List V} (k : Kp p H H') (ne : a ≠ p) (h : SqL K H a ys) : SqL K H' a ys := by
  rcases h with (h | ⟨o, h⟩) | h
  · exact .inl (.inl (k _ _ ne h))
  · exact .inl (.inr ⟨o, k _ _ ne h⟩)
  · exact .inr h
theorem same_new {H : Hp} {q : Addr} {o : HO} (hq : H q = none) : Same H (upd H q o) := fun b u e => by rw [upd_ne (ne_of_none e hq)]; exact e
theorem Pen.keep {H H' : Hp} {p l : Addr} {n : Nat} (h : Pen H p l n) (s : Same H H') : Pen H' p l n := by
  obtain ⟨xs, a, g, ⟨h1, h2, h3, h4, h5⟩, h6⟩ := h
  exact ⟨xs, a, g, ⟨s _ _ h1, s _ _ h2, h3, h4, h5⟩, h6⟩
theorem Pen.at {H : Hp} {p l : Addr} {n : Nat} (h : Pen H p l n) : ∃ o, H p = some o := by
  obtain ⟨xs, a, g, h, _⟩ := h
  exact ⟨_, h.at_⟩
theorem Pen.ne_new {H : Hp} {p l q : Addr} {n : Nat} (h : Pen H p l n) (hq : H q = none) : q ≠ p := by
  obtain ⟨o, h1⟩ := h.at
  exact (ne_of_none h1 hq).symm
theorem Pen.more {H : Hp} {p l : Addr} {n m : Nat} (h : Pen H p l n) (hm : n ≤ m) : Pen H p l m := by
  obtain ⟨xs, a, g, h1, h2⟩ := h
  exact ⟨xs, a, g, h1, by omega⟩
def spPick (K : PySem.W.Frag) : Sp := fun vs H Q _ => ∃ (p l a : Addr) (n : Nat) (ys : List V), vs = [.ref p, .ref a] ∧ Pen H p l n ∧ n ≤ 1000000 ∧ SqL K H a ys ∧ a ≠ p ∧ 0 < ys.length ∧ ys.length < 1000000 ∧
  ∀ (j : Nat) (v : V) (H' : Hp), ys[j]? = some v → Pen H' p l (n + 1) → Kp p H H' → Q v H'
def spPen (K : PySem.W.Frag) : Sp := fun vs H Q _ => ∃ (a : Addr) (ns : List Int), vs = [.ref a] ∧ SqL K H a (ns.map V.int) ∧ ns.length ≤ 63 ∧ ∀ (p l : Addr) (H' : Hp), Pen H' p l 0 → Same H H' → H p = none → Q (.ref p) H'
theorem Pen.over {H : Hp} {p l q : Addr} {n : Nat} {o : HO} (h : Pen H p l n) (h1 : q ≠ p) (h2 : q ≠ l) : Pen (upd H q o) p l n := by
  obtain ⟨xs, a, g, ⟨e1, e2, e3, e4, e5⟩, h6⟩ := h
  exact ⟨xs, a, g, ⟨by rw [upd_ne h1.symm]; exact e1, by rw [upd_ne h2.symm]; exact e2, e3, e4, e5⟩, h6⟩
theorem Pen.ne_new2 {H : Hp} {p l q : Addr} {n : Nat} (h : Pen H p l n) (hq : H q = none) : q ≠ l := by
  obtain ⟨xs, a, g, h, _⟩ := h
  exact (ne_of_none h.ls hq).symm
section
variable {P : Program} {w : World} {K : PySem.W.Frag} {mg : Str → Option Value} {base : Heap}
theorem scPick : FnScope ["_law_pen_here", "_law_some"] ["_law_pen_here", "_law_some"] (C8.fnScope sPick) := C8.fnScope_by (by decide +kernel)
theorem cal_pick {f : Addr} {fd : FuncData} (F : C8.Def K mg "_law_pick" sPick f fd) (b : Binds K fd ["_law_pen_here", "_law_some"] []) (T : Txt0 mg) (D : C8.Cal P w K mg base 1 "_law_draw" spDraw []) : C8.Cal P w K mg base 2 "_law_pick" (spPick K) [] := by
  refine C8.cal0 F b .nil scPick (fun vs H Q E h => ?_) (fun cdv A outer st H vs Q E hr h => ?_)
  · obtain ⟨p, l, a, n, ys, rfl, _⟩ := h
    rfl
  · obtain ⟨p, l, a, n, ys, rfl, hp, hn, hs, ne, h0, h1, k⟩ := h
    refine ⟨_, (pss_one (ps_ret (pe_ix ix_list (pv 1) (C8.pe_c D hr (by decide) (by rfl) (pa_cons (pv 0) (pa_cons (pe_callB call_len_seq (by rfl) T.n_len (by decide +kernel) (pa_cons (pv 1) pa_nil)) pa_nil))) (fun _ _ => rfl)))), ?_⟩
    refine ⟨_, rfl, _, rfl, _, rfl, a, ys, rfl, .inl hs, ?_⟩
    refine ⟨p, l, n, _, rfl, (by omega), (by omega), hp, hn, fun r H' r0 r1 hp' k' => ?_⟩
    obtain ⟨j, hj⟩ : ∃ j : Nat, r = (j : Int) := ⟨r.toNat, by omega⟩
    subst hj
    have hjl : j < ys.length := by omega
    refine ⟨a, ys, _, ys[j], rfl, rfl, k'.seq ne hs, atI_nat (by simp [hjl]), ?_⟩
    exact k j _ H' (by simp [hjl]) hp' k'
theorem scPen : FnScope ["_law_script"] ["_law_script"] (C8.fnScope sPen) := C8.fnScope_by (by decide +kernel)
theorem cut_ints (xs : List Int) (lo hi : Option Int) : cutV (xs.map V.int) lo hi = ((xs.drop (HT.sIx xs.length 0 lo)).take (HT.sIx xs.length xs.length hi - HT.sIx xs.length 0 lo)).map V.int := by
  unfold cutV
  rw [List.length_map, List.map_take, List.map_drop]
theorem cal_pen {f : Addr} {fd : FuncData} (F : C8.Def K mg "_law_pen" sPen f fd) (b : Binds K fd ["_law_script"] []) (T : Txt0 mg) : C8.Cal P w K mg base 1 "_law_pen" (spPen K) [] := by
  refine C8.cal0 F b .nil scPen (fun vs H Q E h => ?_) (fun cdv A outer st H vs Q E hr h => ?_)
  · obtain ⟨a, ns, rfl, _⟩ := h
    rfl
  · obtain ⟨a, ns, rfl, hs, hl, k⟩ := h
    refine ⟨_, (pss_one (ps_ret (pe_lst (pa_cons (pe_callTy call_list_of (by rfl) T.n_list (by decide +kernel) (pa_cons (pe_slice sl_list (pv 0) po_none (po_some pe_int)) pa_nil)) (pa_cons pe_int (pa_cons pe_int pa_nil)))))), ?_⟩
    refine ⟨_, rfl, _, rfl, a, _, rfl, hs, fun c hc => ?_⟩
    refine ⟨c, _, rfl, .inl (SqL.of upd_same), fun l hl2 => ?_⟩
    refine ⟨(by show 3 ≤ sizeLine; decide), fun p hp => ?_⟩
    have s1 := same_new (o := HO.lst (cutV (ns.map V.int) none (some 63))) hc
    have s2 := same_new (o := HO.lst (cutV (ns.map V.int) none (some 63))) hl2
    have s3 := same_new (o := HO.lst [V.ref l, V.int 0, V.int 0]) hp
    have pl : p ≠ l := fun e => by rw [e, upd_same] at hp; cases hp
    refine k p l _ ⟨((ns.drop (HT.sIx ns.length 0 none)).take (HT.sIx ns.length ns.length (some 63) - HT.sIx ns.length 0 none)), 0, 0, ⟨upd_same, ?_, pl, by omega, by omega⟩, by omega⟩ ((s1.trans s2).trans s3) ((s1.trans s2).free hp)
    rw [upd_ne pl.symm, upd_same, cut_ints]
end
end Lw
namespace Lw
open PySem PySem.Spec PyProof.Rows L2

/-! ### defs that are called where no repr runs -/
/-- a def's promise where nothing is being shown -/
structure FnG (P : Program) (w : World) (K : PySem.W.Frag) (mg : Str → Option Value) (base : Heap) (k : Nat) (f : Addr) (fd : FuncData) (ps : List Str) (sp : Sp) : Prop where
  len : ∀ vs H Q E, sp vs H Q E → vs.length = ps.length
  run : ∀ (A : Around) (outer : List Env) (s : Shared) (H : Hp) (args : Args) (us : List Value) (vs : List V) (Q : VK) (E : XK), A.guards = some [] → Room k A → Env0 P w K mg base A outer s H →
    BindsTo s fd args (ps.zip us) → Vals vs us → sp vs H Q E → codeAny (model P w) A (.call (.ref f) args) (CR C8.CX0 outer P w H s Q E) s
structure CalG (P : Program) (w : World) (K : PySem.W.Frag) (mg : Str → Option Value) (base : Heap) (k : Nat) (x : Str) (sp : Sp) (dvs : List V) : Prop where
  ex : ∃ (f : Addr) (fd : FuncData) (ps : List Str) (ds : List Value), FnG P w K mg base k f fd ps sp ∧ mg x = some (.ref f) ∧ PySem.W.keepIn K (.ref f) = true ∧ Binds K fd ps ds ∧ Vals dvs ds
section
variable {P : Program} {w : World} {K : PySem.W.Frag} {mg : Str → Option Value} {base : Heap}
theorem calG {x : Str} {st : Stmt} {f : Addr} {fd : FuncData} {N ps : List Str} {ds : List Value} {dvs : List V} {k : Nat} {sp : Sp} (F : C8.Def K mg x st f fd) (b : Binds K fd ps ds) (d : Vals dvs ds) (S : FnScope N ps (C8.fnScope st))
    (len : ∀ vs H Q E, sp vs H Q E → vs.length = ps.length)
    (body : ∀ (cdv : Value) (A : Around) (outer : List Env) (s : Shared) (H : Hp) (vs : List V) (Q : VK) (E : XK), (A.deeper (envOfC x (C8.fnScope st) s.heap.objs.size f cdv)).guards = some [] → Room k (A.deeper (envOfC x (C8.fnScope st) s.heap.objs.size f cdv)) → sp vs H Q E →
      ∃ t, PSs (cxOf C8.CX0 P w K mg base N x (C8.fnScope st) f cdv A outer s H E).nox (C8.fnBody st) t ∧ t { nx := fun _ H' => Q .non H', rt := Q } (start N vs) H) : CalG P w K mg base (k + 1) x sp dvs := by
  refine ⟨f, fd, ps, ds, ⟨len, ?_⟩, F.mgf, F.kp, b, d⟩
  intro A outer s H args us vs Q E hg hr e0 hb r hs
  obtain ⟨oc, od, dV, kV, doc, pm, an, cdv, ct, osl, rfl, lk, hcd⟩ := F.fn.ex
  refine LamX.run_ofS lk hcd S hr e0 hb r (len _ _ _ _ hs) fun hr' => ?_
  obtain ⟨t, h1, h2⟩ := body cdv A outer s H vs Q E hg hr' hs
  exact ⟨t, h1.nox, h2⟩
end
section
variable {X : Cx} {k j : Nat} {x : Str} {sp : Sp} {dvs : List V} {p pos : Pos} {e : Expr} {es : List Expr} {t : TA}
theorem pe_g (c : CalG X.prog X.w X.K X.mg X.base k x sp dvs) (hG : X.A.guards = some []) (hr : Room j X.A) (hk : k ≤ j) (hg : Gl X x) (ha : PA X (e :: es) t)
    (hdb : (x == ("__debug__" : Str)) = false := by decide) (he : starEach (e :: es) X.env = (false, eval e X.env) :: starEach es X.env := by rfl) (hpl : (backTo pos (starEach es X.env)).any (·.1) = false := by rfl) :
    PE X (.Call (.Name x p) (e :: es) [] pos) (tCall sp dvs C8.E0 t) := by
  obtain ⟨f, fd, ps, ds, F, hm, kp, b, d⟩ := c.ex
  refine ⟨fun pins s σ H Q I h => ?_⟩
  refine wpAny_Call_Name_kw (ld_glob I hg hm ?_ hdb)
  refine PySem.W.callWith_K (h₀ := X.base) I.ok.mod.kin kp (thn (ha.run pos pins s σ H _ I h) fun us s1 g => ?_) he hpl
  obtain ⟨vs, H1, I1, r, q⟩ := g
  refine ⟨I1.kIn, ?_⟩
  have r2 := r.append d
  have hl : (us ++ ds).length = ps.length := r2.length.symm.trans (F.len _ _ _ _ q)
  refine wpAny_call (codeAny_mono (F.run X.A X.stack s1 H1 ⟨us, []⟩ (us ++ ds) (vs ++ dvs) Q C8.E0 hG (hr.mono hk) I1.env0 (b s1 us I1.kIn hl) r2 q) fun r s' hq => ?_)
  match r, hq with
  | .error e, hq => exact hq.elim
  | .ok (.ret u), hq => exact I1.after hq
  | .ok .next, hq => exact hq.elim
  | .ok .brk, hq => exact hq.elim
  | .ok .cont, hq => exact hq.elim
/-! ### repr of data -/
def rRepr (K : PySem.W.Frag) : List V → Hp → VK → Prop := fun xs H Q => ∃ (a : Addr) (d : PyData), xs = [.ref a] ∧ Dp K H (.ref a) d ∧ d.showable = true ∧ d.hasDict = false ∧ d.depth ≤ 100 ∧ d.shown.length ≤ sizeLine ∧ Q (.str d.shown) H
theorem call_reprD (hG : X.A.guards = some []) (hr : Room 0 X.A) : CallR X (.builtin "repr") (rRepr X.K) := by
  intro pins s σ H xs us Q I r h
  obtain ⟨a, d, rfl, hd, h1, h2, h3, h4, q⟩ := h
  obtain ⟨u, rfl, ru⟩ := vals1 r
  have e : u = Value.ref a := ru
  subst e
  obtain ⟨as, rd⟩ := Dp.reads I d _ _ hd rfl
  have hun := hr.un
  exact repr_of_reads' rd h1 (fun z => by rw [h2] at z; cases z) hG (by omega) (fun _ _ e => e) (fun h' u' tk kp => ⟨.str d.shown, H, I.kept kp, ⟨u', rfl⟩, q⟩) h4
end
end Lw
namespace Lw
open PySem PySem.Spec PyProof.Rows L2

open LamX
/-! ### a lambda as a value -/
def FnO (f : Addr) : HO := .ext fun h => ∃ o : Obj, h.get? f = some o ∧ o.cls = .type "function"
section
variable {X : Cx} {pins : List (Addr × Obj)} {σ : L2.St} {H : Hp} {s : Shared}
theorem lay_fn {h' : Heap} {t' : Nat} {o : Obj} (I : Inv X pins σ H { s with heap := h', toks := t' }) (ho : o.cls = .type "function") (hs : o.isFreed = false) :
    Inv X pins σ (upd H h'.objs.size (FnO h'.objs.size)) { s with heap := h'.push o, toks := t' } := by
  refine I.laid (h' := h'.push o) (t' := t') (fun b u e => Heap.get?_push_of_some _ e) (Nat.le_refl _) ?_
  have g : (h'.push o).get? h'.objs.size = some o := Heap.get?_push_size _ hs
  refine ⟨⟨o, g, ho⟩, ⟨o, g⟩, ?_⟩
  rintro h1 h2 ⟨u, e1, e2⟩ st
  exact ⟨u, st u e1, e2⟩
theorem lam_val {T : List (Addr × Str)} {c B : Addr} {params : Arguments} {body : Expr} {scope : Scope} {pos : Pos} {E Q : Value → Shared → Prop} (I : Inv X pins σ H s) (TB : TabB X.base X.mg c B) (hcode : X.env.code = .ref c)
    (hm : (B, X.env.qual ++ "<lambda>") ∈ T) (hu : ∀ p ∈ T, p.1 = B → p.2 = X.env.qual ++ "<lambda>") (hT : Tabs T H) (hdef : defaultsOf params X.env = ([], []))
    (hfree : ∀ y ∈ scope.names, y.2 = .free → ∃ c, X.env.cells.lookup y.1 = some c)
    (h : ∀ (f : Addr) (H1 : Hp) (s' : Shared), Inv X pins σ (upd H1 f (FnO f)) s' → ExtN H H1 → Tabs T H1 → H1 f = none → Q (.ref f) s') :
    wpAny (model X.prog X.w) X.A (eval (.Lambda params body scope pos) X.env) Q E s := by
  have known := hT _ hm
  obtain ⟨ps, hB, trip, amg⟩ := known
  refine PySem.W.kla_eval hdef ?_
  have hat : s.heap.get? B = some { cls := .none, data := .fields ps } := I.hok B _ hB
  have blt := TB.bm.keeps I.bk
  have hdc := TB.code.keeps I.bk
  have glb := I.mod.glob.keeps I.bk
  rcases hc : codeAmong pos ps.toList with _ | cv
  · refine PySem.W.kla_makeFunction (mg := X.mg) (c := c) (P := B) (ps := ps) (closure_ok hfree) I.ok.glob glb hcode hdc hat trip hc TB.gP blt ?_
    intro c2 ctv h' tk hx hge hlt hrec htb
    obtain ⟨c3, oc, vs, t, e3, g1, g2, g3⟩ := hrec
    cases e3
    have nC : H c2 = none := I.hok.fresh hge
    have I0 := inv_table (t' := tk) (more := #[rawInt pos.line, rawInt pos.col, .ref c2]) (h' := h') I hB hx htb hge ⟨oc, vs, t, g1, g2, g3⟩
    have stays : ExtN H (upd (upd H B (.tbl (ps ++ #[rawInt pos.line, rawInt pos.col, .ref c2]))) c2 (CodeO c2 (X.env.qual ++ "<lambda>"))) := by
      intro b o e n
      rw [upd_ne (ne_of_none e nC)]
      by_cases hb : b = B
      · subst hb
        rw [hB] at e
        exact absurd (Option.some.inj e).symm (n ps)
      · rw [upd_ne hb]; exact e
    refine h h'.objs.size _ _ (lay_fn (t' := tk) I0 rfl rfl) stays ?_ ?_
    · intro p hp
      by_cases hb : p.1 = B
      · rw [hu p hp hb, hb]
        refine ⟨ps ++ #[rawInt pos.line, rawInt pos.col, .ref c2], ?_, ?_, ?_⟩
        · rw [upd_ne (ne_of_none hB nC), upd_same]
        · rw [show (ps ++ #[rawInt pos.line, rawInt pos.col, .ref c2]).toList = ps.toList ++ [rawInt pos.line, rawInt pos.col, .ref c2] by simp]
          exact PySem.TriplesOk_snoc _ _ _ _ trip
        · intro p' cv' hcv
          rw [show (ps ++ #[rawInt pos.line, rawInt pos.col, .ref c2]).toList = ps.toList ++ [rawInt pos.line, rawInt pos.col, .ref c2] by simp] at hcv
          rcases among_app _ trip hcv with z | z
          · obtain ⟨c0, a1, a2⟩ := amg p' cv' z
            exact ⟨c0, a1, stays _ _ a2 codeO_ne⟩
          · exact ⟨c2, z, upd_same⟩
      · obtain ⟨qs, a1, a2, a3⟩ := hT p hp
        refine ⟨qs, ?_, a2, ?_⟩
        · rw [upd_ne (ne_of_none a1 nC), upd_ne hb]; exact a1
        · intro p' cv' hcv
          obtain ⟨c0, b1, b2⟩ := a3 p' cv' hcv
          exact ⟨c0, b1, stays _ _ b2 codeO_ne⟩
    · have n1 : h'.objs.size ≠ c2 := Nat.ne_of_gt hlt
      have n2 : h'.objs.size ≠ B := Nat.ne_of_gt (Nat.lt_of_lt_of_le (Heap.lt_size hat) (Nat.le_trans hge (Nat.le_of_lt hlt)))
      rw [upd_ne n1, upd_ne n2]
      exact I.hok.fresh (Nat.le_trans hge (Nat.le_of_lt hlt))
  · obtain ⟨c2, e, hco⟩ := amg pos cv hc
    subst e
    refine PySem.W.kla_makeFunctionHit (mg := X.mg) (c := c) (P := B) (ps := ps) (closure_ok hfree) I.ok.glob glb hcode hdc hat trip hc blt ?_
    intro ctv h' tk hx hsz
    have I0 : Inv X pins σ H { s with heap := h', toks := tk } := I.kept hx
    exact h h'.objs.size H _ (lay_fn (t' := tk) I0 rfl rfl) (ExtN.refl H) hT (I.hok.fresh hsz)
end
def tLamV (T : List (Addr × Str)) : TE := fun _ H Q => Tabs T H ∧ ∀ (f : Addr) (H1 : Hp), ExtN H H1 → Tabs T H1 → H1 f = none → Q (.ref f) (upd H1 f (FnO f))
section
variable {X : Cx}
theorem pe_lamV {T : List (Addr × Str)} {c B : Addr} {params : Arguments} {body : Expr} {scope : Scope} {pos : Pos} (TB : TabB X.base X.mg c B) (hcode : X.env.code = .ref c)
    (hm : (B, X.env.qual ++ "<lambda>") ∈ T) (hu : ∀ p ∈ T, p.1 = B → p.2 = X.env.qual ++ "<lambda>") (hdef : defaultsOf params X.env = ([], [])) (L : ∀ y ∈ scope.names, y.2 ≠ .free) :
    PE X (.Lambda params body scope pos) (tLamV T) := by
  refine ⟨fun pins s σ H Q I h => ?_⟩
  refine lam_val I TB hcode hm hu h.1 hdef (fun y hy e => absurd e (L y hy)) fun f H1 s' I1 eN T1 nf => ?_
  exact ⟨.ref f, _, I1, rfl, h.2 f H1 eN T1 nf⟩
end
end Lw
namespace Lf
open PySem
open Sem (wp)

theorem ga : Slot "function" "__getattribute__" "object.__getattribute__" := by
  refine .of (owner := "object") (n := "__getattribute__") ?_ (by decide +kernel) (by decide +kernel) (by decide +kernel) ?_ ?_
  · rw [typeLookup_type, builtinLookup_eq_fast]
    kernel_rfl
  · first
      | exact .inl (by decide +kernel)
      | exact .inr (by decide +kernel)
  · rw [isSubtype_type]
    kernel_rfl
theorem lkc : typeLookup (.type "function") "__class__" = pure (some (.builtin "object.__class__")) := by
  rw [typeLookup_type, builtinLookup_eq_fast]
  kernel_rfl
theorem sub_own : isSubtype (.type "function") (.type (".".intercalate ("object.__class__".cutAt '.').dropLast)) = pure true := by
  rw [F.owner_object_class]
  rw [isSubtype_type]
  kernel_rfl
section
variable {prog : Program} {w : World} {A : Around} {E : Value → Shared → Prop} {h : Heap} {g : Array GenState} {d : Drawn} {t : Nat} {os : OsState} {a : Addr} {o : Obj}
theorem fn_get {R : Result → Shared → Prop} (hx : h.get? a = some o) (hc : o.cls = .type "function")
    (hq : R (.ok (.ret (.type "function"))) ⟨h, g, d, t, os⟩) :
    codeAny (model prog w) A (.call (.builtin "getset_descriptor.__get__") ⟨[.builtin "object.__class__", .ref a, .type "function"], []⟩) R ⟨h, g, d, t, os⟩ := by
  have i1 : (⟨h, g, d, t, os⟩ : Shared).TypeIs (.ref a) "function" := ⟨o, hx, hc⟩
  have i2 : (⟨h, g, d, t, os⟩ : Shared).TypeIs (.builtin "object.__class__") "getset_descriptor" := F.typeOf_object_class
  have i3 := sub_own
  refine codeAny_call_builtin F.slot_gs_get.plain F.entry_gs_get ?_
  refine F.slot_gs_get.check _ _ _ _ _ _ _ _ i2 (F.args_gs_get _ _ _) ?_
  repeat (any_goals (first | assumption | wp_step))
  refine ⟨Code.quiet_builtin _ (by decide +kernel), ?_⟩
  refine codeAny_builtin F.entry_object_class ?_
  repeat (any_goals (first | assumption | wp_step))
theorem fn_ga {tk : Tok} {Q : Fin → Shared → Prop} (hx : h.get? a = some o) (hc : o.cls = .type "function")
    (hq : Q (.done (.ret (.type "function"))) ⟨h, g, d, t, os⟩) :
    wpAny (model prog w) A (Builtin.«object.__getattribute__» ⟨[.ref a, .str "__class__" tk], []⟩) Q E ⟨h, g, d, t, os⟩ := by
  have i1 : (⟨h, g, d, t, os⟩ : Shared).TypeIs (.ref a) "function" := ⟨o, hx, hc⟩
  have i2 : (⟨h, g, d, t, os⟩ : Shared).TypeIs (.builtin "object.__class__") "getset_descriptor" := F.typeOf_object_class
  have i3 := lkc
  have i4 := F.typeOf_object_class
  have i5 := F.slot_gs_get.lookup
  have i6 := F.slot_gs_set.lookup
  repeat (any_goals (first | assumption | wp_step))
  refine fn_get hx hc ?_
  repeat (any_goals (first | assumption | wp_step))
theorem fn_call {tk : Tok} {R : Result → Shared → Prop} (hx : h.get? a = some o) (hc : o.cls = .type "function")
    (hq : R (.ok (.ret (.type "function"))) ⟨h, g, d, t, os⟩) :
    codeAny (model prog w) A (.call (.builtin "object.__getattribute__") ⟨[.ref a, .str "__class__" tk], []⟩) R ⟨h, g, d, t, os⟩ := by
  refine codeAny_call_builtin ga.plain F.entry_object_getattribute ?_
  exact ga.check _ _ _ _ _ _ _ _ (show (⟨h, g, d, t, os⟩ : Shared).TypeIs (.ref a) "function" from ⟨o, hx, hc⟩) (F.args_object_getattribute_2 _ _) (fn_ga hx hc hq)
theorem fn_by {tk : Tok} {Q : Value → Shared → Prop} (hx : h.get? a = some o) (hc : o.cls = .type "function") (hq : Q (.type "function") ⟨h, g, d, t, os⟩) :
    wpAny (model prog w) A (getAttrBy (.ref a) (.str "__class__" tk) false) Q E ⟨h, g, d, t, os⟩ := by
  have i1 : (⟨h, g, d, t, os⟩ : Shared).TypeIs (.ref a) "function" := ⟨o, hx, hc⟩
  have i2 := ga.lookup
  have i3 := ga.bind (.ref a)
  repeat (any_goals (first | assumption | wp_step))
  refine fn_call hx hc ?_
  repeat (any_goals (first | assumption | wp_step))
theorem fn_attr {Q : Option Value → Shared → Prop} (hx : h.get? a = some o) (hc : o.cls = .type "function") (hq : Q (some (.type "function")) ⟨h, g, d, t + 1, os⟩) :
    wpAny (model prog w) A (getAttr? (.ref a) "__class__") Q E ⟨h, g, d, t, os⟩ := by
  unfold getAttr? getAttrBy?
  repeat (any_goals (first | assumption | with_reducible apply fn_by hx hc | wp_step))
end
end Lf
namespace Lw
open PySem PySem.Spec PyProof.Rows L2

open LamX
theorem kitx_fn {K : PySem.W.Frag} {a : Addr} : PySem.W.KitX K (.ref a) (.type "function") (PySem.W.KitAt a "function") := PySem.W.kitx_of PySem.W.kitAt_ty (fun {_ _ _ _ _ s} p k => by
  obtain ⟨h, g, d, t, os⟩ := s
  obtain ⟨o, h1, h2⟩ := p
  exact Lf.fn_attr h1 h2 k)
/-- a value's type: a def's, too -/
inductive TyZ (K : PySem.W.Frag) (H : Hp) : V → Value → Prop where
  | x {v : V} {t : Value} (h : TyX K H v t) : TyZ K H v t
  | fn {a : Addr} (e : H a = some (FnO a)) : TyZ K H (.ref a) (.type "function")
def rIsz (K : PySem.W.Frag) : List V → Hp → VK → Prop := fun xs H Q => ∃ (x c : V) (t u : Value) (b : Bool), xs = [x, c] ∧ ClsV c u ∧ TyZ K H x t ∧ PySem.W.kitOne K t u = some b ∧ Q (.bl b) H
theorem call_isz {X : Cx} : CallR X (.builtin "isinstance") (rIsz X.K) := by
  intro pins s σ H xs us Q I r h
  obtain ⟨x, c, t, u, b, rfl, k, ty, e, q⟩ := h
  obtain ⟨u1, u2, rfl, r1, r2⟩ := vals2 r
  have e2 := k.eq r2
  subst e2
  cases ty with
  | x ty =>
    obtain ⟨W, Z, p, hx⟩ := kit_of I r1 ty
    exact PySem.W.kia_one Z I.kIn p e hx fun tk => ⟨.bl b, H, I.tok tk, rfl, q⟩
  | @fn a ea =>
    have e3 : u1 = Value.ref a := r1
    subst e3
    obtain ⟨⟨o, h1, h2⟩, _⟩ := I.hok a _ ea
    exact PySem.W.kia_one kitx_fn I.kIn ⟨o, h1, h2⟩ e (fun z => by cases z) fun tk => ⟨.bl b, H, I.tok tk, rfl, q⟩
end Lw
namespace Lw
open PySem PySem.Spec PyProof.Rows L2

open LamX
abbrev sIsInt : Stmt := top 3
/-- what the top has told of the module's names -/
structure Txt (mg : Str → Option Value) : Prop extends Txt0 mg where
  n_bool : mg "bool" = none
  n_str : mg "str" = none
  n_isinstance : mg "isinstance" = none
  n_range : mg "range" = none
  n_repr : mg "repr" = none
  n_all : mg "all" = none
/-- any value that a caller may pass here -/
inductive Anyv (K : PySem.W.Frag) (H : Hp) : V → Prop where
  | int (i : Int) : Anyv K H (.int i)
  | non : Anyv K H .non
  | bl (b : Bool) : Anyv K H (.bl b)
  | str (z : Str) : Anyv K H (.str z)
  | obj {a : Addr} {t : Value} (h : TyZ K H (.ref a) t) (h1 : PySem.W.kitOne K t (.type "int") = some false) (h2 : PySem.W.kitOne K t (.type "bool") = some false) (h3 : PySem.W.kitOne K t (.type "str") = some false) : Anyv K H (.ref a)
def isI : V → Bool
  | .int _ => true
  | _ => false
def clsI : V → Bool
  | .int _ => true
  | .bl _ => true
  | _ => false
def clsB : V → Bool
  | .bl _ => true
  | _ => false
def isS : V → Bool
  | .str _ => true
  | _ => false
def inB (x : V) (lo hi : Int) : Bool := match x with
  | .int i => decide (lo ≤ i) && decide (i ≤ hi)
  | _ => false
def spIsInt (K : PySem.W.Frag) : Sp := fun vs H Q _ => ∃ x, vs = [x] ∧ Anyv K H x ∧ Q (.bl (isI x)) H
def spWithin (K : PySem.W.Frag) : Sp := fun vs H Q _ => ∃ x lo hi, vs = [x, .int lo, .int hi] ∧ Anyv K H x ∧ Q (.bl (inB x lo hi)) H
def spSize (K : PySem.W.Frag) : Sp := fun vs H Q _ => ∃ x, vs = [x] ∧ Anyv K H x ∧ Q (.bl (inB x 1 (10 ^ 30))) H
section
variable {P : Program} {w : World} {K : PySem.W.Frag} {mg : Str → Option Value} {base : Heap}
theorem isz_int {H : Hp} {x : V} {Q : V → Hp → Prop} (a : Anyv K H x) (q : Q (.bl (clsI x)) H) : rIsz K [x, .ty "int"] H Q := by
  cases a with
  | int i => exact ⟨_, _, .type "int", .type "int", true, rfl, .ty "int", .x (.base (.int i)), kit_ty (r := true) (by decide +kernel), q⟩
  | non => exact ⟨_, _, .type "NoneType", .type "int", false, rfl, .ty "int", .x (.base .non), kit_ty (r := false) (by decide +kernel), q⟩
  | bl b => exact ⟨_, _, .type "bool", .type "int", true, rfl, .ty "int", .x (.base (.bl b)), kit_ty (r := true) (by decide +kernel), q⟩
  | str z => exact ⟨_, _, .type "str", .type "int", false, rfl, .ty "int", .x (.base (.str z)), kit_ty (r := false) (by decide +kernel), q⟩
  | obj h h1 h2 h3 => exact ⟨_, _, _, .type "int", _, rfl, .ty "int", h, h1, q⟩
theorem isz_bool {H : Hp} {x : V} {Q : V → Hp → Prop} (a : Anyv K H x) (q : Q (.bl (clsB x)) H) : rIsz K [x, .ty "bool"] H Q := by
  cases a with
  | int i => exact ⟨_, _, .type "int", .type "bool", false, rfl, .ty "bool", .x (.base (.int i)), kit_ty (r := false) (by decide +kernel), q⟩
  | non => exact ⟨_, _, .type "NoneType", .type "bool", false, rfl, .ty "bool", .x (.base .non), kit_ty (r := false) (by decide +kernel), q⟩
  | bl b => exact ⟨_, _, .type "bool", .type "bool", true, rfl, .ty "bool", .x (.base (.bl b)), kit_ty (r := true) (by decide +kernel), q⟩
  | str z => exact ⟨_, _, .type "str", .type "bool", false, rfl, .ty "bool", .x (.base (.str z)), kit_ty (r := false) (by decide +kernel), q⟩
  | obj h h1 h2 h3 => exact ⟨_, _, _, .type "bool", _, rfl, .ty "bool", h, h2, q⟩
theorem isz_str {H : Hp} {x : V} {Q : V → Hp → Prop} (a : Anyv K H x) (q : Q (.bl (isS x)) H) : rIsz K [x, .ty "str"] H Q := by
  cases a with
  | int i => exact ⟨_, _, .type "int", .type "str", false, rfl, .ty "str", .x (.base (.int i)), kit_ty (r := false) (by decide +kernel), q⟩
  | non => exact ⟨_, _, .type "NoneType", .type "str", false, rfl, .ty "str", .x (.base .non), kit_ty (r := false) (by decide +kernel), q⟩
  | bl b => exact ⟨_, _, .type "bool", .type "str", false, rfl, .ty "str", .x (.base (.bl b)), kit_ty (r := false) (by decide +kernel), q⟩
  | str z => exact ⟨_, _, .type "str", .type "str", true, rfl, .ty "str", .x (.base (.str z)), kit_ty (r := true) (by decide +kernel), q⟩
  | obj h h1 h2 h3 => exact ⟨_, _, _, .type "str", _, rfl, .ty "str", h, h3, q⟩
theorem scIsInt : FnScope ["value"] ["value"] (C8.fnScope sIsInt) := C8.fnScope_by (by decide +kernel)
theorem fn_isint {f : Addr} {fd : FuncData} (F : C8.Def K mg "is_integer" sIsInt f fd) (T : Txt mg) : FnOk P w K mg base C8.CX0 1 f fd ["value"] (spIsInt K) := by
  refine C8.fn0 F.fn scIsInt (fun vs H Q E h => ?_) (fun cdv A outer st H vs Q E hr h => ?_)
  · obtain ⟨x, rfl, _⟩ := h
    rfl
  · obtain ⟨x, rfl, a, k⟩ := h
    refine ⟨_, (pss_one (ps_ret (pe_and (pe_callB call_isz (by rfl) T.n_isinstance (by decide +kernel) (pa_cons (pv 0) (pa_cons (pe_bltn (v := .ty "int") (by rfl) T.n_int (by decide +kernel) rfl) pa_nil))) (pe_one (pe_not (pe_callB call_isz (by rfl) T.n_isinstance (by decide +kernel) (pa_cons (pv 0) (pa_cons (pe_bltn (v := .ty "bool") (by rfl) T.n_bool (by decide +kernel) rfl) pa_nil)))))))), ?_⟩
    refine ⟨_, rfl, ?_⟩
    dsimp only [tCons, tC, tNil]
    refine isz_int a ⟨_, rfl, ?_⟩
    cases a with
    | int i =>
      refine iteT ⟨_, rfl, ?_⟩
      dsimp only [tCons, tC, tNil]
      exact isz_bool (.int i) ⟨_, rfl, k⟩
    | bl b =>
      refine iteT ⟨_, rfl, ?_⟩
      dsimp only [tCons, tC, tNil]
      exact isz_bool (.bl b) ⟨_, rfl, k⟩
    | non => exact iteF k
    | str z => exact iteF k
    | obj h h1 h2 h3 => exact iteF k
theorem cal_isint {f : Addr} {fd : FuncData} (F : C8.Def K mg "is_integer" sIsInt f fd) (b : Binds K fd ["value"] []) (T : Txt mg) : C8.Cal P w K mg base 1 "is_integer" (spIsInt K) [] :=
  ⟨f, fd, _, [], fn_isint F T, F.mgf, F.kp, b, .nil⟩
end
end Lw
namespace Lw
open PySem PySem.Spec PyProof.Rows L2

open LamX
/-- a comprehension over a text, whose tests and element leave the heap as it is -/
theorem lc_text {z : Str} {g : TG} {tt : TT} {te : TE} {vs : List Nat} {σ : L2.St} {H1 : Hp} {D : Addr} {Qd : Hp → Prop} (σc : Nat → L2.St) (flt : Nat → Bool) (f : Nat → V)
    (hg : ∀ c H (R : L2.St → Hp → Prop), R (σc c) H → g (.str ⟨#[c]⟩) (wipe σ vs) H R) (hw : ∀ c, wipe (σc c) vs = wipe σ vs) (ht : ∀ c H (R : Bool → Hp → Prop), R (flt c) H → tt (σc c) H R)
    (he : ∀ c H (R : V → Hp → Prop), flt c = true → R (f c) H → te (σc c) H R) (hz : z.cps.size ≤ 1000000) (hd : Qd (upd H1 D (.lst ((z.cps.toList.filter flt).map f)))) :
    ∃ W : Nat → Nat → Hp → Prop, (∃ m, W 0 m (upd H1 D (.lst []))) ∧ ∀ i m H, W i m H →
      ((Its z).stop i H ∧ Qd H) ∨ ((Its z).go i H ∧ ∃ Nx : Hp → Prop, (∀ H', Nx H' → ∃ m', m' < m ∧ W (i + 1) m' H') ∧ ∀ x H', (Its z).yld i H x H' → g x (wipe σ vs) H' fun σ2 H2 => wipe σ2 vs = wipe σ vs ∧ tt σ2 H2 fun b H3 =>
        if b = true then te σ2 H3 fun y H4 => ∃ acc, H4 D = some (.lst acc) ∧ acc.length < sizeLine ∧ Nx (upd H4 D (.lst (acc ++ [y]))) else Nx H3) := by
  refine lc_it (walk_str (z := z)) (fun i H => H = upd H1 D (.lst (((z.cps.toList.take i).filter flt).map f))) (by simp) (fun _ _ _ _ => trivial) ?_ ?_
  · intro i x H H' hi hP hY
    obtain ⟨rfl, c, hc, rfl⟩ := hY
    have hc' : z.cps.toList[i]? = some c := by rw [Array.getElem?_toList]; exact hc
    have htake : z.cps.toList.take (i + 1) = z.cps.toList.take i ++ [c] := by
      rw [List.take_add_one, hc']; rfl
    refine hg c _ _ ⟨hw c, ht c _ _ ?_⟩
    rw [hP]
    cases hf : flt c with
    | true =>
      refine iteT (he c _ _ hf ⟨_, upd_same, ?_, ?_⟩)
      · have h1 : (((z.cps.toList.take i).filter flt).map f).length ≤ z.cps.toList.length := by
          rw [List.length_map]
          exact Nat.le_trans (List.length_filter_le _ _) (List.length_take_le' _ _)
        rw [Array.length_toList] at h1
        exact Nat.lt_of_le_of_lt (Nat.le_trans h1 hz) (by show 1000000 < sizeLine; decide)
      · rw [upd_upd, htake, List.filter_append, List.map_append]
        simp [hf]
    | false =>
      refine iteF ?_
      rw [htake, List.filter_append, List.map_append]
      simp [hf]
  · rintro H rfl
    have e : z.cps.toList.take z.cps.size = z.cps.toList := List.take_of_length_le (by rw [Array.length_toList]; exact Nat.le_refl _)
    rw [e]
    exact hd
theorem inV_str (z : Str) : ∀ ws : List Str, inV (.str z) (ws.map V.str) = decide (z ∈ ws)
  | [] => rfl
  | x :: r => by
    show (eqV (.str x) (.str z) || inV (.str z) (r.map V.str)) = decide (z ∈ x :: r)
    rw [inV_str z r]
    show ((x == z) || decide (z ∈ r)) = _
    by_cases h : z = x
    · subst h; simp
    · have h2 : ¬ x = z := fun e => h e.symm
      simp [h, h2]
theorem flat_strs (ws : List Str) : (ws.map V.str).all flatV = true := by
  induction ws with
  | nil => rfl
  | cons x r ih => show (true && (r.map V.str).all flatV) = true; rw [ih]; rfl
theorem dp_signs {K : PySem.W.Frag} {H : Hp} : ∀ cs : List Nat, DpAll K H (cs.map fun c => V.str ⟨#[c]⟩) (cs.map fun c => PyData.str ⟨#[c]⟩)
  | [] => .nil
  | c :: r => .cons (.str _) (dp_signs r)
theorem lay_signs : ∀ cs : List Nat, (∀ c ∈ cs, c < 1114112) → PyData.canLayAll0 (cs.map fun c => PyData.str ⟨#[c]⟩) = true
  | [], _ => rfl
  | c :: r, h => by
    have h1 : PyData.canLay0 (.str ⟨#[c]⟩) = true := by
      show (#[c] : Array Nat).all (· < 1114112) = true
      simp [h c List.mem_cons_self]
    show (PyData.canLay0 (.str ⟨#[c]⟩) && PyData.canLayAll0 (r.map fun c => PyData.str ⟨#[c]⟩)) = true
    rw [h1, lay_signs r fun d hd => h d (List.mem_cons_of_mem _ hd)]; rfl
theorem depth_signs : ∀ cs : List Nat, PyData.depthAll (cs.map fun c => PyData.str ⟨#[c]⟩) = 0
  | [] => rfl
  | c :: r => by
    show max 0 (PyData.depthAll (r.map fun c => PyData.str ⟨#[c]⟩)) = 0
    rw [depth_signs r]; rfl
theorem shaped_signs (cs : List Nat) (h : ∀ c ∈ cs, c < 1114112) : SeqAt.shaped (.list (cs.map fun c => PyData.str ⟨#[c]⟩)) = true := by
  unfold SeqAt.shaped
  have h1 : PyData.canLay0 (.list (cs.map fun c => PyData.str ⟨#[c]⟩)) = true := lay_signs cs h
  have h2 : PyData.depth (.list (cs.map fun c => PyData.str ⟨#[c]⟩)) = 1 := by
    show PyData.depthAll (cs.map fun c => PyData.str ⟨#[c]⟩) + 1 = 1
    rw [depth_signs]
  rw [h1, h2]; rfl
theorem eqv_signs (cs : List Nat) : PyData.eqv (.list (cs.map fun c => PyData.str ⟨#[c]⟩)) (.list []) = cs.isEmpty := by
  cases cs <;> rfl
theorem filt_nil (p : Nat → Bool) : ∀ l : List Nat, (l.filter fun c => !p c).isEmpty = l.all p
  | [] => rfl
  | c :: r => by
    have ih := filt_nil p r
    cases h : p c with
    | true => simp only [List.filter_cons, h, Bool.not_true, List.all_cons, Bool.true_and]; exact ih
    | false => simp [h]
end Lw
namespace Lw
open PySem PySem.Spec PyProof.Rows L2

open SX PySem.NumText
/-! ### texts as lists of signs -/
def figs : List Nat → List Nat
  | 45 :: r => r
  | cs => cs
theorem figs_minus (r : List Nat) : figs (45 :: r) = r := rfl
theorem figs_other {c : Nat} (r : List Nat) (h : c ≠ 45) : figs (c :: r) = c :: r := by
  unfold figs
  split
  · rename_i e
    exact absurd (List.cons.inj e).1 h
  · rfl
theorem len1 : Str.length (S [45]) = 1 := rfl
theorem sub_head (c d : Nat) (r : List Nat) : Builtin.Str.subAt (S (c :: r)) (S [d]) 0 = decide (c = d) := by
  unfold Builtin.Str.subAt
  show ((c :: r).toArray.extract 0 (0 + 1) == #[d]) = _
  simp
  by_cases h : c = d <;> simp [h]
theorem rm_minus (cs : List Nat) : Txt.removeprefix (S cs) (S [45]) = S (figs cs) := by
  unfold Txt.removeprefix
  cases cs with
  | nil => rfl
  | cons c r =>
    rw [sub_head]
    by_cases h : c = 45
    · subst h
      rw [figs_minus]
      simp only [decide_true, if_true]
      show (if (((45 :: r).toArray.size - 1) == (45 :: r).toArray.size) = true then S (45 :: r) else Builtin.Str.strSub (S (45 :: r)) 1 ((45 :: r).toArray.size)) = S r
      have e : ((45 :: r).toArray.size - 1 == (45 :: r).toArray.size) = false := by simp
      rw [e]
      simp [Builtin.Str.strSub, S]
    · rw [figs_other r h]
      simp only [decide_eq_false h, Bool.false_eq_true, if_false]
      rfl
theorem sw_head (c d : Nat) (r : List Nat) : Txt.startswith (S (c :: r)) (S [d]) = decide (c = d) := by
  unfold Txt.startswith
  rw [sub_head]
  have e : decide (0 + (S [d]).length ≤ (S (c :: r)).length) = true := decide_eq_true (by rw [S_len, S_len]; simp)
  rw [e, Bool.true_and]
theorem sw_nil (d : Nat) : Txt.startswith (S []) (S [d]) = false := by
  unfold Txt.startswith
  have e : decide (0 + (S [d]).length ≤ (S []).length) = false := decide_eq_false (by rw [S_len, S_len]; simp)
  rw [e, Bool.false_and]
theorem ascii_S {cs : List Nat} (h : ∀ c ∈ cs, c < 128) : Txt.isascii (S cs) = true := by
  unfold Txt.isascii
  show cs.toArray.all (· < 128) = true
  simp only [List.all_toArray, List.all_eq_true, decide_eq_true_eq]
  exact h
theorem dig128 : ∀ c, c < 128 → Unicode.isDigit c = (decide (48 ≤ c) && decide (c ≤ 57)) := by decide +kernel
/-- all are figures, and there is one -/
def digB (cs : List Nat) : Bool := !cs.isEmpty && cs.all fun c => decide (48 ≤ c) && decide (c ≤ 57)
theorem isdigit_S {cs : List Nat} (h : ∀ c ∈ cs, c < 128) : Txt.isdigit (S cs) = digB cs := by
  unfold Txt.isdigit digB
  have e1 : decide ((S cs).length > 0) = !cs.isEmpty := by
    rw [S_len]
    cases cs <;> simp
  have e2 : (S cs).cps.all Unicode.isDigit = cs.all fun c => decide (48 ≤ c) && decide (c ≤ 57) := by
    show cs.toArray.all Unicode.isDigit = _
    rw [List.all_toArray]
    induction cs with
    | nil => rfl
    | cons c r ih =>
      rw [List.all_cons, List.all_cons, dig128 c (h c List.mem_cons_self), ih (fun d hd => h d (List.mem_cons_of_mem _ hd)) (by rw [S_len]; cases r <;> simp)]
  rw [e1, e2]
theorem digB_all {cs : List Nat} (h : digB cs = true) : AllDigits cs ∧ cs ≠ [] := by
  unfold digB at h
  rw [Bool.and_eq_true] at h
  refine ⟨fun c hc => ?_, fun e => by rw [e] at h; exact absurd h.1 (by decide)⟩
  have := List.all_eq_true.mp h.2 c hc
  rw [Bool.and_eq_true, decide_eq_true_eq, decide_eq_true_eq] at this
  exact this
theorem figs_sub {cs : List Nat} {c : Nat} (h : c ∈ figs cs) : c ∈ cs := by
  unfold figs at h
  split at h
  · exact List.mem_cons_of_mem _ h
  · exact h
theorem figs_len (cs : List Nat) : (figs cs).length ≤ cs.length := by
  unfold figs
  split
  · simp
  · exact Nat.le_refl _
/-! ### what figures are worth -/
theorem fold_app (a b : List Nat) (x : Nat) : (a ++ b).foldl (fun acc c => acc * 10 + (c - 48)) x = b.foldl (fun acc c => acc * 10 + (c - 48)) (a.foldl (fun acc c => acc * 10 + (c - 48)) x) := List.foldl_append
theorem fold_from : ∀ (b : List Nat) (x : Nat), b.foldl (fun acc c => acc * 10 + (c - 48)) x = x * 10 ^ b.length + digitsVal b
  | [], x => by simp [digitsVal]
  | c :: r, x => by
    show r.foldl _ (x * 10 + (c - 48)) = x * 10 ^ (r.length + 1) + r.foldl _ (0 * 10 + (c - 48))
    rw [fold_from r, fold_from r (0 * 10 + (c - 48)), Nat.pow_succ, Nat.zero_mul, Nat.zero_add, Nat.add_mul, Nat.mul_assoc, Nat.mul_comm 10 (10 ^ r.length), Nat.add_assoc]
theorem val_app (a b : List Nat) : digitsVal (a ++ b) = digitsVal a * 10 ^ b.length + digitsVal b := by
  show (a ++ b).foldl _ 0 = _
  rw [fold_app, fold_from b]; rfl
theorem val_zeros : ∀ k : Nat, digitsVal (List.replicate k 48) = 0
  | 0 => rfl
  | k + 1 => val_zeros k
theorem val_lt : ∀ cs : List Nat, AllDigits cs → digitsVal cs < 10 ^ cs.length
  | [], _ => by decide
  | c :: r, h => by
    have h1 := h c List.mem_cons_self
    have ih := val_lt r fun d hd => h d (List.mem_cons_of_mem _ hd)
    have e : digitsVal (c :: r) = (c - 48) * 10 ^ r.length + digitsVal r := by
      rw [show c :: r = [c] ++ r from rfl, val_app]
      show (0 * 10 + (c - 48)) * _ + _ = _
      rw [Nat.zero_mul, Nat.zero_add]
    rw [e, List.length_cons, Nat.pow_succ]
    have h2 : (c - 48) * 10 ^ r.length ≤ 9 * 10 ^ r.length := Nat.mul_le_mul_right _ (by omega)
    omega
theorem ten_two (n : Nat) : 10 ^ n ≤ 2 ^ (4 * n) := by
  rw [Nat.pow_mul]
  exact Nat.pow_le_pow_left (by decide) n
theorem all_zeros (k : Nat) : AllDigits (List.replicate k 48) := fun c hc => by
  rw [List.eq_of_mem_replicate hc]
  decide
theorem AllDigits.app {a b : List Nat} (ha : AllDigits a) (hb : AllDigits b) : AllDigits (a ++ b) := fun c hc => (List.mem_append.mp hc).elim (ha c) (hb c)
/-- the integer that a text writes just as str does -/
def intOf (cs : List Nat) : Option Int :=
  if digB (figs cs) = true then
    if (figs cs).head? = some 48 ∧ cs ≠ [48] then none
    else if cs.head? = some 45 then some (-((digitsVal (figs cs) : Nat) : Int)) else some ((digitsVal (figs cs) : Nat) : Int)
  else none
def optV : Option Int → V
  | none => .non
  | some i => .int i
end Lw
namespace Lw
open PySem PySem.Spec PyProof.Rows L2

open SX PySem.NumText
abbrev sIntOf : Stmt := top 12
theorem rep_list (z : Array Nat) : ∀ n : Nat, ∀ acc : Array Nat, ((List.replicate n z).foldl (· ++ ·) acc).toList = acc.toList ++ (List.replicate n z.toList).flatten
  | 0, acc => by simp
  | n + 1, acc => by
    rw [List.replicate_succ, List.foldl_cons, rep_list z n, List.replicate_succ, List.flatten_cons, Array.toList_append, List.append_assoc]
/-- a text, so many times -/
theorem op_mulS {X : Cx} : OpR X (binaryOp .Mult) (fun x y H Q => ∃ (cs : List Nat) (n : Int), x = .str (S cs) ∧ y = .int n ∧ 0 ≤ n ∧ n ≤ 10000 ∧ cs.length ≤ 1000 ∧ Q (.str (S (List.replicate n.toNat cs).flatten)) H) := by
  intro pins s σ H x y v u Q I rx ry h
  obtain ⟨cs, n, rfl, rfl, h0, h1, h2, q⟩ := h
  obtain ⟨t, rfl⟩ := rx
  obtain ⟨t2, rfl⟩ := ry
  refine PySem.P.mul_str ?_ ?_ ?_ ?_
  · rw [decide_eq_false (show ¬ n < -(2 ^ 63 : Int) by omega), decide_eq_false (show ¬ n ≥ 2 ^ 63 by omega)]; rfl
  · intro hn _ hz
    rw [S_len] at hz
    have : (9223372036854775807 : Int) / n ≥ 922337203685477 := by
      rw [ge_iff_le, Int.le_ediv_iff_mul_le (by omega)]
      omega
    have e : ((2 : Int) ^ 63 - 1) = 9223372036854775807 := by decide
    rw [e] at hz
    omega
  · intro hn _
    rw [S_len]
    have : cs.length * n.toNat ≤ 1000 * 10000 := Nat.mul_le_mul h2 (by omega)
    refine decide_eq_false ?_
    exact Nat.not_lt.mpr (Nat.le_trans this (by rw [sizeLine_eq]; decide))
  · by_cases hn : n < 1
    · rw [if_pos hn]
      have e : n.toNat = 0 := by omega
      rw [e] at q
      exact ⟨by decide, ⟨.str (S []), H, I.tok _, ⟨_, rfl⟩, q⟩⟩
    · rw [if_neg hn]
      by_cases hc : (n == 1 || (S cs).length == 0) = true
      · rw [if_pos hc]
        have e : (List.replicate n.toNat cs).flatten = cs := by
          rw [Bool.or_eq_true, beq_iff_eq, beq_iff_eq, S_len] at hc
          rcases hc with e | e
          · subst e; simp
          · rw [List.length_eq_zero_iff.mp e]; simp
        rw [e] at q
        exact ⟨.str (S cs), H, I, ⟨t, rfl⟩, q⟩
      · rw [if_neg hc]
        have e : (⟨(List.replicate n.toNat (S cs).cps).foldl (· ++ ·) #[]⟩ : Str) = S (List.replicate n.toNat cs).flatten := by
          refine congrArg Str.mk ?_
          refine Array.toList_inj.mp ?_
          rw [rep_list]; simp [S]
        rw [e]
        refine ⟨?_, ⟨.str _, H, I.tok _, ⟨_, rfl⟩, q⟩⟩
        rw [S_len, List.length_flatten, List.map_replicate, List.sum_replicate_nat]
        exact Nat.le_trans (Nat.mul_le_mul (show n.toNat ≤ 10000 by omega) h2) (by rw [sizeLine_eq]; decide)
theorem join_ifS {c : TT} {t u : TS} {D : Ends} {σ : L2.St} {H : Hp} (Pj : L2.St → Hp → Prop) (hr : ∀ σ' H', Pj σ' H' → D.nx σ' H') (h : (∀ σ' H', Pj σ' H' → D.nx σ' H') → tIfS c t u D σ H) : tIfS c t u D σ H := h hr
theorem nxt {t u : TS} {D D' : Ends} {σ : L2.St} {H : Hp} (e : D'.nx = tSeq t u D) (h : t { D with nx := u D } σ H) : tNext D' σ H := by
  show D'.nx σ H
  rw [e]; exact h
theorem slice_mid {a : List Nat} {i j : Int} (h0 : 0 ≤ i) (h1 : i ≤ j) (h2 : j ≤ (a.length : Int)) : Txt.slice (S a) (some i) (some j) = S ((a.drop i.toNat).take (j - i).toNat) :=
  beq_iff_eq.mp (PyProof.Rows.slice_closesL (x := S a) h0 h1 (by rw [S_len]; exact h2))
theorem rg60 (m : Nat) (hm : m ≤ 1000) : RgC 0 ((60 * m : Nat) : Int) 60 m := by
  refine ⟨by decide, by decide, ?_, ?_⟩
  · have key : ∀ x : Int, 0 ≤ x → x ≤ 100000 → Builtin.Range.rangeFitsLong x = true := fun x h0 h1 => by
      unfold Builtin.Range.rangeFitsLong
      rw [decide_eq_true (show -(2 ^ 63) ≤ x by omega), decide_eq_true (show x < 2 ^ 63 by omega)]; rfl
    have size : Builtin.Range.rangeSize 0 ((60 * m : Nat) : Int) 60 = (m : Int) := by
      unfold Builtin.Range.rangeSize
      rw [if_pos (show (60 : Int) > 0 by decide)]
      split <;> omega
    unfold Builtin.Range.small
    rw [size, if_pos (show (60 : Int) > 0 by decide), key 0 (by omega) (by omega), key _ (by omega) (by omega), key 60 (by omega) (by omega), key _ (by omega) (by omega), key _ (by omega) (by omega)]
    simp
  · unfold Builtin.Range.rangeSize
    rw [if_pos (show (60 : Int) > 0 by decide)]
    split <;> omega
structure TxtN (mg : Str → Option Value) : Prop extends Txt mg where
  c_PF : ∃ t, mg "PIECE_FIGURES" = some (.int 60 t)
  c_PW : ∃ t, mg "PIECE_WORTH" = some (.int (10 ^ 60) t)
def TextOk (x : V) : Prop := ∀ z, x = .str z → ∃ cs, z = S cs ∧ (∀ c ∈ cs, c < 128) ∧ cs.length ≤ 5000
def intV : V → Option Int
  | .str z => intOf z.cps.toList
  | _ => none
def spIntOf (K : PySem.W.Frag) : Sp := fun vs H Q _ => ∃ x, vs = [x] ∧ Anyv K H x ∧ TextOk x ∧ Q (optV (intV x)) H
section
variable {P : Program} {w : World} {K : PySem.W.Frag} {mg : Str → Option Value} {base : Heap}
theorem scIntOf : FnScope ["word", "figures", "filled", "worth", "at"] ["word"] (C8.fnScope sIntOf) := C8.fnScope_by (by decide +kernel)
theorem cal_intof {f : Addr} {fd : FuncData} (F : C8.Def K mg "integer_of" sIntOf f fd) (b : Binds K fd ["word"] []) (T : TxtN mg) : C8.Cal P w K mg base 1 "integer_of" (spIntOf K) [] := by
  refine C8.cal0 F b .nil scIntOf (fun vs H Q E h => ?_) (fun cdv A outer st H vs Q E hr h => ?_)
  · obtain ⟨x, rfl, _⟩ := h
    rfl
  · obtain ⟨x, rfl, a, ok, k⟩ := h
    obtain ⟨t1, hPF⟩ := T.c_PF
    obtain ⟨t2, hPW⟩ := T.c_PW
    refine ⟨_, (pss_cons (ps_if (pt_not (pt_val (pe_callB call_isz (by rfl) T.n_isinstance (by decide +kernel) (pa_cons (pv 0) (pa_cons (pe_bltn (v := .ty "str") (by rfl) T.n_str (by decide +kernel) rfl) pa_nil))))) (pss_one (ps_ret pe_non)) pss_nil)
  (pss_cons (ps_set (i := 1) scIntOf.nd rfl (Or.inl rfl) (pe_m1 PySem.F.slot_str_removeprefix PySem.F.type_str_removeprefix mt_removeprefix (pv 0) pe_str))
  (pss_cons (ps_if (PW.pt (pw_or (pt_not (pt_val (pe_m0 PySem.F.slot_str_isascii PySem.F.type_str_isascii mt_isascii (pv 1)))) (pw_or1 (pt_not (pt_val (pe_m0 PySem.F.slot_str_isdigit PySem.F.type_str_isdigit mt_isdigit (pv 1))))))) (pss_one (ps_ret pe_non)) pss_nil)
  (pss_cons (ps_if (PW.pt (pw_and (pt_val (pe_m1 PySem.F.slot_str_startswith PySem.F.type_str_startswith mt_startswith (pv 1) pe_str)) (pw_and1 (pt_cmpR op_ne (pv 0) pe_str (nomark _))))) (pss_one (ps_ret pe_non)) pss_nil)
  (pss_cons (ps_set (i := 2) scIntOf.nd rfl (Or.inl rfl) (pe_op op_add_str (pe_op op_mulS pe_str (pe_op op_modN (pe_un un_neg (pe_callB call_len_str (by rfl) T.n_len (by decide +kernel) (pa_cons (pv 1) pa_nil))) (pe_glob (v := .int 60) rfl hPF ⟨_, rfl⟩))) (pv 1)))
  (pss_cons (ps_set (i := 3) scIntOf.nd rfl (Or.inl rfl) pe_int)
  (pss_cons (ps_for PassesOwn.never rfl (pi_range3 (by rfl) T.n_range (pa_cons pe_int (pa_cons (pe_callB call_len_str (by rfl) T.n_len (by decide +kernel) (pa_cons (pv 2) pa_nil)) (pa_cons (pe_glob (v := .int 60) rfl hPF ⟨_, rfl⟩) pa_nil)))) (pg_name (i := 4) scIntOf.nd rfl (Or.inl rfl)) (pss_one (ps_set (i := 3) scIntOf.nd rfl (Or.inl rfl) (pe_op op_add (pe_op op_mulW (pv 3) (pe_glob (v := .int (10 ^ 60)) rfl hPW ⟨_, rfl⟩)) (pe_callTy call_int_str (by rfl) T.n_int (by decide +kernel) (pa_cons (pe_slice C8.sl_txt (pv 2) (po_some (pv 4)) (po_some (pe_op op_add (pv 4) (pe_glob (v := .int 60) rfl hPF ⟨_, rfl⟩)))) pa_nil))))))
  (pss_one (ps_ret (pe_ifExp (pt_val (pe_m1 PySem.F.slot_str_startswith PySem.F.type_str_startswith mt_startswith (pv 0) pe_str)) (pe_un un_neg (pv 3)) (pv 3))))))))))), ?_⟩
    refine ⟨_, rfl, ?_⟩
    dsimp only [tCons, tC, tNil]
    refine isz_str a ⟨_, rfl, ?_⟩
    cases a with
    | str z =>
      obtain ⟨cs, rfl, h128, hlen⟩ := ok z rfl
      refine iteF ?_
      have hl : (S cs).length ≤ sizeLine := by rw [S_len]; exact Nat.le_trans hlen (by decide)
      have f128 : ∀ c ∈ figs cs, c < 128 := fun c hc => h128 c (figs_sub hc)
      have flen : (figs cs).length ≤ 5000 := Nat.le_trans (figs_len cs) hlen
      refine ⟨_, rfl, ⟨_, rfl⟩, _, _, rfl, rfl, hl, ?_⟩
      rw [show (Str.ofString "-") = S [45] from rfl, rm_minus]
      refine ⟨_, rfl, ⟨_, rfl⟩, _, rfl, rfl, trivial, _, rfl, ?_⟩
      rw [ascii_S f128]
      refine iteF ⟨_, rfl, ⟨_, rfl⟩, _, rfl, rfl, trivial, _, rfl, ?_⟩
      rw [isdigit_S f128]
      have kk : ∀ o : Option Int, o = intOf cs → Q (optV o) H := fun o e => by rw [e]; exact k
      cases hd : digB (figs cs) with
      | false =>
        refine iteT (kk none ?_)
        unfold intOf
        rw [hd]; rfl
      | true =>
        refine iteF ?_
        obtain ⟨hall, hne⟩ := digB_all hd
        obtain ⟨f, fr, hfig⟩ : ∃ f fr, figs cs = f :: fr := by
          cases e : figs cs with
          | nil => exact absurd e hne
          | cons f fr => exact ⟨f, fr, rfl⟩
        have bad : ¬ ((figs cs).head? = some 48 ∧ cs ≠ [48]) → ∀ o : Option Int, (o = if cs.head? = some 45 then some (-((digitsVal (figs cs) : Nat) : Int)) else some ((digitsVal (figs cs) : Nat) : Int)) → Q (optV o) H := fun hb o e => by
          refine kk o ?_
          unfold intOf
          rw [if_pos hd, if_neg hb]; exact e
        have s0 : Str.ofString "0" = S [48] := rfl
        dsimp only [tNext, tSeq]
        refine join_ifS (fun σ' H' => σ' = [some (.str (S cs)), some (.str (S (figs cs))), none, none, none] ∧ H' = H ∧ ¬ ((figs cs).head? = some 48 ∧ cs ≠ [48])) ?rest (fun go => ?_)
        case rest =>
          rintro σ' H' ⟨rfl, rfl, hb⟩
          have fl : ((S (figs cs)).length : Int) = ((figs cs).length : Int) := by rw [S_len]
          obtain ⟨pad, hpad⟩ : ∃ pad : Nat, Int.fmod (-((S (figs cs)).length : Int)) 60 = (pad : Int) := ⟨(Int.fmod (-((S (figs cs)).length : Int)) 60).toNat, by have := fm0 (a := -((S (figs cs)).length : Int)) (d := 60) (by decide); omega⟩
          have hpad' : (-((figs cs).length : Int)) % 60 = (pad : Int) := by rw [← fl, ← hpad, Int.fmod_eq_emod_of_nonneg _ (by decide)]
          obtain ⟨m, hm⟩ : ∃ m : Nat, pad + (figs cs).length = 60 * m := ⟨(pad + (figs cs).length) / 60, by omega⟩
          have hfl : (S (figs cs)).length ≤ sizeLine := by rw [S_len]; exact Nat.le_trans flen (by decide)
          refine ⟨_, rfl, _, rfl, hfl, _, rfl, _, _, rfl, rfl, (by show ¬ (_ = _); decide), [48], _, s0 ▸ rfl, rfl, ?_⟩
          rw [hpad]
          have pl : pad < 60 := by omega
          have ez : (List.replicate ((pad : Int).toNat) [48]).flatten = List.replicate pad 48 := by
            rw [Int.toNat_natCast]
            induction pad with
            | zero => rfl
            | succ p ih => rw [List.replicate_succ, List.flatten_cons, List.replicate_succ]; simp
          rw [ez]
          obtain ⟨fill, hfill⟩ : ∃ fill, fill = List.replicate pad 48 ++ figs cs := ⟨_, rfl⟩
          have flenF : fill.length = 60 * m := by rw [hfill, List.length_append, List.length_replicate]; exact hm
          have allF : AllDigits fill := by rw [hfill]; exact AllDigits.app (all_zeros pad) hall
          have valF : digitsVal fill = digitsVal (figs cs) := by rw [hfill, val_app, val_zeros, Nat.zero_mul, Nat.zero_add]
          have hm60 : m ≤ 90 := by omega
          have lF : (S fill).length ≤ sizeLine := by rw [S_len, flenF]; exact Nat.le_trans (show 60 * m ≤ 5400 by omega) (by decide)
          refine ⟨by omega, by omega, by decide, _, rfl, _, _, rfl, rfl, ?_, ?_⟩
          · rw [S_len, S_len, List.length_replicate]; exact Nat.le_trans (show pad + (figs cs).length ≤ 5400 by omega) (by decide)
          rw [S_cat, ← hfill]
          refine ⟨_, rfl, _, rfl, lF, 0, _, 60, m, rfl, ?_, for_rangeC (fun i σ' H2 => ∃ at_, σ' = [some (V.str (S cs)), some (V.str (S (figs cs))), some (V.str (S fill)), some (V.int ((digitsVal (fill.take (60 * i)) : Nat) : Int)), at_] ∧ H2 = H') ⟨none, rfl, rfl⟩ ?_ ?_⟩
          · rw [show ((S fill).length : Int) = ((60 * m : Nat) : Int) by rw [S_len, flenF]]
            exact rg60 m (by omega)
          · rintro i σ' H2 hi ⟨at_, rfl, rfl⟩
            have h60 : 60 * i + 60 ≤ 60 * m := by omega
            have sl : Txt.slice (S fill) (some (0 + ((i : Nat) : Int) * 60)) (some (0 + ((i : Nat) : Int) * 60 + 60)) = S ((fill.drop (60 * i)).take 60) := by
              rw [slice_mid (by omega) (by omega) (by rw [flenF]; omega)]
              rw [show (0 + ((i : Nat) : Int) * 60).toNat = 60 * i by omega, show (0 + ((i : Nat) : Int) * 60 + 60 - (0 + ((i : Nat) : Int) * 60)).toNat = 60 by omega]
            have cl : ((fill.drop (60 * i)).take 60).length = 60 := by rw [List.length_take, List.length_drop, flenF]; omega
            have cd : AllDigits ((fill.drop (60 * i)).take 60) := fun c hc => allF c (List.mem_of_mem_drop (List.mem_of_mem_take hc))
            have tk : fill.take (60 * (i + 1)) = fill.take (60 * i) ++ (fill.drop (60 * i)).take 60 := by rw [Nat.mul_succ, List.take_add]
            have td : AllDigits (fill.take (60 * i)) := fun c hc => allF c (List.mem_of_mem_take hc)
            have tl : (fill.take (60 * i)).length = 60 * i := by rw [List.length_take, flenF]; omega
            have big : (((digitsVal (fill.take (60 * i)) : Nat) : Int)).natAbs < 2 ^ (4 * (60 * i) + 1) := by
              have h1 := val_lt _ td
              rw [tl] at h1
              have h2 := ten_two (60 * i)
              have h3 : (2 : Nat) ^ (4 * (60 * i)) < 2 ^ (4 * (60 * i) + 1) := Nat.pow_lt_pow_right (by decide) (by omega)
              rw [Int.natAbs_natCast]
              omega
            refine ⟨_, rfl, _, _, rfl, rfl, wide_mul big (show ((10 : Int) ^ 60).natAbs < 2 ^ 240 by decide) (by omega) (by decide) (by omega), ?_⟩
            have hint : intText? (Txt.slice (S fill) (some (0 + ((i : Nat) : Int) * 60)) (some (0 + ((i : Nat) : Int) * 60 + 60))) = some ((digitsVal ((fill.drop (60 * i)).take 60) : Nat) : Int) := by
              rw [sl]
              exact intText_digits (x := S ((fill.drop (60 * i)).take 60)) cd (fun e => by rw [show (fill.drop (60 * i)).take 60 = [] from e] at cl; exact absurd cl (by decide)) (by rw [S_len, cl]; decide)
            have hsl : (Txt.slice (S fill) (some (0 + ((i : Nat) : Int) * 60)) (some (0 + ((i : Nat) : Int) * 60 + 60))).length ≤ 640 := by rw [sl, S_len, cl]; decide
            have val : ((digitsVal (fill.take (60 * i)) : Nat) : Int) * 10 ^ 60 + ((digitsVal ((fill.drop (60 * i)).take 60) : Nat) : Int) = ((digitsVal (fill.take (60 * (i + 1))) : Nat) : Int) := by
              rw [tk, val_app, cl]
              rw [Int.natCast_add, Int.natCast_mul, Int.natCast_pow]; rfl
            refine ⟨_, rfl, ⟨_, rfl, _, rfl, ⟨_, rfl, _, _, rfl, rfl, _, rfl, _, rfl, lF, _, _, rfl, hint, hsl, _, _, rfl, rfl, some (V.int (0 + ((i : Nat) : Int) * 60)), ?_, rfl⟩⟩⟩
            rw [← val]; rfl
          · rintro σ' H2 ⟨at_, rfl, rfl⟩
            have full : fill.take (60 * m) = fill := List.take_of_length_le (by omega)
            rw [full, valF]
            refine ⟨_, rfl, ⟨_, rfl⟩, _, _, rfl, rfl, _, rfl, ?_⟩
            obtain ⟨c, r, hcs⟩ : ∃ c r, cs = c :: r := by
              cases e : cs with
              | nil => rw [e] at hfig; cases hfig
              | cons c r => exact ⟨c, r, rfl⟩
            have esw : Txt.startswith (S cs) (S [45]) = decide (c = 45) := by rw [hcs]; exact sw_head c 45 r
            rw [esw]
            refine ite2 (fun c2 => ?_) (fun c2 => ?_)
            · have e2 : c = 45 := of_decide_eq_true c2
              refine ⟨_, rfl, _, rfl, bad hb (some (-((digitsVal (figs cs) : Nat) : Int))) ?_⟩
              rw [if_pos (show cs.head? = some 45 by rw [hcs, e2]; rfl)]
            · have e2 : c ≠ 45 := of_decide_eq_false (Bool.eq_false_iff.mpr c2)
              refine ⟨_, rfl, bad hb (some ((digitsVal (figs cs) : Nat) : Int)) ?_⟩
              rw [if_neg (show ¬ cs.head? = some 45 by rw [hcs]; exact fun z => e2 (Option.some.inj z))]
        refine ⟨_, rfl, ⟨_, rfl⟩, _, _, rfl, rfl, _, rfl, ?_⟩
        rw [hfig, s0, sw_head]
        refine ite2 (fun c0 => ?_) (fun c0 => ?_)
        · refine ⟨_, rfl, rfl, _, rfl, ite2 (fun c1 => ?_) (fun c1 => ?_)⟩
          · refine kk none ?_
            unfold intOf
            rw [if_pos hd, if_pos]
            refine ⟨by rw [hfig, of_decide_eq_true c0]; rfl, fun e => ?_⟩
            rw [e] at c1
            exact absurd c1 (by decide)
          · refine go _ _ ⟨by rw [hfig]; rfl, rfl, fun hb => hb.2 ?_⟩
            have e : V.str (S cs) = V.str (S [48]) := by simpa using c1
            exact S_inj (V.str.inj e)
        · refine iteF (go _ _ ⟨by rw [hfig]; rfl, rfl, fun hb => ?_⟩)
          rw [hfig] at hb
          have e : f = 48 := Option.some.inj hb.1
          exact c0 (decide_eq_true e)
    | int i => exact iteT k
    | bl b => exact iteT k
    | non => exact iteT k
    | obj h h1 h2 h3 => exact iteT k
end
end Lw
namespace Lw
open PySem PySem.Spec PyProof.Rows L2

abbrev sCom : Stmt := top 23
abbrev sLea : Stmt := top 24
abbrev sPai : Stmt := top 25
/-! ### the least form of a pair -/
def sg (b : Int) : Int := if 0 < b then 1 else -1
def lov (t b : Int) : Int := sg b * t / ((Nat.gcd t.natAbs b.natAbs : Nat) : Int)
def lun (t b : Int) : Int := sg b * b / ((Nat.gcd t.natAbs b.natAbs : Nat) : Int)
def spCom : Sp := fun vs H Q _ => ∃ a b : Nat, vs = [.int (a : Int), .int (b : Int)] ∧ Q (.int ((Nat.gcd a b : Nat) : Int)) H
/-- an integer that is not too long to be reckoned with -/
def Small (i : Int) : Prop := i.natAbs < 2 ^ 4000
def spLea : Sp := fun vs H Q _ => ∃ t b : Int, vs = [.int t, .int b] ∧ b ≠ 0 ∧ Small t ∧ Small b ∧ ∀ l, H l = none → Q (.ref l) (upd H l (.tup [.int (lov t b), .int (lun t b)]))
def spPai : Sp := fun vs H Q _ => ∃ (p pl : Addr) (n : Nat), vs = [.ref p] ∧ Pen H p pl n ∧ n ≤ 900000 ∧ ∀ (t b : Int) (l : Addr) (H' : Hp), t.natAbs ≤ 10 ^ 32 → b.natAbs ≤ 10 ^ 32 → b ≠ 0 → H' l = some (.tup [.int t, .int b]) → H l = none → Pen H' p pl (n + 4) → Kp p H H' → Q (.ref l) H'
theorem small_log {i : Int} (h : Small i) : i.natAbs.log2 < 4000 := by
  by_cases z : i.natAbs = 0
  · rw [z]; decide
  · exact (Nat.log2_lt z).mpr h
theorem join_any {t : TS} {D : Ends} {σ : L2.St} {H : Hp} (Pj : L2.St → Hp → Prop) (hr : ∀ σ' H', Pj σ' H' → D.nx σ' H') (h : (∀ σ' H', Pj σ' H' → D.nx σ' H') → t D σ H) : t D σ H := h hr
theorem Kp.free {H H' : Hp} {p q : Addr} (k : Kp p H H') (ne : q ≠ p) (hq : H' q = none) : H q = none := by
  cases e : H q with
  | none => rfl
  | some o => rw [k q o ne e] at hq; cases hq
section
variable {P : Program} {w : World} {K : PySem.W.Frag} {mg : Str → Option Value} {base : Heap}
theorem scCom : FnScope ["_law_one_so", "_law_two_so"] ["_law_one_so", "_law_two_so"] (C8.fnScope sCom) := C8.fnScope_by (by decide +kernel)
theorem cal_com {f : Addr} {fd : FuncData} (F : C8.Def K mg "_law_common" sCom f fd) (b : Binds K fd ["_law_one_so", "_law_two_so"] []) (T : Txt0 mg) : C8.Cal P w K mg base 1 "_law_common" spCom [] := by
  refine C8.cal0 F b .nil scCom (fun vs H Q E h => ?_) (fun cdv A outer st H vs Q E hr h => ?_)
  · obtain ⟨x, y, rfl, _⟩ := h
    rfl
  · obtain ⟨x, y, rfl, k⟩ := h
    refine ⟨_, (pss_cons (ps_while PassesOwn.never (pt_cmpR op_ne (pv 1) pe_int (nomark _)) (pss_one (ps_par (i := 0) (j := 1) rfl scCom.nd rfl rfl (by decide) rfl rfl (pa_cons (pv 1) (pa_cons (pe_op op_modN (pe_callTy call_int1 (by rfl) T.n_int (by decide +kernel) (pa_cons (pv 0) pa_nil)) (pv 1)) pa_nil)) (by rfl))))
  (pss_one (ps_ret (pv 0)))), ?_⟩
    refine ⟨fun m σ' H' => H' = H ∧ ∃ u v : Nat, σ' = [some (V.int (u : Int)), some (V.int (v : Int))] ∧ Nat.gcd u v = Nat.gcd x y ∧ m = v, ⟨y, rfl, x, y, rfl, rfl, rfl⟩, ?_⟩
    rintro m σ' H' ⟨rfl, u, v, rfl, hg, rfl⟩
    refine ⟨_, rfl, rfl, _, rfl, ite2 (fun c => ?_) (fun c => ?_)⟩
    · have v0 : m ≠ 0 := fun e => by subst e; exact absurd c (by decide)
      have em : Int.fmod (u : Int) (m : Int) = ((u % m : Nat) : Int) := by
        rw [Int.fmod_eq_emod_of_nonneg _ (Int.natCast_nonneg m)]
        exact (Int.natCast_emod u m).symm
      have eg : Nat.gcd m (u % m) = Nat.gcd u m := by rw [Nat.gcd_comm m (u % m), ← Nat.gcd_rec, Nat.gcd_comm]
      refine ⟨fun σ' H'' => H'' = H' ∧ σ' = [some (V.int (m : Int)), some (V.int ((u % m : Nat) : Int))], fun σ' H'' e => ⟨u % m, Nat.mod_lt _ (Nat.pos_of_ne_zero v0), e.1, m, u % m, e.2, eg.trans hg, rfl⟩, ?_⟩
      refine ⟨_, rfl, _, rfl, .inl ⟨_, rfl, _, rfl, _, _, rfl, rfl, (by omega), _, _, rfl, rfl, ?_⟩⟩
      exact congrArg (fun i : Int => [some (V.int (m : Int)), some (V.int i)]) em
    · have v0 : m = 0 := by
        cases m with
        | zero => rfl
        | succ k => exact absurd (by rw [decide_eq_false (fun e => by have := V.int.inj e; omega)]; rfl) c
      subst v0
      refine ⟨_, rfl, ?_⟩
      rw [Nat.gcd_zero_right] at hg
      rw [hg]
      exact k
theorem scLea : FnScope ["_law_top", "_law_bottom", "_law_divisor", "_law_sign"] ["_law_top", "_law_bottom"] (C8.fnScope sLea) := C8.fnScope_by (by decide +kernel)
theorem cal_lea {f : Addr} {fd : FuncData} (F : C8.Def K mg "_law_least" sLea f fd) (b : Binds K fd ["_law_top", "_law_bottom"] []) (T : Txt0 mg) (DC : C8.Cal P w K mg base 1 "_law_common" spCom []) : C8.Cal P w K mg base 2 "_law_least" spLea [] := by
  refine C8.cal0 F b .nil scLea (fun vs H Q E h => ?_) (fun cdv A outer st H vs Q E hr h => ?_)
  · obtain ⟨x, y, rfl, _⟩ := h
    rfl
  · obtain ⟨t, b, rfl, b0, st1, sb, k⟩ := h
    refine ⟨_, (pss_cons (ps_set (i := 2) scLea.nd rfl (Or.inl rfl) (C8.pe_c DC hr (by decide) (by rfl) (pa_cons (pe_callB call_abs (by rfl) T.n_abs (by decide +kernel) (pa_cons (pv 0) pa_nil)) (pa_cons (pe_callB call_abs (by rfl) T.n_abs (by decide +kernel) (pa_cons (pv 1) pa_nil)) pa_nil))))
  (pss_cons (ps_set (i := 3) scLea.nd rfl (Or.inl rfl) (pe_ifExp (pt_cmpR op_gt (pv 1) pe_int (nomark _)) pe_int (pe_un un_neg pe_int)))
  (pss_one (ps_ret (pe_tup (pa_cons (pe_op op_fdivW (pe_op op_mulW (pv 3) (pv 0)) (pv 2)) (pa_cons (pe_op op_fdivW (pe_op op_mulW (pv 3) (pv 1)) (pv 2)) pa_nil))))))), ?_⟩
    have ab : ∀ i : Int, (if i < 0 then -i else i) = (i.natAbs : Int) := fun i => by split <;> omega
    have g0 : 0 < Nat.gcd t.natAbs b.natAbs := Nat.gcd_pos_of_pos_right _ (by omega)
    have g1 : Nat.gcd t.natAbs b.natAbs < 2 ^ 4000 := Nat.lt_of_le_of_lt (Nat.gcd_le_right _ (by omega)) sb
    have s1 : (sg b).natAbs ≤ 1 := by unfold sg; split <;> decide
    have sl : (sg b).natAbs.log2 < 4000 := small_log (Nat.lt_of_le_of_lt s1 (by decide))
    refine ⟨_, rfl, t, rfl, _, rfl, b, rfl, t.natAbs, b.natAbs, by rw [ab, ab]; rfl, ?_⟩
    dsimp only [gName, tSeq]
    refine join_any (fun σ' H' => σ' = [some (V.int t), some (V.int b), some (V.int ((Nat.gcd t.natAbs b.natAbs : Nat) : Int)), some (V.int (sg b))] ∧ H' = H) ?r (fun go => ?_)
    case r =>
      rintro σ' H' ⟨rfl, rfl⟩
      refine ⟨_, rfl, _, rfl, _, _, rfl, rfl, ?_, _, rfl, _, _, rfl, rfl, ⟨by omega, ?_⟩, _, rfl, _, rfl, _, _, rfl, rfl, ?_, _, rfl, _, _, rfl, rfl, ⟨by omega, ?_⟩, (by show 2 ≤ sizeLine; decide), k⟩
      · have := small_log st1
        show (sg b).natAbs.log2 + t.natAbs.log2 < 1000000
        omega
      · rw [Int.natAbs_natCast]
        exact Nat.lt_trans (small_log (i := ((Nat.gcd t.natAbs b.natAbs : Nat) : Int)) (by unfold Small; rw [Int.natAbs_natCast]; exact g1)) (by decide)
      · have := small_log sb
        show (sg b).natAbs.log2 + b.natAbs.log2 < 1000000
        omega
      · rw [Int.natAbs_natCast]
        exact Nat.lt_trans (small_log (i := ((Nat.gcd t.natAbs b.natAbs : Nat) : Int)) (by unfold Small; rw [Int.natAbs_natCast]; exact g1)) (by decide)
    refine ⟨_, rfl, _, _, rfl, rfl, _, rfl, ite2 (fun c => ?_) (fun c => ?_)⟩
    · exact go _ _ ⟨by rw [show sg b = 1 from if_pos (of_decide_eq_true c)]; rfl, rfl⟩
    · exact ⟨_, rfl, go _ _ ⟨by rw [show sg b = -1 from if_neg (fun z => c (decide_eq_true z))]; rfl, rfl⟩⟩
theorem scPai : FnScope ["_law_pen_here", "_law_top"] ["_law_pen_here"] (C8.fnScope sPai) := C8.fnScope_by (by decide +kernel)
theorem cal_pai {f : Addr} {fd : FuncData} (F : C8.Def K mg "_law_pair" sPai f fd) (b : Binds K fd ["_law_pen_here"] []) (T : Txt0 mg) (D1 : C8.Cal P w K mg base 1 "_law_draw" spDraw []) (D2 : C8.Cal P w K mg base 2 "_law_pick" (spPick K) []) : C8.Cal P w K mg base 3 "_law_pair" spPai [] := by
  refine C8.cal0 F b .nil scPai (fun vs H Q E h => ?_) (fun cdv A outer st H vs Q E hr h => ?_)
  · obtain ⟨p, pl, n, rfl, _⟩ := h
    rfl
  · obtain ⟨p, pl, n, rfl, hp, hn, k⟩ := h
    refine ⟨_, (pss_cons (ps_set (i := 1) scPai.nd rfl (Or.inl rfl) (C8.pe_c D2 hr (by decide) (by rfl) (pa_cons (pv 0) (pa_cons (pe_lst (pa_cons pe_int (pa_cons pe_int (pa_cons (pe_un un_neg pe_int) (pa_cons pe_int (pa_cons pe_int (pa_cons (pe_un un_neg pe_int) (pa_cons (pe_op op_pow pe_int pe_int) (pa_cons (pe_un un_neg (pe_op op_pow pe_int pe_int)) (pa_cons (pe_op op_add (pe_op op_pow pe_int pe_int) pe_int) (pa_cons (pe_op op_sub (C8.pe_c D1 hr (by decide) (by rfl) (pa_cons (pv 0) (pa_cons pe_int pa_nil))) pe_int) pa_nil))))))))))) pa_nil))))
  (pss_one (ps_ret (pe_tup (pa_cons (pv 1) (pa_cons (C8.pe_c D2 hr (by decide) (by rfl) (pa_cons (pv 0) (pa_cons (pe_lst (pa_cons pe_int (pa_cons pe_int (pa_cons (pe_un un_neg pe_int) (pa_cons pe_int (pa_cons pe_int (pa_cons (pe_un un_neg pe_int) (pa_cons pe_int (pa_cons pe_int (pa_cons (pe_op op_pow pe_int pe_int) (pa_cons (pe_un un_neg (pe_op op_pow pe_int pe_int)) (pa_cons (pe_op op_add pe_int (C8.pe_c D1 hr (by decide) (by rfl) (pa_cons (pv 0) (pa_cons pe_int pa_nil)))) pa_nil)))))))))))) pa_nil))) pa_nil)))))), ?_⟩
    refine ⟨_, rfl, _, rfl, _, rfl, _, _, rfl, rfl, ⟨by decide, by decide, by decide⟩, _, _, rfl, rfl, ⟨by decide, by decide, by decide⟩, _, rfl, _, _, rfl, rfl, ⟨by decide, by decide, by decide⟩, _, _, rfl, rfl, _, rfl, p, pl, n, 200, rfl, by decide, by decide, hp, by omega, fun r H1 r0 r1 hp1 k1 => ?_⟩
    refine ⟨_, _, rfl, rfl, (by show 10 ≤ sizeLine; decide), fun l fl => ⟨p, pl, l, n + 1, _, rfl, hp1.keep (same_new fl), by omega, SqL.of upd_same, hp1.ne_new fl, (by show 0 < 10; decide), (by show 10 < 1000000; decide), fun j v H2 hj hp2 k2 => ?_⟩⟩
    obtain ⟨t, rfl, ht⟩ : ∃ t : Int, v = V.int t ∧ t.natAbs ≤ 10 ^ 32 := by
      have hv := List.mem_of_getElem? hj
      simp only [List.mem_cons, List.not_mem_nil, or_false] at hv
      rcases hv with rfl | rfl | rfl | rfl | rfl | rfl | rfl | rfl | rfl | rfl
      all_goals first | exact ⟨_, rfl, by decide⟩ | exact ⟨_, rfl, by omega⟩
    have f2 : Kp p H H2 := fun b o hb e => k2 b o hb (same_new fl _ _ (k1 b o hb e))
    refine ⟨_, rfl, _, rfl, _, rfl, _, rfl, _, _, rfl, rfl, ⟨by decide, by decide, by decide⟩, _, _, rfl, rfl, ⟨by decide, by decide, by decide⟩, _, rfl, _, rfl, p, pl, n + 2, 40, rfl, by decide, by decide, hp2, by omega, fun r2 H3 r20 r21 hp3 k3 => ?_⟩
    refine ⟨_, _, rfl, rfl, (by show 11 ≤ sizeLine; decide), fun l2 fl2 => ⟨p, pl, l2, n + 3, _, rfl, hp3.keep (same_new fl2), by omega, SqL.of upd_same, hp3.ne_new fl2, (by show 0 < 11; decide), (by show 11 < 1000000; decide), fun j2 v2 H4 hj2 hp4 k4 => ?_⟩⟩
    obtain ⟨b, rfl, hb, b0⟩ : ∃ b : Int, v2 = V.int b ∧ b.natAbs ≤ 10 ^ 32 ∧ b ≠ 0 := by
      have hv := List.mem_of_getElem? hj2
      simp only [List.mem_cons, List.not_mem_nil, or_false] at hv
      rcases hv with rfl | rfl | rfl | rfl | rfl | rfl | rfl | rfl | rfl | rfl | rfl
      all_goals first | exact ⟨_, rfl, by decide, by decide⟩ | exact ⟨_, rfl, by omega, by omega⟩
    have f4 : Kp p H H4 := fun b o hb e => k4 b o hb (same_new fl2 _ _ (k3 b o hb (f2 b o hb e)))
    refine ⟨(by show 2 ≤ sizeLine; decide), fun q fq => ?_⟩
    exact k t b q _ ht hb b0 upd_same (Kp.free f4 (hp4.ne_new fq) fq) (hp4.keep (same_new fq)) (fun c o hc e => same_new fq _ _ (f4 c o hc e))
end
end Lw
namespace Lw
open PySem PySem.Spec PyProof.Rows L2

/-! ### own operators: + - * // % and the sign, of instances of one class and of a built-in value beside -/
section
variable {X : Cx} {C : Addr} {k j : Nat} {sp : Sp} {pins : List (Addr × Obj)} {σ : L2.St} {H : Hp} {s : Shared}
theorem ins_at {a dx : Addr} {fs : List (Str × V)} (I : Inv X pins σ H s) (h : H a = some (.ins C dx fs)) : ∃ ox od, PySem.W.InstAt s.heap a ox C (some od) := by
  obtain ⟨mA, O, _⟩ := ins_get I.hok h
  obtain ⟨od, J, _⟩ := O.look
  exact ⟨_, od, J⟩
/-- a method of the class, called with an instance and another value -/
theorem run_two {m : Str} {us : List Value} {vs : List V} {Q : VK} (M : C8.Met X.prog X.w X.K X.mg X.base k C m sp []) (hr : Room j X.A) (hk : k ≤ j) (I : Inv X pins σ H s) (r : Vals vs us) (q : sp vs H Q C8.E0) :
    ∃ g : Addr, Meth X.K C m g ∧ wpAny (model X.prog X.w) X.A (call (.ref g) us) (PySem.W.CmpBack (EP X pins σ Q)) X.xe s := by
  obtain ⟨g, fd, ps, ds, hC, hm, F, b, d⟩ := M.ex
  have q' : sp (vs ++ []) H Q C8.E0 := by rw [List.append_nil]; exact q
  refine ⟨g, hm, wpAny_mono (run_fn F (hr.mono hk) b d C8.pass0 I r q') (fun w s' z => ?_) fun _ _ x => x⟩
  obtain ⟨z', H', I', rz, qz⟩ := z
  exact SlX.cmpback rz ⟨z', H', I', rz, qz⟩
def rSame (C : Addr) (sp : Sp) : R2 := fun x y H Q => ∃ a dx fs b dy gs, x = .ref a ∧ y = .ref b ∧ H a = some (.ins C dx fs) ∧ H b = some (.ins C dy gs) ∧ sp [x, y] H Q C8.E0
theorem op_same {op : Operator} (M : C8.Met X.prog X.w X.K X.mg X.base k C (PySem.dunder op.info.2) sp []) (hc : PySem.W.selfFirst X.K C = true) (hr : Room j X.A) (hk : k ≤ j) : OpR X (binaryOp op) (rSame C sp) := by
  intro pins s σ H x y v u Q I rx ry h
  obtain ⟨a, dx, fs, b, dy, gs, rfl, rfl, ha, hb, q⟩ := h
  cases (show v = Value.ref a from rx)
  cases (show u = Value.ref b from ry)
  obtain ⟨_, _, J⟩ := ins_at I ha
  obtain ⟨_, _, J'⟩ := ins_at I hb
  obtain ⟨g, hm, w⟩ := run_two (us := [.ref a, .ref b]) (vs := [.ref a, .ref b]) M hr hk I (.cons rfl (.cons rfl .nil)) q
  obtain ⟨m, hF⟩ := I.fr
  exact PySem.W.binop_K hF I.ok.mod.kin J J'.type hc hm.at_ hm.fn w
/-- what the operator asks of the class and of a built-in type beside it -/
structure Beside (K : PySem.W.Frag) (C : Addr) (op : Operator) (T : String) : Prop where
  first : PySem.W.selfFirst K C = true
  back : ∃ rc, PySem.W.findIn K (.ref C) (dunderR op.info.2) = some rc ∧ (rc = none ∨ ∃ g : Addr, rc = some (.ref g))
  ahead : ∃ fo, PySem.W.findIn K (.type T) (PySem.dunder op.info.2) = some fo
  behind : ∃ ro, PySem.W.findIn K (.type T) (dunderR op.info.2) = some ro
  sub : PySem.W.subIn K (.type T) (.ref C) = some false
/-- a built-in value's kind, as typeOf tells it -/
inductive Kind : V → String → Prop where
  | int (i : Int) : Kind (.int i) "int"
  | bl (b : Bool) : Kind (.bl b) "bool"
  | non : Kind .non "NoneType"
  | str (z : Str) : Kind (.str z) "str"
theorem Kind.type {y : V} {T : String} {u : Value} (h : Kind y T) (r : RelV y u) : typeOf u = pure (.type T) := by
  cases h with
  | int i => obtain ⟨t, e⟩ := (show ∃ t, u = Value.int i t from r); subst e; rfl
  | bl b => cases (show u = Value.bool b from r); rfl
  | non => cases (show u = Value.none from r); rfl
  | str z => obtain ⟨t, e⟩ := (show ∃ t, u = Value.str z t from r); subst e; rfl
def rBeside (K : PySem.W.Frag) (C : Addr) (op : Operator) (sp : Sp) : R2 := fun x y H Q => ∃ a dx fs T, x = .ref a ∧ H a = some (.ins C dx fs) ∧ Kind y T ∧ Beside K C op T ∧ sp [x, y] H Q C8.E0
theorem op_beside {op : Operator} (M : C8.Met X.prog X.w X.K X.mg X.base k C (PySem.dunder op.info.2) sp []) (hr : Room j X.A) (hk : k ≤ j) : OpR X (binaryOp op) (rBeside X.K C op sp) := by
  intro pins s σ H x y v u Q I rx ry h
  obtain ⟨a, dx, fs, T, rfl, ha, hT, hB, q⟩ := h
  cases (show v = Value.ref a from rx)
  obtain ⟨_, _, J⟩ := ins_at I ha
  obtain ⟨g, hm, w⟩ := run_two (us := [.ref a, u]) (vs := [.ref a, y]) M hr hk I (.cons rfl (.cons ry .nil)) q
  obtain ⟨m, hF⟩ := I.fr
  obtain ⟨rc, r1, r2⟩ := hB.back
  obtain ⟨fo, f1⟩ := hB.ahead
  obtain ⟨ro, o1⟩ := hB.behind
  exact PySem.W.ksp_binT hF I.ok.mod.kin J (hT.type ry) hB.first hm.at_ hm.fn r1 r2 f1 o1 hB.sub w
def rSign (C : Addr) (sp : Sp) : V → Hp → VK → Prop := fun x H Q => ∃ a dx fs, x = .ref a ∧ H a = some (.ins C dx fs) ∧ sp [x] H Q C8.E0
theorem un_sign (M : C8.Met X.prog X.w X.K X.mg X.base k C "__neg__" sp []) (hr : Room j X.A) (hk : k ≤ j) : UnR X (unaryOp .USub) (rSign C sp) := by
  intro pins s σ H x v Q I rx h
  obtain ⟨a, dx, fs, rfl, ha, q⟩ := h
  cases (show v = Value.ref a from rx)
  obtain ⟨_, _, J⟩ := ins_at I ha
  obtain ⟨g, fd, ps, ds, hC, hm, F, b, d⟩ := M.ex
  obtain ⟨m, hF⟩ := I.fr
  have q' : sp ([V.ref a] ++ []) H Q C8.E0 := q
  exact PySem.W.ksp_neg hF I.ok.mod.kin J hm.at_ hm.fn (run_fn (us := [.ref a]) (vs := [.ref a]) F (hr.mono hk) b d C8.pass0 I (.cons rfl .nil) q')
end
end Lw
namespace Lw.Ow
open PySem PySem.Spec PyProof.Rows PySem.W PySem.Calls

/-! ### own operators, the instance on the right -/
section
variable {prog : Program} {w : World} {A : Around} {E : Value → Shared → Prop} {s : Shared} {K : Frag} {x C f g : Addr} {ox : Obj} {od : Option Obj}
theorem right_bare {op : Operator} {a : Value} {T : String} {Q : Value → Shared → Prop} (X : K.In s.heap) (I : InstAt s.heap x ox C od) (ht : Looks (model prog w) s.heap (typeOf a) (.type T)) (hc : selfFirst K C = true) (hs : findIn K (.ref C) (PySem.dunder op.info.2) = some (some (.ref f))) (hr : findIn K (.ref C) (dunderR op.info.2) = some (some (.ref g)))
    (hg : isFn K (.ref g) = true) (hL : fillsNumberSlot (.type T) op.info.2 = pure false) (h : wpAny (model prog w) A (call (.ref g) [.ref x, a]) (PySem.W.CmpBack Q) E s) : wpAny (model prog w) A (binaryOp op a (.ref x)) Q E s := by
  obtain ⟨cd, rest, hcd, hm⟩ := ksp_first hc
  rcases hi : op.info with ⟨sym, nm⟩
  rw [hi] at hs hr hL
  dsimp only at hs hr hL
  have one := ksp_try X I hr hg h
  obtain ⟨hh, gg, d, tt, os⟩ := s
  have L2 : Looks (model prog w) hh (typeOf (.ref x)) (.ref C) := I.type
  have L3 : Looks (model prog w) hh (fillsNumberSlot (.ref C) nm) true := fills_K X hcd hm hs
  have hne : (Value.type T == Value.ref C) = false := Bool.eq_false_iff.mpr fun q => by cases beq_iff_eq.mp q
  simp only [binaryOp, hi]
  refine wpAny_holding (wpAny_bind ?_)
  unfold binaryOp1
  refine wpAny_bind (ht.at (wpAny_bind (L2.at (wpAny_bind (wpAny_of_eq hL ?_)))))
  simp only [hne, Bool.false_eq_true, if_false]
  refine wpAny_bind (L3.at ?_)
  simp only [Bool.false_and, Bool.false_eq_true, if_false, pure_bind, Bool.not_false, Bool.and_true, if_true]
  refine wpAny_bind (wpAny_mono one (fun r s' hr' => ?_) fun _ _ e => e)
  obtain ⟨v, rfl, hq⟩ := hr'
  exact wpAny_bind (wpAny_rule (wpAny_pure (wpAny_pure hq)))
theorem right_number {op : Operator} {a : Value} {T id : String} {Q : Value → Shared → Prop} (X : K.In s.heap) (I : InstAt s.heap x ox C od) (ht : typeOf a = pure (.type T)) (hT : s.TypeIs a T) (hc : selfFirst K C = true) (hs : findIn K (.ref C) (PySem.dunder op.info.2) = some (some (.ref f))) (hr : findIn K (.ref C) (dunderR op.info.2) = some (some (.ref g)))
    (hg : isFn K (.ref g) = true) (hL : fillsNumberSlot (.type T) op.info.2 = pure true) (hsub : subIn K (.ref C) (.type T) = some false) (sl : Slot T (PySem.dunder op.info.2) id) (hd : ∀ Q' : Value → Shared → Prop, Q' .notImplemented s → wpAny (model prog w) A (call (.builtin id) [a, .ref x]) Q' E s)
    (h : wpAny (model prog w) A (call (.ref g) [.ref x, a]) (PySem.W.CmpBack Q) E s) : wpAny (model prog w) A (binaryOp op a (.ref x)) Q E s := by
  obtain ⟨cd, rest, hcd, hm⟩ := ksp_first hc
  rcases hi : op.info with ⟨sym, nm⟩
  rw [hi] at hs hr hL sl
  dsimp only at hs hr hL sl
  have one := ksp_try X I hr hg h
  have two := wpAny_tryMethod_declines (Q := fun r s' => r = none ∧ s' = s) hT sl (hd _ ⟨rfl, rfl, rfl⟩)
  obtain ⟨hh, gg, d, tt, os⟩ := s
  have L2 : Looks (model prog w) hh (typeOf (.ref x)) (.ref C) := I.type
  have L3 : Looks (model prog w) hh (fillsNumberSlot (.ref C) nm) true := fills_K X hcd hm hs
  have L4 : Looks (model prog w) hh (isSubtype (.ref C) (.type T)) false := looks_subIn X hsub
  have hpy : numberSlotInPython (.type T) nm = pure false := rfl
  have hne : (Value.type T == Value.ref C) = false := Bool.eq_false_iff.mpr fun q => by cases beq_iff_eq.mp q
  simp only [binaryOp, hi]
  refine wpAny_holding (wpAny_bind ?_)
  unfold binaryOp1
  refine wpAny_bind (wpAny_of_eq ht (wpAny_bind (L2.at (wpAny_bind (wpAny_of_eq hL ?_)))))
  simp only [hne, Bool.false_eq_true, if_false]
  refine wpAny_bind (L3.at ?_)
  simp only [Bool.and_self, if_true]
  refine wpAny_bind (L4.at ?_)
  simp only [Bool.false_eq_true, if_false, pure_bind, Bool.not_false, Bool.and_self, if_true, hpy]
  refine wpAny_bind (wpAny_mono two (fun r s' z => ?_) fun _ _ e => e)
  obtain ⟨rfl, rfl⟩ := z
  refine wpAny_bind (wpAny_mono one (fun r s' hr' => ?_) fun _ _ e => e)
  obtain ⟨v, rfl, hq⟩ := hr'
  exact wpAny_bind (wpAny_rule (wpAny_pure (wpAny_pure hq)))
end
end Lw.Ow
namespace Lw.Ow
open PySem PySem.Spec PyProof.Rows

section
variable {prog : Program} {w : World} {A : Around} {E : Value → Shared → Prop} {s : Shared}
theorem binary_no {nm : String} {f : Int → Int → Sem Fin} {i : Int} {t : Tok} {x : Addr} {o : Obj} {Q : Value → Shared → Prop} (ho : s.heap.get? x = some o) (hp : o.data = .plain) (h : Q .notImplemented s) :
    wpAny (model prog w) A (Builtin.Int.intBinary nm f false ⟨[.int i t, .ref x], []⟩) (fun fin s' => ∃ v, fin = .done (.ret v) ∧ Q v s') E s := by
  unfold Builtin.Int.intBinary
  refine wpAny_bind (wpAny_of_eq (a := (Value.int i t, [Value.ref x])) rfl ?_)
  refine wpAny_bind (wpAny_of_eq (a := i) rfl ?_)
  refine wpAny_bind ?_
  show wpAny _ _ (load x >>= fun ob => match ob.data with | .prim (.int i _) => pure (some i) | _ => pure none) _ _ _
  refine wpAny_bind (wpAny_load ho ?_)
  rw [hp]
  exact wpAny_pure (wpAny_bind (wpAny_rule (wpAny_pure ⟨_, rfl, h⟩)))
theorem no_add {i : Int} {t : Tok} {x : Addr} {o : Obj} {Q : Value → Shared → Prop} (ho : s.heap.get? x = some o) (hp : o.data = .plain) (h : Q .notImplemented s) : wpAny (model prog w) A (call (.builtin "int.__add__") [.int i t, .ref x]) Q E s :=
  wpAny_call_entry F.slot_int_add (typeIs_int s i t) F.entry_int_add (binary_no ho hp h) (F.args_int_add_2 _ _)
theorem no_sub {i : Int} {t : Tok} {x : Addr} {o : Obj} {Q : Value → Shared → Prop} (ho : s.heap.get? x = some o) (hp : o.data = .plain) (h : Q .notImplemented s) : wpAny (model prog w) A (call (.builtin "int.__sub__") [.int i t, .ref x]) Q E s :=
  wpAny_call_entry F.slot_int_sub (typeIs_int s i t) F.entry_int_sub (binary_no ho hp h) (F.args_int_sub_2 _ _)
theorem no_mul {i : Int} {t : Tok} {x : Addr} {o : Obj} {Q : Value → Shared → Prop} (ho : s.heap.get? x = some o) (hp : o.data = .plain) (h : Q .notImplemented s) : wpAny (model prog w) A (call (.builtin "int.__mul__") [.int i t, .ref x]) Q E s :=
  wpAny_call_entry F.slot_int_mul (typeIs_int s i t) F.entry_int_mul (binary_no ho hp h) (F.args_int_mul_2 _ _)
theorem no_mod {i : Int} {t : Tok} {x : Addr} {o : Obj} {Q : Value → Shared → Prop} (ho : s.heap.get? x = some o) (hp : o.data = .plain) (h : Q .notImplemented s) : wpAny (model prog w) A (call (.builtin "int.__mod__") [.int i t, .ref x]) Q E s :=
  wpAny_call_entry F.slot_int_mod (typeIs_int s i t) F.entry_int_mod (binary_no ho hp h) (F.args_int_mod_2 _ _)
theorem no_floordiv {i : Int} {t : Tok} {x : Addr} {o : Obj} {Q : Value → Shared → Prop} (ho : s.heap.get? x = some o) (hp : o.data = .plain) (h : Q .notImplemented s) : wpAny (model prog w) A (call (.builtin "int.__floordiv__") [.int i t, .ref x]) Q E s := by
  refine wpAny_call_entry F.slot_int_floordiv (typeIs_int s i t) F.entry_int_floordiv ?_ (F.args_int_floordiv_2 _ _)
  unfold Builtin.«int.__floordiv__»
  refine wpAny_bind ?_
  unfold Builtin.exactOperandsForPylong
  rw [if_pos (by rfl)]
  dsimp only
  refine wpAny_bind (wpAny_of_eq (a := some i) rfl ?_)
  refine wpAny_bind ?_
  show wpAny _ _ (load x >>= fun ob => match ob.data with | .prim (.int i _) => pure (some i) | _ => pure none) _ _ _
  refine wpAny_bind (wpAny_load ho ?_)
  rw [hp]
  exact wpAny_pure (wpAny_pure (binary_no ho hp h))
end

end Lw.Ow
namespace Lw
open PySem PySem.Spec PyProof.Rows L2
section
variable {X : Cx} {C f : Addr} {k j : Nat} {sp : Sp}
def rRight (C : Addr) (P : V → Prop) (sp : Sp) : R2 := fun x y H Q => ∃ a dx fs, P x ∧ y = .ref a ∧ H a = some (.ins C dx fs) ∧ sp [y, x] H Q C8.E0
theorem ins_plain {pins : List (Addr × Obj)} {σ : L2.St} {H : Hp} {s : Shared} {a dx : Addr} {fs : List (Str × V)} (I : Inv X pins σ H s) (h : H a = some (.ins C dx fs)) : ∃ ox od, PySem.W.InstAt s.heap a ox C (some od) ∧ s.heap.get? a = some ox ∧ ox.data = .plain := by
  obtain ⟨mA, O, _⟩ := ins_get I.hok h
  obtain ⟨od, J, _⟩ := O.look
  exact ⟨_, od, J, J.at_, rfl⟩
/-- an int beside an instance on the right -/
theorem op_rightI {op : Operator} {id : String} (M : C8.Met X.prog X.w X.K X.mg X.base k C (dunderR op.info.2) sp []) (hc : PySem.W.selfFirst X.K C = true) (hs : PySem.W.findIn X.K (.ref C) (PySem.dunder op.info.2) = some (some (.ref f))) (hL : fillsNumberSlot (.type "int") op.info.2 = pure true)
    (hsub : PySem.W.subIn X.K (.ref C) (.type "int") = some false) (sl : Slot "int" (PySem.dunder op.info.2) id) (hd : ∀ {A : Around} {E : Value → Shared → Prop} {s : Shared} {i : Int} {t : Tok} {x : Addr} {o : Obj} {Q' : Value → Shared → Prop}, s.heap.get? x = some o → o.data = .plain → Q' .notImplemented s → wpAny (model X.prog X.w) A (call (.builtin id) [.int i t, .ref x]) Q' E s)
    (hr : Room j X.A) (hk : k ≤ j) : OpR X (binaryOp op) (rRight C (fun x => ∃ i, x = .int i) sp) := by
  intro pins s σ H x y v u Q I rx ry h
  obtain ⟨a, dx, fs, ⟨i, rfl⟩, rfl, ha, q⟩ := h
  cases (show u = Value.ref a from ry)
  obtain ⟨t, rfl⟩ := (show ∃ t, v = Value.int i t from rx)
  obtain ⟨ox, od, J, hx, hp⟩ := ins_plain I ha
  obtain ⟨g, hm, w⟩ := run_two (us := [.ref a, .int i t]) (vs := [.ref a, .int i]) M hr hk I (.cons rfl (.cons ⟨t, rfl⟩ .nil)) q
  exact Ow.right_number I.kIn J rfl (typeIs_int s i t) hc hs hm.at_ hm.fn hL hsub sl (fun Q' z => hd hx hp z) w
/-- a value whose type has no number slot for the operator -/
theorem op_rightB {op : Operator} {T : String} (M : C8.Met X.prog X.w X.K X.mg X.base k C (dunderR op.info.2) sp []) (hc : PySem.W.selfFirst X.K C = true) (hs : PySem.W.findIn X.K (.ref C) (PySem.dunder op.info.2) = some (some (.ref f))) (hL : fillsNumberSlot (.type T) op.info.2 = pure false)
    (hr : Room j X.A) (hk : k ≤ j) : OpR X (binaryOp op) (rRight C (fun x => Kind x T) sp) := by
  intro pins s σ H x y v u Q I rx ry h
  obtain ⟨a, dx, fs, hT, rfl, ha, q⟩ := h
  cases (show u = Value.ref a from ry)
  obtain ⟨ox, od, J, hx, hp⟩ := ins_plain I ha
  obtain ⟨g, hm, w⟩ := run_two (us := [.ref a, v]) (vs := [.ref a, x]) M hr hk I (.cons rfl (.cons rx .nil)) q
  exact Ow.right_bare I.kIn J (PySem.W.Looks.of_pure (hT.type rx)) hc hs hm.at_ hm.fn hL w
end
end Lw
namespace Lw.Ow
open PySem PySem.Spec PyProof.Rows PySem.W PySem.Calls

/-! ### x op= y of instances whose class has no operator of that kind -/
section
variable {prog : Program} {w : World} {A : Around} {E : Value → Shared → Prop} {s : Shared} {K : Frag} {x C f g : Addr} {ox : Obj} {od : Option Obj}
/-- the operator's first half tells a value -/
def Told (Q : Value → Shared → Prop) (r : Option Value) (s' : Shared) : Prop := ∃ v, r = some v ∧ Q v s'
theorem half_same {nm : String} {b : Value} {Q : Value → Shared → Prop} (X : K.In s.heap) (I : InstAt s.heap x ox C od) (hb : Looks (model prog w) s.heap (typeOf b) (.ref C)) (hc : selfFirst K C = true) (hs : findIn K (.ref C) (PySem.dunder nm) = some (some (.ref f))) (hf : isFn K (.ref f) = true)
    (h : wpAny (model prog w) A (call (.ref f) [.ref x, b]) (PySem.W.CmpBack Q) E s) : wpAny (model prog w) A (binaryOp1 nm (.ref x) b) (Told Q) E s := by
  obtain ⟨cd, rest, hcd, hm⟩ := ksp_first hc
  have one := ksp_try X I hs hf h
  obtain ⟨hh, gg, d, tt, os⟩ := s
  have L1 : Looks (model prog w) hh (typeOf (.ref x)) (.ref C) := I.type
  have L2 : Looks (model prog w) hh (typeOf b) (.ref C) := hb
  have L3 : Looks (model prog w) hh (fillsNumberSlot (.ref C) nm) true := fills_K X hcd hm hs
  unfold binaryOp1
  refine wpAny_bind (L1.at (wpAny_bind (L2.at (wpAny_bind (L3.at ?_)))))
  simp only [beq_self_eq_true, if_true]
  refine wpAny_bind (wpAny_pure ?_)
  simp only [Bool.and_false, Bool.false_and, Bool.false_eq_true, if_false, if_true, pure_bind]
  refine wpAny_bind (wpAny_mono one (fun r s' z => ?_) fun _ _ e => e)
  obtain ⟨v, rfl, hq⟩ := z
  exact wpAny_pure ⟨v, rfl, hq⟩
/-- no class above has the operator of that kind -/
theorem bare_inplace {nm : String} {add : Bool} {cd : ClassData} {h : Heap} {M : Model} (X : K.In h) (hc : clsIn K C = some cd) (hm : cd.mro = [.ref C, .type "object"]) (h1 : findIn K (.ref C) (dunderI nm) = some none) (h2 : findIn K (.type "object") (dunderI nm) = some none) : Looks M h (fillsInplaceSlot (.ref C) nm add) false := by
  intro A Q E s k q
  have Lm : Looks M h (mroOf (.ref C)) cd.mro := (looks_clsIn X hc).andThen (f := fun cd => pure cd.mro) .now
  have Lm2 := Lm.keeps k
  obtain ⟨hh, gg, d, tt, os⟩ := s
  have X2 : K.In hh := X.keeps k
  have L1 : Looks M hh (typeLookup (.ref C) (dunderI nm)) none := looks_findIn X2 h1
  have L2 : Looks M hh (typeLookup (.type "object") (dunderI nm)) none := looks_findIn X2 h2
  unfold fillsInplaceSlot
  refine wpAny_bind (Lm2.at ?_)
  rw [hm, List.anyM_cons]
  refine wpAny_bind (wpAny_bind (L1.at ?_))
  refine wpAny_pure ?_
  rw [List.anyM_cons]
  refine wpAny_bind (wpAny_bind (L2.at ?_))
  refine wpAny_pure ?_
  rw [List.anyM_nil]
  exact wpAny_pure q
theorem inplace_of {op : Operator} {b : Value} {cd : ClassData} {Q : Value → Shared → Prop} (X : K.In s.heap) (I : InstAt s.heap x ox C od) (hc : clsIn K C = some cd) (hm : cd.mro = [.ref C, .type "object"]) (h1 : findIn K (.ref C) (dunderI op.info.2) = some none) (h2 : findIn K (.type "object") (dunderI op.info.2) = some none)
    (h : wpAny (model prog w) A (binaryOp1 op.info.2 (.ref x) b) (Told Q) E s) : wpAny (model prog w) A (inplaceOp op (.ref x) b) Q E s := by
  have L1 : Looks (model prog w) s.heap (typeOf (.ref x)) (.ref C) := I.type
  have L2 : Looks (model prog w) s.heap (fillsInplaceSlot (.ref C) op.info.2 (op == .Add)) false := bare_inplace X hc hm h1 h2
  unfold inplaceOp
  refine wpAny_holding ?_
  refine wpAny_bind (L1.here (wpAny_bind (L2.here ?_)))
  simp only [Bool.false_eq_true, if_false, pure_bind]
  refine wpAny_bind (wpAny_mono h (fun r s' z => ?_) fun _ _ e => e)
  obtain ⟨v, rfl, hq⟩ := z
  exact wpAny_pure hq
end
end Lw.Ow
namespace Lw.Ow
open PySem PySem.Spec PyProof.Rows PySem.W PySem.Calls

section
variable {prog : Program} {w : World} {A : Around} {E : Value → Shared → Prop} {s : Shared} {K : Frag} {x C f g : Addr} {ox : Obj} {od : Option Obj}
theorem half_left {nm : String} {b : Value} {T : String} {fo ro rc : Option Value} {Q : Value → Shared → Prop} (X : K.In s.heap) (I : InstAt s.heap x ox C od) (hb : Looks (model prog w) s.heap (typeOf b) (.type T)) (hc : selfFirst K C = true) (hs : findIn K (.ref C) (PySem.dunder nm) = some (some (.ref f))) (hf : isFn K (.ref f) = true)
    (hr : findIn K (.ref C) (dunderR nm) = some rc) (hp : rc = none ∨ ∃ g : Addr, rc = some (.ref g)) (h1 : findIn K (.type T) (PySem.dunder nm) = some fo) (h2 : findIn K (.type T) (dunderR nm) = some ro) (hsub : subIn K (.type T) (.ref C) = some false)
    (h : wpAny (model prog w) A (call (.ref f) [.ref x, b]) (PySem.W.CmpBack Q) E s) : wpAny (model prog w) A (binaryOp1 nm (.ref x) b) (Told Q) E s := by
  obtain ⟨cd, rest, hcd, hm⟩ := ksp_first hc
  have one := ksp_try X I hs hf h
  obtain ⟨hh, gg, d, tt, os⟩ := s
  have L1 : Looks (model prog w) hh (typeOf (.ref x)) (.ref C) := I.type
  have L3 : Looks (model prog w) hh (fillsNumberSlot (.ref C) nm) true := fills_K X hcd hm hs
  have L4 : Looks (model prog w) hh (fillsNumberSlot (.type T) nm) ((fo.isSome && !isSeqSlot fo) || (ro.isSome && !isSeqSlot ro)) := ksp_fillsT X h1 h2
  have L5 : Looks (model prog w) hh (isSubtype (.type T) (.ref C)) false := looks_subIn X hsub
  have L6 : Looks (model prog w) hh (numberSlotInPython (.ref C) nm) true := ksp_inPy X hs hr hp
  have L7 : Looks (model prog w) hh (numberSlotInPython (.type T) nm) false := Looks.of_pure rfl
  have L8 : Looks (model prog w) hh (typeLookup (.type T) (dunderR nm)) ro := looks_findIn X h2
  have hne : (Value.ref C == Value.type T) = false := Bool.eq_false_iff.mpr fun q => by cases beq_iff_eq.mp q
  have done : ∀ {r : Option Value} {s' : Shared}, (∃ v, r = some v ∧ Q v s') → ∃ v, r = some v ∧ Told Q r s' := fun ⟨v, e, q⟩ => ⟨v, e, v, e, q⟩
  generalize ((fo.isSome && !isSeqSlot fo) || (ro.isSome && !isSeqSlot ro)) = right at L4
  unfold binaryOp1
  refine wpAny_bind (L1.at (wpAny_bind (hb.at (wpAny_bind (L3.at ?_)))))
  simp only [hne, Bool.false_eq_true, if_false]
  refine wpAny_bind (L4.at ?_)
  cases right with
  | false =>
    simp only [Bool.and_false, Bool.false_and, Bool.false_eq_true, if_false, if_true, pure_bind]
    refine wpAny_bind (wpAny_mono one (fun r s' z => ?_) fun _ _ e => e)
    obtain ⟨v, rfl, hq⟩ := z
    exact wpAny_pure ⟨v, rfl, hq⟩
  | true =>
    simp only [Bool.and_self, if_true]
    refine wpAny_bind (L5.at ?_)
    simp only [Bool.false_eq_true, if_false, if_true, Bool.not_false, Bool.and_self]
    refine wpAny_bind (L6.at ?_)
    simp only [if_true]
    refine wpAny_bind (L7.at ?_)
    simp only [Bool.not_false, if_true]
    refine wpAny_bind (L8.at ?_)
    refine wpAny_bind (wpAny_mono one (fun r s' z => ?_) fun _ _ e => e)
    obtain ⟨v, rfl, hq⟩ := z
    exact wpAny_pure ⟨v, rfl, hq⟩
theorem half_number {nm : String} {a : Value} {T id : String} {Q : Value → Shared → Prop} (X : K.In s.heap) (I : InstAt s.heap x ox C od) (ht : typeOf a = pure (.type T)) (hT : s.TypeIs a T) (hc : selfFirst K C = true) (hs : findIn K (.ref C) (PySem.dunder nm) = some (some (.ref f))) (hr : findIn K (.ref C) (dunderR nm) = some (some (.ref g)))
    (hg : isFn K (.ref g) = true) (hL : fillsNumberSlot (.type T) nm = pure true) (hsub : subIn K (.ref C) (.type T) = some false) (sl : Slot T (PySem.dunder nm) id) (hd : ∀ Q' : Value → Shared → Prop, Q' .notImplemented s → wpAny (model prog w) A (call (.builtin id) [a, .ref x]) Q' E s)
    (h : wpAny (model prog w) A (call (.ref g) [.ref x, a]) (PySem.W.CmpBack Q) E s) : wpAny (model prog w) A (binaryOp1 nm a (.ref x)) (Told Q) E s := by
  obtain ⟨cd, rest, hcd, hm⟩ := ksp_first hc
  have one := ksp_try X I hr hg h
  have two := wpAny_tryMethod_declines (Q := fun r s' => r = none ∧ s' = s) hT sl (hd _ ⟨rfl, rfl, rfl⟩)
  obtain ⟨hh, gg, d, tt, os⟩ := s
  have L2 : Looks (model prog w) hh (typeOf (.ref x)) (.ref C) := I.type
  have L3 : Looks (model prog w) hh (fillsNumberSlot (.ref C) nm) true := fills_K X hcd hm hs
  have L4 : Looks (model prog w) hh (isSubtype (.ref C) (.type T)) false := looks_subIn X hsub
  have hpy : numberSlotInPython (.type T) nm = pure false := rfl
  have hne : (Value.type T == Value.ref C) = false := Bool.eq_false_iff.mpr fun q => by cases beq_iff_eq.mp q
  unfold binaryOp1
  refine wpAny_bind (wpAny_of_eq ht (wpAny_bind (L2.at (wpAny_bind (wpAny_of_eq hL ?_)))))
  simp only [hne, Bool.false_eq_true, if_false]
  refine wpAny_bind (L3.at ?_)
  simp only [Bool.and_self, if_true]
  refine wpAny_bind (L4.at ?_)
  simp only [Bool.false_eq_true, if_false, pure_bind, Bool.not_false, Bool.and_self, if_true, hpy]
  refine wpAny_bind (wpAny_mono two (fun r s' z => ?_) fun _ _ e => e)
  obtain ⟨rfl, rfl⟩ := z
  refine wpAny_bind (wpAny_mono one (fun r s' z => ?_) fun _ _ e => e)
  obtain ⟨v, rfl, hq⟩ := z
  exact wpAny_bind (wpAny_rule (wpAny_pure ⟨v, rfl, hq⟩))
end
end Lw.Ow
namespace Lw
open PySem PySem.Spec PyProof.Rows L2

/-- a class right below object that has no operator of the kind op= -/
structure NoInplace (K : PySem.W.Frag) (C : Addr) (op : Operator) : Prop where
  mro : ∃ cd, PySem.W.clsIn K C = some cd ∧ cd.mro = [.ref C, .type "object"]
  own : PySem.W.findIn K (.ref C) (dunderI op.info.2) = some none
  obj : PySem.W.findIn K (.type "object") (dunderI op.info.2) = some none
section
variable {X : Cx} {C f : Addr} {k j : Nat} {sp : Sp}
theorem iop_same {op : Operator} (M : C8.Met X.prog X.w X.K X.mg X.base k C (PySem.dunder op.info.2) sp []) (hc : PySem.W.selfFirst X.K C = true) (ni : NoInplace X.K C op) (hr : Room j X.A) (hk : k ≤ j) : OpR X (inplaceOp op) (rSame C sp) := by
  intro pins s σ H x y v u Q I rx ry h
  obtain ⟨a, dx, fs, b, dy, gs, rfl, rfl, ha, hb, q⟩ := h
  cases (show v = Value.ref a from rx)
  cases (show u = Value.ref b from ry)
  obtain ⟨_, _, J⟩ := ins_at I ha
  obtain ⟨_, _, J'⟩ := ins_at I hb
  obtain ⟨g, hm, w⟩ := run_two (us := [.ref a, .ref b]) (vs := [.ref a, .ref b]) M hr hk I (.cons rfl (.cons rfl .nil)) q
  obtain ⟨cd, h1, h2⟩ := ni.mro
  exact Ow.inplace_of I.kIn J h1 h2 ni.own ni.obj (Ow.half_same I.kIn J J'.type hc hm.at_ hm.fn w)
theorem iop_beside {op : Operator} (M : C8.Met X.prog X.w X.K X.mg X.base k C (PySem.dunder op.info.2) sp []) (ni : NoInplace X.K C op) (hr : Room j X.A) (hk : k ≤ j) : OpR X (inplaceOp op) (rBeside X.K C op sp) := by
  intro pins s σ H x y v u Q I rx ry h
  obtain ⟨a, dx, fs, T, rfl, ha, hT, hB, q⟩ := h
  cases (show v = Value.ref a from rx)
  obtain ⟨_, _, J⟩ := ins_at I ha
  obtain ⟨g, hm, w⟩ := run_two (us := [.ref a, u]) (vs := [.ref a, y]) M hr hk I (.cons rfl (.cons ry .nil)) q
  obtain ⟨cd, h1, h2⟩ := ni.mro
  obtain ⟨rc, r1, r2⟩ := hB.back
  obtain ⟨fo, f1⟩ := hB.ahead
  obtain ⟨ro, o1⟩ := hB.behind
  exact Ow.inplace_of I.kIn J h1 h2 ni.own ni.obj (Ow.half_left I.kIn J (PySem.W.Looks.of_pure (hT.type ry)) hB.first hm.at_ hm.fn r1 r2 f1 o1 hB.sub w)
/-- i op= x, i an int, x an instance -/
theorem iop_rightI {op : Operator} {id : String} (M : C8.Met X.prog X.w X.K X.mg X.base k C (dunderR op.info.2) sp []) (hc : PySem.W.selfFirst X.K C = true) (hs : PySem.W.findIn X.K (.ref C) (PySem.dunder op.info.2) = some (some (.ref f))) (hL : fillsNumberSlot (.type "int") op.info.2 = pure true) (hI : fillsInplaceSlot (.type "int") op.info.2 (op == .Add) = pure false)
    (hsub : PySem.W.subIn X.K (.ref C) (.type "int") = some false) (sl : Slot "int" (PySem.dunder op.info.2) id) (hd : ∀ {A : Around} {E : Value → Shared → Prop} {s : Shared} {i : Int} {t : Tok} {x : Addr} {o : Obj} {Q' : Value → Shared → Prop}, s.heap.get? x = some o → o.data = .plain → Q' .notImplemented s → wpAny (model X.prog X.w) A (call (.builtin id) [.int i t, .ref x]) Q' E s)
    (hr : Room j X.A) (hk : k ≤ j) : OpR X (inplaceOp op) (rRight C (fun x => ∃ i, x = .int i) sp) := by
  intro pins s σ H x y v u Q I rx ry h
  obtain ⟨a, dx, fs, ⟨i, rfl⟩, rfl, ha, q⟩ := h
  cases (show u = Value.ref a from ry)
  obtain ⟨t, rfl⟩ := (show ∃ t, v = Value.int i t from rx)
  obtain ⟨ox, od, J, hx, hp⟩ := ins_plain I ha
  obtain ⟨g, hm, w⟩ := run_two (us := [.ref a, .int i t]) (vs := [.ref a, .int i]) M hr hk I (.cons rfl (.cons ⟨t, rfl⟩ .nil)) q
  have half := Ow.half_number I.kIn J rfl (typeIs_int s i t) hc hs hm.at_ hm.fn hL hsub sl (fun Q' z => hd hx hp z) w
  unfold inplaceOp
  refine wpAny_holding ?_
  refine wpAny_bind (wpAny_of_eq (a := Value.type "int") rfl (wpAny_bind (wpAny_of_eq hI ?_)))
  simp only [Bool.false_eq_true, if_false, pure_bind]
  refine wpAny_bind (wpAny_mono half (fun r s' z => ?_) fun _ _ e => e)
  obtain ⟨v, rfl, hq⟩ := z
  exact wpAny_pure hq
theorem int_no_inplace : fillsInplaceSlot (.type "int") "add" true = pure false ∧ fillsInplaceSlot (.type "int") "sub" false = pure false ∧ fillsInplaceSlot (.type "int") "mul" false = pure false := by
  refine ⟨?_, ?_, ?_⟩ <;> · simp only [fillsInplaceSlot, typeLookup_type]; rfl
end
end Lw
namespace Lw
open PySem PySem.Spec PyProof.Rows L2

/-! ### try: body / except X as n: suite, the caught exception held behind the suite -/
/-- an exception's object: its class, its dict -/
def ExO (a : Addr) (cls : Value) (d : Option Addr) : HO := .ext fun h => ∃ o, h.get? a = some o ∧ Zc cls d o ∧ ∃ vs, o.data = .fields vs
section
variable {X : Cx} {pins : List (Addr × Obj)} {σ : L2.St} {H : Hp} {s : Shared}
/-- a pinned object is tracked from now on -/
theorem promote {a : Addr} {o : Obj} {cls : Value} {d : Option Addr} (I : Inv X ((a, o) :: pins) σ H s) (hz : Zc cls d o) (hf : ∃ vs, o.data = .fields vs) (new : X.s_0.heap.get? a = none) (apart : ∀ p ∈ X.pn ++ pins, p.1 ≠ a) : Inv X pins σ (upd H a (ExO a cls d)) s := by
  obtain ⟨ha, na, nL, nF, nC⟩ := I.pin (a, o) (List.mem_append_right _ List.mem_cons_self)
  have here : ∀ b, b ≠ a → upd H a (ExO a cls d) b = H b := fun b n => upd_ne n
  have known : ∀ b u, H b = some u → b ≠ a := fun b u e z => by rw [z, na] at e; cases e
  have old : ∀ b u, X.s_0.heap.get? b = some u → b ≠ a := fun b u e z => by rw [z, new] at e; cases e
  refine ⟨I.ok, I.os, I.bare, ⟨I.base.keep, I.base.slot, fun b u e n hx => ?_, I.base.there, fun b xs e => ?_, fun b u v e => ?_, fun b ps e => ?_⟩, I.loc, I.cell, ?_, fun y c e => ?_, fun p hp => ?_, fun b u e => ?_, I.len⟩
  · rw [here b (old b u e)]
    exact I.base.free b u e n hx
  · have z := I.base.tups b xs e
    rw [here b (known b _ z)]
    exact z
  · have z := I.base.frzs b u v e
    rw [here b (known b _ z)]
    exact z
  · obtain ⟨more, z⟩ := I.base.tbls b ps e
    exact ⟨more, by rw [here b (known b _ z)]; exact z⟩
  · rw [here _ nL.symm]
    exact I.free
  · have ne : c ≠ a := fun z => by
      obtain ⟨v, oc, hoc, hdc⟩ := I.cell y c e
      rw [z, ha] at hoc
      cases hoc
      exact nC v hdc
    rw [here c ne]
    exact I.freeC y c e
  · have hp2 : p ∈ X.pn ++ ((a, o) :: pins) := by
      rcases List.mem_append.mp hp with h | h
      · exact List.mem_append_left _ h
      · exact List.mem_append_right _ (List.mem_cons_of_mem _ h)
    obtain ⟨e1, e2, e3⟩ := I.pin p hp2
    exact ⟨e1, by rw [here _ (apart p hp)]; exact e2, e3⟩
  · by_cases q : b = a
    · subst q
      rw [upd_same] at e
      cases e
      refine ⟨⟨o, ha, hz, hf⟩, ⟨o, ha⟩, ?_⟩
      rintro h1 h2 ⟨u, e1, e2⟩ st
      exact ⟨u, st u e1, e2⟩
    · rw [here b q] at e
      exact (I.hok b u e).stay (fun _ _ _ z => z) (fun c z => by rw [here c (known c _ z)]; exact z) fun c xs z => by rw [here c (known c _ z)]; exact z
end
end Lw
namespace Lw
open PySem PySem.Spec PyProof.Rows L2

/-- what the body's exceptions must be: of the class that is named; the suite ends plainly, and the exception stays known behind it -/
def wHeld (K : PySem.W.Frag) (c : Value) (i n : Nat) (ts : Addr → Value → Option Addr → TS) (D : Ends) : WX := fun cls d σ H => σ.length = n →
  PySem.W.exmOne K cls c = some true ∧ ∀ a, H a = none → ts a cls d { nx := fun σ' H' => H' a = none → D.nx (σ'.set i none) (upd H' a (ExO a cls d)), rt := fun _ _ => False, bk := fun _ _ => False, ct := fun _ _ => False } (σ.set i (some (.ref a))) H
section
variable {X : Cx} {x n : Str} {c : Value} {i : Nat} {body suite : List Stmt} {b₀ : Stmt} {np pos pos' : Pos} {tb : WX → TS} {ts : Addr → Value → Option Addr → TS}
theorem ps_try_held (stk : X.stack = X.env :: X.outer) (frm : X.env.frame = some X.env.locals) (hN : X.N.Nodup) (hi : X.N[i]? = some n) (loc : X.env.kindOf n = some .local) (nm : Names X x c) (noex : X.ex = [])
    (hb : ∀ (W : WX) (pn : List (Addr × Obj)) (xe : Value → Shared → Prop), Takes (X.tr pn xe) W → PassesOwn (model X.prog X.w) X.A X.env xe → PSs (X.tr pn xe) body (tb W))
    (hsu : ∀ (a : Addr) (oe : Obj) (cls : Value) (d : Option Addr) (pn : List (Addr × Obj)), Zc cls d oe → (∃ vs, oe.data = .fields vs) → PSs (X.suite a ((a, oe) :: pn)) (b₀ :: suite) (ts a cls d)) :
    PS X (.Try body [.ExceptHandler (some (.Name x np)) (some n) (b₀ :: suite) pos'] [] [] pos) (fun D σ H => tb (wHeld X.K c i X.N.length ts D) D σ H) := by
  refine ⟨fun pins s σ H D I h => ?_⟩
  have ok := I.ok
  have frames : X.A.frames = some (X.env :: X.outer) := by rw [ok.frames, stk]
  refine wpAny_Try_except ?_
  refine wpAny_mono ((hb (wHeld X.K c i X.N.length ts D) (X.pn ++ pins) (fun e s₁ => wpAny (model X.prog X.w) X.A (noteFrame e X.env) (fun _ s₂ => wpAny (model X.prog X.w) X.A (setFlight e none) (fun _ s₃ =>
    wpAny (model X.prog X.w) X.A (handleBy e X.env [.ExceptHandler (some (.Name x np)) (some n) (b₀ :: suite) pos']) (SP X pins D) X.xe s₃) X.xe s₂) X.xe s₁) (fun u s' air => ?_) PassesOwn.looking).run [] s σ H D (I.toTry _) h) (fun f s1 q => ?_) (fun e s1 q => q)
  · obtain ⟨a, B, sI, pins', σ', H', cls, d, rfl, JT, nb, up, sky, na, os, ag, hw⟩ := air
    have J : Inv X pins σ' H' sI := JT.ofTry ok
    obtain ⟨ours, go⟩ := hw J.len
    rw [stk] at sky
    show wpAny (model X.prog X.w) X.A (noteFrame (.ref a) X.env) _ _ _
    refine Sky.land Zc.steady frames frm sky fun hA flA upA => ?_
    have JA : Inv X pins σ' H' { s' with heap := hA } := J.landed nb flA.1 (up.trans upA) os ag
    obtain ⟨oA, vsA, eA, zA, dA⟩ := flA.there
    -- the exception's object is no frame, and it is new
    have noFrame : a ∉ frs (X.env :: X.outer) := fun hm => by
      obtain ⟨_, o', e', hnf⟩ := flA.2.2.1.mem hm
      rw [eA] at e'
      cases e'
      exact hnf _ dA
    have nL : a ≠ X.env.locals := fun z => noFrame (List.mem_filterMap.mpr ⟨X.env, List.mem_cons_self, by rw [frm, z]⟩)
    have nF : a ∉ X.fs := fun hm => by
      obtain ⟨e, he, q⟩ := List.mem_filterMap.mp hm
      exact noFrame (List.mem_filterMap.mpr ⟨e, List.mem_cons_of_mem _ he, q⟩)
    have nB : B.get? a = none := flA.2.1
    have ground : ∀ b o, sI.heap.get? b = some o → b ≠ a := fun b o e z => by
      rw [z] at e
      have k := nb a o e (by rw [stk]; exact noFrame)
      rw [nB] at k
      cases k
    have fresh : X.s_0.heap.get? a = none := by
      cases e : X.s_0.heap.get? a with
      | none => rfl
      | some o =>
        obtain ⟨o', e'⟩ := J.base.there a o e (by rw [noex]; simp)
        exact absurd rfl (ground a o' e')
    have apart : ∀ p ∈ X.pn ++ pins, p.1 ≠ a := fun p hp => ground p.1 p.2 (J.pin p hp).1
    refine wpAny_handleBy_cons (codeAny_handlers_test ?_) (by intro q; cases q)
    have LT : PySem.W.Looks (model X.prog X.w) hA (typeOf (.ref a)) cls := fun A Q E s k q => wpAny_typeOf_ref (k _ _ eA) (by rw [zA.1]; exact q)
    have LM := PySem.W.exm_one (M := model X.prog X.w) JA.kIn LT ours
    have SA := JA.suite eA dA na nL nF
    have look : ∀ {Q : Value → Shared → Prop} {E : Value → Shared → Prop}, Q c { s' with heap := hA } → wpAny (model X.prog X.w) (X.A.mark (some (.ref a))) (eval (.Name x np) X.env) Q E { s' with heap := hA } := fun {Q E} q => by
      rcases nm with ⟨g1, g2, g3 | ⟨g3, g4, g5⟩⟩
      · exact ld_glob (X := X.suite a ((a, oA) :: (X.pn ++ pins))) SA g1 g3 q g2
      · exact ld_blt (X := X.suite a ((a, oA) :: (X.pn ++ pins))) SA g1 g3 g4 q g5 g2
    refine look (LM.here ?_)
    refine codeAny_handlers_suite_as ?_
    refine HandSPX.lands_againZ flA fun hB flB upB => ?_
    have JB : Inv X pins σ' H' { s' with heap := hB } := J.landed nb flB.1 ((up.trans upA).trans upB) os ag
    obtain ⟨oB, vsB, eB, zB, dB⟩ := flB.there
    refine store_ok (X := X.suite a ((a, oB) :: (X.pn ++ pins))) (v := .ref a) (JB.suite eB dB na nL nF) hN hi (.inl loc) rfl (fun s5 S5 => ?_) (.inr loc)
    refine wpAny_mono ((hsu a oB cls d (X.pn ++ pins) zB ⟨_, dB⟩).run [] s5 _ H' _ S5 (go a na)) (fun f s6 q => ?_) (fun _ _ z => False.elim z)
    cases f with
    | next =>
      obtain ⟨σ6, H6, S6, q6⟩ := q
      have held : Inv X ((a, oB) :: pins) σ6 H6 s6 := ⟨ok, S6.os, S6.bare, S6.base, S6.loc, S6.cell, S6.free, S6.freeC, fun p hp => by
        refine S6.pin p (List.mem_append_left _ ?_)
        show p ∈ (a, oB) :: (X.pn ++ pins)
        rcases List.mem_append.mp hp with h | h
        · exact List.mem_cons_of_mem _ (List.mem_append_left _ h)
        · rcases List.mem_cons.mp h with h | h
          · rw [h]; exact List.mem_cons_self
          · exact List.mem_cons_of_mem _ (List.mem_append_right _ h), S6.hok, S6.len⟩
      refine gone_ok held hN hi loc fun s7 I7 => ?_
      exact ⟨_, _, promote I7 zB ⟨_, dB⟩ fresh apart, q6 (I7.pin (a, oB) (List.mem_append_right _ List.mem_cons_self)).2.1⟩
    | brk =>
      obtain ⟨_, _, _, z⟩ := q
      exact z.elim
    | cont =>
      obtain ⟨_, _, _, z⟩ := q
      exact z.elim
    | ret u =>
      obtain ⟨_, _, _, _, _, z⟩ := q
      exact z.elim
  · cases f with
    | next =>
      obtain ⟨σ1, H1, I1, q1⟩ := q
      exact wpAny_execs_nil ⟨σ1, H1, I1.ofTry ok, q1⟩
    | brk =>
      obtain ⟨σ1, H1, I1, q1⟩ := q
      exact ⟨σ1, H1, I1.ofTry ok, q1⟩
    | cont =>
      obtain ⟨σ1, H1, I1, q1⟩ := q
      exact ⟨σ1, H1, I1.ofTry ok, q1⟩
    | ret u =>
      obtain ⟨v1, σ1, H1, I1, r1, q1⟩ := q
      exact ⟨v1, σ1, H1, I1.ofTry ok, r1, q1⟩
end
end Lw
namespace Lw
open PySem PySem.Spec PyProof.Rows L2

section
variable {X : Cx} {pins : List (Addr × Obj)} {σ : L2.St} {H : Hp} {s : Shared}
theorem held_at {a : Addr} {cls : Value} {d : Option Addr} (I : Inv X pins σ H s) (h : H a = some (ExO a cls d)) : ∃ o vs, s.heap.get? a = some o ∧ o.cls = cls ∧ o.dict = d ∧ o.data = .fields vs := by
  obtain ⟨⟨o, h1, h2, vs, h3⟩, _⟩ := (show ObjOk X.prog X.w H s.heap a (ExO a cls d) from I.hok a _ h)
  exact ⟨o, vs, h1, h2.1, h2.2, h3⟩
/-- the exception as an instance, its attributes known -/
theorem held_inst {a C dd : Addr} {fs : List (Str × V)} (I : Inv X pins σ H s) (h : H a = some (ExO a (.ref C) (some dd))) (hd : H dd = some (.xd fs)) : ∃ o od, PySem.W.InstAt s.heap a o C (some od) ∧ ∀ f v, fs.lookup f = some v → ∃ u, PySem.W.lookIn f od = some (some u) ∧ RelV v u := by
  obtain ⟨o, vs, h1, h2, h3, h4⟩ := held_at I h
  obtain ⟨mA, hns, hr⟩ := (show ObjOk X.prog X.w H s.heap dd (.xd fs) from I.hok dd _ hd)
  obtain ⟨od, ho, hl⟩ := lookIn_ns hns
  refine ⟨o, od, ⟨h1, h2, by unfold PySem.W.notCls; rw [h4] <;> rfl, by rw [h3]; exact ho⟩, fun f v e => ?_⟩
  obtain ⟨u, hu, ru⟩ := RelO.some_of (v := v) (o := mA f) (by rw [← e]; exact hr f)
  exact ⟨u, by rw [hl, hu], ru⟩
/-- e.f of an exception that is held -/
def tHeld (C : Addr) (f : Str) (te : TE) : TE := fun σ H Q => te σ H fun x H1 => ∃ (a dd : Addr) (fs : List (Str × V)) (v : V), x = .ref a ∧ H1 a = some (ExO a (.ref C) (some dd)) ∧ H1 dd = some (.xd fs) ∧ fs.lookup f = some v ∧ Q v H1
theorem pe_held {C : Addr} {e : Expr} {te : TE} {pos : Pos} {f : Str} (T : XfC X.K C) (hno : PySem.W.findIn X.K (.ref C) f = some none) (he : PE X e te) (hb : attributeBase e f X.env (eval e X.env) = eval e X.env := by rfl) : PE X (.Attribute e f pos) (tHeld C f te) := by
  refine ⟨fun pins s σ H Q I q => attr_of hb (thn (he.run pins s σ H _ I q) fun u s1 got => ?_)⟩
  obtain ⟨x, H1, I1, rx, a, dd, fs, v, rfl, ha, hd, hl, q⟩ := got
  obtain rfl : u = Value.ref a := rx
  obtain ⟨o, od, J, fld⟩ := held_inst I1 ha hd
  obtain ⟨u, hu, ru⟩ := fld f v hl
  exact HandSPX.exc_get I1.kIn J T.ga T.gg T.exC (PySem.W.findObj_own T.hdC hno rfl hu) (handed_of ru) ⟨v, H1, I1.tok _, ru, q⟩
end
end Lw
namespace Lw.Hx
open PySem PySem.Spec PySem.Calls PyProof.Rows PySem.W

/-! ### isinstance of an exception that has attributes -/
/-- what isinstance asks of the exception's class -/
structure XCls (K : Frag) (D : Addr) : Prop where
  ga : findIn K (.ref D) "__getattribute__" = some (some (.builtin "BaseException.__getattribute__"))
  gt : findIn K (.ref D) "__getattr__" = some none
  sub : subIn K (.ref D) (.type "BaseException") = some true
  dct : hasDictIn K D = true
  ca : findIn K (.ref D) "__class__" = some (some (.builtin "object.__class__"))
  cn : specialIn K (.builtin "object.__class__") "__get__" = some (some (.builtin "getset_descriptor.__get__"))
  ct : takesIn K (.builtin "object.__class__") = some true
  cm : mroIn K D (.type "object") = some true
section
variable {prog : Program} {w : World} {A : Around} {E : Value → Shared → Prop} {s : Shared} {K : Frag} {x D : Addr} {ox : Obj} {od : Option Obj}
theorem finds (c : XCls K D) : findObj K D od "__class__" = some (.bind (.builtin "getset_descriptor.__get__") (.builtin "object.__class__")) := by
  obtain ⟨cd, hc, _⟩ := any_some c.dct
  unfold findObj
  rw [hc, Option.bind_some, c.ca, Option.bind_some]
  simp only [c.cn, c.ct, Option.bind_some]
theorem class_of (c : XCls K D) {Q : Option Value → Shared → Prop} (X : K.In s.heap) (I : InstAt s.heap x ox D od) (h : Q (some (.ref D)) { s with toks := s.toks + 1 }) : wpAny (model prog w) A (getAttr? (.ref x) "__class__") Q E s := by
  have found := finds (od := od) c
  obtain ⟨hp, gs, dr, tk, os⟩ := s
  have kind := I.type (M := model prog w)
  have asks := looks_findIn (M := model prog w) X c.ga
  have more := looks_findIn (M := model prog w) X c.gt
  have seen := looks_find (M := model prog w) X I found
  have under : Looks (model prog w) hp (isInstance (.ref x) (.type "BaseException")) true := kind.andThen (looks_subIn X c.sub)
  have n2 : (Value.builtin "BaseException.__getattribute__" == Value.builtin "object.__getattribute__") = false := by decide +kernel
  have n1 : (onTheHeap (Value.ref D) && Value.builtin "BaseException.__getattribute__" == Value.builtin "object.__getattribute__") = false := by rw [n2]; rfl
  unfold getAttr? getAttrBy? getAttrBy
  refine wpAny_bind (wpAny_mkText (wpAny_bind (wpAny_attempt (wpAny_holding (wpAny_bind (kind.at (wpAny_bind (asks.at ?_))))))))
  show wpAny _ _ (ite ((onTheHeap (Value.ref D) && Value.builtin "BaseException.__getattribute__" == Value.builtin "object.__getattribute__") = true) _ _) _ _ _
  rw [n1, if_neg (by decide)]
  unfold getAttrByItsOwn hookBefore
  refine wpAny_bind ?_
  rw [if_pos (show onTheHeap (.ref D) = true from rfl)]
  refine more.at (wpAny_bind (wpAny_attempt (wpAny_holding ?_)))
  unfold callGetattribute
  rw [if_neg (show ¬ (false && onTheHeap (Value.builtin "BaseException.__getattribute__")) = true from by decide)]
  unfold boundAndCalled
  rw [PySem.F.excAttr_ValueError.ga.bind (.ref x)]
  refine wpAny_bind (wpAny_pure ?_)
  show wpAny _ _ (call (.builtin "BaseException.__getattribute__") [.ref x, .str "__class__" tk]) _ _ _
  refine wpAny_call (codeAny_call_builtin PySem.F.excAttr_ValueError.ga.plain PySem.F.entry_bexc_ga ?_)
  refine @check_slot (model prog w) _ _ ⟨hp, gs, dr, tk + 1, os⟩ "BaseException.__getattribute__" "BaseException" "__getattribute__" (.ref x) [.str "__class__" tk] [] _ (by decide +kernel) (by decide +kernel) under (PySem.F.args_bexc_ga (.ref x) (.str "__class__" tk)) ?_
  unfold Builtin.«object.__getattribute__»
  refine wpAny_bind (wpAny_of_eq (a := ((Value.ref x : Value), [Value.str "__class__" tk])) (by first | rfl | (simp only [slotArgs] <;> rfl)) ?_)
  refine wpAny_bind (wpAny_pure (wpAny_bind (kind.at (wpAny_bind (seen.at ?_)))))
  show wpAny _ _ (holding [Value.builtin "object.__class__"] (call (.builtin "getset_descriptor.__get__") [.builtin "object.__class__", .ref x, .ref D]) >>= ret) _ _ _
  refine wpAny_bind (wpAny_holding (wpAny_call (class_get (s := ⟨hp, gs, dr, tk + 1, os⟩) X I c.cm ?_)))
  refine wpAny_pure ?_
  show wpAny _ _ (handedOut (.ref D)) _ _ _
  rw [handedOut_of (v := .ref D) rfl]
  first
    | exact wpAny_pure (wpAny_pure h)
    | exact wpAny_pure h
    | exact wpAny_pure (wpAny_bind (wpAny_pure (wpAny_pure h)))
theorem no_list (c : XCls K D) : ∃ o cd, K.lookup D = some o ∧ o.data = .cls cd := by
  obtain ⟨cd, hc, _⟩ := any_some c.dct
  unfold clsIn at hc
  split at hc
  · rename_i c' d' cd' sl' ho
    exact ⟨_, _, ho, rfl⟩
  · cases hc
theorem kitx_held (c : XCls K D) : KitX K (.ref x) (.ref D) (fun h => InstAt h x ox D od) where
  ty := fun _ _ _ I => I.type
  it := fun _ _ X _ => by
    obtain ⟨o, cd, ho, hd⟩ := no_list c
    intro A' Q' E' s' k q
    unfold isType loadHead
    refine wpAny_bind (wpAny_loadPart (k _ _ (X _ _ ho)) ?_)
    rw [hd]
    exact wpAny_pure q
  ne := fun h tp dd its n sl X htp => by
    refine Bool.eq_false_iff.mpr fun q => ?_
    have e : D = tp := Value.ref.inj (beq_iff_eq.mp q)
    obtain ⟨o, cd, ho, hd⟩ := no_list c
    have z := X _ _ ho
    rw [e, htp] at z
    cases z
    cases hd
  ca := fun X I k => class_of c X I k
end
end Lw.Hx
namespace Lw
open PySem PySem.Spec PyProof.Rows L2

/-- a value's kind: an exception's that is held, too -/
inductive TyW (K : PySem.W.Frag) (H : Hp) : V → Value → Prop where
  | z {v : V} {t : Value} (h : TyZ K H v t) : TyW K H v t
  | held {a D dd : Addr} {fs : List (Str × V)} (e : H a = some (ExO a (.ref D) (some dd))) (hd : H dd = some (.xd fs)) (c : Hx.XCls K D) : TyW K H (.ref a) (.ref D)
def rIsw (K : PySem.W.Frag) : List V → Hp → VK → Prop := fun xs H Q => ∃ (x c : V) (t u : Value) (b : Bool), xs = [x, c] ∧ ClsV c u ∧ TyW K H x t ∧ PySem.W.kitOne K t u = some b ∧ Q (.bl b) H
theorem call_isw {X : Cx} : CallR X (.builtin "isinstance") (rIsw X.K) := by
  intro pins s σ H xs us Q I r h
  obtain ⟨x, c, t, u, b, rfl, k, ty, e, q⟩ := h
  cases ty with
  | z ty => exact call_isz pins s σ H _ us Q I r ⟨x, c, t, u, b, rfl, k, ty, e, q⟩
  | @held a D dd fs ea hd cl =>
    obtain ⟨w1, w2, rfl, r1, r2⟩ := vals2 r
    obtain rfl := k.eq r2
    obtain rfl : w1 = Value.ref a := r1
    obtain ⟨o, od, J, _⟩ := held_inst I ea hd
    exact PySem.W.kia_one (Hx.kitx_held cl) I.kIn J e (fun z => by cases z) fun tk => ⟨.bl b, H, I.tok tk, rfl, q⟩
end Lw
namespace Lw
open PySem PySem.Spec PyProof.Rows L2

/-! ### C.m(e, ..), m a static method -/
structure SMet (K : PySem.W.Frag) (C : Addr) (m : Str) (p g : Addr) : Prop where
  mc : ∃ mc, PySem.W.typeIn K (.ref C) = some mc ∧ PySem.W.readsIn K C mc = true ∧ PySem.W.findCls K (.ref C) mc m = some (.get (.builtin "staticmethod.__get__") (.ref p) .none (.ref C))
  ga : PySem.W.specialIn K (.ref C) "__getattribute__" = some (some (.builtin "type.__getattribute__"))
  rc : ∃ rest, PySem.W.recIn K p "staticmethod" = some (.ref g :: rest)
  kp : PySem.W.keepIn K (.ref g) = true
def tStatic (C : Addr) (sp : Sp) (dvs : List V) (E : XK) (ta : TE) (t : TA) : TE := fun σ H Q => ta σ H fun x H1 => x = .ref C ∧ t σ H1 fun vs H2 => sp (vs ++ dvs) H2 Q E
section
variable {X : Cx} {CX : CXT} {C p g : Addr} {k : Nat} {fd : FuncData} {ps : List Str} {sp : Sp} {E : XK} {ds : List Value} {dvs : List V} {o e : Expr} {es : List Expr} {m : Str} {pos apos : Pos} {ta : TE} {t : TA} {pl : Sem Bool}
theorem pe_static (he : PE X o ta) (c : SMet X.K C m p g) (F : FnOk X.prog X.w X.K X.mg X.base CX k g fd ps sp) (hr : Room k X.A) (b : Binds X.K fd ps ds) (d : Vals dvs ds) (hx : Passes CX X E) (ha : PA X (e :: es) t)
    (hst : starEach (e :: es) X.env = (false, eval e X.env) :: starEach es X.env := by rfl) (hpl : (backTo pos (starEach es X.env)).any (·.1) = false := by rfl)
    (ht : eval (.Call (.Attribute o m apos) (e :: es) [] pos) X.env = (do
      let ov ← eval o X.env
      standAt apos.atName
      let (f, first) ← holding [ov] (getMethod ov m pl)
      callWith pos f first (backTo pos (starEach (e :: es) X.env)) (backToKw pos (keywordEach [] X.env))) := by rfl) :
    PE X (.Call (.Attribute o m apos) (e :: es) [] pos) (tStatic C sp dvs E ta t) := by
  refine ⟨fun pins s σ H Q I h => ?_⟩
  refine PySem.W.methodCall_KW (pl := pl) (thn (he.run pins s σ H _ I h) fun u s1 ⟨x, H1, I1, rx, ex, q⟩ => ?_) ht
  subst ex
  obtain rfl : u = Value.ref C := rx
  obtain ⟨mc, h1, h2, h3⟩ := c.mc
  obtain ⟨rest, h4⟩ := c.rc
  obtain ⟨fm, hF⟩ := I1.fr
  refine PySem.W.method_cls I1.kIn c.ga (PySem.W.cls_sm hF I1.ok.mod.kin h1 h2 h3 h4 rfl ?_)
  have I2 : Inv X pins σ H1 { s1 with toks := s1.toks + 1 } := I1.tok _
  refine PySem.W.callWith_K (h₀ := X.base) I2.ok.mod.kin c.kp (thn (ha.run pos pins _ σ H1 _ I2 q) fun us s3 ⟨vs, H2, I3, rv, q2⟩ => ⟨I3.kIn, ?_⟩) hst hpl
  exact run_fn F hr b d hx I3 rv q2
end
end Lw
namespace Lw
open PySem PySem.Spec PyProof.Rows L2

section
variable {X : Cx} {f : Value → Value → Sem Value} {r1 r2 : R2}
/-- one of two rules serves -/
theorem op_or (h1 : OpR X f r1) (h2 : OpR X f r2) : OpR X f (fun x y H Q => r1 x y H Q ∨ r2 x y H Q) := fun pins s σ H x y v u Q I rx ry h => h.elim (h1 pins s σ H x y v u Q I rx ry) (h2 pins s σ H x y v u Q I rx ry)
theorem call_or {f : Value} {c1 c2 : List V → Hp → VK → Prop} (h1 : CallR X f c1) (h2 : CallR X f c2) : CallR X f (fun xs H Q => c1 xs H Q ∨ c2 xs H Q) := fun pins s σ H xs us Q I r h => h.elim (h1 pins s σ H xs us Q I r) (h2 pins s σ H xs us Q I r)
theorem un_or {f : Value → Sem Value} {c1 c2 : V → Hp → VK → Prop} (h1 : UnR X f c1) (h2 : UnR X f c2) : UnR X f (fun x H Q => c1 x H Q ∨ c2 x H Q) := fun pins s σ H x v Q I r h => h.elim (h1 pins s σ H x v Q I r) (h2 pins s σ H x v Q I r)
/-- an expression that two readings serve -/
theorem pe_or {e : Expr} {t1 t2 : TE} (h1 : PE X e t1) (h2 : PE X e t2) : PE X e (fun σ H Q => t1 σ H Q ∨ t2 σ H Q) := ⟨fun pins s σ H Q I h => h.elim (h1.run pins s σ H Q I) (h2.run pins s σ H Q I)⟩
theorem ps_or {st : Stmt} {t1 t2 : TS} (h1 : PS X st t1) (h2 : PS X st t2) : PS X st (fun D σ H => t1 D σ H ∨ t2 D σ H) := ⟨fun pins s σ H D I h => h.elim (h1.run pins s σ H D I) (h2.run pins s σ H D I)⟩
end
end Lw
namespace Lw
open PySem PySem.Spec PyProof.Rows L2

abbrev sErr : Stmt := inClass (top 6) 0
def spErr (C : Addr) : Sp := fun vs H Q _ => ∃ (a : Addr) (v : V), vs = [.ref a, v] ∧ H a = some (exo a C none) ∧ ∀ dx, H dx = none → dx ≠ a → Q .non (upd (upd H dx (exd dx [("value", v)])) a (exo a C (some dx)))
section
variable {P : Program} {w : World} {K : PySem.W.Frag} {mg : Str → Option Value} {base : Heap}
theorem scErr : FnScope ["self", "value"] ["self", "value"] (C8.fnScope sErr) := C8.fnScope_by (by decide +kernel)
theorem fn_err {C f : Addr} {fd : FuncData} (F : C8.Fun K "__init__" "BadRatio.__init__" sErr f fd) (T : OexC K C) (no : PySem.W.findIn K (.ref C) "value" = some none) : FnOk P w K mg base C8.CX0 1 f fd ["self", "value"] (spErr C) := by
  refine C8.fn0 F scErr (fun vs H Q E h => ?_) (fun cdv A outer st H vs Q E hr h => ?_)
  · obtain ⟨a, v, rfl, _⟩ := h
    rfl
  · obtain ⟨a, v, rfl, ha, k⟩ := h
    refine ⟨_, (pss_one (ps_ost (pv 0) (pv 1))), ?_⟩
    exact ⟨_, rfl, _, rfl, a, C, rfl, T, no, .inl ⟨ha, fun dx h1 h2 => k dx h1 h2⟩⟩
end
section
variable {X : Cx} {C fI : Addr} {fd : FuncData} {W : WX} {j : Nat} {e : Expr} {te : TE} {p pos pos2 : Pos}
/-- raise X(e), X such a class -/
def tBad (C : Addr) (W : WX) (te : TE) : TS := fun _ σ H => tMkO C (spErr C) [] (tCons te tNil) σ H fun cls d H' => W cls d σ H'
theorem ps_bad {x : Str} (hc : X.calm = true) (tk : Takes X W) (T : OexC X.K C) (iC : PySem.W.findIn X.K (.ref C) "__init__" = some (some (.ref fI))) (tI : PySem.W.typeIn X.K (.ref fI) = some (.type "function")) (F : FnOk X.prog X.w X.K X.mg X.base C8.CX0 1 fI fd ["self", "value"] (spErr C)) (hr : Room (j + 2) X.A) (hb : Binds X.K fd ["self", "value"] [])
    (hg : Gl X x) (hm : X.mg x = some (.ref C)) (he : PE X e te) (hst : starEach [e] X.env = (false, eval e X.env) :: starEach [] X.env := by rfl) (hdb : (x == ("__debug__" : Str)) = false := by decide) (hpl : (backTo pos (starEach [] X.env)).any (·.1) = false := by rfl) :
    PS X (.Raise (some (.Call (.Name x p) [e] [] pos)) none pos2) (tBad C W te) :=
  ps_raise hc tk (pmk_oex T iC tI F (hr.mono (by omega)) hb .nil C8.pass0 hg hm (pa_cons he pa_nil hst) hdb hst hpl)
/-- what is left to show at the leaf: the exception's dict is new, it holds the value -/
theorem bad_leaf {H1 : Hp} {v : V} {Q : XK} (k : ∀ d, H1 d = none → Q (.ref C) (some d) (upd H1 d (.xd [("value", v)]))) :
    ([v] : List V).length ≤ 1000 ∧ ∀ a, H1 a = none → spErr C (.ref a :: ([v] ++ [])) (upd H1 a (exo a C none)) (fun z H2 => z = .non ∧ ∃ (d : Addr) (fs : List (Str × V)), H2 a = some (exo a C (some d)) ∧ H2 d = some (exd d fs) ∧ H1 d = none ∧ Q (.ref C) (some d) (upd (del H2 a) d (.xd fs))) (fun _ _ _ => False) := by
  refine ⟨(by show 1 ≤ 1000; decide), fun a ha => ⟨a, v, rfl, upd_same, fun dx h1 h2 => ?_⟩⟩
  rw [upd_ne h2] at h1
  refine ⟨rfl, dx, [("value", v)], upd_same, by rw [upd_ne h2]; exact upd_same, h1, ?_⟩
  have e : upd (del (upd (upd (upd H1 a (exo a C none)) dx (exd dx [("value", v)])) a (exo a C (some dx))) a) dx (.xd [("value", v)]) = upd H1 dx (.xd [("value", v)]) := by
    funext b
    by_cases q : b = dx
    · rw [q, upd_same, upd_same]
    · rw [upd_ne q, upd_ne q]
      by_cases q2 : b = a
      · rw [q2, del_same, ha]
      · rw [del_ne q2, upd_ne q2, upd_ne q, upd_ne q2]
  rw [e]
  exact k dx h1
end
end Lw
namespace Lw
open PySem PySem.Spec PyProof.Rows L2

/-- i // j, j of any sign, not too long -/
theorem op_fdivS {X : Cx} : OpR X (binaryOp .FloorDiv) (rI (fun _ j => j ≠ 0 ∧ j.natAbs.log2 < 9000) fun i j => .int (i.fdiv j)) := opI fun i j _ _ _ _ _ hc q => by
  exact floordiv_int hc.1 q (.inl (PyProof.noPylong_of_log2 hc.2))
end Lw
namespace Lw
open PySem PySem.Spec PyProof.Rows L2

open LamX
abbrev sRat : Stmt := inClass (top 15) 0
/-- the error's class, ready to be raised -/
structure Err (P : Program) (w : World) (K : PySem.W.Frag) (mg : Str → Option Value) (base : Heap) (D fE : Addr) (fdE : FuncData) : Prop where
  T : OexC K D
  iC : PySem.W.findIn K (.ref D) "__init__" = some (some (.ref fE))
  tI : PySem.W.typeIn K (.ref fE) = some (.type "function")
  F : FnOk P w K mg base C8.CX0 1 fE fdE ["self", "value"] (spErr D)
  b : Binds K fdE ["self", "value"] []
  hm : mg "BadRatio" = some (.ref D)
/-- the divisor that __init__ takes -/
def com (i j : Int) : Int := if 0 < j then ((Nat.gcd i.natAbs j.natAbs : Nat) : Int) else -((Nat.gcd i.natAbs j.natAbs : Nat) : Int)
def flds (o u : Int) : List (Str × V) := putF "under" (.int u) (putF "over" (.int o) [])
/-- Ratio(over, under): what it makes, what it raises -/
def spRat (K : PySem.W.Frag) (C D : Addr) : Sp := fun vs H Q E => ∃ (x dx : Addr) (va vb : V), vs = [.ref x, va, vb] ∧ Anyv K H va ∧ Anyv K H vb ∧ H x = some (.ins C dx []) ∧
  (isI va = false → ∀ d, H d = none → E (.ref D) (some d) (upd H d (.xd [("value", va)]))) ∧
  (isI va = true → isI vb = false ∨ vb = .int 0 → ∀ d, H d = none → E (.ref D) (some d) (upd H d (.xd [("value", vb)]))) ∧
  (∀ i j, va = .int i → vb = .int j → j ≠ 0 → Small j ∧ Q .non (upd H x (.ins C dx (flds (i.fdiv (com i j)) (j.fdiv (com i j))))))
section
variable {P : Program} {w : World} {K : PySem.W.Frag} {mg : Str → Option Value} {base : Heap}
theorem scRat : FnScope ["self", "over", "under", "common"] ["self", "over", "under"] (C8.fnScope sRat) := C8.fnScope_by (by decide +kernel)
theorem fn_rat {C D f fE : Addr} {fd fdE : FuncData} (F : C8.Fun K "__init__" "Ratio.__init__" sRat f fd) (cl : Cls K C) (n1 : NoAttr K C "over") (n2 : NoAttr K C "under") (hgcd : mg "gcd" = some (.builtin "math.gcd")) (DI : C8.Cal P w K mg base 1 "is_integer" (spIsInt K) [])
    (ER : Err P w K mg base D fE fdE) : FnOk P w K mg base (L2.CX P w) 3 f fd ["self", "over", "under"] (spRat K C D) := by
  obtain ⟨oc, od, dV, kV, doc, pm, an, cdv, ct, osl, rfl, lk, hcd⟩ := F.ex
  refine fn_of lk hcd scRat (fun vs H Q E h => ?_) fun A outer s H vs Q E hr h => ?_
  · obtain ⟨x, dx, va, vb, rfl, _⟩ := h
    rfl
  · obtain ⟨x, dx, va, vb, rfl, aa, ab, hx, k1, k2, k3⟩ := h
    have tk : Takes (cxOf (L2.CX P w) P w K mg base ["self", "over", "under", "common"] "Ratio.__init__" (C8.fnScope sRat) f cdv A outer s H E) (fun cls d _ H' => E cls d H') := takes_of rfl rfl rfl rfl
    refine ⟨_, (pss_cons (ps_if (pt_not (pt_val (C8.pe_c DI hr (by decide) (by rfl) (pa_cons (pv 1) pa_nil)))) (pss_one (ps_bad (x := "BadRatio") rfl tk ER.T ER.iC ER.tI ER.F hr ER.b (by rfl) ER.hm (pv 1))) pss_nil)
  (pss_cons (ps_if (PW.pt (pw_or (pt_not (pt_val (C8.pe_c DI hr (by decide) (by rfl) (pa_cons (pv 2) pa_nil)))) (pw_or1 (pt_cmpR op_eq (pv 2) pe_int (nomark _))))) (pss_one (ps_bad (x := "BadRatio") rfl tk ER.T ER.iC ER.tI ER.F hr ER.b (by rfl) ER.hm (pv 2))) pss_nil)
  (pss_cons (ps_set (i := 3) scRat.nd rfl (Or.inl rfl) (pe_ifExp (pt_cmpR op_gt (pv 2) pe_int (nomark _)) (pe_callBfun cr_gcd (by rfl) hgcd (pa_cons (pv 1) (pa_cons (pv 2) pa_nil))) (pe_un un_neg (pe_callBfun cr_gcd (by rfl) hgcd (pa_cons (pv 1) (pa_cons (pv 2) pa_nil))))))
  (pss_cons (ps_fld (pv 0) (pe_op op_fdivS (pv 1) (pv 3)) rfl)
  (pss_one (ps_fld (pv 0) (pe_op op_fdivS (pv 2) (pv 3)) rfl)))))), ?_⟩
    refine ⟨_, rfl, va, rfl, aa, _, rfl, ?_⟩
    cases hv : isI va with
    | false => exact iteT ⟨_, rfl, bad_leaf (k1 hv)⟩
    | true =>
      obtain ⟨i, rfl⟩ : ∃ i, va = V.int i := by cases va <;> first | exact ⟨_, rfl⟩ | (cases hv)
      refine iteF ⟨_, rfl, vb, rfl, ab, _, rfl, ?_⟩
      cases hw : isI vb with
      | false => exact iteT (iteT ⟨_, rfl, bad_leaf (k2 hv (.inl hw))⟩)
      | true =>
        obtain ⟨j, rfl⟩ : ∃ j, vb = V.int j := by cases vb <;> first | exact ⟨_, rfl⟩ | (cases hw)
        refine iteF ⟨_, rfl, rfl, _, rfl, ite2 (fun c => ⟨_, rfl, bad_leaf (k2 hv (.inr (of_decide_eq_true c)))⟩) (fun c => ?_)⟩
        have j0 : j ≠ 0 := fun e => c (decide_eq_true (by rw [e]))
        obtain ⟨sj, k⟩ := k3 i j rfl rfl j0
        have g0 : 0 < Nat.gcd i.natAbs j.natAbs := Nat.gcd_pos_of_pos_right _ (by omega)
        have gs : Small ((Nat.gcd i.natAbs j.natAbs : Nat) : Int) := by
          unfold Small
          rw [Int.natAbs_natCast]
          exact Nat.lt_of_le_of_lt (Nat.gcd_le_right _ (by omega)) sj
        have c0 : com i j ≠ 0 ∧ (com i j).natAbs.log2 < 9000 := by
          have l := small_log gs
          unfold com
          split
          · exact ⟨by omega, by omega⟩
          · exact ⟨by omega, by rw [Int.natAbs_neg]; omega⟩
        dsimp only [tNext, tSeq]
        refine join_any (fun σ' H' => σ' = [some (V.ref x), some (V.int i), some (V.int j), some (V.int (com i j))] ∧ H' = H) ?r (fun go => ?_)
        case r =>
          rintro σ' H' ⟨rfl, rfl⟩
          refine ⟨_, rfl, _, rfl, _, _, rfl, rfl, c0, _, rfl, x, C, dx, [], rfl, hx, cl, n1, (by show 0 < 1000; decide), ?_⟩
          refine ⟨_, rfl, _, rfl, _, _, rfl, rfl, c0, _, rfl, x, C, dx, _, rfl, upd_same, cl, n2, (by show 1 < 1000; decide), ?_⟩
          rw [upd_upd]
          exact k
        refine ⟨_, rfl, _, _, rfl, rfl, _, rfl, ite2 (fun c => ?_) (fun c => ?_)⟩
        · exact ⟨_, rfl, _, rfl, _, _, rfl, go _ _ ⟨by rw [show com i j = _ from if_pos (of_decide_eq_true c)]; rfl, rfl⟩⟩
        · exact ⟨_, rfl, _, rfl, _, _, rfl, _, rfl, go _ _ ⟨by rw [show com i j = _ from if_neg (fun z => c (decide_eq_true z))]; rfl, rfl⟩⟩
end
end Lw
namespace Lw
open PySem PySem.Spec PyProof.Rows L2

theorem fdiv_com {i j k : Int} (hj : j ≠ 0) : k.fdiv (com i j) = sg j * k / ((Nat.gcd i.natAbs j.natAbs : Nat) : Int) := by
  have g0 : 0 < Nat.gcd i.natAbs j.natAbs := Nat.gcd_pos_of_pos_right _ (by omega)
  by_cases c : 0 < j
  · rw [show com i j = _ from if_pos c, show sg j = 1 from if_pos c, Int.one_mul, Int.fdiv_eq_ediv_of_nonneg _ (by omega)]
  · rw [show com i j = _ from if_neg c, show sg j = -1 from if_neg c]
    have e : k.fdiv (-((Nat.gcd i.natAbs j.natAbs : Nat) : Int)) = (-k).fdiv ((Nat.gcd i.natAbs j.natAbs : Nat) : Int) := by
      rw [← Int.neg_fdiv_neg, Int.neg_neg]
    rw [e, Int.fdiv_eq_ediv_of_nonneg _ (by omega)]
    congr 1
    omega
theorem made_over {i j : Int} (hj : j ≠ 0) : i.fdiv (com i j) = lov i j := fdiv_com hj
theorem made_under {i j : Int} (hj : j ≠ 0) : j.fdiv (com i j) = lun i j := fdiv_com hj
/-- a Ratio of the numbers o, u stands at a -/
def RatAt (C : Addr) (H : Hp) (a : Addr) (o u : Int) : Prop := ∃ dx, H a = some (.ins C dx (flds o u))
theorem flds_over (o u : Int) : (flds o u).lookup ("over" : Str) = some (.int o) := by
  unfold flds
  rw [lookup_putF, if_neg (by decide +kernel), lookup_putF, if_pos rfl]
theorem flds_under (o u : Int) : (flds o u).lookup ("under" : Str) = some (.int u) := by
  unfold flds
  rw [lookup_putF, if_pos rfl]
/-- the least form: what is below is positive, and nothing divides both -/
theorem lun_pos {t b : Int} (h : b ≠ 0) : 0 < lun t b := by
  have g0 : 0 < Nat.gcd t.natAbs b.natAbs := Nat.gcd_pos_of_pos_right _ (by omega)
  have hs : sg b * b = (b.natAbs : Int) := by unfold sg; split <;> omega
  unfold lun
  rw [hs]
  have h1 : Nat.gcd t.natAbs b.natAbs ≤ b.natAbs := Nat.gcd_le_right _ (by omega)
  exact Int.ediv_pos_of_pos_of_dvd (by omega) (by omega) (Int.natCast_dvd_natCast.mpr (Nat.gcd_dvd_right _ _))
end Lw
namespace Lw
open PySem PySem.Spec PyProof.Rows L2
theorem TyX.same {K : PySem.W.Frag} {H H' : Hp} {v : V} {t : Value} (s : Same H H') (h : TyX K H v t) : TyX K H' v t := by
  cases h with
  | base h =>
    refine .base ?_
    cases h with
    | non => exact .non
    | bl x => exact .bl x
    | int i => exact .int i
    | str x => exact .str x
    | flt x => exact .flt x
    | lst e => exact .lst (s _ _ e)
    | frz e => exact .frz (s _ _ e)
    | tup e => exact .tup (s _ _ e)
    | dK e => exact .dK (s _ _ e)
    | dT e => exact .dT (s _ _ e)
    | ins e cl ha hn htk hm => exact .ins (s _ _ e) cl ha hn htk hm
  | byt b => exact .byt b
  | set e => exact .set (s _ _ e)
  | kList e c => exact .kList e c
  | kTuple e c => exact .kTuple e c
  | kDict e c => exact .kDict e c
  | fTuple e => exact .fTuple (s _ _ e)
  | fDict e => exact .fDict (s _ _ e)
theorem TyZ.same {K : PySem.W.Frag} {H H' : Hp} {v : V} {t : Value} (s : Same H H') (h : TyZ K H v t) : TyZ K H' v t := by
  cases h with
  | x h => exact .x (Lw.TyX.same s h)
  | fn e => exact .fn (s _ _ e)
theorem Anyv.same {K : PySem.W.Frag} {H H' : Hp} {v : V} (s : Same H H') (h : Anyv K H v) : Anyv K H' v := by
  cases h with
  | int i => exact .int i
  | non => exact .non
  | bl b => exact .bl b
  | str z => exact .str z
  | obj h h1 h2 h3 => exact .obj (Lw.TyZ.same s h) h1 h2 h3
end Lw
namespace Lw
open PySem PySem.Spec PyProof.Rows L2

open LamX
abbrev sOf : Stmt := inClass (top 15) 1
/-- the class of the ratios, ready to be made of one or two values -/
structure RatM (P : Program) (w : World) (K : PySem.W.Frag) (mg : Str → Option Value) (base : Heap) (C D f : Addr) (fd : FuncData) (ds : List Value) : Prop where
  M : Mk K C f
  F : FnOk P w K mg base (L2.CX P w) 3 f fd ["self", "over", "under"] (spRat K C D)
  hm : mg "Ratio" = some (.ref C)
  b1 : Binds K fd ["self", "over", "under"] ds
  d1 : Vals [.int 1] ds
  b2 : Binds K fd ["self", "over", "under"] []
/-- Ratio.of(value) -/
def spOf (K : PySem.W.Frag) (C D : Addr) : Sp := fun vs H Q E => ∃ v : V, vs = [v] ∧
  ((∃ a dx fs, v = .ref a ∧ H a = some (.ins C dx fs) ∧ Q v H) ∨
   (∃ t, Anyv K H v ∧ TyZ K H v t ∧ PySem.W.kitOne K t (.ref C) = some false ∧ (∀ i, v = .int i → ∀ a H', Same H H' → H a = none → RatAt C H' a (lov i 1) (lun i 1) → Q (.ref a) H') ∧
     (isI v = false → ∀ d H', Same H H' → H' d = none → E (.ref D) (some d) (upd H' d (.xd [("value", v)])))))
section
variable {P : Program} {w : World} {K : PySem.W.Frag} {mg : Str → Option Value} {base : Heap}
theorem scOf : FnScope ["value"] ["value"] (C8.fnScope sOf) := C8.fnScope_by (by decide +kernel)
theorem fn_of' {C D f g : Addr} {fd fdg : FuncData} {ds : List Value} (F : C8.Fun K "of" "Ratio.of" sOf g fdg) (T : Txt mg) (I : C8.InsC K C) (RM : RatM P w K mg base C D f fd ds) : FnOk P w K mg base (L2.CX P w) 5 g fdg ["value"] (spOf K C D) := by
  obtain ⟨oc, od, dV, kV, doc, pm, an, cdv, ct, osl, rfl, lk, hcd⟩ := F.ex
  refine fn_of lk hcd scOf (fun vs H Q E h => ?_) fun A outer s H vs Q E hr h => ?_
  · obtain ⟨v, rfl, _⟩ := h
    rfl
  · obtain ⟨v, rfl, h⟩ := h
    refine ⟨_, (pss_one (ps_ret (pe_ifExp (pt_val (pe_callB call_isz (by rfl) T.n_isinstance (by decide +kernel) (pa_cons (pv 0) (pa_cons (pe_glob (v := .ref C) (by rfl) RM.hm rfl) pa_nil)))) (pv 0) (pe_make RM.M RM.F (hr.mono (by decide)) (by rfl) RM.hm RM.b1 RM.d1 (passes_call (takes_of rfl rfl rfl rfl) (fun _ _ _ _ z => z)) (pa_cons (pv 0) pa_nil))))), ?_⟩
    rcases h with ⟨a, dx, fs, rfl, ha, k⟩ | ⟨t, av, ty, hk, k1, k2⟩
    · refine ⟨_, rfl, _, .ref C, .ref C, .ref C, true, rfl, .own C, .x (.base (.ins ha I.cl I.ha I.hn I.htk I.hm)), I.me, _, rfl, iteT ⟨_, rfl, k⟩⟩
    · refine ⟨_, rfl, _, .ref C, t, .ref C, false, rfl, .own C, ty, hk, _, rfl, iteF ⟨_, rfl, fun x dx hx hdx ne => ?_⟩⟩
      have s1 : Same H (upd H dx (.own x)) := same_new hdx
      have hx1 : upd H dx (.own x) x = none := by rw [upd_ne ne.symm]; exact hx
      have s2 := s1.trans (same_new (o := HO.ins C dx []) hx1)
      refine ⟨x, dx, v, .int 1, rfl, Lw.Anyv.same s2 av, .int 1, upd_same, fun hv d hd => k2 hv d _ s2 hd, fun _ h2 => ?_, fun i j e1 e2 hj => ?_⟩
      · rcases h2 with h2 | h2
        · cases h2
        · cases h2
      · cases e2
        have k := k1 i e1
        refine ⟨by show 1 < 2 ^ 4000; exact Nat.one_lt_two_pow (by decide), rfl, ?_⟩
        rw [upd_upd, made_over hj, made_under hj]
        exact k x _ (s1.trans (same_new hx1)) hx ⟨dx, upd_same⟩
end
end Lw
namespace Lw
open PySem PySem.Spec PyProof.Rows L2
/-! ### texts of long integers: no limit of figures has been told -/
/-- the interpreter's own store tells no limit -/
def limB (K : PySem.W.Frag) : Bool := match K.lookup cStatics with
  | some o => (match o.data with
    | .dict es _ => (es.all fun e => match e.key with | .str _ _ => true | _ => false) && (nsFind es "sys.int_max_str_digits").isNone
    | _ => false)
  | none => false
theorem noDigits_of {K : PySem.W.Frag} {h : Heap} (x : K.In h) (l : limB K = true) : h.NoDigits := by
  unfold limB at l
  cases ho : K.lookup cStatics with
  | none => rw [ho] at l; cases l
  | some o =>
    rw [ho] at l
    have hg := x _ _ ho
    dsimp only at l
    cases hd : o.data with
    | dict es ep =>
      rw [hd] at l
      dsimp only at l
      rw [Bool.and_eq_true] at l
      have hi : h.isNs cStatics = true := by
        unfold Heap.isNs
        rw [hg]; dsimp only; rw [hd]; exact l.1
      refine ⟨_, .of_isNs hi, ?_⟩
      unfold Heap.nsMap
      rw [hg]; dsimp only; rw [hd]
      exact Option.isNone_iff_eq_none.mp l.2
    | _ => rw [hd] at l; cases l
theorem nodig_inv {X : Cx} {pins : List (Addr × Obj)} {σ : L2.St} {H : Hp} {s : Shared} (I : Inv X pins σ H s) (l : limB X.K = true) : s.heap.NoDigits :=
  noDigits_of I.kIn l
/-- str(i), i of at most 4300 figures -/
theorem call_str_long {X : Cx} (hc : X.calm = true) (l : limB X.K = true) : CallR X (.type "str") (fun xs H Q => ∃ i : Int, xs = [.int i] ∧ i.natAbs < 10 ^ 4300 ∧ Q (.str (toString i)) H) := by
  intro pins s σ H xs us Q I r h
  obtain ⟨i, rfl, hz, q⟩ := h
  obtain ⟨u, rfl, t, rfl⟩ := vals1 r
  exact str_of_int_or (I.ok.hd hc) (nodig_inv I l) (fun _ => ⟨.str _, H, I.tok _, ⟨_, rfl⟩, q⟩) (fun hh => absurd hh (Nat.not_le.mpr hz))

open PySem.Calls PySem.NumText PySem.W
theorem wp_textL {M : Model} {A : Around} {E : Value → Shared → Prop} {s : Shared} {Q : Value → Shared → Prop} {v : Value} {text : List Nat} {n : Int} (hn : s.heap.NoDigits)
    (hl : ¬ (text.takeWhile (· != 0)).length ≤ 640) (hr : (int_private% "readNumeral") 4300 10 (text.takeWhile (· != 0)) = (int_private% "Numeral.value") n)
    (ha : ((text.takeWhile (· != 0)).length == text.length) = true) (h : Q (.int n s.toks) { s with toks := s.toks + 1 }) :
    wpAny M A ((int_private% "intFromText") v text 10) Q E s := by
  obtain ⟨mc, hns, hnone⟩ := hn
  obtain ⟨hp, g, d, tk, os⟩ := s
  wp_step
  refine wpAny_ite_false (decide_eq_false hl) ?_
  unfold Builtin.intMaxStrDigits
  refine wpAny_bind (wpAny_bind (wpAny_nsGet hns ?_))
  rw [hnone]
  refine wpAny_pure ?_
  dsimp only
  rw [hr]
  dsimp only
  repeat (any_goals (first
    | assumption
    | (with_reducible refine wpAny_ite_true ha ?_)
    | wp_step))
/-- int(text), a text of at most 4300 figures -/
theorem meets_textL {x : PySem.Str} {u : Tok} {n : Int} (hl : x.length ≤ sizeLine) (hn : PySem.intText? x = some n) :
    Meets (Builtin.«int.__new__» ⟨[.type "int", .str x u], []⟩) (fun _ R s => s.heap.NoDigits ∧ R (.ok (.ret (.int n s.toks))) { s with toks := s.toks + 1 }) := by
  intro prog w A R s hq
  obtain ⟨hnd, q⟩ := hq
  have hr : (int_private% "readNumeral") (numLimitOf x) 10 (numSeenOf x) = (int_private% "Numeral.value") n ∧ ((numSeenOf x).length == (numTextOf x).length) = true := by
    rcases readAny x hl with ⟨m, h1, h2, h3⟩ | ⟨h1, _⟩
    · rw [hn] at h1
      cases h1
      exact ⟨h3, h2⟩
    · rw [hn] at h1
      cases h1
  obtain ⟨hr, ha⟩ := hr
  refine wpAny_mono (?_ : wpAny (model prog w) A.in1 (Builtin.«int.__new__» ⟨[.type "int", .str x u], []⟩) (fun fin s' => fin = .done (.ret (.int n s.toks)) ∧ s' = { s with toks := s.toks + 1 }) _ s) (fun fin s' z => by obtain ⟨rfl, rfl⟩ := z; exact q) fun _ _ z => z
  have wt : ∀ v, wpAny (model prog w) A.in1 ((int_private% "intFromText") v (numTextOf x) 10) (fun r s' => r = .int n s.toks ∧ s' = { s with toks := s.toks + 1 }) (fun e s' => R (Except.error e) s') s := fun v => by
    by_cases h64 : (numSeenOf x).length ≤ 640
    · rw [show numLimitOf x = 0 from if_pos h64] at hr
      exact KIN.wp_text h64 hr ha ⟨rfl, rfl⟩
    · rw [show numLimitOf x = 4300 from if_neg h64] at hr
      exact wp_textL hnd h64 hr ha ⟨rfl, rfl⟩
  clear q hr ha hn hl
  have f1 := F.conv_sub_int
  have f2 := F.madeHere_int
  have f3 := KIN.str_int
  have f4 := KIN.str_idx
  have f5 := KIN.str_trunc
  have f6 : typeOf (.str x u) = pure (.type "str") := rfl
  obtain ⟨hp, g, d, tk, os⟩ := s
  repeat (any_goals (first
    | assumption
    | ((with_reducible show wpAny _ _ ((int_private% "intFromText") _ _ _) _ _ _); refine wpAny_mono (wt _) ?_ (fun _ _ z => z))
    | wp_step))
  rintro a s ⟨rfl, rfl⟩
  exact wpAny_ite_true rfl (wpAny_pure ⟨rfl, rfl⟩)
/-- int(text), a text of at most 4300 figures -/
theorem call_int_long {X : Cx} (l : limB X.K = true) : CallR X (.type "int") (fun xs H Q => ∃ a n, xs = [.str a] ∧ PySem.intText? a = some n ∧ a.length ≤ sizeLine ∧ Q (.int n) H) := by
  intro pins s σ H xs us Q I rs h
  obtain ⟨a, n, rfl, hn, hl, h⟩ := h
  obtain ⟨u, rfl, t, rfl⟩ := vals1 rs
  exact call_int_1 (meets_textL hl hn) ⟨nodig_inv I l, typeIs_int _ _ _, ⟨.int n, H, I.tok _, ⟨_, rfl⟩, h⟩⟩
end Lw
namespace Lw
open PySem PySem.Spec PyProof.Rows L2
open SX PySem.NumText TL
/-! ### what integer_text tells -/
/-- so many figures -/
def padD : Nat → Nat → List Nat
  | 0, _ => []
  | k + 1, m => padD k (m / 10) ++ [48 + m % 10]
theorem padD_zero : ∀ k : Nat, padD k 0 = List.replicate k 48
  | 0 => rfl
  | k + 1 => by
    show padD k (0 / 10) ++ [48 + 0 % 10] = _
    rw [Nat.zero_div, padD_zero k, List.replicate_succ']
theorem padD_len : ∀ (k m : Nat), (padD k m).length = k
  | 0, _ => rfl
  | k + 1, m => by
    show (padD k (m / 10) ++ [48 + m % 10]).length = _
    rw [List.length_append, padD_len k]; rfl
theorem numL_cut : ∀ (k n : Nat), 10 ^ k ≤ n → numL n = numL (n / 10 ^ k) ++ padD k (n % 10 ^ k)
  | 0, n, _ => by
    rw [Nat.pow_zero, Nat.div_one]
    show _ = _ ++ []
    rw [List.append_nil]
  | k + 1, n, h => by
    have hp : 0 < 10 ^ k := Nat.pow_pos (by decide)
    rw [Nat.pow_succ] at h
    have h10 : 10 ≤ n := Nat.le_trans (by omega) h
    have h2 : 10 ^ k ≤ n / 10 := (Nat.le_div_iff_mul_le (by decide)).mpr h
    have e1 : n / 10 / 10 ^ k = n / 10 ^ (k + 1) := by rw [Nat.div_div_eq_div_mul, Nat.pow_succ, Nat.mul_comm]
    have e2 : n % 10 ^ (k + 1) / 10 = n / 10 % 10 ^ k := by rw [Nat.pow_succ, Nat.mul_comm, Nat.mod_mul_right_div_self]
    have e3 : n % 10 ^ (k + 1) % 10 = n % 10 := by rw [Nat.pow_succ, Nat.mod_mul_left_mod]
    rw [numL_step h10, numL_cut k _ h2, e1]
    show _ = _ ++ (padD k (n % 10 ^ (k + 1) / 10) ++ [48 + n % 10 ^ (k + 1) % 10])
    rw [e2, e3, List.append_assoc]
theorem numL_pad : ∀ (k m : Nat), 0 < k → m < 10 ^ k → (numL m).length ≤ k ∧ List.replicate (k - (numL m).length) 48 ++ numL m = padD k m
  | 0, _, h, _ => absurd h (by decide)
  | k + 1, m, _, h => by
    by_cases hm : m < 10
    · rw [numL_lt hm]
      refine ⟨by simp, ?_⟩
      show List.replicate (k + 1 - 1) 48 ++ _ = padD k (m / 10) ++ [48 + m % 10]
      rw [Nat.div_eq_of_lt hm, Nat.mod_eq_of_lt hm, padD_zero]; rfl
    · have h10 : 10 ≤ m := by omega
      rw [Nat.pow_succ] at h
      have h1 : m / 10 < 10 ^ k := Nat.div_lt_of_lt_mul (by rw [Nat.mul_comm]; exact h)
      have k0 : 0 < k := by
        cases k with
        | zero => rw [Nat.pow_zero] at h; omega
        | succ k => omega
      obtain ⟨a, b⟩ := numL_pad k (m / 10) k0 h1
      rw [numL_step h10, List.length_append]
      refine ⟨by simp; omega, ?_⟩
      show _ = padD k (m / 10) ++ [48 + m % 10]
      rw [← b, ← List.append_assoc]
      have e : k + 1 - ((numL (m / 10)).length + [48 + m % 10].length) = k - (numL (m / 10)).length := by simp
      rw [e]
theorem zfill_num {m : Nat} (h : m < 10 ^ 60) : Txt.zfill (Str.ofString (toString ((m : Nat) : Int))) 60 = S (padD 60 m) := by
  obtain ⟨h1, h2⟩ := numL_pad 60 m (by decide) h
  rw [num_S]
  unfold Txt.zfill
  rw [S_len]
  by_cases h3 : (60 : Int) ≤ ((numL m).length : Int)
  · rw [if_pos h3]
    have e : 60 - (numL m).length = 0 := by omega
    rw [e] at h2
    exact congrArg S h2
  · rw [if_neg h3]
    obtain ⟨c, r, hc⟩ : ∃ c r, numL m = c :: r := by
      cases e : numL m with
      | nil => exact absurd e (numL_ne m)
      | cons c r => exact ⟨c, r, rfl⟩
    have hd := numL_digits m c (by rw [hc]; exact List.mem_cons_self)
    have hz : (S (numL m)).cps[0]? = some c := by
      rw [hc]; rfl
    unfold PySem.zfilled
    rw [hz]
    have e : (match some c with
      | some 43 | some 45 => Builtin.Str.strSub (S (numL m)) 0 1 ++ Builtin.Str.padded (Builtin.Str.strSub (S (numL m)) 1 (S (numL m)).length) ((60 : Int).toNat - (numL m).length) 0 48
      | _ => Builtin.Str.padded (S (numL m)) ((60 : Int).toNat - (numL m).length) 0 48) = Builtin.Str.padded (S (numL m)) ((60 : Int).toNat - (numL m).length) 0 48 := by
      split
      · rename_i e; cases e; omega
      · rename_i e; cases e; omega
      · rfl
    refine e.trans ?_
    rw [← h2]
    show (⟨Array.replicate (60 - (numL m).length) 48 ++ (S (numL m)).cps ++ Array.replicate 0 48⟩ : Str) = _
    refine congrArg Str.mk (Array.toList_inj.mp ?_)
    simp [S]
theorem joinL_nil : ∀ ys : List (List Nat), joinL [] ys = ys.flatten
  | [] => rfl
  | [y] => by show y = _; simp
  | y :: z :: r => by
    show y ++ ([] ++ joinL [] (z :: r)) = _
    rw [joinL_nil (z :: r), List.nil_append]; rfl
theorem tl_neg {n : Nat} (h : 0 < n) : (Str.ofString (toString (-((n : Nat) : Int)))).cps.toList = 45 :: numL n := by
  obtain ⟨m, rfl⟩ : ∃ m, n = m + 1 := ⟨n - 1, by omega⟩
  rw [PyProof.Rows.signs_ofString]
  have e : toString (-(((m + 1 : Nat) : Int))) = "-" ++ Nat.repr (m + 1) := rfl
  rw [e, String.toList_append, List.map_append, Nat.toList_repr]
  rfl
theorem str_neg {n : Nat} (h : 0 < n) : Str.ofString (toString (-((n : Nat) : Int))) = S (45 :: numL n) := TL.ext_tl (tl_neg h)
theorem same_own {H H' : Hp} {a : Addr} {o : HO} (s : Same H H') (h : H a = none) : Same H (upd H' a o) := fun b u e => by
  have ne : b ≠ a := fun z => by rw [z, h] at e; cases e
  rw [upd_ne ne]; exact s b u e
abbrev sIntTx : Stmt := top 11
/-- the figures of an integer, its sign ahead -/
def intL (i : Int) : List Nat := if i < 0 then 45 :: numL i.natAbs else numL i.natAbs
theorem str_int (i : Int) : Str.ofString (toString i) = S (intL i) := by
  unfold intL
  by_cases h : i < 0
  · rw [if_pos h]
    obtain ⟨n, rfl⟩ : ∃ n : Nat, i = -((n : Nat) : Int) := ⟨i.natAbs, by omega⟩
    rw [show (-((n : Nat) : Int)).natAbs = n by omega]
    exact str_neg (by omega)
  · rw [if_neg h]
    obtain ⟨n, rfl⟩ : ∃ n : Nat, i = ((n : Nat) : Int) := ⟨i.natAbs, by omega⟩
    rw [Int.natAbs_natCast]
    exact num_S n
def spIntTx : Sp := fun vs H Q _ => ∃ i : Int, vs = [.int i] ∧ i.natAbs < 2 ^ 100000 ∧ ∀ H', Same H H' → Q (.str (S (intL i))) H'
section
variable {P : Program} {w : World} {K : PySem.W.Frag} {mg : Str → Option Value} {base : Heap}
theorem scIntTx : FnScope ["value", "pieces", "left"] ["value"] (C8.fnScope sIntTx) := C8.fnScope_by (by decide +kernel)
theorem cal_inttx {f : Addr} {fd : FuncData} (F : C8.Def K mg "integer_text" sIntTx f fd) (b : Binds K fd ["value"] []) (T : TxtN mg) : C8.Cal P w K mg base 1 "integer_text" spIntTx [] := by
  refine C8.cal0 F b .nil scIntTx (fun vs H Q E h => ?_) (fun cdv A outer st H vs Q E hr h => ?_)
  · obtain ⟨x, rfl, _⟩ := h
    rfl
  · obtain ⟨i, rfl, hi, k⟩ := h
    obtain ⟨t1, hPF⟩ := T.c_PF
    obtain ⟨t2, hPW⟩ := T.c_PW
    refine ⟨_, (pss_cons (ps_set (i := 1) scIntTx.nd rfl (Or.inl rfl) (pe_lst pa_nil))
  (pss_cons (ps_set (i := 2) scIntTx.nd rfl (Or.inl rfl) (pe_callB call_abs (by rfl) T.n_abs (by decide +kernel) (pa_cons (pv 0) pa_nil)))
  (pss_cons (ps_while PassesOwn.never (pt_cmpR op_ge (pv 2) (pe_glob (v := .int (10 ^ 60)) rfl hPW ⟨_, rfl⟩) (nomark _))
    (pss_cons (ps_expr (pe_bm PySem.F.plainAttrs_list PySem.F.slot_list_append PySem.F.type_list_append mt_append (pv 1) (pa_cons (pe_m1 PySem.F.slot_str_zfill PySem.F.type_str_zfill mt_zfill (pe_callTy call_str_int (by rfl) T.n_str (by decide +kernel) (pa_cons (pe_op op_modN (pv 2) (pe_glob (v := .int (10 ^ 60)) rfl hPW ⟨_, rfl⟩)) pa_nil)) (pe_glob (v := .int 60) rfl hPF ⟨_, rfl⟩)) pa_nil)))
    (pss_one (ps_set (i := 2) scIntTx.nd rfl (Or.inl rfl) (pe_op op_fdivS (pv 2) (pe_glob (v := .int (10 ^ 60)) rfl hPW ⟨_, rfl⟩))))))
  (pss_cons (ps_expr (pe_bm PySem.F.plainAttrs_list PySem.F.slot_list_append PySem.F.type_list_append mt_append (pv 1) (pa_cons (pe_callTy call_str_int (by rfl) T.n_str (by decide +kernel) (pa_cons (pv 2) pa_nil)) pa_nil)))
  (pss_cons (ps_if (pt_cmpR op_lt (pv 0) pe_int (nomark _)) (pss_one (ps_expr (pe_bm PySem.F.plainAttrs_list PySem.F.slot_list_append PySem.F.type_list_append mt_append (pv 1) (pa_cons pe_str pa_nil)))) pss_nil)
  (pss_one (ps_ret (pe_join pe_str (pe_revL (pv 1)))))))))), ?_⟩
    refine ⟨by show 0 ≤ sizeLine; decide, fun l hl => ?_⟩
    have s1 := same_new (o := .lst []) hl
    have hL : upd H l (.lst []) l = some (.lst []) := upd_same
    dsimp only [tSeq]
    generalize upd H l (.lst []) = H1 at s1 hL ⊢
    obtain ⟨n, hn⟩ : ∃ n : Nat, n = i.natAbs := ⟨_, rfl⟩
    have ab : (if i < 0 then -i else i) = ((n : Nat) : Int) := by split <;> omega
    refine ⟨_, rfl, i, rfl, ?_⟩
    rw [ab]
    have ln : (numL n).length ≤ 100000 := numL_len (by decide) (Nat.lt_of_lt_of_le (hn ▸ hi) (Nat.pow_le_pow_left (by decide) _))
    refine ⟨fun m σ' H' => ∃ ps : List (List Nat), σ' = [some (.int i), some (.ref l), some (.int ((m : Nat) : Int))] ∧ H' l = some (.lst ((ps.map S).map V.str)) ∧ Same H H' ∧ numL m ++ ps.reverse.flatten = numL n ∧ 60 * ps.length ≤ ps.flatten.length, ⟨n, [], rfl, hL, s1, by simp, by simp⟩, ?_⟩
    rintro m σ' H' ⟨ps, rfl, h', s', e', l'⟩
    have lp : ps.flatten.length ≤ 100000 := by
      have := congrArg List.length e'
      rw [List.length_append, List.length_flatten, List.map_reverse, List.sum_reverse, ← List.length_flatten] at this
      omega
    refine ⟨_, rfl, _, _, rfl, rfl, _, rfl, ite2 (fun c => ?_) (fun c => ?_)⟩
    · have c' : 10 ^ 60 ≤ m := by have := of_decide_eq_true c; omega
      have em : Int.fmod ((m : Nat) : Int) (10 ^ 60) = ((m % 10 ^ 60 : Nat) : Int) := by
        rw [Int.fmod_eq_emod_of_nonneg _ (by decide)]; rfl
      have ed : Int.fdiv ((m : Nat) : Int) (10 ^ 60) = ((m / 10 ^ 60 : Nat) : Int) := by
        rw [Int.fdiv_eq_ediv_of_nonneg _ (by decide)]; rfl
      have m60 : m % 10 ^ 60 < 10 ^ 60 := Nat.mod_lt _ (by decide)
      refine ⟨fun σ' H'' => ∃ ps : List (List Nat), σ' = [some (.int i), some (.ref l), some (.int ((m / 10 ^ 60 : Nat) : Int))] ∧ H'' l = some (.lst ((ps.map S).map V.str)) ∧ Same H H'' ∧ numL (m / 10 ^ 60) ++ ps.reverse.flatten = numL n ∧ 60 * ps.length ≤ ps.flatten.length, fun σ' H'' e => ⟨_, Nat.div_lt_self (by omega) (by decide), e⟩, ?_⟩
      refine ⟨_, rfl, .inl ⟨rfl, _, SqL.of h'⟩, _, rfl, _, _, rfl, rfl, (by show ¬ ((10 : Int) ^ 60 = 0); decide), _, rfl, ?_, ⟨_, rfl⟩, ?_⟩
      · rw [em, Int.natAbs_natCast]
        exact PySem.Flt.log2_lt_of (by decide) (Nat.lt_trans m60 (by decide))
      refine ⟨_, _, rfl, rfl, rfl, l, _, _, rfl, rfl, h', ?_, ?_⟩
      · rw [List.length_map, List.length_map]
        exact Nat.lt_of_le_of_lt (show ps.length ≤ 100000 by omega) (by decide)
      refine ⟨_, rfl, _, _, rfl, rfl, ⟨(by show ¬ ((10 : Int) ^ 60 = 0); decide), (by show ((10 : Int) ^ 60).natAbs.log2 < 9000; decide)⟩, ps ++ [padD 60 (m % 10 ^ 60)], ?_, ?_, same_own s' hl, ?_, ?_⟩
      · exact congrArg (fun z : Int => [some (V.int i), some (V.ref l), some (V.int z)]) ed
      · rw [upd_same, em, zfill_num m60]
        simp
      · rw [List.reverse_append, List.flatten_append, ← e', numL_cut 60 m c']
        simp
      · rw [List.length_append, List.flatten_append, List.length_append]
        have q := padD_len 60 (m % 10 ^ 60)
        generalize padD 60 (m % 10 ^ 60) = x at q
        have e1 : ([x] : List (List Nat)).length = 1 := rfl
        have e2 : ([x] : List (List Nat)).flatten.length = 60 := by simp [q]
        rw [e1, e2]
        omega
    · have c' : m < 10 ^ 60 := by have := of_decide_eq_false (Bool.eq_false_iff.mpr c); omega
      refine ⟨_, rfl, .inl ⟨rfl, _, SqL.of h'⟩, _, rfl, _, rfl, ?_, l, _, _, rfl, rfl, h', ?_, ?_⟩
      · rw [Int.natAbs_natCast]
        exact PySem.Flt.log2_lt_of (by decide) (Nat.lt_trans c' (by decide))
      · rw [List.length_map, List.length_map]
        exact Nat.lt_of_le_of_lt (show ps.length ≤ 100000 by omega) (by decide)
      have s2 : Same H (upd H' l (.lst ((ps.map S).map V.str ++ [.str (Str.ofString (toString ((m : Nat) : Int)))]))) := same_own s' hl
      have h2 : upd H' l (.lst ((ps.map S).map V.str ++ [.str (Str.ofString (toString ((m : Nat) : Int)))])) l = some (.lst (((ps ++ [numL m]).map S).map V.str)) := by
        rw [upd_same, num_S]
        simp
      generalize upd H' l (.lst ((ps.map S).map V.str ++ [.str (Str.ofString (toString ((m : Nat) : Int)))])) = H2 at s2 h2 ⊢
      obtain ⟨qs, hq⟩ : ∃ qs, qs = ps ++ [numL m] := ⟨_, rfl⟩
      rw [← hq] at h2
      have eq' : qs.reverse.flatten = numL n := by rw [hq, List.reverse_append, List.flatten_append, ← e']; simp
      have lq : qs.length ≤ 100001 := by rw [hq, List.length_append]; show ps.length + 1 ≤ _; omega
      dsimp only [tSeq]
      refine join_any (fun σ' H3 => σ' = [some (.int i), some (.ref l), some (.int ((m : Nat) : Int))] ∧ Same H H3 ∧ ∃ rs : List (List Nat), H3 l = some (.lst ((rs.map S).map V.str)) ∧ rs.reverse.flatten = intL i ∧ rs.length ≤ 100002) ?rest (fun go => ?_)
      case rest =>
        rintro σ' H3 ⟨rfl, s3, rs, h3, e3, l3⟩
        refine ⟨⟨_, rfl⟩, _, rfl, l, _, rfl, SqL.of h3, fun p hp => ?_⟩
        have rl : (intL i).length ≤ 100001 := by
          unfold intL
          rw [← hn]
          split
          · rw [List.length_cons]; omega
          · omega
        refine ⟨_, p, (rs.reverse.map S), rfl, rfl, .inl (SqL.of ?_), ?_, ?_⟩
        · rw [upd_same, List.map_reverse, List.map_reverse]
        · have e4 : ((rs.reverse.map S).map (·.length)).sum = (intL i).length := by
            rw [← e3, List.length_flatten, List.map_map]
            refine congrArg List.sum (List.map_congr_left fun x _ => ?_)
            show (S x).length = x.length
            rw [S_len]
          rw [e4]
          show (intL i).length + _ * 0 ≤ 16777216
          omega
        · rw [show (Str.ofString "") = S [] from rfl, join_S, joinL_nil, e3]
          exact k _ (s3.trans (same_new hp))
      refine ⟨_, rfl, _, _, rfl, rfl, _, rfl, ite2 (fun c2 => ?_) (fun c2 => ?_)⟩
      · have i0 : i < 0 := of_decide_eq_true c2
        refine ⟨_, rfl, .inl ⟨rfl, _, SqL.of h2⟩, l, _, _, rfl, rfl, h2, ?_, go _ _ ⟨rfl, same_own s2 hl, qs ++ [[45]], ?_, ?_, ?_⟩⟩
        · rw [List.length_map, List.length_map]
          exact Nat.lt_of_le_of_lt lq (by decide)
        · rw [upd_same]
          simp; rfl
        · rw [List.reverse_append, List.flatten_append, eq']
          unfold intL
          rw [if_pos i0, ← hn]; rfl
        · rw [List.length_append]; show qs.length + 1 ≤ _; omega
      · have i0 : ¬ i < 0 := of_decide_eq_false (Bool.eq_false_iff.mpr c2)
        refine go _ _ ⟨rfl, s2, qs, h2, ?_, by omega⟩
        rw [eq']
        unfold intL
        rw [if_neg i0, ← hn]
end
end Lw
namespace Lw
open PySem PySem.Spec PyProof.Rows L2
open SX PySem.NumText TL LamX
abbrev sRead : Stmt := top 18
abbrev sRatOf : Stmt := top 16
abbrev sWorth : Stmt := top 17
/-! ### what a text is worth -/
/-- the ratio that a text writes -/
def ratL (cs : List Nat) : Option (Int × Int) := match TL.par [47] [] cs with
  | none => (intOf cs).map fun o => (o, 1)
  | some (a, b) => match intOf a, intOf b with
    | some o, some u => if 2 ≤ u ∧ Nat.gcd o.natAbs u.natAbs = 1 then some (o, u) else none
    | _, _ => none
def readB (cs : List Nat) : Bool := match TL.par [47] [] cs with
  | none => decide ((figs cs).length ≤ 4000)
  | some (a, b) => decide ((figs a).length ≤ 4000) && decide (b.length ≤ 4000)
def worthL (cs : List Nat) : Option (Int × Int) := if readB cs = true then ratL cs else none
def ratV : V → Option (Int × Int)
  | .str z => ratL z.cps.toList
  | _ => none
def worthV : V → Option (Int × Int)
  | .str z => worthL z.cps.toList
  | _ => none
def TxOk (cs : List Nat) : Prop := (∀ c ∈ cs, c < 128) ∧ cs.length ≤ 5000 ∧ (47 ∉ cs ∨ cs.length ≤ 1000)
def TextR (x : V) : Prop := ∀ z, x = .str z → ∃ cs, z = S cs ∧ TxOk cs
theorem par_or (cs : List Nat) : (47 ∉ cs ∧ TL.par [47] [] cs = none) ∨ ∃ a b, cs = a ++ 47 :: b ∧ 47 ∉ a ∧ TL.par [47] [] cs = some (a, b) := by
  by_cases h : 47 ∈ cs
  · obtain ⟨a, b, e, ha⟩ := List.eq_append_cons_of_mem h
    refine .inr ⟨a, b, e, ha, ?_⟩
    rw [e]
    exact par_head b ha
  · exact .inl ⟨h, par_head_none h⟩
theorem part_none {cs : List Nat} (h : TL.par [47] [] cs = none) : Txt.partition (S cs) (Str.ofString "/") = (S cs, S [], S []) := partition_none (List.cons_ne_nil _ _) h
theorem part_some {cs a b : List Nat} (h : TL.par [47] [] cs = some (a, b)) : Txt.partition (S cs) (Str.ofString "/") = (S a, S [47], S b) := partition_some (List.cons_ne_nil _ _) h
theorem intOf_lt {cs : List Nat} {i : Int} (h : intOf cs = some i) : i.natAbs < 10 ^ cs.length := by
  unfold intOf at h
  by_cases hd : digB (figs cs) = true
  · rw [if_pos hd] at h
    have h1 := val_lt _ (digB_all hd).1
    have h2 : 10 ^ (figs cs).length ≤ 10 ^ cs.length := Nat.pow_le_pow_right (by decide) (figs_len cs)
    split at h
    · cases h
    · split at h
      · cases h; omega
      · cases h; omega
  · rw [if_neg hd] at h; cases h
theorem intOf_small {cs : List Nat} {i : Int} (h : intOf cs = some i) (l : cs.length ≤ 1000) : Small i :=
  Nat.lt_of_lt_of_le (intOf_lt h) (Nat.le_trans (Nat.pow_le_pow_right (by decide) l) (ten_two 1000))
/-- what a reading answers -/
def Rd (C : Addr) (H : Hp) (Q : VK) : Option (Int × Int) → Prop
  | none => ∀ H', Same H H' → Q .non H'
  | some (o, u) => ∀ a H', Same H H' → H a = none → RatAt C H' a o u → Q (.ref a) H'
theorem Rd.on {C : Addr} {H H' : Hp} {Q : VK} {o : Option (Int × Int)} (h : Rd C H Q o) (s : Same H H') : Rd C H' Q o := by
  cases o with
  | none => exact fun H2 s2 => h H2 (s.trans s2)
  | some r => exact fun a H2 s2 ha hr => h a H2 (s.trans s2) (s.free ha) hr
def spRead : Sp := fun vs H Q _ => ∃ cs, vs = [.str (S cs)] ∧ cs.length ≤ 5000 ∧ ∀ H', Same H H' → Q (.bl (readB cs)) H'
def spRatOf (K : PySem.W.Frag) (C : Addr) : Sp := fun vs H Q _ => ∃ x, vs = [x] ∧ Anyv K H x ∧ TextR x ∧ Rd C H Q (ratV x)
def spWorth (K : PySem.W.Frag) (C : Addr) : Sp := fun vs H Q _ => ∃ x, vs = [x] ∧ Anyv K H x ∧ TextR x ∧ Rd C H Q (worthV x)
/-- Ratio(t, b), what stands above of any size -/
theorem makesW {K : PySem.W.Frag} {C D : Addr} {H' : Hp} {E : XK} {R : Hp → Prop} {t b : Int} {x dx : Addr} (b0 : b ≠ 0) (sb : Small b) (hx : H' x = none) (hdx : H' dx = none) (ne : dx ≠ x)
    (new : ∀ H2, Same H' H2 → RatAt C H2 x (lov t b) (lun t b) → R H2) :
    spRat K C D (.ref x :: ([V.int t, V.int b] ++ [])) (upd (upd H' dx (.own x)) x (.ins C dx [])) (fun v H2 => v = .non ∧ R H2) E := by
  have s2 : Same H' (upd H' dx (.own x)) := same_new hdx
  have hx1 : upd H' dx (.own x) x = none := by rw [upd_ne ne.symm]; exact hx
  refine ⟨x, dx, .int t, .int b, rfl, .int _, .int _, upd_same, (fun h => by cases h), fun _ h2 => ?_, fun i j e1 e2 hj => ?_⟩
  · rcases h2 with h2 | h2
    · cases h2
    · exact absurd (V.int.inj h2) b0
  · cases e1
    cases e2
    refine ⟨sb, rfl, ?_⟩
    rw [upd_upd, made_over hj, made_under hj]
    exact new _ (s2.trans (same_new hx1)) ⟨dx, upd_same⟩
theorem lov_1 (i : Int) : lov i 1 = i ∧ lun i 1 = 1 := by
  have g : Nat.gcd i.natAbs (1 : Int).natAbs = 1 := Nat.gcd_one_right _
  unfold lov lun
  rw [g]
  constructor
  · show 1 * i / 1 = i
    omega
  · decide
theorem ratat_same {C a : Addr} {H H' : Hp} {o u : Int} (s : Same H H') (h : RatAt C H a o u) : RatAt C H' a o u := by
  obtain ⟨dx, h⟩ := h
  exact ⟨dx, s _ _ h⟩
theorem small_one : Small 1 := show (1 : Nat) < 2 ^ 4000 from Nat.one_lt_two_pow (by decide)
theorem tok (cs : List Nat) (h : ∀ c ∈ cs, c < 128) (l : cs.length ≤ 5000) : TextOk (.str (S cs)) := fun z e => ⟨cs, by cases e; rfl, h, l⟩
theorem lov_prime {o u : Int} (h2 : 2 ≤ u) (g : Nat.gcd o.natAbs u.natAbs = 1) : lov o u = o ∧ lun o u = u := by
  have s : sg u = 1 := if_pos (by omega)
  unfold lov lun
  rw [g, s]
  constructor <;> omega
section
variable {P : Program} {w : World} {K : PySem.W.Frag} {mg : Str → Option Value} {base : Heap}
theorem scRead : FnScope ["text", "over_word", "_", "under_word"] ["text"] (C8.fnScope sRead) := C8.fnScope_by (by decide +kernel)
theorem scRatOf : FnScope ["word", "over", "under", "over_word", "stroke", "under_word"] ["word"] (C8.fnScope sRatOf) := C8.fnScope_by (by decide +kernel)
theorem scWorth : FnScope ["word", "value"] ["word"] (C8.fnScope sWorth) := C8.fnScope_by (by decide +kernel)
theorem cal_read {f : Addr} {fd : FuncData} (F : C8.Def K mg "is_readable" sRead f fd) (b : Binds K fd ["text"] []) (T : Txt mg) {tm : Tok} (hMF : mg "MOST_FIGURES" = some (.int 4000 tm)) : C8.Cal P w K mg base 1 "is_readable" spRead [] := by
  refine C8.cal0 F b .nil scRead (fun vs H Q E h => ?_) (fun cdv A outer st H vs Q E hr h => ?_)
  · obtain ⟨x, rfl, _⟩ := h
    rfl
  · obtain ⟨cs, rfl, hl, k⟩ := h
    refine ⟨_, (pss_cons (ps_asg (pe_partition (pv 0) pe_str) (pg_tup (by rfl) (pgs_cons (pg_name (i := 1) scRead.nd rfl (Or.inl rfl)) (pgs_cons (pg_name (i := 2) scRead.nd rfl (Or.inl rfl)) (pgs_cons (pg_name (i := 3) scRead.nd rfl (Or.inl rfl)) pgs_nil)))))
  (pss_one (ps_ret (pe_and (pe_cmpR op_le (pe_callB call_len_str (by rfl) T.n_len (by decide +kernel) (pa_cons (pe_m1 PySem.F.slot_str_removeprefix PySem.F.type_str_removeprefix mt_removeprefix (pv 1) pe_str) pa_nil)) (pe_glob (v := .int 4000) rfl hMF ⟨_, rfl⟩) (nomark _)) (pe_one (pe_cmpR op_le (pe_callB call_len_str (by rfl) T.n_len (by decide +kernel) (pa_cons (pv 3) pa_nil)) (pe_glob (v := .int 4000) rfl hMF ⟨_, rfl⟩) (nomark _))))))), ?_⟩
    have hs : (S cs).length ≤ sizeLine := by rw [S_len]; exact Nat.le_trans hl (by decide)
    refine ⟨_, rfl, ⟨_, rfl⟩, _, _, rfl, rfl, by rfl, hs, fun p hp => ?_⟩
    have kb : ∀ bb H', Same H H' → bb = readB cs → Q (.bl bb) H' := fun bb H' s e => by rw [e]; exact k H' s
    have lnS : ∀ a : List Nat, decide ((((S a).length : Nat) : Int) ≤ 4000) = decide (a.length ≤ 4000) := fun a => by
      rw [S_len]
      exact decide_eq_decide.mpr (by omega)
    have ln : ∀ a : List Nat, decide ((((S (figs a)).length : Nat) : Int) ≤ 4000) = decide ((figs a).length ≤ 4000) := fun a => lnS _
    have lf : ∀ a : List Nat, a.length ≤ 5000 → (S (figs a)).length ≤ sizeLine := fun a h => by rw [S_len]; exact Nat.le_trans (figs_len a) (Nat.le_trans h (by decide))
    rcases par_or cs with ⟨_, hp0⟩ | ⟨a, b, e, _, hp0⟩
    · rw [part_none hp0]
      have s1 := same_new (o := HO.tup [.str (S cs), .str (S []), .str (S [])]) hp
      refine ⟨p, _, rfl, .inl (.inl upd_same), rfl, ?_⟩
      refine ⟨_, _, rfl, _, _, rfl, _, _, rfl, rfl, ?_⟩
      refine ⟨_, rfl, ⟨_, rfl⟩, _, _, rfl, rfl, hs, ?_⟩
      rw [show (Str.ofString "-") = S [45] from rfl, rm_minus]
      refine ⟨_, rfl, lf cs hl, _, _, rfl, rfl, ?_⟩
      refine ⟨_, rfl, ite2 (fun c => ?_) (fun c => ?_)⟩
      · refine ⟨_, rfl, _, rfl, Nat.zero_le _, _, _, rfl, rfl, kb _ _ s1 ?_⟩
        unfold readB
        rw [hp0]
        exact (show decide ((((S []).length : Nat) : Int) ≤ 4000) = true from rfl).trans (c.symm.trans (ln cs))
      · refine kb _ _ s1 ?_
        unfold readB
        rw [hp0]
        exact (Bool.eq_false_iff.mpr c).symm.trans (ln cs)
    · rw [part_some hp0]
      have s1 := same_new (o := HO.tup [.str (S a), .str (S [47]), .str (S b)]) hp
      have la : a.length ≤ 5000 := by rw [e, List.length_append] at hl; omega
      have lb : b.length ≤ 5000 := by rw [e, List.length_append, List.length_cons] at hl; omega
      refine ⟨p, _, rfl, .inl (.inl upd_same), rfl, ?_⟩
      refine ⟨_, _, rfl, _, _, rfl, _, _, rfl, rfl, ?_⟩
      refine ⟨_, rfl, ⟨_, rfl⟩, _, _, rfl, rfl, (by rw [S_len]; exact Nat.le_trans la (by decide)), ?_⟩
      rw [show (Str.ofString "-") = S [45] from rfl, rm_minus]
      refine ⟨_, rfl, lf a la, _, _, rfl, rfl, ?_⟩
      refine ⟨_, rfl, ite2 (fun c => ?_) (fun c => ?_)⟩
      · refine ⟨_, rfl, _, rfl, (by rw [S_len]; exact Nat.le_trans lb (by decide)), _, _, rfl, rfl, kb _ _ s1 ?_⟩
        unfold readB
        rw [hp0]
        show _ = (decide ((figs a).length ≤ 4000) && decide (b.length ≤ 4000))
        rw [show decide ((figs a).length ≤ 4000) = true from (ln a).symm.trans c, Bool.true_and]
        exact lnS b
      · refine kb _ _ s1 ?_
        unfold readB
        rw [hp0]
        show _ = (decide ((figs a).length ≤ 4000) && decide (b.length ≤ 4000))
        rw [show decide ((figs a).length ≤ 4000) = false from (ln a).symm.trans (Bool.eq_false_iff.mpr c), Bool.false_and]
theorem cal_ratof {C D f fR : Addr} {fd fdR : FuncData} {ds : List Value} (F : C8.Def K mg "ratio_of" sRatOf f fd) (b : Binds K fd ["word"] []) (T : Txt mg) (hgcd : mg "gcd" = some (.builtin "math.gcd")) (RM : RatM P w K mg base C D fR fdR ds) (DI : C8.Cal P w K mg base 1 "integer_of" (spIntOf K) []) : C8.Cal P w K mg base 5 "ratio_of" (spRatOf K C) [] := by
  refine C8.cal0 F b .nil scRatOf (fun vs H Q E h => ?_) (fun cdv A outer st H vs Q E hr h => ?_)
  · obtain ⟨x, rfl, _⟩ := h
    rfl
  · obtain ⟨x, rfl, av, tx, k⟩ := h
    refine ⟨_, (pss_cons (ps_if (pt_not (pt_val (pe_callB call_isz (by rfl) T.n_isinstance (by decide +kernel) (pa_cons (pv 0) (pa_cons (pe_bltn (v := .ty "str") (by rfl) T.n_str (by decide +kernel) rfl) pa_nil))))) (pss_one (ps_ret pe_non)) pss_nil)
  (pss_cons (ps_asg (pe_partition (pv 0) pe_str) (pg_tup (by rfl) (pgs_cons (pg_name (i := 3) scRatOf.nd rfl (Or.inl rfl)) (pgs_cons (pg_name (i := 4) scRatOf.nd rfl (Or.inl rfl)) (pgs_cons (pg_name (i := 5) scRatOf.nd rfl (Or.inl rfl)) pgs_nil)))))
  (pss_cons (ps_set (i := 1) scRatOf.nd rfl (Or.inl rfl) (C8.pe_c DI hr (by decide) (by rfl) (pa_cons (pv 3) pa_nil)))
  (pss_cons (ps_if (PW.pt (pw_or (pt_cmpR op_isN (pv 1) pe_non (nomark _)) (pw_or1 (pt_not (pt_truth (pv 4) (by intro _; rfl)))))) (pss_one (ps_ret (pe_ifExp (pt_cmpR op_isN (pv 1) pe_non (nomark _)) pe_non (pe_make RM.M RM.F (hr.mono (by decide)) (by rfl) RM.hm RM.b1 RM.d1 (passes_call takes0 (fun _ _ _ _ z => z)) (pa_cons (pv 1) pa_nil))))) pss_nil)
  (pss_cons (ps_set (i := 2) scRatOf.nd rfl (Or.inl rfl) (C8.pe_c DI hr (by decide) (by rfl) (pa_cons (pv 5) pa_nil)))
  (pss_cons (ps_if (PW.pt (pw_or (pt_cmpR op_isN (pv 2) pe_non (nomark _)) (pw_or (pt_cmpR op_lt (pv 2) pe_int (nomark _)) (pw_or1 (pt_cmpR op_ne (pe_callBfun cr_gcd (by rfl) hgcd (pa_cons (pv 1) (pa_cons (pv 2) pa_nil))) pe_int (nomark _)))))) (pss_one (ps_ret pe_non)) pss_nil)
  (pss_one (ps_ret (pe_make RM.M RM.F (hr.mono (by decide)) (by rfl) RM.hm RM.b2 .nil (passes_call takes0 (fun _ _ _ _ z => z)) (pa_cons (pv 1) (pa_cons (pv 2) pa_nil))))))))))), ?_⟩
    refine ⟨_, rfl, ?_⟩
    dsimp only [tCons, tC, tNil]
    refine isz_str av ⟨_, rfl, ?_⟩
    cases av with
    | str z =>
      obtain ⟨cs, rfl, h128, hl, h47⟩ := tx z rfl
      have hs : (S cs).length ≤ sizeLine := by rw [S_len]; exact Nat.le_trans hl (by decide)
      refine iteF ?_
      refine ⟨_, rfl, ⟨_, rfl⟩, _, _, rfl, rfl, by rfl, hs, fun p hp => ?_⟩
      rcases par_or cs with ⟨_, hp0⟩ | ⟨a, b, e, _, hp0⟩
      · rw [part_none hp0]
        have k' : Rd C H Q ((intOf cs).map fun o => (o, 1)) := by
          have e : ratV (.str (S cs)) = (intOf cs).map fun o => (o, 1) := by
            show ratL cs = _
            unfold ratL
            rw [hp0]
          rw [← e]; exact k
        have s1 := same_new (o := HO.tup [.str (S cs), .str (S []), .str (S [])]) hp
        refine ⟨p, _, rfl, .inl (.inl upd_same), rfl, ?_⟩
        refine ⟨_, _, rfl, _, _, rfl, _, _, rfl, rfl, ?_⟩
        refine ⟨_, rfl, .str (S cs), rfl, .str _, tok _ h128 hl, ?_⟩
        have ei : intV (.str (S cs)) = intOf cs := rfl
        rw [ei]
        cases hi : intOf cs with
        | none =>
          rw [hi] at k'
          exact ⟨_, rfl, rfl, _, rfl, iteT ⟨_, rfl, rfl, _, rfl, iteT (k' _ s1)⟩⟩
        | some o =>
          rw [hi] at k'
          refine ⟨_, rfl, rfl, _, rfl, iteF ⟨_, rfl, _, ⟨Nat.zero_le _, rfl⟩, iteT ⟨_, rfl, rfl, _, rfl, iteF ⟨_, rfl, fun x dx hx hdx ne => ?_⟩⟩⟩⟩
          exact makesW (t := o) (b := 1) (by decide) small_one hx hdx ne fun H2 s2 r => k' x H2 (s1.trans s2) (s1.free hx) (by rw [(lov_1 o).1, (lov_1 o).2] at r; exact r)
      · rw [part_some hp0]
        have s1 := same_new (o := HO.tup [.str (S a), .str (S [47]), .str (S b)]) hp
        have la : a.length ≤ 5000 := by rw [e, List.length_append] at hl; omega
        have lb : b.length ≤ 5000 := by rw [e, List.length_append, List.length_cons] at hl; omega
        have ha : ∀ c ∈ a, c < 128 := fun c hc => h128 c (by rw [e]; exact List.mem_append_left _ hc)
        have hb : ∀ c ∈ b, c < 128 := fun c hc => h128 c (by rw [e]; exact List.mem_append_right _ (List.mem_cons_of_mem _ hc))
        have lb2 : b.length ≤ 1000 := by
          rcases h47 with h | h
          · exact absurd (by rw [e]; exact List.mem_append_right _ List.mem_cons_self) h
          · rw [e, List.length_append, List.length_cons] at h; omega
        have k' : Rd C H Q (match intOf a, intOf b with
            | some o, some u => if 2 ≤ u ∧ Nat.gcd o.natAbs u.natAbs = 1 then some (o, u) else none
            | _, _ => none) := by
          have e : ratV (.str (S cs)) = ratL cs := rfl
          rw [e] at k
          unfold ratL at k
          rw [hp0] at k
          exact k
        refine ⟨p, _, rfl, .inl (.inl upd_same), rfl, ?_⟩
        refine ⟨_, _, rfl, _, _, rfl, _, _, rfl, rfl, ?_⟩
        refine ⟨_, rfl, .str (S a), rfl, .str _, tok _ ha la, ?_⟩
        have ei : intV (.str (S a)) = intOf a := rfl
        rw [ei]
        cases hi : intOf a with
        | none =>
          rw [hi] at k'
          exact ⟨_, rfl, rfl, _, rfl, iteT ⟨_, rfl, rfl, _, rfl, iteT (k' _ s1)⟩⟩
        | some o =>
          rw [hi] at k'
          refine ⟨_, rfl, rfl, _, rfl, iteF ⟨_, rfl, _, ⟨Nat.le_trans (show 1 ≤ 5000 by decide) (by decide), rfl⟩, iteF ?_⟩⟩
          refine ⟨_, rfl, .str (S b), rfl, .str _, tok _ hb lb, ?_⟩
          have ej : intV (.str (S b)) = intOf b := rfl
          rw [ej]
          cases hj : intOf b with
          | none =>
            rw [hj] at k'
            exact ⟨_, rfl, rfl, _, rfl, iteT (k' _ s1)⟩
          | some u =>
            rw [hj] at k'
            have su := intOf_small hj lb2
            refine ⟨_, rfl, rfl, _, rfl, iteF ⟨_, rfl, _, _, rfl, rfl, _, rfl, ite2 (fun c => ?_) (fun c => ?_)⟩⟩
            · have c' : u < 2 := of_decide_eq_true c
              dsimp only at k'
              rw [if_neg (by omega)] at k'
              exact k' _ s1
            · have c' : ¬ u < 2 := of_decide_eq_false (Bool.eq_false_iff.mpr c)
              refine ⟨_, rfl, _, rfl, _, _, rfl, rfl, _, rfl, ite2 (fun c2 => ?_) (fun c2 => ?_)⟩
              · have g : ¬ Nat.gcd o.natAbs u.natAbs = 1 := fun z => by rw [z] at c2; exact absurd c2 (by decide)
                dsimp only at k'
                rw [if_neg (fun z => g z.2)] at k'
                exact k' _ s1
              · have g : Nat.gcd o.natAbs u.natAbs = 1 := Classical.byContradiction fun z => c2 (by
                  show (!decide (V.int ((Nat.gcd o.natAbs u.natAbs : Nat) : Int) = V.int 1)) = true
                  rw [decide_eq_false (fun y => z (by have := V.int.inj y; omega))]; rfl)
                dsimp only at k'
                rw [if_pos ⟨by omega, g⟩] at k'
                refine ⟨_, rfl, _, rfl, fun x dx hx hdx ne => ?_⟩
                obtain ⟨e1, e2⟩ := lov_prime (o := o) (show 2 ≤ u by omega) g
                exact makesW (t := o) (b := u) (by omega) su hx hdx ne fun H2 s2 r => k' x H2 (s1.trans s2) (s1.free hx) (by rw [e1, e2] at r; exact r)
    | int i => exact iteT (k _ (Same.refl _))
    | bl b => exact iteT (k _ (Same.refl _))
    | non => exact iteT (k _ (Same.refl _))
    | obj h h1 h2 h3 => exact iteT (k _ (Same.refl _))
theorem cal_worth {C : Addr} {f : Addr} {fd : FuncData} (F : C8.Def K mg "worth_of" sWorth f fd) (b : Binds K fd ["word"] []) (DR : C8.Cal P w K mg base 5 "ratio_of" (spRatOf K C) []) (DB : C8.Cal P w K mg base 1 "is_readable" spRead []) : C8.Cal P w K mg base 6 "worth_of" (spWorth K C) [] := by
  refine C8.cal0 F b .nil scWorth (fun vs H Q E h => ?_) (fun cdv A outer st H vs Q E hr h => ?_)
  · obtain ⟨x, rfl, _⟩ := h
    rfl
  · obtain ⟨x, rfl, av, tx, k⟩ := h
    refine ⟨_, (pss_cons (ps_set (i := 1) scWorth.nd rfl (Or.inl rfl) (C8.pe_c DR hr (by decide) (by rfl) (pa_cons (pv 0) pa_nil)))
  (pss_one (ps_ret (pe_ifExp (PW.pt (pw_and (pt_cmpR op_notN (pv 1) pe_non (nomark _)) (pw_and1 (pt_val (C8.pe_c DB hr (by decide) (by rfl) (pa_cons (pv 0) pa_nil)))))) (pv 1) pe_non)))), ?_⟩
    refine ⟨_, rfl, x, rfl, av, tx, ?_⟩
    have wn : ratV x = none → worthV x = none := fun h => by
      cases av with
      | str z =>
        have h' : ratL z.cps.toList = none := h
        show worthL z.cps.toList = none
        unfold worthL
        rw [h']; split <;> rfl
      | _ => rfl
    cases hw : ratV x with
    | none =>
      rw [wn hw] at k
      intro H' s1
      exact ⟨_, rfl, rfl, _, rfl, iteF (k H' s1)⟩
    | some r =>
      obtain ⟨o, u⟩ := r
      obtain ⟨cs, hl, rfl⟩ : ∃ cs : List Nat, cs.length ≤ 5000 ∧ x = .str (S cs) := by
        cases av with
        | str z =>
          obtain ⟨cs, rfl, h128, hl, _⟩ := tx z rfl
          exact ⟨cs, hl, rfl⟩
        | _ => cases hw
      have ew : worthV (.str (S cs)) = if readB cs = true then some (o, u) else none := by
        have h' : ratL cs = some (o, u) := hw
        show worthL cs = _
        unfold worthL
        rw [h']
      rw [ew] at k
      intro a H' s1 ha hr
      refine ⟨_, rfl, rfl, _, rfl, iteT ⟨_, rfl, cs, rfl, hl, fun H2 s2 => ⟨_, rfl, ite2 (fun c => ?_) (fun c => ?_)⟩⟩⟩
      · rw [if_pos c] at k
        exact ⟨_, rfl, k a H2 (s1.trans s2) ha (ratat_same s2 hr)⟩
      · rw [if_neg c] at k
        exact k H2 (s1.trans s2)
end
end Lw
namespace Lw
open PySem PySem.Spec PyProof.Rows L2
open LamX ClX
/-! ### BadText(line, word), raised; Ratio.read -/
abbrev sTxE : Stmt := inClass (top 7) 0
abbrev sReadM : Stmt := inClass (top 15) 3
/-- what an __init__ that keeps its two arguments promises -/
def spE2 (C : Addr) (f1 f2 : Str) : Sp := fun vs H Q _ => ∃ (a : Addr) (v1 v2 : V), vs = [.ref a, v1, v2] ∧ H a = some (exo a C none) ∧ ∀ dx, H dx = none → dx ≠ a → ∀ fs, fs.lookup f1 = some v1 → fs.lookup f2 = some v2 → Q .non (upd (upd H dx (exd dx fs)) a (exo a C (some dx)))
theorem two_fields {H : Hp} {a C dx : Addr} {f1 f2 : Str} {v1 v2 : V} (ne : dx ≠ a) : upd (upd (upd H dx (exd dx [(f1, v1)])) a (exo a C (some dx))) dx (exd dx [(f2, v2), (f1, v1)]) = upd (upd H dx (exd dx [(f2, v2), (f1, v1)])) a (exo a C (some dx)) := by
  funext b
  by_cases h1 : b = a
  · rw [h1, upd_ne ne.symm, upd_same, upd_same]
  · by_cases h2 : b = dx
    · rw [h2, upd_same, upd_ne ne, upd_same]
    · rw [upd_ne h2, upd_ne h1, upd_ne h2, upd_ne h1, upd_ne h2]
section
variable {P : Program} {w : World} {K : PySem.W.Frag} {mg : Str → Option Value} {base : Heap}
theorem scTxE : FnScope ["self", "line", "word"] ["self", "line", "word"] (C8.fnScope sTxE) := C8.fnScope_by (by decide +kernel)
theorem fn_txE {C f : Addr} {fd : FuncData} (F : C8.Fun K "__init__" "BadText.__init__" sTxE f fd) (T : OexC K C) (no1 : PySem.W.findIn K (.ref C) "line" = some none) (no2 : PySem.W.findIn K (.ref C) "word" = some none) : FnOk P w K mg base C8.CX0 1 f fd ["self", "line", "word"] (spE2 C "line" "word") := by
  refine C8.fn0 F scTxE (fun vs H Q E h => ?_) (fun cdv A outer st H vs Q E hr h => ?_)
  · obtain ⟨a, v1, v2, rfl, _⟩ := h
    rfl
  · obtain ⟨a, v1, v2, rfl, ha, k⟩ := h
    refine ⟨_, pss_cons (ps_ost (pv 0) (pv 1)) (pss_one (ps_ost (pv 0) (pv 2))), ?_⟩
    refine ⟨_, rfl, _, rfl, a, C, rfl, T, no1, .inl ⟨ha, fun dx h1 h2 => ?_⟩⟩
    refine ⟨_, rfl, _, rfl, a, C, rfl, T, no2, .inr ⟨dx, [("line", v1)], upd_same, (by rw [upd_ne h2]; exact upd_same), (by show 1 ≤ 900; decide), ?_⟩⟩
    rw [two_fields h2]
    exact k dx h1 h2 _ (by rw [lookup_put, if_neg (by decide +kernel), lookup_put, if_pos rfl]) (by rw [lookup_put, if_pos rfl])
end
/-- the error's class, ready to be raised -/
structure Err2 (P : Program) (w : World) (K : PySem.W.Frag) (mg : Str → Option Value) (base : Heap) (D fE : Addr) (fdE : FuncData) : Prop where
  T : OexC K D
  iC : PySem.W.findIn K (.ref D) "__init__" = some (some (.ref fE))
  tI : PySem.W.typeIn K (.ref fE) = some (.type "function")
  F : FnOk P w K mg base C8.CX0 1 fE fdE ["self", "line", "word"] (spE2 D "line" "word")
  b : Binds K fdE ["self", "line", "word"] []
  hm : mg "BadText" = some (.ref D)
section
variable {X : Cx} {C fI : Addr} {fd : FuncData} {W : WX} {j : Nat} {e1 e2 : Expr} {te1 te2 : TE} {p pos pos2 : Pos}
/-- raise X(e1, e2), X such a class -/
def tBad2 (C : Addr) (W : WX) (te1 te2 : TE) : TS := fun _ σ H => tMkO C (spE2 C "line" "word") [] (tCons te1 (tCons te2 tNil)) σ H fun cls d H' => W cls d σ H'
theorem ps_bad2 {x : Str} (hc : X.calm = true) (tk : Takes X W) (T : OexC X.K C) (iC : PySem.W.findIn X.K (.ref C) "__init__" = some (some (.ref fI))) (tI : PySem.W.typeIn X.K (.ref fI) = some (.type "function")) (F : FnOk X.prog X.w X.K X.mg X.base C8.CX0 1 fI fd ["self", "line", "word"] (spE2 C "line" "word")) (hr : Room (j + 2) X.A) (hb : Binds X.K fd ["self", "line", "word"] [])
    (hg : Gl X x) (hm : X.mg x = some (.ref C)) (he1 : PE X e1 te1) (he2 : PE X e2 te2) (hst2 : starEach [e2] X.env = [(false, eval e2 X.env)] := by rfl) (hst : starEach [e1, e2] X.env = (false, eval e1 X.env) :: starEach [e2] X.env := by rfl) (hdb : (x == ("__debug__" : Str)) = false := by decide) (hpl : (backTo pos (starEach [e2] X.env)).any (·.1) = false := by rfl) :
    PS X (.Raise (some (.Call (.Name x p) [e1, e2] [] pos)) none pos2) (tBad2 C W te1 te2) :=
  ps_raise hc tk (pmk_oex T iC tI F (hr.mono (by omega)) hb .nil C8.pass0 hg hm (pa_cons he1 (pa_cons he2 pa_nil hst2) hst) hdb hst hpl)
theorem bad_leaf2 {H1 : Hp} {v1 v2 : V} {Q : XK} (k : ∀ d fs, H1 d = none → fs.lookup ("line" : Str) = some v1 → fs.lookup ("word" : Str) = some v2 → Q (.ref C) (some d) (upd H1 d (.xd fs))) :
    ([v1, v2] : List V).length ≤ 1000 ∧ ∀ a, H1 a = none → spE2 C "line" "word" (.ref a :: ([v1, v2] ++ [])) (upd H1 a (exo a C none)) (fun z H2 => z = .non ∧ ∃ (d : Addr) (fs : List (Str × V)), H2 a = some (exo a C (some d)) ∧ H2 d = some (exd d fs) ∧ H1 d = none ∧ Q (.ref C) (some d) (upd (del H2 a) d (.xd fs))) (fun _ _ _ => False) := by
  refine ⟨(by show 2 ≤ 1000; decide), fun a ha => ⟨a, v1, v2, rfl, upd_same, fun dx h1 h2 fs e1 e2 => ?_⟩⟩
  rw [upd_ne h2] at h1
  refine ⟨rfl, dx, fs, upd_same, by rw [upd_ne h2]; exact upd_same, h1, ?_⟩
  have e : upd (del (upd (upd (upd H1 a (exo a C none)) dx (exd dx fs)) a (exo a C (some dx))) a) dx (.xd fs) = upd H1 dx (.xd fs) := by
    funext b
    by_cases q : b = dx
    · rw [q, upd_same, upd_same]
    · rw [upd_ne q, upd_ne q]
      by_cases q2 : b = a
      · rw [q2, del_same, ha]
      · rw [del_ne q2, upd_ne q2, upd_ne q, upd_ne q2]
  rw [e]
  exact k dx fs h1 e1 e2
end
/-! ### a classmethod by keywords -/
section
variable {X : Cx} {CX : CXT} {C p g : Addr} {mc : Value} {k : Nat} {fd : FuncData} {ps ks : List Str} {sp : Sp} {E : XK} {o : Expr} {kws : List Keyword} {m : Str} {pos apos : Pos} {ta : TE} {tkw : TA} {gU : List Value → List Value → List Value} {gV : List V → List V → List V} {pl : Sem Bool}
theorem pe_cmethK (he : PE X o ta) (r : CRead X.K C mc) (c : CMet X.K C mc m p g) (F : FnOk X.prog X.w X.K X.mg X.base CX k g fd ps sp) (hr : Room k X.A) (hb : KBn X.K fd ps 1 ks gU gV) (hx : Passes CX X E) (hkw : PK X kws tkw)
    (hall : (backToKw pos (keywordEach kws X.env)).all (·.1.isSome) = true := by rfl) (hks : (backToKw pos (keywordEach kws X.env)).filterMap (·.1) = ks := by rfl)
    (hpl : ((backTo pos (starEach [] X.env)).any (·.1) || (backToKw pos (keywordEach kws X.env)).any (·.1.isNone)) = false := by rfl)
    (ht : eval (.Call (.Attribute o m apos) [] kws pos) X.env = (do
      let ov ← eval o X.env
      standAt apos.atName
      let (f, first) ← holding [ov] (getMethod ov m pl)
      callWith pos f first (backTo pos (starEach [] X.env)) (backToKw pos (keywordEach kws X.env))) := by rfl) :
    PE X (.Call (.Attribute o m apos) [] kws pos) (fun σ H Q => ta σ H fun x H1 => x = .ref C ∧ tkw σ H1 fun zs H2 => zs.length = ks.length ∧ sp (gV [.ref C] zs) H2 Q E) := by
  refine ⟨fun pins s σ H Q I h => ?_⟩
  refine PySem.W.methodCall_KW (pl := pl) (thn (he.run pins s σ H _ I h) fun u s1 ⟨x, H1, I1, rx, ex, q⟩ => ?_) ht
  subst ex
  obtain rfl : u = Value.ref C := rx
  refine getmethcm_ok I1 r c fun s2 I2 => ?_
  refine PySem.W.callWith_of (P := PySem.W.MethP X.K s1.heap.objs.size g (.ref C)) hpl (PySem.W.keeps_M c.fi) (evalArgs_kw2_nil hall ?_)
  refine thn (hkw.run pos _ s2 σ H1 _ I2 q) fun ws s3 ⟨zs, H2, I3, rz, l2, q2⟩ => ⟨⟨pin_at I3, I3.kIn⟩, ?_⟩
  rw [hks]
  have hl : ws.length = ks.length := rz.length.symm.trans l2
  have z : wpAny (model X.prog X.w) X.A (call (.ref s1.heap.objs.size) [] (ks.zip ws)) (EP X ((s1.heap.objs.size, PySem.W.methodObj (.ref g) (.ref C)) :: pins) σ Q) X.xe s3 := by
    refine wpAny_call (PySem.W.method_call (pin_at I3) ?_)
    have r2 : Vals (gV [.ref C] zs) (gU [.ref C] ws) := hb.rel (.cons rfl .nil) rz
    refine codeAny_mono (F.run X.A X.stack s3 H2 ⟨[.ref C], ks.zip ws⟩ (gU [.ref C] ws) (gV [.ref C] zs) Q E hr I3.env0 (hb.to s3 [.ref C] ws I3.kIn rfl hl) r2 q2) fun r s' hq => ?_
    cases r with
    | error e => exact hx _ σ H2 s3 e s' I3 hq
    | ok fl =>
      cases fl with
      | ret u => exact I3.after hq
      | next => exact False.elim hq
      | brk => exact False.elim hq
      | cont => exact False.elim hq
  exact thn z fun _ _ y => unpinE y
end
/-- what a reading that may raise answers -/
def RdE (C D : Addr) (H : Hp) (Q : VK) (E : XK) : Option (Int × Int) → Prop
  | none => ∀ d fs H', Same H H' → H' d = none → fs.lookup ("line" : Str) = some (.int 0) → fs.lookup ("word" : Str) = some (.int 0) → E (.ref D) (some d) (upd H' d (.xd fs))
  | some (o, u) => ∀ a H', Same H H' → H a = none → RatAt C H' a o u → Q (.ref a) H'
def spRd (K : PySem.W.Frag) (C D : Addr) : Sp := fun vs H Q E => ∃ x, vs = [.ref C, x] ∧ Anyv K H x ∧ TextR x ∧ RdE C D H Q E (worthV x)
section
variable {P : Program} {w : World} {K : PySem.W.Frag} {mg : Str → Option Value} {base : Heap}
theorem scReadM : FnScope ["cls", "text", "value"] ["cls", "text"] (C8.fnScope sReadM) := C8.fnScope_by (by decide +kernel)
theorem fn_readM {C D fE g : Addr} {fdE fdg : FuncData} (F : C8.Fun K "read" "Ratio.read" sReadM g fdg) (DW : C8.Cal P w K mg base 6 "worth_of" (spWorth K C) []) (ER : Err2 P w K mg base D fE fdE) : FnOk P w K mg base (L2.CX P w) 7 g fdg ["cls", "text"] (spRd K C D) := by
  obtain ⟨oc, od, dV, kV, doc, pm, an, cdv, ct, osl, rfl, lk, hcd⟩ := F.ex
  refine fn_of lk hcd scReadM (fun vs H Q E h => ?_) fun A outer s H vs Q E hr h => ?_
  · obtain ⟨x, rfl, _⟩ := h
    rfl
  · obtain ⟨x, rfl, av, tx, h⟩ := h
    have tk : Takes (cxOf (L2.CX P w) P w K mg base ["cls", "text", "value"] "Ratio.read" (C8.fnScope sReadM) g cdv A outer s H E) (fun cls d _ H' => E cls d H') := takes_of rfl rfl rfl rfl
    refine ⟨_, (pss_cons (ps_set (i := 2) scReadM.nd rfl (Or.inl rfl) (C8.pe_c DW hr (by decide) (by rfl) (pa_cons (pv 1) pa_nil)))
  (pss_cons (ps_if (pt_cmpR op_isN (pv 2) pe_non (nomark _)) (pss_one (ps_bad2 (x := "BadText") rfl tk ER.T ER.iC ER.tI ER.F hr ER.b (by rfl) ER.hm pe_int pe_int)) pss_nil)
  (pss_one (ps_ret (pv 2))))), ?_⟩
    refine ⟨_, rfl, x, rfl, av, tx, ?_⟩
    cases hw : worthV x with
    | none =>
      rw [hw] at h
      intro H' s1
      refine ⟨_, rfl, rfl, _, rfl, iteT ?_⟩
      exact bad_leaf2 fun d fs hd e1 e2 => h d fs H' s1 hd e1 e2
    | some r =>
      rw [hw] at h
      obtain ⟨o, u⟩ := r
      intro a H' s1 ha hr
      refine ⟨_, rfl, rfl, _, rfl, iteF ?_⟩
      exact ⟨_, rfl, h a H' s1 ha hr⟩
end
end Lw
namespace Lw
open PySem PySem.Spec PyProof.Rows L2
open SX PySem.NumText TL
abbrev sFig : Stmt := top 27
/-! ### integers as the law reads them -/
theorem dig_back : ∀ cs : List Nat, AllDigits cs → (cs.map Char.ofNat).map Char.toNat = cs
  | [], _ => rfl
  | c :: r, h => by
    have h1 := h c List.mem_cons_self
    have e : (Char.ofNat c).toNat = c := by
      have k : ∀ d : Nat, d < 58 → (Char.ofNat d).toNat = d := by decide
      exact k c (by omega)
    rw [List.map_cons, List.map_cons, e, dig_back r fun d hd => h d (List.mem_cons_of_mem _ hd)]
theorem num_back {c : Nat} {r : List Nat} (h : AllDigits (c :: r)) (hc : 49 ≤ c ∨ r = []) : numL (digitsVal (c :: r)) = c :: r := by
  unfold numL
  rw [toDigits_digitsVal r.length (c :: r) rfl h (hc.elim (fun h => .inr ⟨c, r, rfl, h⟩) fun e => .inl (by rw [e]; rfl)), dig_back _ h]
theorem num_head : ∀ n : Nat, 0 < n → ∃ c r, numL n = c :: r ∧ 49 ≤ c := by
  intro n
  induction n using Nat.strongRecOn with
  | _ n ih =>
    intro h0
    by_cases h : n < 10
    · exact ⟨48 + n, [], numL_lt h, by omega⟩
    · obtain ⟨c, r, e, hc⟩ := ih (n / 10) (by omega) (by omega)
      exact ⟨c, r ++ [48 + n % 10], by rw [numL_step (by omega), e]; rfl, hc⟩
theorem str_nat (n : Nat) : Str.ofString (toString ((n : Nat) : Int)) = S (numL n) := C8x n
  where C8x (n : Nat) : Str.ofString (toString ((n : Nat) : Int)) = S (numL n) := SX.num_S n
def figures : List Nat := [48, 49, 50, 51, 52, 53, 54, 55, 56, 57]
theorem fig_iff (c : Nat) : decide (c ∈ figures) = (decide (48 ≤ c) && decide (c ≤ 57)) := by
  rw [← Bool.decide_and]
  refine decide_eq_decide.mpr ?_
  simp only [figures, List.mem_cons, List.not_mem_nil, or_false]
  omega
theorem log_small {n k : Nat} (h : n < 10 ^ k) (hk : k ≤ 1000) : n < 10 ^ 4300 := Nat.lt_of_lt_of_le h (Nat.pow_le_pow_right (by decide) (by omega))
theorem wri_math {cs : List Nat} (hd : digB (figs cs) = true) (hl : cs.length ≤ 1000) : ∃ n : Int, intText? (S cs) = some n ∧ n.natAbs < 10 ^ 4300 ∧ ((Str.ofString (toString n) = S cs ∧ intOf cs = some n) ∨ (Str.ofString (toString n) ≠ S cs ∧ intOf cs = none)) := by
  obtain ⟨hall, hne⟩ := digB_all hd
  have hv := val_lt _ hall
  have hlog := log_small hv (Nat.le_trans (figs_len cs) hl)
  obtain ⟨c, r, hf⟩ : ∃ c r, figs cs = c :: r := by
    cases e : figs cs with
    | nil => exact absurd e hne
    | cons c r => exact ⟨c, r, rfl⟩
  have hc : 48 ≤ c ∧ c ≤ 57 := hall c (by rw [hf]; exact List.mem_cons_self)
  by_cases h45 : cs.head? = some 45
  · obtain ⟨ds, rfl⟩ : ∃ ds, cs = 45 :: ds := by
      cases e : cs with
      | nil => rw [e] at h45; cases h45
      | cons d ds => rw [e] at h45; exact ⟨ds, by rw [Option.some.inj h45]⟩
    rw [figs_minus] at hall hne hf hlog hv
    refine ⟨-((digitsVal ds : Nat) : Int), intText_neg (x := S (45 :: ds)) rfl hall hne (by rw [S_len]; omega), by rw [Int.natAbs_neg, Int.natAbs_natCast]; exact hlog, ?_⟩
    by_cases h48 : c = 48
    · refine .inr ⟨fun e => ?_, ?_⟩
      · by_cases z : digitsVal ds = 0
        · rw [z] at e
          have e2 : S [48] = S (45 :: ds) := e
          exact absurd (List.cons.inj (S_inj e2)).1 (by decide)
        · rw [str_neg (by omega)] at e
          have e2 := (List.cons.inj (S_inj e)).2
          obtain ⟨d, q, e3, hq⟩ := num_head (digitsVal ds) (by omega)
          rw [e3, hf] at e2
          have := (List.cons.inj e2).1
          omega
      · unfold intOf
        rw [if_pos hd, if_pos ⟨by rw [figs_minus, hf, h48]; rfl, fun e => by cases e⟩]
    · refine .inl ⟨?_, ?_⟩
      · have hp : 0 < digitsVal ds := by rw [hf]; exact digitsVal_pos (by omega)
        rw [str_neg hp]
        refine congrArg S (congrArg (45 :: ·) ?_)
        rw [hf]
        exact num_back (hf ▸ hall) (.inl (by omega))
      · unfold intOf
        rw [if_pos hd, if_neg (fun z => h48 (Option.some.inj (by rw [figs_minus, hf] at z; exact z.1))), if_pos h45, figs_minus]
  · have hfc : figs cs = cs := by
      cases e : cs with
      | nil => rfl
      | cons d ds => exact figs_other ds fun z => h45 (by rw [e, z]; rfl)
    rw [hfc] at hall hne hf hlog hv
    refine ⟨((digitsVal cs : Nat) : Int), intText_digits (x := S cs) hall hne (by rw [S_len]; omega), by rw [Int.natAbs_natCast]; exact hlog, ?_⟩
    by_cases h48 : c = 48 ∧ r ≠ []
    · refine .inr ⟨fun e => ?_, ?_⟩
      · rw [str_nat] at e
        have e2 := S_inj e
        by_cases z : digitsVal cs = 0
        · rw [z, numL_lt (by decide), hf] at e2
          exact h48.2 (List.cons.inj e2).2.symm
        · obtain ⟨d, q, e3, hq⟩ := num_head (digitsVal cs) (by omega)
          rw [e3, hf] at e2
          have := (List.cons.inj e2).1
          omega
      · unfold intOf
        rw [if_pos hd, if_pos ⟨by rw [hfc, hf, h48.1]; rfl, fun e => by rw [e] at hf; exact h48.2 (List.cons.inj hf).2.symm⟩]
    · refine .inl ⟨?_, ?_⟩
      · rw [str_nat]
        refine congrArg S ?_
        rw [hf]
        refine num_back (hf ▸ hall) ?_
        by_cases z : c = 48
        · exact .inr (Classical.byContradiction fun q => h48 ⟨z, q⟩)
        · exact .inl (by omega)
      · unfold intOf
        rw [if_pos hd, if_neg (fun z => ?_), if_neg h45, hfc]
        rw [hfc, hf] at z
        refine h48 ⟨Option.some.inj z.1, fun q => z.2 ?_⟩
        rw [q, Option.some.inj z.1]
def spFig : Sp := fun vs H Q _ => ∃ cs : List Nat, vs = [.str (S cs)] ∧ (∀ c ∈ cs, c < 128) ∧ cs.length ≤ 1000 ∧ ∀ H', Same H H' → Q (optV (intOf cs)) H'
section
variable {P : Program} {w : World} {K : PySem.W.Frag} {mg : Str → Option Value} {base : Heap}
theorem scFig : FnScope ["_law_part", "_law_plain", "_law_sign"] ["_law_part"] (C8.fnScope sFig) := C8.fnScope_by (by decide +kernel)
theorem cal_fig {f : Addr} {fd : FuncData} (F : C8.Def K mg "_law_figures" sFig f fd) (b : Binds K fd ["_law_part"] []) (T : TxtN mg) (hLM : limB K = true) : C8.Cal P w K mg base 1 "_law_figures" spFig [] := by
  refine C8.cal0 F b .nil scFig (fun vs H Q E h => ?_) (fun cdv A outer st H vs Q E hr h => ?_)
  · obtain ⟨cs, rfl, _⟩ := h
    rfl
  · obtain ⟨cs, rfl, h128, hlen, k⟩ := h
    refine ⟨_, (pss_cons (ps_set (i := 1) scFig.nd rfl (Or.inl rfl) (pe_ifExp (pt_cmpR op_eq (pe_slice C8.sl_txt (pv 0) po_none (po_some pe_int)) pe_str (nomark _)) (pe_slice C8.sl_txt (pv 0) (po_some pe_int) po_none) (pv 0)))
  (pss_cons (ps_if (PW.pt (pw_or (pt_cmpR op_eq (pv 1) pe_str (nomark _)) (pw_or1 (pt_cmpR (op_neD hr.units) (pe_lc (own := [("_law_sign", 2)]) (g := gName 2) rfl scFig.nd (pi_str (pv 1)) (blkOk_by (own := [("_law_sign", 2)]) (N := ["_law_part", "_law_plain", "_law_sign"]) (sc := (C8.fnScope sFig)) (by decide +kernel)) (fun _ _ _ _ _ => pg_name (i := 2) scFig.nd rfl (Or.inl rfl)) (fun _ _ _ _ _ => pts_one (pt_cmpR op_notIn_sign (pv 2) pe_str (by rfl))) (fun _ _ _ _ _ => (pv 2))) (pe_lst pa_nil) (nomark _))))) (pss_one (ps_ret pe_non)) pss_nil)
  (pss_one (ps_ret (pe_ifExp (pt_cmpR op_eq (pe_callTy (call_str_long rfl hLM) (by rfl) T.n_str (by decide +kernel) (pa_cons (pe_callTy (call_int_long hLM) (by rfl) T.n_int (by decide +kernel) (pa_cons (pv 0) pa_nil)) pa_nil)) (pv 0) (nomark _)) (pe_callTy (call_int_long hLM) (by rfl) T.n_int (by decide +kernel) (pa_cons (pv 0) pa_nil)) pe_non))))), ?_⟩
    have hl : (S cs).length ≤ sizeLine := by rw [S_len]; exact Nat.le_trans hlen (by decide)
    dsimp only [tSeq]
    refine join_any (fun σ' H' => σ' = [some (V.str (S cs)), some (V.str (S (figs cs))), none] ∧ H' = H) ?rest (fun go => ?_)
    case rest =>
      rintro σ' H' ⟨rfl, rfl⟩
      have flen : (figs cs).length ≤ 1000 := Nat.le_trans (figs_len cs) hlen
      have f128 : ∀ c ∈ figs cs, c < 128 := fun c hc => h128 c (figs_sub hc)
      have kk : ∀ (o : Option Int) (H2 : Hp), Same H' H2 → o = intOf cs → Q (optV o) H2 := fun o H2 s e => by rw [e]; exact k H2 s
      dsimp only [tSeq]
      refine join_any (fun σ2 H2 => σ2 = [some (V.str (S cs)), some (V.str (S (figs cs))), none] ∧ Same H' H2 ∧ digB (figs cs) = true) ?rest2 (fun go2 => ?_)
      case rest2 =>
        rintro σ2 H2 ⟨rfl, s2, hd⟩
        obtain ⟨n, h1, h2, h3⟩ := wri_math hd hlen
        refine ⟨_, rfl, _, n, rfl, h1, hl, _, rfl, h2, _, rfl, rfl, _, rfl, ?_⟩
        rcases h3 with ⟨e1, e2⟩ | ⟨e1, e2⟩
        · rw [e1]
          refine ite2 (fun c => ?_) (fun c => absurd (decide_eq_true rfl) c)
          exact ⟨_, rfl, _, n, rfl, h1, hl, kk (some n) _ s2 e2.symm⟩
        · refine ite2 (fun c => absurd (V.str.inj (of_decide_eq_true c)) e1) (fun c => ?_)
          exact kk none _ s2 e2.symm
      have bad : ∀ (H2 : Hp), Same H' H2 → digB (figs cs) = false → Q .non H2 := fun H2 s h => kk none H2 s (by unfold intOf; rw [h]; rfl)
      refine ⟨_, rfl, rfl, _, rfl, ite2 (fun c0 => ?_) (fun c0 => ?_)⟩
      · refine iteT (bad _ (Same.refl _) ?_)
        have e : V.str (S (figs cs)) = V.str (S []) := of_decide_eq_true c0
        rw [S_inj (V.str.inj e)]; rfl
      · have hne : figs cs ≠ [] := fun e => c0 (by rw [e]; rfl)
        refine ⟨_, rfl, S (figs cs), rfl, fun D hD => lc_text (fun c => [some (.str (S cs)), some (.str (S (figs cs))), some (.str ⟨#[c]⟩)]) (fun c => !decide (c ∈ figures)) (fun c => .str ⟨#[c]⟩) (fun _ _ _ h => h) (fun _ => rfl)
          (fun c _ _ h => ⟨_, rfl, c, _, rfl, rfl, _, rfl, h⟩) (fun c _ _ _ h => ⟨_, rfl, h⟩) (by show (figs cs).toArray.size ≤ _; simp; omega) ?_⟩
        refine ⟨(by show 0 ≤ sizeLine; decide), fun q hq => ?_⟩
        have sD := same_new (o := HO.lst (((figs cs).filter fun c => !decide (c ∈ figures)).map fun c => V.str ⟨#[c]⟩)) hD
        have nq : D ≠ q := fun e => by rw [← e, upd_same] at hq; cases hq
        have okc : ∀ c ∈ ((figs cs).filter fun c => !decide (c ∈ figures)), c < 1114112 := fun c hc => Nat.lt_trans (f128 c (List.mem_filter.mp hc).1) (by decide)
        refine ⟨_, _, .lst (SqL.of ?_) (dp_signs _), .lst (SqL.of upd_same) .nil, shaped_signs _ okc, rfl, _, rfl, ?_⟩
        · rw [upd_ne nq, upd_same]
        · rw [eqv_signs, filt_nil]
          have ed : digB (figs cs) = (figs cs).all fun c => decide (c ∈ figures) := by
            unfold digB
            have e1 : (!(figs cs).isEmpty) = true := by cases h : figs cs with | nil => exact absurd h hne | cons _ _ => rfl
            rw [e1, Bool.true_and]
            refine List.all_congr rfl fun c => ?_
            exact (fig_iff c).symm
          rw [← ed]
          have s3 := sD.trans (same_new (o := HO.lst []) hq)
          cases hd : digB (figs cs) with
          | true => exact iteF (go2 _ _ ⟨rfl, s3, hd⟩)
          | false => exact iteT (bad _ s3 hd)
    refine ⟨_, rfl, _, rfl, S cs, rfl, hl, ?_⟩
    rw [slice_to (by decide)]
    refine ⟨rfl, _, rfl, ?_⟩
    rw [show (Str.ofString "-") = S [45] from rfl]
    refine ite2 (fun c0 => ?_) (fun c0 => ?_)
    · have e : V.str (S (cs.take (1 : Int).toNat)) = V.str (S [45]) := of_decide_eq_true c0
      have e2 : cs.take 1 = [45] := S_inj (V.str.inj e)
      obtain ⟨r, hr⟩ : ∃ r, cs = 45 :: r := by
        cases h : cs with
        | nil => rw [h] at e2; cases e2
        | cons c r =>
          rw [h] at e2
          have e3 : c = 45 := (List.cons.inj e2).1
          exact ⟨r, by rw [e3]⟩
      refine ⟨_, rfl, _, rfl, S cs, rfl, hl, ?_⟩
      rw [slice_from (by decide)]
      refine go _ _ ⟨?_, rfl⟩
      rw [hr]; rfl
    · have e2 : ¬ cs.take 1 = [45] := fun e => c0 (decide_eq_true (by rw [show (1 : Int).toNat = 1 from rfl, e]))
      have e3 : figs cs = cs := by
        cases h : cs with
        | nil => rfl
        | cons c r =>
          refine figs_other r fun e => e2 ?_
          rw [h, e]; rfl
      refine ⟨_, rfl, ?_⟩
      refine go _ _ ⟨?_, rfl⟩
      rw [e3]; rfl
end
end Lw
namespace Lw
open PySem PySem.Spec PyProof.Rows L2

/-! ### the same operators, their methods may raise -/
/-- a method of the class that may raise what E tells -/
structure MetX (P : Program) (w : World) (K : PySem.W.Frag) (mg : Str → Option Value) (base : Heap) (k : Nat) (C : Addr) (m : Str) (sp : Sp) : Prop where
  ex : ∃ (g : Addr) (fd : FuncData) (ps : List Str), Meth K C m g ∧ FnOk P w K mg base (L2.CX P w) k g fd ps sp ∧ Binds K fd ps []
section
variable {X : Cx} {C f : Addr} {k j : Nat} {sp : Sp} {E : XK} {pins : List (Addr × Obj)} {σ : L2.St} {H : Hp} {s : Shared}
theorem run_met {m : Str} {us : List Value} {vs : List V} {Q : VK} (M : MetX X.prog X.w X.K X.mg X.base k C m sp) (hx : Passes (L2.CX X.prog X.w) X E) (hr : Room j X.A) (hk : k ≤ j) (I : Inv X pins σ H s) (r : Vals vs us) (q : sp vs H Q E) :
    ∃ g : Addr, Meth X.K C m g ∧ wpAny (model X.prog X.w) X.A (call (.ref g) us) (PySem.W.CmpBack (EP X pins σ Q)) X.xe s ∧ wpAny (model X.prog X.w) X.A (call (.ref g) us) (EP X pins σ Q) X.xe s := by
  obtain ⟨g, fd, ps, hm, F, b⟩ := M.ex
  have q' : sp (vs ++ []) H Q E := by rw [List.append_nil]; exact q
  have ran := run_fn F (hr.mono hk) b .nil hx I r q'
  refine ⟨g, hm, wpAny_mono ran (fun w s' z => ?_) (fun _ _ x => x), ran⟩
  obtain ⟨z', H', I', rz, qz⟩ := z
  exact SlX.cmpback rz ⟨z', H', I', rz, qz⟩
def rSameX (C : Addr) (sp : Sp) (E : XK) : R2 := fun x y H Q => ∃ a dx fs b dy gs, x = .ref a ∧ y = .ref b ∧ H a = some (.ins C dx fs) ∧ H b = some (.ins C dy gs) ∧ sp [x, y] H Q E
theorem op_sameX {op : Operator} (M : MetX X.prog X.w X.K X.mg X.base k C (PySem.dunder op.info.2) sp) (hx : Passes (L2.CX X.prog X.w) X E) (hc : PySem.W.selfFirst X.K C = true) (hr : Room j X.A) (hk : k ≤ j) : OpR X (binaryOp op) (rSameX C sp E) := by
  intro pins s σ H x y v u Q I rx ry h
  obtain ⟨a, dx, fs, b, dy, gs, rfl, rfl, ha, hb, q⟩ := h
  cases (show v = Value.ref a from rx)
  cases (show u = Value.ref b from ry)
  obtain ⟨_, _, J⟩ := ins_at I ha
  obtain ⟨_, _, J'⟩ := ins_at I hb
  obtain ⟨g, hm, w, _⟩ := run_met (us := [.ref a, .ref b]) (vs := [.ref a, .ref b]) M hx hr hk I (.cons rfl (.cons rfl .nil)) q
  obtain ⟨m, hF⟩ := I.fr
  exact PySem.W.binop_K hF I.ok.mod.kin J J'.type hc hm.at_ hm.fn w
def rBesideX (K : PySem.W.Frag) (C : Addr) (op : Operator) (sp : Sp) (E : XK) : R2 := fun x y H Q => ∃ a dx fs T, x = .ref a ∧ H a = some (.ins C dx fs) ∧ Kind y T ∧ Beside K C op T ∧ sp [x, y] H Q E
theorem op_besideX {op : Operator} (M : MetX X.prog X.w X.K X.mg X.base k C (PySem.dunder op.info.2) sp) (hx : Passes (L2.CX X.prog X.w) X E) (hr : Room j X.A) (hk : k ≤ j) : OpR X (binaryOp op) (rBesideX X.K C op sp E) := by
  intro pins s σ H x y v u Q I rx ry h
  obtain ⟨a, dx, fs, T, rfl, ha, hT, hB, q⟩ := h
  cases (show v = Value.ref a from rx)
  obtain ⟨_, _, J⟩ := ins_at I ha
  obtain ⟨g, hm, w, _⟩ := run_met (us := [.ref a, u]) (vs := [.ref a, y]) M hx hr hk I (.cons rfl (.cons ry .nil)) q
  obtain ⟨m, hF⟩ := I.fr
  obtain ⟨rc, r1, r2⟩ := hB.back
  obtain ⟨fo, f1⟩ := hB.ahead
  obtain ⟨ro, o1⟩ := hB.behind
  exact PySem.W.ksp_binT hF I.ok.mod.kin J (hT.type ry) hB.first hm.at_ hm.fn r1 r2 f1 o1 hB.sub w
def rSignX (C : Addr) (sp : Sp) (E : XK) : V → Hp → VK → Prop := fun x H Q => ∃ a dx fs, x = .ref a ∧ H a = some (.ins C dx fs) ∧ sp [x] H Q E
theorem un_signX (M : MetX X.prog X.w X.K X.mg X.base k C "__neg__" sp) (hx : Passes (L2.CX X.prog X.w) X E) (hr : Room j X.A) (hk : k ≤ j) : UnR X (unaryOp .USub) (rSignX C sp E) := by
  intro pins s σ H x v Q I rx h
  obtain ⟨a, dx, fs, rfl, ha, q⟩ := h
  cases (show v = Value.ref a from rx)
  obtain ⟨_, _, J⟩ := ins_at I ha
  obtain ⟨g, hm, _, w⟩ := run_met (us := [.ref a]) (vs := [.ref a]) M hx hr hk I (.cons rfl .nil) q
  obtain ⟨m, hF⟩ := I.fr
  exact PySem.W.ksp_neg hF I.ok.mod.kin J hm.at_ hm.fn w
end
end Lw
namespace Lw
open PySem PySem.Spec PyProof.Rows L2

section
variable {X : Cx} {C f : Addr} {k j : Nat} {sp : Sp} {E : XK}
def rRightX (C : Addr) (P : V → Prop) (sp : Sp) (E : XK) : R2 := fun x y H Q => ∃ a dx fs, P x ∧ y = .ref a ∧ H a = some (.ins C dx fs) ∧ sp [y, x] H Q E
theorem op_rightIX {op : Operator} {id : String} (M : MetX X.prog X.w X.K X.mg X.base k C (dunderR op.info.2) sp) (hx : Passes (L2.CX X.prog X.w) X E) (hc : PySem.W.selfFirst X.K C = true) (hs : PySem.W.findIn X.K (.ref C) (PySem.dunder op.info.2) = some (some (.ref f))) (hL : fillsNumberSlot (.type "int") op.info.2 = pure true)
    (hsub : PySem.W.subIn X.K (.ref C) (.type "int") = some false) (sl : Slot "int" (PySem.dunder op.info.2) id) (hd : ∀ {A : Around} {E : Value → Shared → Prop} {s : Shared} {i : Int} {t : Tok} {x : Addr} {o : Obj} {Q' : Value → Shared → Prop}, s.heap.get? x = some o → o.data = .plain → Q' .notImplemented s → wpAny (model X.prog X.w) A (call (.builtin id) [.int i t, .ref x]) Q' E s)
    (hr : Room j X.A) (hk : k ≤ j) : OpR X (binaryOp op) (rRightX C (fun x => ∃ i, x = .int i) sp E) := by
  intro pins s σ H x y v u Q I rx ry h
  obtain ⟨a, dx, fs, ⟨i, rfl⟩, rfl, ha, q⟩ := h
  cases (show u = Value.ref a from ry)
  obtain ⟨t, rfl⟩ := (show ∃ t, v = Value.int i t from rx)
  obtain ⟨ox, od, J, h1, h2⟩ := ins_plain I ha
  obtain ⟨g, hm, w, _⟩ := run_met (us := [.ref a, .int i t]) (vs := [.ref a, .int i]) M hx hr hk I (.cons rfl (.cons ⟨t, rfl⟩ .nil)) q
  exact Ow.right_number I.kIn J rfl (typeIs_int s i t) hc hs hm.at_ hm.fn hL hsub sl (fun Q' z => hd h1 h2 z) w
theorem op_rightBX {op : Operator} {T : String} (M : MetX X.prog X.w X.K X.mg X.base k C (dunderR op.info.2) sp) (hx : Passes (L2.CX X.prog X.w) X E) (hc : PySem.W.selfFirst X.K C = true) (hs : PySem.W.findIn X.K (.ref C) (PySem.dunder op.info.2) = some (some (.ref f))) (hL : fillsNumberSlot (.type T) op.info.2 = pure false)
    (hr : Room j X.A) (hk : k ≤ j) : OpR X (binaryOp op) (rRightX C (fun x => Kind x T) sp E) := by
  intro pins s σ H x y v u Q I rx ry h
  obtain ⟨a, dx, fs, hT, rfl, ha, q⟩ := h
  cases (show u = Value.ref a from ry)
  obtain ⟨ox, od, J, h1, h2⟩ := ins_plain I ha
  obtain ⟨g, hm, w, _⟩ := run_met (us := [.ref a, v]) (vs := [.ref a, x]) M hx hr hk I (.cons rfl (.cons rx .nil)) q
  exact Ow.right_bare I.kIn J (PySem.W.Looks.of_pure (hT.type rx)) hc hs hm.at_ hm.fn hL w
theorem iop_sameX {op : Operator} (M : MetX X.prog X.w X.K X.mg X.base k C (PySem.dunder op.info.2) sp) (hx : Passes (L2.CX X.prog X.w) X E) (hc : PySem.W.selfFirst X.K C = true) (ni : NoInplace X.K C op) (hr : Room j X.A) (hk : k ≤ j) : OpR X (inplaceOp op) (rSameX C sp E) := by
  intro pins s σ H x y v u Q I rx ry h
  obtain ⟨a, dx, fs, b, dy, gs, rfl, rfl, ha, hb, q⟩ := h
  cases (show v = Value.ref a from rx)
  cases (show u = Value.ref b from ry)
  obtain ⟨_, _, J⟩ := ins_at I ha
  obtain ⟨_, _, J'⟩ := ins_at I hb
  obtain ⟨g, hm, w, _⟩ := run_met (us := [.ref a, .ref b]) (vs := [.ref a, .ref b]) M hx hr hk I (.cons rfl (.cons rfl .nil)) q
  obtain ⟨cd, h1, h2⟩ := ni.mro
  exact Ow.inplace_of I.kIn J h1 h2 ni.own ni.obj (Ow.half_same I.kIn J J'.type hc hm.at_ hm.fn w)
theorem iop_besideX {op : Operator} (M : MetX X.prog X.w X.K X.mg X.base k C (PySem.dunder op.info.2) sp) (hx : Passes (L2.CX X.prog X.w) X E) (ni : NoInplace X.K C op) (hr : Room j X.A) (hk : k ≤ j) : OpR X (inplaceOp op) (rBesideX X.K C op sp E) := by
  intro pins s σ H x y v u Q I rx ry h
  obtain ⟨a, dx, fs, T, rfl, ha, hT, hB, q⟩ := h
  cases (show v = Value.ref a from rx)
  obtain ⟨_, _, J⟩ := ins_at I ha
  obtain ⟨g, hm, w, _⟩ := run_met (us := [.ref a, u]) (vs := [.ref a, y]) M hx hr hk I (.cons rfl (.cons ry .nil)) q
  obtain ⟨cd, h1, h2⟩ := ni.mro
  obtain ⟨rc, r1, r2⟩ := hB.back
  obtain ⟨fo, f1⟩ := hB.ahead
  obtain ⟨ro, o1⟩ := hB.behind
  exact Ow.inplace_of I.kIn J h1 h2 ni.own ni.obj (Ow.half_left I.kIn J (PySem.W.Looks.of_pure (hT.type ry)) hB.first hm.at_ hm.fn r1 r2 f1 o1 hB.sub w)
end
end Lw
namespace Lw.Ow
open PySem PySem.Spec PyProof.Rows PySem.W PySem.Calls

/-! ### the two halves of an operator, any built-in type beside -/
section
variable {prog : Program} {w : World} {A : Around} {E : Value → Shared → Prop} {s : Shared} {K : Frag} {x C f g : Addr} {ox : Obj} {od : Option Obj}
theorem half_bare {nm : String} {a : Value} {T : String} {Q : Value → Shared → Prop} (X : K.In s.heap) (I : InstAt s.heap x ox C od) (ht : Looks (model prog w) s.heap (typeOf a) (.type T)) (hc : selfFirst K C = true) (hs : findIn K (.ref C) (PySem.dunder nm) = some (some (.ref f))) (hr : findIn K (.ref C) (dunderR nm) = some (some (.ref g)))
    (hg : isFn K (.ref g) = true) (hL : fillsNumberSlot (.type T) nm = pure false) (h : wpAny (model prog w) A (call (.ref g) [.ref x, a]) (PySem.W.CmpBack Q) E s) : wpAny (model prog w) A (binaryOp1 nm a (.ref x)) (Told Q) E s := by
  obtain ⟨cd, rest, hcd, hm⟩ := ksp_first hc
  have one := ksp_try X I hr hg h
  obtain ⟨hh, gg, d, tt, os⟩ := s
  have L2 : Looks (model prog w) hh (typeOf (.ref x)) (.ref C) := I.type
  have L3 : Looks (model prog w) hh (fillsNumberSlot (.ref C) nm) true := fills_K X hcd hm hs
  have hne : (Value.type T == Value.ref C) = false := Bool.eq_false_iff.mpr fun q => by cases beq_iff_eq.mp q
  unfold binaryOp1
  refine wpAny_bind (ht.at (wpAny_bind (L2.at (wpAny_bind (wpAny_of_eq hL ?_)))))
  simp only [hne, Bool.false_eq_true, if_false]
  refine wpAny_bind (L3.at ?_)
  simp only [Bool.false_and, Bool.false_eq_true, if_false, pure_bind, Bool.not_false, Bool.and_true, if_true]
  refine wpAny_bind (wpAny_mono one (fun r s' hr' => ?_) fun _ _ e => e)
  obtain ⟨v, rfl, hq⟩ := hr'
  exact wpAny_bind (wpAny_rule (wpAny_pure ⟨v, rfl, hq⟩))
theorem op_half {op : Operator} {a b : Value} {Q : Value → Shared → Prop} (h : wpAny (model prog w) A (binaryOp1 op.info.2 a b) (Told Q) E s) : wpAny (model prog w) A (binaryOp op a b) Q E s := by
  rcases hi : op.info with ⟨sym, nm⟩
  rw [hi] at h
  dsimp only at h
  simp only [binaryOp, hi]
  refine wpAny_holding (wpAny_bind (wpAny_mono h (fun r s' z => ?_) fun _ _ e => e))
  obtain ⟨v, rfl, hq⟩ := z
  exact wpAny_pure hq
theorem inplace_bare {op : Operator} {a b : Value} {T : String} {Q : Value → Shared → Prop} (ht : Looks (model prog w) s.heap (typeOf a) (.type T)) (hI : fillsInplaceSlot (.type T) op.info.2 (op == .Add) = pure false) (h : wpAny (model prog w) A (binaryOp1 op.info.2 a b) (Told Q) E s) : wpAny (model prog w) A (inplaceOp op a b) Q E s := by
  unfold inplaceOp
  refine wpAny_holding ?_
  refine wpAny_bind (ht.here (wpAny_bind (wpAny_of_eq hI ?_)))
  simp only [Bool.false_eq_true, if_false, pure_bind]
  refine wpAny_bind (wpAny_mono h (fun r s' z => ?_) fun _ _ e => e)
  obtain ⟨v, rfl, hq⟩ := z
  exact wpAny_pure hq
theorem binary_noB {nm : String} {f : Int → Int → Sem Fin} {b : Bool} {x : Addr} {o : Obj} {Q : Value → Shared → Prop} (ho : s.heap.get? x = some o) (hp : o.data = .plain) (h : Q .notImplemented s) :
    wpAny (model prog w) A (Builtin.Int.intBinary nm f false ⟨[.bool b, .ref x], []⟩) (fun fin s' => ∃ v, fin = .done (.ret v) ∧ Q v s') E s := by
  unfold Builtin.Int.intBinary
  refine wpAny_bind (wpAny_of_eq (a := (Value.bool b, [Value.ref x])) rfl ?_)
  refine wpAny_bind (wpAny_of_eq (a := (if b = true then (1 : Int) else 0)) (by cases b <;> rfl) ?_)
  refine wpAny_bind ?_
  show wpAny _ _ (load x >>= fun ob => match ob.data with | .prim (.int i _) => pure (some i) | _ => pure none) _ _ _
  refine wpAny_bind (wpAny_load ho ?_)
  rw [hp]
  exact wpAny_pure (wpAny_bind (wpAny_rule (wpAny_pure ⟨_, rfl, h⟩)))
theorem slot_bool_add : Slot "bool" (PySem.dunder "add") "int.__add__" :=
  .of (owner := "int") (n := "__add__") (by rw [typeLookup_type, builtinLookup_eq_fast]; kernel_rfl) (by decide +kernel) (by decide +kernel) (by decide +kernel)
    (by first | exact .inl (by decide +kernel) | exact .inr (by decide +kernel)) (by rw [isSubtype_type]; kernel_rfl)
theorem slot_bool_sub : Slot "bool" (PySem.dunder "sub") "int.__sub__" :=
  .of (owner := "int") (n := "__sub__") (by rw [typeLookup_type, builtinLookup_eq_fast]; kernel_rfl) (by decide +kernel) (by decide +kernel) (by decide +kernel)
    (by first | exact .inl (by decide +kernel) | exact .inr (by decide +kernel)) (by rw [isSubtype_type]; kernel_rfl)
theorem slot_bool_mul : Slot "bool" (PySem.dunder "mul") "int.__mul__" :=
  .of (owner := "int") (n := "__mul__") (by rw [typeLookup_type, builtinLookup_eq_fast]; kernel_rfl) (by decide +kernel) (by decide +kernel) (by decide +kernel)
    (by first | exact .inl (by decide +kernel) | exact .inr (by decide +kernel)) (by rw [isSubtype_type]; kernel_rfl)
theorem noB_add {b : Bool} {x : Addr} {o : Obj} {Q : Value → Shared → Prop} (ho : s.heap.get? x = some o) (hp : o.data = .plain) (h : Q .notImplemented s) : wpAny (model prog w) A (call (.builtin "int.__add__") [.bool b, .ref x]) Q E s :=
  wpAny_call_entry slot_bool_add rfl F.entry_int_add (binary_noB ho hp h) (F.args_int_add_2 _ _)
theorem noB_sub {b : Bool} {x : Addr} {o : Obj} {Q : Value → Shared → Prop} (ho : s.heap.get? x = some o) (hp : o.data = .plain) (h : Q .notImplemented s) : wpAny (model prog w) A (call (.builtin "int.__sub__") [.bool b, .ref x]) Q E s :=
  wpAny_call_entry slot_bool_sub rfl F.entry_int_sub (binary_noB ho hp h) (F.args_int_sub_2 _ _)
theorem noB_mul {b : Bool} {x : Addr} {o : Obj} {Q : Value → Shared → Prop} (ho : s.heap.get? x = some o) (hp : o.data = .plain) (h : Q .notImplemented s) : wpAny (model prog w) A (call (.builtin "int.__mul__") [.bool b, .ref x]) Q E s :=
  wpAny_call_entry slot_bool_mul rfl F.entry_int_mul (binary_noB ho hp h) (F.args_int_mul_2 _ _)
end
/-! ### what the table of built-in types tells -/
def BTs : List String := ["int", "bool", "NoneType", "str", "tuple", "list", "dict"]
def Bares : List String := ["NoneType", "str", "tuple", "list", "dict"]
def Nms : List String := ["add", "sub", "mul"]
theorem bt_find {T nm : String} (h : T ∈ BTs) (h2 : nm ∈ Nms) : (∃ fo, fastLookup T (PySem.dunder nm) = some fo) ∧ ∃ ro, fastLookup T (dunderR nm) = some ro := by
  have all : (BTs.all fun T => Nms.all fun nm => (fastLookup T (PySem.dunder nm)).isSome && (fastLookup T (dunderR nm)).isSome) = true := by decide +kernel
  have z := List.all_eq_true.mp (List.all_eq_true.mp all T h) nm h2
  rw [Bool.and_eq_true] at z
  exact ⟨Option.isSome_iff_exists.mp z.1, Option.isSome_iff_exists.mp z.2⟩
theorem bt_sub {K : Frag} {C : Addr} {T : String} (h : T ∈ BTs) : subIn K (.type T) (.ref C) = some false := by
  simp only [BTs, List.mem_cons, List.not_mem_nil, or_false] at h
  rcases h with rfl | rfl | rfl | rfl | rfl | rfl | rfl <;> kernel_rfl
theorem bt_bare {T nm : String} (h : T ∈ Bares) (h2 : nm ∈ Nms) : fillsNumberSlot (.type T) nm = pure false := by
  simp only [Bares, List.mem_cons, List.not_mem_nil, or_false] at h
  simp only [Nms, List.mem_cons, List.not_mem_nil, or_false] at h2
  rcases h with rfl | rfl | rfl | rfl | rfl <;> rcases h2 with rfl | rfl | rfl <;>
  · simp only [fillsNumberSlot, typeLookup_type, builtinLookup_eq_fast]
    kernel_rfl
theorem bt_number {T nm : String} (h : T = "int" ∨ T = "bool") (h2 : nm ∈ Nms) : fillsNumberSlot (.type T) nm = pure true := by
  simp only [Nms, List.mem_cons, List.not_mem_nil, or_false] at h2
  rcases h with rfl | rfl <;> rcases h2 with rfl | rfl | rfl <;>
  · simp only [fillsNumberSlot, typeLookup_type, builtinLookup_eq_fast]
    kernel_rfl
end Lw.Ow
namespace Lw
open PySem PySem.Spec PyProof.Rows L2
end Lw
namespace Lw
open PySem PySem.Spec PyProof.Rows L2

/-- half an operator's reading: what binaryOp1 tells -/
def HalfR (X : Cx) (nm : String) (r : R2) : Prop := ∀ (pins : List (Addr × Obj)) (s : Shared) (σ : L2.St) (H : Hp) (x y : V) (v u : Value) (Q : VK), Inv X pins σ H s → RelV x v → RelV y u → r x y H Q →
  wpAny (model X.prog X.w) X.A (binaryOp1 nm v u) (Ow.Told (EP X pins σ Q)) X.xe s
/-- a value of a built-in type that an own operator may stand beside -/
inductive Bt (K : PySem.W.Frag) (H : Hp) : V → String → Prop where
  | int (i : Int) : Bt K H (.int i) "int"
  | bl (b : Bool) : Bt K H (.bl b) "bool"
  | bare {x : V} {T : String} (h : TyX K H x (.type T)) (hT : T ∈ Ow.Bares) : Bt K H x T
theorem Bt.tyx {K : PySem.W.Frag} {H : Hp} {x : V} {T : String} (h : Bt K H x T) : TyX K H x (.type T) ∧ T ∈ Ow.BTs := by
  cases h with
  | int i => exact ⟨.base (.int i), by decide⟩
  | bl b => exact ⟨.base (.bl b), by decide⟩
  | bare h hT => exact ⟨h, by unfold Ow.Bares at hT; unfold Ow.BTs; simp only [List.mem_cons, List.not_mem_nil, or_false] at hT ⊢; rcases hT with h | h | h | h | h <;> simp [h]⟩
theorem Bt.same {K : PySem.W.Frag} {H H' : Hp} {x : V} {T : String} (s : Same H H') (h : Bt K H x T) : Bt K H' x T := by
  cases h with
  | int i => exact .int i
  | bl b => exact .bl b
  | bare h hT => exact .bare (Lw.TyX.same s h) hT
section
variable {X : Cx} {C f : Addr} {k j : Nat} {sp : Sp} {E : XK} {pins : List (Addr × Obj)} {σ : L2.St} {H : Hp} {s : Shared} {nm : String} {r r1 r2 : R2}
theorem Bt.looks {x : V} {T : String} {u : Value} (I : Inv X pins σ H s) (rx : RelV x u) (h : Bt X.K H x T) : PySem.W.Looks (model X.prog X.w) s.heap (typeOf u) (.type T) := by
  obtain ⟨W, Z, p, _⟩ := kit_of I rx h.tyx.1
  exact Z.ty _ _ I.kIn p
theorem half_or (h1 : HalfR X nm r1) (h2 : HalfR X nm r2) : HalfR X nm (fun x y H Q => r1 x y H Q ∨ r2 x y H Q) := fun pins s σ H x y v u Q I rx ry h => h.elim (h1 pins s σ H x y v u Q I rx ry) (h2 pins s σ H x y v u Q I rx ry)
theorem half_imp {r' : R2} (h : HalfR X nm r) (g : ∀ x y H Q, r' x y H Q → r x y H Q) : HalfR X nm r' := fun pins s σ H x y v u Q I rx ry z => h pins s σ H x y v u Q I rx ry (g _ _ _ _ z)
theorem op_of {op : Operator} (h : HalfR X op.info.2 r) : OpR X (binaryOp op) r := fun pins s σ H x y v u Q I rx ry z => Ow.op_half (h pins s σ H x y v u Q I rx ry z)
/-- what op= asks of the value on the left -/
inductive LeftNo (C : Addr) (H : Hp) : V → Prop where
  | own {a dx : Addr} {fs : List (Str × V)} (h : H a = some (.ins C dx fs)) : LeftNo C H (.ref a)
  | int (i : Int) : LeftNo C H (.int i)
theorem iop_of {op : Operator} (h : HalfR X op.info.2 r) (ni : NoInplace X.K C op) (hI : fillsInplaceSlot (.type "int") op.info.2 (op == .Add) = pure false) : OpR X (inplaceOp op) (fun x y H Q => LeftNo C H x ∧ r x y H Q) := by
  intro pins s σ H x y v u Q I rx ry z
  have w := h pins s σ H x y v u Q I rx ry z.2
  cases z.1 with
  | own ha =>
    cases (show v = Value.ref _ from rx)
    obtain ⟨_, _, J⟩ := ins_at I ha
    obtain ⟨cd, h1, h2⟩ := ni.mro
    exact Ow.inplace_of I.kIn J h1 h2 ni.own ni.obj w
  | int i =>
    obtain ⟨t, rfl⟩ := (show ∃ t, v = Value.int i t from rx)
    exact Ow.inplace_bare (PySem.W.Looks.of_pure rfl) hI w
def rOwn (C : Addr) (sp : Sp) (E : XK) : R2 := fun x y H Q => ∃ a dx fs b dy gs, x = .ref a ∧ y = .ref b ∧ H a = some (.ins C dx fs) ∧ H b = some (.ins C dy gs) ∧ sp [x, y] H Q E
theorem half_own (M : MetX X.prog X.w X.K X.mg X.base k C (PySem.dunder nm) sp) (hx : Passes (L2.CX X.prog X.w) X E) (hc : PySem.W.selfFirst X.K C = true) (hr : Room j X.A) (hk : k ≤ j) : HalfR X nm (rOwn C sp E) := by
  intro pins s σ H x y v u Q I rx ry h
  obtain ⟨a, dx, fs, b, dy, gs, rfl, rfl, ha, hb, q⟩ := h
  cases (show v = Value.ref a from rx)
  cases (show u = Value.ref b from ry)
  obtain ⟨_, _, J⟩ := ins_at I ha
  obtain ⟨_, _, J'⟩ := ins_at I hb
  obtain ⟨g, hm, w, _⟩ := run_met (us := [.ref a, .ref b]) (vs := [.ref a, .ref b]) M hx hr hk I (.cons rfl (.cons rfl .nil)) q
  exact Ow.half_same I.kIn J J'.type hc hm.at_ hm.fn w
def rLeft (K : PySem.W.Frag) (C : Addr) (sp : Sp) (E : XK) : R2 := fun x y H Q => ∃ a dx fs T, x = .ref a ∧ H a = some (.ins C dx fs) ∧ Bt K H y T ∧ sp [x, y] H Q E
theorem half_lft (M : MetX X.prog X.w X.K X.mg X.base k C (PySem.dunder nm) sp) (hx : Passes (L2.CX X.prog X.w) X E) (hc : PySem.W.selfFirst X.K C = true) (hb : ∃ g : Addr, PySem.W.findIn X.K (.ref C) (dunderR nm) = some (some (.ref g))) (hn : nm ∈ Ow.Nms) (hr : Room j X.A) (hk : k ≤ j) : HalfR X nm (rLeft X.K C sp E) := by
  intro pins s σ H x y v u Q I rx ry h
  obtain ⟨a, dx, fs, T, rfl, ha, hT, q⟩ := h
  cases (show v = Value.ref a from rx)
  obtain ⟨_, _, J⟩ := ins_at I ha
  obtain ⟨g, hm, w, _⟩ := run_met (us := [.ref a, u]) (vs := [.ref a, y]) M hx hr hk I (.cons rfl (.cons ry .nil)) q
  obtain ⟨g2, h2⟩ := hb
  have hB := hT.tyx.2
  obtain ⟨⟨fo, h3⟩, ⟨ro, h4⟩⟩ := Ow.bt_find hB hn
  exact Ow.half_left I.kIn J (hT.looks I ry) hc hm.at_ hm.fn h2 (.inr ⟨g2, rfl⟩) h3 h4 (Ow.bt_sub hB) w
def rRght (K : PySem.W.Frag) (C : Addr) (sp : Sp) (E : XK) : R2 := fun x y H Q => ∃ a dx fs T, y = .ref a ∧ H a = some (.ins C dx fs) ∧ Bt K H x T ∧ sp [y, x] H Q E
/-- the int's own methods have no answer -/
structure NoNum (nm : String) : Prop where
  i : ∃ id, Slot "int" (PySem.dunder nm) id ∧ ∀ {prog : Program} {w : World} {A : Around} {E : Value → Shared → Prop} {s : Shared} {i : Int} {t : Tok} {x : Addr} {o : Obj} {Q' : Value → Shared → Prop}, s.heap.get? x = some o → o.data = .plain → Q' .notImplemented s → wpAny (model prog w) A (call (.builtin id) [.int i t, .ref x]) Q' E s
  b : ∃ id, Slot "bool" (PySem.dunder nm) id ∧ ∀ {prog : Program} {w : World} {A : Around} {E : Value → Shared → Prop} {s : Shared} {i : Bool} {x : Addr} {o : Obj} {Q' : Value → Shared → Prop}, s.heap.get? x = some o → o.data = .plain → Q' .notImplemented s → wpAny (model prog w) A (call (.builtin id) [.bool i, .ref x]) Q' E s
theorem nn_add : NoNum "add" := ⟨⟨_, F.slot_int_add, fun h1 h2 q => Ow.no_add h1 h2 q⟩, ⟨_, Ow.slot_bool_add, fun h1 h2 q => Ow.noB_add h1 h2 q⟩⟩
theorem nn_sub : NoNum "sub" := ⟨⟨_, F.slot_int_sub, fun h1 h2 q => Ow.no_sub h1 h2 q⟩, ⟨_, Ow.slot_bool_sub, fun h1 h2 q => Ow.noB_sub h1 h2 q⟩⟩
theorem nn_mul : NoNum "mul" := ⟨⟨_, F.slot_int_mul, fun h1 h2 q => Ow.no_mul h1 h2 q⟩, ⟨_, Ow.slot_bool_mul, fun h1 h2 q => Ow.noB_mul h1 h2 q⟩⟩
theorem half_rgt (M : MetX X.prog X.w X.K X.mg X.base k C (dunderR nm) sp) (hx : Passes (L2.CX X.prog X.w) X E) (hc : PySem.W.selfFirst X.K C = true) (hf : ∃ g : Addr, PySem.W.findIn X.K (.ref C) (PySem.dunder nm) = some (some (.ref g))) (hn : nm ∈ Ow.Nms) (nn : NoNum nm) (hs1 : PySem.W.subIn X.K (.ref C) (.type "int") = some false) (hs2 : PySem.W.subIn X.K (.ref C) (.type "bool") = some false)
    (hr : Room j X.A) (hk : k ≤ j) : HalfR X nm (rRght X.K C sp E) := by
  intro pins s σ H x y v u Q I rx ry h
  obtain ⟨a, dx, fs, T, rfl, ha, hT, q⟩ := h
  cases (show u = Value.ref a from ry)
  obtain ⟨ox, od, J, h1, h2⟩ := ins_plain I ha
  obtain ⟨g, hm, w, _⟩ := run_met (us := [.ref a, v]) (vs := [.ref a, x]) M hx hr hk I (.cons rfl (.cons rx .nil)) q
  obtain ⟨g2, hs⟩ := hf
  have look := hT.looks I rx
  cases hT with
  | int i =>
    obtain ⟨t, rfl⟩ := (show ∃ t, v = Value.int i t from rx)
    obtain ⟨id, sl, hd⟩ := nn.i
    exact Ow.half_number I.kIn J rfl (typeIs_int s i t) hc hs hm.at_ hm.fn (Ow.bt_number (.inl rfl) hn) hs1 sl (fun Q' z => hd h1 h2 z) w
  | bl b =>
    cases (show v = Value.bool b from rx)
    obtain ⟨id, sl, hd⟩ := nn.b
    exact Ow.half_number I.kIn J rfl rfl hc hs hm.at_ hm.fn (Ow.bt_number (.inr rfl) hn) hs2 sl (fun Q' z => hd h1 h2 z) w
  | bare h hB => exact Ow.half_bare I.kIn J look hc hs hm.at_ hm.fn (Ow.bt_bare hB hn) w
end
end Lw
namespace Lw
open PySem PySem.Spec PyProof.Rows L2
open SX PySem.NumText TL LamX
abbrev sStrM : Stmt := inClass (top 15) 21
abbrev sWri : Stmt := top 26
/-! ### a ratio as a text -/
def ratTx (o u : Int) : List Nat := if u = 1 then intL o else intL o ++ 47 :: intL u
theorem numL_len2 {n : Nat} (h : n < 2 ^ 100000) : (numL n).length ≤ 100000 := numL_len (by decide) (Nat.lt_of_lt_of_le h (Nat.pow_le_pow_left (by decide) _))
theorem intL_len {i : Int} (h : i.natAbs < 2 ^ 100000) : (intL i).length ≤ 100001 := by
  have l := numL_len2 h
  unfold intL
  split
  · rw [List.length_cons]; omega
  · omega
def spStrM (C : Addr) : Sp := fun vs H Q _ => ∃ a o u, vs = [.ref a] ∧ RatAt C H a o u ∧ o.natAbs < 2 ^ 100000 ∧ u.natAbs < 2 ^ 100000 ∧ ∀ H', Same H H' → Q (.str (S (ratTx o u))) H'
def spWri : Sp := fun vs H Q _ => ∃ t b : Int, vs = [.int t, .int b] ∧ b ≠ 0 ∧ Small t ∧ Small b ∧ ∀ H', Same H H' → Q (.str (S (ratTx (lov t b) (lun t b)))) H'
theorem two_lt : (2 : Nat) ^ 4000 < 10 ^ 4300 := Nat.lt_of_le_of_lt (Nat.pow_le_pow_left (show 2 ≤ 10 by decide) 4000) (Nat.pow_lt_pow_right (by decide) (by decide))
theorem small_long {i : Int} (h : Small i) : i.natAbs < 10 ^ 4300 := Nat.lt_trans h two_lt
theorem small_wide {i : Int} (h : Small i) : i.natAbs < 2 ^ 100000 := Nat.lt_of_lt_of_le h (Nat.pow_le_pow_right (by decide) (by decide))
theorem sg_abs (b : Int) : ∀ k : Int, (sg b * k).natAbs = k.natAbs := fun k => by
  unfold sg
  split <;> omega
theorem lov_small {t b : Int} (h : Small t) : Small (lov t b) := by
  unfold Small lov
  refine Nat.lt_of_le_of_lt ?_ h
  rw [Int.natAbs_ediv_of_dvd, sg_abs]
  · exact Nat.div_le_self _ _
  · exact Int.natAbs_dvd_natAbs.mp (by rw [sg_abs, Int.natAbs_natCast]; exact Nat.gcd_dvd_left _ _)
theorem lun_small {t b : Int} (h : Small b) : Small (lun t b) := by
  unfold Small lun
  refine Nat.lt_of_le_of_lt ?_ h
  rw [Int.natAbs_ediv_of_dvd, sg_abs]
  · exact Nat.div_le_self _ _
  · exact Int.natAbs_dvd_natAbs.mp (by rw [sg_abs, Int.natAbs_natCast]; exact Nat.gcd_dvd_right _ _)
section
variable {P : Program} {w : World} {K : PySem.W.Frag} {mg : Str → Option Value} {base : Heap}
theorem scStrM : FnScope ["self"] ["self"] (C8.fnScope sStrM) := C8.fnScope_by (by decide +kernel)
theorem fn_strM {C f1 : Addr} {fd1 : FuncData} (F : C8.Fun K "__str__" "Ratio.__str__" sStrM f1 fd1) (T : Txt mg) (DT : C8.Cal P w K mg base 1 "integer_text" spIntTx []) (cl : Cls K C) (n1 : NoAttr K C "over") (n2 : NoAttr K C "under") : FnOk P w K mg base (L2.CX P w) 2 f1 fd1 ["self"] (spStrM C) := by
  obtain ⟨oc, od, dV, kV, doc, pm, an, cdv, ct, osl, rfl, lk, hcd⟩ := F.ex
  refine fn_of lk hcd scStrM (fun vs H Q E h => ?_) fun A outer s H vs Q E hr h => ?_
  · obtain ⟨a, o, u, rfl, _⟩ := h
    rfl
  · obtain ⟨a, o, u, rfl, ⟨dx, ha⟩, ho, hu, k⟩ := h
    refine ⟨_, (pss_cons (ps_if (pt_cmpR op_eq (pe_fld (pv 0) rfl) pe_int (nomark _)) (pss_one (ps_ret (pe_callTy SkE.call_str_str (by rfl) T.n_str (by decide +kernel) (pa_cons (C8.pe_c DT hr (by decide) (by rfl) (pa_cons (pe_fld (pv 0) rfl) pa_nil)) pa_nil)))) pss_nil)
      (pss_one (ps_ret (pe_joined (.cons (pe_fmt (C8.pe_c DT hr (by decide) (by rfl) (pa_cons (pe_fld (pv 0) rfl) pa_nil))) (.cons pe_str (.cons (pe_fmt (C8.pe_c DT hr (by decide) (by rfl) (pa_cons (pe_fld (pv 0) rfl) pa_nil))) .nil))))))), ?_⟩
    have lo := intL_len ho
    have lu := intL_len hu
    refine ⟨_, rfl, a, C, dx, _, _, rfl, ha, cl, n2, flds_under o u, rfl, _, rfl, ite2 (fun c => ?_) (fun c => ?_)⟩
    · refine ⟨_, rfl, a, C, dx, _, _, rfl, ha, cl, n1, flds_over o u, o, rfl, ho, fun H' s1 => ⟨_, rfl, ?_⟩⟩
      have := k H' s1
      unfold ratTx at this
      rw [if_pos (V.int.inj (of_decide_eq_true c))] at this
      exact this
    · have u1 : ¬ u = 1 := fun e => c (decide_eq_true (by rw [e]))
      refine ⟨_, rfl, a, C, dx, _, _, rfl, ha, cl, n1, flds_over o u, o, rfl, ho, fun H1 s1 => ?_⟩
      have e0 : Str.empty = S [] := rfl
      have e47 : Str.ofString "/" = S [47] := rfl
      have big : 100001 + 100002 ≤ sizeLine := by decide
      refine .inl ⟨_, rfl, by rw [S_len]; omega, _, rfl, by rw [e0, S_cat, S_len, List.nil_append]; omega, _, rfl, ?_, ?_⟩
      · rw [e0, S_cat, e47, S_cat, S_len, List.nil_append, List.length_append]
        show (intL o).length + 1 ≤ _
        omega
      refine ⟨_, rfl, a, C, dx, _, _, rfl, s1 _ _ ha, cl, n2, flds_under o u, u, rfl, hu, fun H2 s2 => .inl ⟨_, rfl, by rw [S_len]; omega, _, rfl, ?_, ?_⟩⟩
      · rw [e0, S_cat, e47, S_cat, S_cat, S_len, List.nil_append, List.length_append, List.length_append]
        show (intL o).length + 1 + _ ≤ _
        omega
      · have := k H2 (s1.trans s2)
        unfold ratTx at this
        rw [if_neg u1] at this
        rw [e0, S_cat, e47, S_cat, S_cat, List.nil_append, List.append_assoc]
        exact this
theorem scWri : FnScope ["_law_top", "_law_bottom", "_law_over_so", "_law_under_so"] ["_law_top", "_law_bottom"] (C8.fnScope sWri) := C8.fnScope_by (by decide +kernel)
theorem cal_wri {f : Addr} {fd : FuncData} (F : C8.Def K mg "_law_written" sWri f fd) (b : Binds K fd ["_law_top", "_law_bottom"] []) (T : TxtN mg) (hLM : limB K = true) (DL : C8.Cal P w K mg base 2 "_law_least" spLea []) : C8.Cal P w K mg base 3 "_law_written" spWri [] := by
  refine C8.cal0 F b .nil scWri (fun vs H Q E h => ?_) (fun cdv A outer st H vs Q E hr h => ?_)
  · obtain ⟨t, b, rfl, _⟩ := h
    rfl
  · obtain ⟨t, b, rfl, b0, st1, sb, k⟩ := h
    refine ⟨_, (pss_cons (ps_asg (C8.pe_c DL hr (by decide) (by rfl) (pa_cons (pv 0) (pa_cons (pv 1) pa_nil))) (pg_tup (by rfl) (pgs_cons (pg_name (i := 2) scWri.nd rfl (Or.inl rfl)) (pgs_cons (pg_name (i := 3) scWri.nd rfl (Or.inl rfl)) pgs_nil))))
  (pss_one (ps_ret (pe_ifExp (pt_cmpR op_eq (pv 3) pe_int (nomark _)) (pe_callTy (call_str_long rfl hLM) (by rfl) T.n_str (by decide +kernel) (pa_cons (pv 2) pa_nil)) (pe_op op_add_str (pe_op op_add_str (pe_callTy (call_str_long rfl hLM) (by rfl) T.n_str (by decide +kernel) (pa_cons (pv 2) pa_nil)) pe_str) (pe_callTy (call_str_long rfl hLM) (by rfl) T.n_str (by decide +kernel) (pa_cons (pv 3) pa_nil))))))), ?_⟩
    have so := lov_small (b := b) st1
    have su := lun_small (t := t) sb
    have lo := intL_len (small_wide so)
    have lu := intL_len (small_wide su)
    refine ⟨_, rfl, _, rfl, t, b, rfl, b0, st1, sb, fun l hl => ?_⟩
    have s1 := same_new (o := HO.tup [.int (lov t b), .int (lun t b)]) hl
    refine ⟨l, _, rfl, .inl (.inl upd_same), rfl, ?_⟩
    have kk : ∀ y H', Same H H' → y = S (ratTx (lov t b) (lun t b)) → Q (.str y) H' := fun y H' s e => by rw [e]; exact k H' s
    refine ⟨_, _, rfl, _, _, rfl, rfl, ?_⟩
    refine ⟨_, rfl, rfl, _, rfl, ite2 (fun c => ?_) (fun c => ?_)⟩
    · refine ⟨_, rfl, _, rfl, small_long so, kk _ _ s1 ?_⟩
      unfold ratTx
      rw [if_pos (V.int.inj (of_decide_eq_true c)), str_int]
    · have u1 : ¬ lun t b = 1 := fun e => c (decide_eq_true (by rw [e]))
      refine ⟨_, rfl, _, rfl, small_long so, _, _, rfl, rfl, ?_, ⟨_, rfl, _, rfl, small_long su, _, _, rfl, rfl, ?_, kk _ _ s1 ?_⟩⟩
      · rw [str_int, S_len]
        exact Nat.le_trans (Nat.add_le_add lo (show _ ≤ 1 from Nat.le_refl _)) (by decide)
      · rw [str_int, str_int, show (Str.ofString "/") = S [47] from rfl, S_cat, S_len, S_len, List.length_append]
        exact Nat.le_trans (Nat.add_le_add (Nat.add_le_add_right lo _) lu) (by show 100001 + 1 + 100001 ≤ _; decide)
      · unfold ratTx
        rw [if_neg u1, str_int, str_int, show (Str.ofString "/") = S [47] from rfl, S_cat, S_cat, List.append_assoc]; rfl
end
/-! ### str(x) of an own class -/
section
variable {X : Cx} {C f : Addr} {k j : Nat} {sp : Sp} {E : XK} {pins : List (Addr × Obj)} {σ : L2.St} {H : Hp} {s : Shared}
/-- a method that runs one or two levels further in -/
theorem run_metA {A : Around} {m : Str} {us : List Value} {vs : List V} {Q : VK} (M : MetX X.prog X.w X.K X.mg X.base k C m sp) (hx : Passes (L2.CX X.prog X.w) X E) (hr : Room k A) (e0 : Env0 X.prog X.w X.K X.mg X.base A X.stack s H) (I : Inv X pins σ H s) (r : Vals vs us) (q : sp vs H Q E) :
    ∃ g : Addr, Meth X.K C m g ∧ wpAny (model X.prog X.w) A (call (.ref g) us) (EP X pins σ Q) X.xe s := by
  obtain ⟨g, fd, ps, hm, F, b⟩ := M.ex
  have l : us.length = ps.length := r.length.symm.trans (F.len _ _ _ _ q)
  have b' := b s us I.kIn (by rw [List.append_nil]; exact l)
  rw [List.append_nil] at b'
  refine ⟨g, hm, wpAny_call (codeAny_mono (F.run A X.stack s H ⟨us, []⟩ us vs Q E hr e0 b' r q) fun r s' hq => ?_)⟩
  cases r with
  | error e => exact hx pins σ H s e s' I hq
  | ok fl =>
    cases fl with
    | ret u => exact I.after hq
    | next => exact False.elim hq
    | brk => exact False.elim hq
    | cont => exact False.elim hq
/-- str(x) of an instance -/
def rStrOwn (C : Addr) (sp : Sp) (E : XK) : List V → Hp → VK → Prop := fun xs H Q => ∃ a dx fs, xs = [V.ref a] ∧ H a = some (.ins C dx fs) ∧ sp [.ref a] H (fun z H' => ∃ y, z = .str y ∧ Q z H') E
theorem call_strOwn (M : MetX X.prog X.w X.K X.mg X.base k C "__str__" sp) (hx : Passes (L2.CX X.prog X.w) X E) (hr : Room j X.A) (hk : k + 2 ≤ j) : CallR X (.type "str") (rStrOwn C sp E) := by
  intro pins s σ H xs us Q I r h
  obtain ⟨a, dx, fs, rfl, ha, q⟩ := h
  obtain ⟨u, rfl, ru⟩ := r.one
  cases (show u = Value.ref a from ru)
  obtain ⟨_, _, J⟩ := ins_at I ha
  have hr2 : Room k X.A.in1.in1 := (show Room (k + 1) X.A.in1 from Room.in1 (hr.mono hk)).in1
  obtain ⟨g, hm, w⟩ := run_metA (us := [.ref a]) (vs := [.ref a]) M hx hr2 I.env0.in1.in1 I (.cons rfl .nil) q
  refine PySem.W.kso_call hr2.units0 I.kIn J hm.at_ hm.fn (wpAny_mono w (fun v s' z => ?_) fun _ _ x => x)
  obtain ⟨z', H', I', rz, y, rfl, qz⟩ := z
  obtain ⟨t, rfl⟩ := rz
  exact ⟨.str y, H', I', ⟨t, rfl⟩, qz⟩
end
end Lw
namespace Lw
open PySem PySem.Spec PyProof.Rows L2
open SX PySem.NumText TL LamX
abbrev sDue : Stmt := top 28
/-! ### texts that are read and written -/
theorem num_dig (n : Nat) : digB (numL n) = true := by
  unfold digB
  rw [Bool.and_eq_true]
  refine ⟨?_, List.all_eq_true.mpr fun c hc => ?_⟩
  · cases e : numL n with
    | nil => exact absurd e (numL_ne n)
    | cons c r => rfl
  · have := numL_digits n c hc
    rw [Bool.and_eq_true, decide_eq_true_eq, decide_eq_true_eq]
    exact this
theorem figs_num (n : Nat) : figs (numL n) = numL n := by
  cases e : numL n with
  | nil => rfl
  | cons c r =>
    have := numL_digits n c (by rw [e]; exact List.mem_cons_self)
    exact figs_other r (by omega)
theorem num_48 {n : Nat} (h : (numL n).head? = some 48) : n = 0 := by
  refine Classical.byContradiction fun z => ?_
  obtain ⟨c, r, e, hc⟩ := num_head n (by omega)
  rw [e] at h
  have := Option.some.inj h
  omega
theorem intOf_intL (i : Int) : intOf (intL i) = some i := by
  unfold intL
  by_cases h : i < 0
  · rw [if_pos h]
    unfold intOf
    rw [figs_minus, if_pos (num_dig _), if_neg (fun z => ?_), if_pos (show (45 :: numL i.natAbs).head? = some 45 from rfl), numL_val]
    · exact congrArg some (by omega)
    · have := num_48 z.1
      omega
  · rw [if_neg h]
    unfold intOf
    rw [figs_num, if_pos (num_dig _), if_neg (fun z => ?_), if_neg (fun z => ?_), numL_val]
    · exact congrArg some (by omega)
    · cases e : numL i.natAbs with
      | nil => exact absurd e (numL_ne _)
      | cons c r =>
        have := numL_digits i.natAbs c (by rw [e]; exact List.mem_cons_self)
        rw [e] at z
        have := Option.some.inj z
        omega
    · have e := num_48 z.1
      rw [e] at z
      exact z.2 rfl
theorem intOf_back {cs : List Nat} {i : Int} (h : intOf cs = some i) (l : cs.length ≤ 1000) : intL i = cs := by
  by_cases hd : digB (figs cs) = true
  · obtain ⟨n, _, _, h3⟩ := wri_math hd l
    rcases h3 with ⟨e1, e2⟩ | ⟨_, e2⟩
    · rw [h] at e2
      cases e2
      rw [str_int] at e1
      exact S_inj e1
    · rw [h] at e2; cases e2
  · unfold intOf at h
    rw [if_neg hd] at h; cases h
theorem intL_inj {i j : Int} (h : intL i = intL j) : i = j := by
  have e := intOf_intL i
  rw [h, intOf_intL] at e
  exact (Option.some.inj e).symm
theorem intL_free (i : Int) : 47 ∉ intL i := by
  unfold intL
  have h := numL_free (n := i.natAbs) (s := 47) (.inl (by decide))
  split
  · intro z
    rcases List.mem_cons.mp z with z | z
    · cases z
    · exact h z
  · exact h
theorem cut_uniq {a b a' b' : List Nat} (ha : 47 ∉ a) (ha' : 47 ∉ a') (h : a ++ 47 :: b = a' ++ 47 :: b') : a = a' ∧ b = b' := by
  have e1 : TL.par [47] [] (a ++ 47 :: b) = some (a, b) := par_head b ha
  have e2 : TL.par [47] [] (a' ++ 47 :: b') = some (a', b') := par_head b' ha'
  rw [h, e2] at e1
  cases e1
  exact ⟨rfl, rfl⟩
theorem intOf_free {cs : List Nat} (h : 47 ∈ cs) : intOf cs = none := by
  unfold intOf
  rw [if_neg]
  intro hd
  have h2 : 47 ∈ figs cs := by
    cases cs with
    | nil => cases h
    | cons c r =>
      by_cases e : c = 45
      · subst e
        rw [figs_minus]
        rcases List.mem_cons.mp h with z | z
        · cases z
        · exact z
      · rw [figs_other r e]; exact h
  have := (digB_all hd).1 47 h2
  omega
/-- a text's parts -/
def prts (cs : List Nat) : List (List Nat) := TL.spl [47] 0 [] cs
theorem prts_one {cs : List Nat} (h : 47 ∉ cs) : prts cs = [cs] := spl_last1 h
theorem prts_cut {a b : List Nat} (h : 47 ∉ a) : prts (a ++ 47 :: b) = a :: prts b := spl_part1 (S := []) (acc := []) (rest := b) h
theorem prts_or (cs : List Nat) : (47 ∉ cs ∧ prts cs = [cs]) ∨ ∃ a b, cs = a ++ 47 :: b ∧ 47 ∉ a ∧ prts cs = a :: prts b := by
  rcases par_or cs with ⟨h, _⟩ | ⟨a, b, e, ha, _⟩
  · exact .inl ⟨h, prts_one h⟩
  · exact .inr ⟨a, b, e, ha, by rw [e]; exact prts_cut ha⟩
theorem prts_pos (cs : List Nat) : 0 < (prts cs).length := by
  rcases prts_or cs with ⟨_, e⟩ | ⟨a, b, _, _, e⟩ <;> rw [e] <;> simp
theorem prts_mem : ∀ (n : Nat) (cs : List Nat), cs.length = n → ∀ p ∈ prts cs, p.length ≤ cs.length ∧ ∀ c ∈ p, c ∈ cs := by
  intro n
  induction n using Nat.strongRecOn with
  | _ n ih =>
    intro cs hn p hp
    rcases prts_or cs with ⟨_, e⟩ | ⟨a, b, e0, _, e⟩
    · rw [e, List.mem_singleton] at hp
      subst hp
      exact ⟨Nat.le_refl _, fun c hc => hc⟩
    · rw [e] at hp
      rcases List.mem_cons.mp hp with rfl | hp
      · rw [e0]
        exact ⟨by rw [List.length_append]; omega, fun c hc => List.mem_append_left _ hc⟩
      · have hb : b.length < n := by rw [← hn, e0, List.length_append, List.length_cons]; omega
        obtain ⟨h1, h2⟩ := ih b.length hb b rfl p hp
        exact ⟨by omega, fun c hc => by rw [e0]; exact List.mem_append_right _ (List.mem_cons_of_mem _ (h2 c hc))⟩
theorem prts_len (cs : List Nat) : (prts cs).length ≤ cs.length + 1 := by
  obtain ⟨n, hn⟩ : ∃ n, n = cs.length := ⟨_, rfl⟩
  induction n using Nat.strongRecOn generalizing cs with
  | _ n ih =>
    rcases prts_or cs with ⟨_, e⟩ | ⟨a, b, e0, _, e⟩
    · rw [e]; simp
    · have hb : b.length < n := by rw [hn, e0, List.length_append, List.length_cons]; omega
      have := ih b.length hb b rfl
      rw [e, List.length_cons, e0, List.length_append, List.length_cons]
      omega
theorem at0 {v : V} {xs : List V} : atI (v :: xs) 0 = some v := atI_nat (j := 0) rfl
theorem at1 {v u : V} {xs : List V} : atI (v :: u :: xs) 1 = some u := atI_nat (j := 1) rfl
theorem iteF' {A B : Prop} {c : Bool} (hc : c = false) (h : B) : if c = true then A else B := by rw [if_neg (by rw [hc]; exact Bool.false_ne_true)]; exact h
theorem iteT' {A B : Prop} {c : Bool} (hc : c = true) (h : A) : if c = true then A else B := by rw [if_pos hc]; exact h
theorem split_prts (cs : List Nat) : Txt.split (S cs) (Str.ofString "/") = (prts cs).map S := split_S (b := [47]) (List.cons_ne_nil _ _) rfl
theorem gcd_one_of {o u : Int} (h : 2 ≤ u) (e : lun o u = u) : Nat.gcd o.natAbs u.natAbs = 1 := by
  unfold lun at e
  have s : sg u = 1 := if_pos (by omega)
  rw [s, Int.one_mul] at e
  have g0 : 0 < Nat.gcd o.natAbs u.natAbs := Nat.gcd_pos_of_pos_right _ (by omega)
  generalize Nat.gcd o.natAbs u.natAbs = g at *
  refine Classical.byContradiction fun z => ?_
  have h2 : u / (g : Int) < u := Int.ediv_lt_self_of_pos_of_ne_one (by omega) (by omega)
  omega
theorem ratTx_one (o : Int) : ratTx o 1 = intL o := if_pos rfl
/-- a page that is written as its own least form -/
theorem own_form {o u : Int} (h : 1 ≤ u) : (ratTx (lov o u) (lun o u) = intL o ++ 47 :: intL u) ↔ (2 ≤ u ∧ Nat.gcd o.natAbs u.natAbs = 1) := by
  constructor
  · intro e
    unfold ratTx at e
    by_cases h1 : lun o u = 1
    · rw [if_pos h1] at e
      exact absurd (by rw [e]; exact List.mem_append_right _ List.mem_cons_self) (intL_free (lov o u))
    · rw [if_neg h1] at e
      obtain ⟨_, e2⟩ := cut_uniq (intL_free _) (intL_free _) e
      have e3 := intL_inj e2
      have u2 : 2 ≤ u := by omega
      exact ⟨u2, gcd_one_of u2 e3⟩
  · rintro ⟨h2, g⟩
    obtain ⟨e1, e2⟩ := lov_prime (o := o) h2 g
    rw [e1, e2]
    exact if_neg (by omega)
/-- what the law takes as due -/
def DuR (H : Hp) (Q : VK) : Option (Int × Int) → Prop
  | none => ∀ H', Same H H' → Q .non H'
  | some (o, u) => ∀ t H', Same H H' → H t = none → H' t = some (.tup [.int o, .int u]) → Q (.ref t) H'
def spDue : Sp := fun vs H Q _ => ∃ cs : List Nat, vs = [.str (S cs)] ∧ (∀ c ∈ cs, c < 128) ∧ cs.length ≤ 1000 ∧ DuR H Q (ratL cs)
theorem optV_int {o : Option Int} {i : Int} (h : optV o = .int i) : o = some i := by
  cases o with
  | none => cases h
  | some j => cases h; rfl
theorem inV_non : ∀ xs : List (Option Int), inV .non (xs.map optV) = decide (none ∈ xs)
  | [] => rfl
  | x :: r => by
    show (eqV (optV x) .non || inV .non (r.map optV)) = _
    rw [inV_non r]
    cases x with
    | none => simp [optV, eqV]
    | some i =>
      have : eqV (optV (some i)) .non = false := rfl
      rw [this, Bool.false_or]
      exact decide_eq_decide.mpr (by simp)
theorem flat_opt : ∀ xs : List (Option Int), (xs.map optV).all flatV = true
  | [] => rfl
  | x :: r => by
    show (flatV (optV x) && (r.map optV).all flatV) = true
    rw [flat_opt r]
    cases x <;> rfl
section
variable {P : Program} {w : World} {K : PySem.W.Frag} {mg : Str → Option Value} {base : Heap}
theorem scDue : FnScope ["_law_page", "_law_parts", "_law_found", "_law_bottom", "_law_part"] ["_law_page"] (C8.fnScope sDue) := C8.fnScope_by (by decide +kernel)
theorem cal_due {f : Addr} {fd : FuncData} (F : C8.Def K mg "_law_due" sDue f fd) (b : Binds K fd ["_law_page"] []) (T : TxtN mg) (DF : C8.Cal P w K mg base 1 "_law_figures" spFig []) (DWr : C8.Cal P w K mg base 3 "_law_written" spWri []) : C8.Cal P w K mg base 4 "_law_due" spDue [] := by
  refine C8.cal0 F b .nil scDue (fun vs H Q E h => ?_) (fun cdv A outer st H vs Q E hr h => ?_)
  · obtain ⟨cs, rfl, _⟩ := h
    rfl
  · obtain ⟨cs, rfl, h128, hl, k⟩ := h
    refine ⟨_, (pss_cons (ps_set (i := 1) scDue.nd rfl (Or.inl rfl) (pe_split (pv 0) pe_str))
  (pss_cons (ps_setLc (i := 2) (own := [("_law_part", 4)]) (g := gName 4) (tt := tYes) rfl scDue.nd rfl rfl (sw_true rfl rfl rfl (by decide +kernel)) (pi_list (pv 1)) (blkOk_by (own := [("_law_part", 4)]) (N := ["_law_page", "_law_parts", "_law_found", "_law_bottom", "_law_part"]) (sc := (C8.fnScope sDue)) (by decide +kernel)) (fun _ _ _ _ _ => pg_name (i := 4) scDue.nd rfl (Or.inl rfl)) (fun _ _ _ _ _ => pts_nil) (fun _ _ _ _ _ => (C8.pe_c DF hr (by decide) (by rfl) (pa_cons (pv 4) pa_nil))))
  (pss_cons (ps_if (PW.pt (pw_or (pt_cmpR op_gt (pe_callB call_len_seq (by rfl) T.n_len (by decide +kernel) (pa_cons (pv 1) pa_nil)) pe_int (nomark _)) (pw_or1 (pt_cmpR op_in_seq pe_non (pv 2) (by rfl))))) (pss_one (ps_ret pe_non)) pss_nil)
  (pss_cons (ps_set (i := 3) scDue.nd rfl (Or.inl rfl) (pe_ifExp (pt_cmpR op_eq (pe_callB call_len_seq (by rfl) T.n_len (by decide +kernel) (pa_cons (pv 2) pa_nil)) pe_int (nomark _)) (pe_ix ix_list (pv 2) pe_int (fun _ _ => rfl)) pe_int))
  (pss_cons (ps_if (PW.pt (pw_or (pt_cmpR op_lt (pv 3) pe_int (nomark _)) (pw_or1 (pt_cmpR op_ne (C8.pe_c DWr hr (by decide) (by rfl) (pa_cons (pe_ix ix_list (pv 2) pe_int (fun _ _ => rfl)) (pa_cons (pv 3) pa_nil))) (pv 0) (nomark _))))) (pss_one (ps_ret pe_non)) pss_nil)
  (pss_one (ps_ret (pe_tup (pa_cons (pe_ix ix_list (pv 2) pe_int (fun _ _ => rfl)) (pa_cons (pv 3) pa_nil)))))))))), ?_⟩
    have hs : (S cs).length + 2 ≤ sizeLine := by rw [S_len]; exact Nat.le_trans (Nat.add_le_add_right hl 2) (by decide)
    refine ⟨_, rfl, ⟨_, rfl⟩, _, _, rfl, rfl, by rfl, hs, fun p hp => ?_⟩
    rw [split_prts]
    have s1 := same_new (o := HO.lst (((prts cs).map S).map V.str)) hp
    have hP : upd H p (.lst (((prts cs).map S).map V.str)) p = some (.lst (((prts cs).map S).map V.str)) := upd_same
    generalize upd H p (.lst (((prts cs).map S).map V.str)) = H1 at s1 hP ⊢
    have hlen := prts_len cs
    dsimp only [tSeq]
    refine ⟨_, rfl, p, rfl, ⟨_, SqL.of hP⟩, fun D hD => ?_⟩
    refine lc_list (xs := ((prts cs).map S).map V.str) (fun i H2 => Same H1 H2 ∧ H2 D = some (.lst ((((prts cs).take i).map intOf).map optV))) ⟨same_new hD, upd_same⟩ (fun i H2 _ h => SqL.of (h.1 _ _ hP)) ?_ ?_
    · rintro i x H2 hx ⟨sc, yD⟩
      obtain ⟨part, hpt, rfl⟩ : ∃ part, (prts cs)[i]? = some part ∧ x = .str (S part) := by
        rw [List.getElem?_map, List.getElem?_map] at hx
        cases hq : (prts cs)[i]? with
        | none => rw [hq] at hx; cases hx
        | some part => rw [hq] at hx; cases hx; exact ⟨part, rfl, rfl⟩
      obtain ⟨l1, l2⟩ := prts_mem _ cs rfl part (List.mem_of_getElem? hpt)
      have hi : i < (prts cs).length := (List.getElem?_eq_some_iff.mp hpt).1
      refine ⟨rfl, ?_⟩
      dsimp only [tYes]
      rw [if_pos rfl]
      refine ⟨_, rfl, part, rfl, fun c hc => h128 c (l2 c hc), by omega, fun H3 s3 => ⟨_, s3 _ _ yD, ?_, fun c o e => ?_, ?_⟩⟩
      · rw [List.length_map, List.length_map]
        exact Nat.lt_of_le_of_lt (Nat.le_trans (List.length_take_le _ _) (show i ≤ 1001 by omega)) (by decide)
      · rw [upd_ne (ne_of_none e hD)]
        exact s3 _ _ (sc _ _ e)
      · rw [upd_same, List.take_add_one, hpt]
        simp
    · rintro H2 ⟨sc, yD⟩
      rw [List.take_of_length_le (by rw [List.length_map, List.length_map]; exact Nat.le_refl _)] at yD
      have sH := s1.trans sc
      have hP2 := sc _ _ hP
      have nn : ∀ H', Same H2 H' → ratL cs = none → Q .non H' := fun H' s e => by
        rw [e] at k
        exact k H' (sH.trans s)
      dsimp only [gName, tSeq]
      refine join_any (fun σ' H' => H' = H2 ∧ σ' = [some (V.str (S cs)), some (V.ref p), some (V.ref D), none, none] ∧ ∃ (o u : Int) (rest : List V), H2 D = some (.lst (.int o :: rest)) ∧ ((rest = [] ∧ u = 1) ∨ rest = [.int u]) ∧ Small o ∧ Small u ∧
        (1 ≤ u → ratTx (lov o u) (lun o u) = cs → ratL cs = some (o, u)) ∧ (u < 1 ∨ ratTx (lov o u) (lun o u) ≠ cs → ratL cs = none)) ?r1 (fun go => ?_)
      case r1 =>
        rintro σ' H' ⟨rfl, rfl, o, u, rest, yD, hr, so, su, k1, k2⟩
        dsimp only [tSeq]
        refine join_any (fun σ' H3 => H3 = H' ∧ σ' = [some (V.str (S cs)), some (V.ref p), some (V.ref D), some (V.int u), none]) ?r2 (fun go2 => ?_)
        case r2 =>
          rintro σ' H3 ⟨rfl, rfl⟩
          refine ⟨_, rfl, _, _, rfl, rfl, _, rfl, ite2 (fun c => ?_) (fun c => ?_)⟩
          · exact nn _ (Same.refl _) (k2 (.inl (of_decide_eq_true c)))
          · have u1 : 1 ≤ u := by have := of_decide_eq_false (Bool.eq_false_iff.mpr c); omega
            refine ⟨_, rfl, D, _, 0, _, rfl, rfl, SqL.of yD, at0, _, rfl, o, u, rfl, by omega, so, su, fun H4 s4 => ⟨_, rfl, rfl, _, rfl, ite2 (fun c2 => ?_) (fun c2 => ?_)⟩⟩
            · refine nn _ s4 (k2 (.inr fun e => ?_))
              rw [e] at c2
              exact absurd c2 (by simp)
            · have e : ratTx (lov o u) (lun o u) = cs := Classical.byContradiction fun z => c2 (by
                show (!decide (V.str (S (ratTx (lov o u) (lun o u))) = V.str (S cs))) = true
                rw [decide_eq_false (fun y => z (S_inj (V.str.inj y)))]; rfl)
              refine ⟨_, rfl, D, _, 0, _, rfl, rfl, SqL.of (s4 _ _ yD), at0, _, rfl, (by show 2 ≤ sizeLine; decide), fun t ht => ?_⟩
              rw [k1 u1 e] at k
              exact k t _ ((sH.trans s4).trans (same_new ht)) ((sH.trans s4).free ht) upd_same
        rcases hr with ⟨rfl, rfl⟩ | rfl
        · exact ⟨_, rfl, D, _, rfl, .inl (SqL.of yD), rfl, _, rfl, iteF (go2 _ _ ⟨rfl, rfl⟩)⟩
        · exact ⟨_, rfl, D, _, rfl, .inl (SqL.of yD), rfl, _, rfl, iteT ⟨_, rfl, D, _, 1, _, rfl, rfl, SqL.of yD, at1, go2 _ _ ⟨rfl, rfl⟩⟩⟩
      rcases prts_or cs with ⟨h47, e⟩ | ⟨a, b, e0, ha, e⟩
      · rw [e] at yD hP2
        have er : ratL cs = (intOf cs).map fun o => (o, 1) := by
          unfold ratL
          rw [par_head_none h47]
        refine ⟨_, rfl, p, _, rfl, .inl (SqL.of hP2), _, _, rfl, rfl, _, rfl, iteF ?_⟩
        refine ⟨_, rfl, D, _, rfl, .inl (SqL.of yD), by rfl, flat_opt [intOf cs], _, rfl, ?_⟩
        cases hi : intOf cs with
        | none => exact iteT' (show inV .non [optV (intOf cs)] = true by rw [hi]; rfl) (nn _ (Same.refl _) (by rw [er, hi]; rfl))
        | some o =>
          refine iteF' (show inV .non [optV (intOf cs)] = false by rw [hi]; rfl) (go _ _ ⟨rfl, rfl, o, 1, [], ?_, .inl ⟨rfl, rfl⟩, intOf_small hi hl, small_one, fun _ _ => by rw [er, hi]; rfl, fun z => ?_⟩)
          · rw [yD]
            show some (HO.lst [optV (intOf cs)]) = _
            rw [hi]; rfl
          · rcases z with z | z
            · omega
            · rw [(lov_1 o).1, (lov_1 o).2, ratTx_one] at z
              exact absurd (intOf_back hi hl) z
      · have er : ratL cs = match intOf a, intOf b with
            | some o, some u => if 2 ≤ u ∧ Nat.gcd o.natAbs u.natAbs = 1 then some (o, u) else none
            | _, _ => none := by
          unfold ratL
          rw [e0, show TL.par [47] [] (a ++ 47 :: b) = some (a, b) from par_head b ha]
          all_goals rfl
        have la : a.length ≤ 1000 := by rw [e0, List.length_append] at hl; omega
        have lb : b.length ≤ 1000 := by rw [e0, List.length_append, List.length_cons] at hl; omega
        rcases prts_or b with ⟨h47, e2⟩ | ⟨a2, b2, e3, ha2, e2⟩
        · rw [e, e2] at yD hP2
          refine ⟨_, rfl, p, _, rfl, .inl (SqL.of hP2), _, _, rfl, rfl, _, rfl, iteF ?_⟩
          refine ⟨_, rfl, D, _, rfl, .inl (SqL.of yD), by rfl, flat_opt [intOf a, intOf b], _, rfl, ?_⟩
          cases hi : intOf a with
          | none => exact iteT' (show inV .non [optV (intOf a), optV (intOf b)] = true by rw [hi]; rfl) (nn _ (Same.refl _) (by rw [er, hi]))
          | some o =>
            cases hj : intOf b with
            | none => exact iteT' (show inV .non [optV (intOf a), optV (intOf b)] = true by rw [hi, hj]; rfl) (nn _ (Same.refl _) (by rw [er, hi, hj]))
            | some u =>
              rw [hi, hj] at er
              have ec : intL o ++ 47 :: intL u = cs := by rw [intOf_back hi la, intOf_back hj lb, e0]
              refine iteF' (show inV .non [optV (intOf a), optV (intOf b)] = false by rw [hi, hj]; rfl) (go _ _ ⟨rfl, rfl, o, u, [.int u], ?_, .inr rfl, intOf_small hi la, intOf_small hj lb, fun h1 h2 => ?_, fun z => ?_⟩)
              · rw [yD]
                show some (HO.lst [optV (intOf a), optV (intOf b)]) = _
                rw [hi, hj]; rfl
              · rw [er]
                exact if_pos ((own_form h1).mp (h2.trans ec.symm))
              · rw [er]
                refine if_neg fun y => ?_
                rcases z with z | z
                · omega
                · exact z (((own_form (by omega)).mpr y).trans ec)
        · have eb : intOf b = none := intOf_free (by rw [e3]; exact List.mem_append_right _ List.mem_cons_self)
          have en : ratL cs = none := by
            rw [er, eb]
            cases intOf a <;> rfl
          rw [e, e2] at hP2
          refine ⟨_, rfl, p, _, rfl, .inl (SqL.of hP2), _, _, rfl, rfl, _, rfl, ?_⟩
          refine iteT' ?_ (nn _ (Same.refl _) en)
          have := prts_pos b2
          show decide ((((((a :: a2 :: prts b2).map S).map V.str).length : Nat) : Int) > 2) = true
          rw [List.length_map, List.length_map, List.length_cons, List.length_cons]
          exact decide_eq_true (by omega)
end
end Lw
namespace Lw.Ls
open PySem PySem.Spec PyProof.Rows

/-! ### list(text) -/
section
variable {prog : Program} {w : World} {A : Around} {E : Value → Shared → Prop} {s : Shared}
theorem no_hint {z : Str} {t : Tok} {Q : Bool → Shared → Prop} (h : Q false s) : wpAny (model prog w) A (Builtin.List.listLengthHint (.str z t)) Q E s := by
  have kind : s.TypeIs (.str z t) "str" := typeIs_str s z t
  unfold Builtin.List.listLengthHint
  refine wpAny_bind (wpAny_specialOf kind F.slot_str_len.lookup ?_)
  generalize hn : ("str.__len__" : String) = name
  wp_delta
  rw [show splitId name = some ("str", "__len__") from by subst hn; decide +kernel]
  subst hn
  refine wpAny_bind (wpAny_isInstance (T := "str") (b := true) kind (by rw [isSubtype_type]; kernel_rfl) ?_)
  refine wpAny_ite_split (fun no => absurd no (by decide)) (fun _ => ?_)
  refine wpAny_ite_split (fun _ => ?_) (fun no => absurd (by decide +kernel) no)
  exact wpAny_bind (wpAny_typeOf kind (wpAny_pure h))
theorem grown {R : Result → Shared → Prop} (hh : A.handled = none) (z : Str) (t : Tok) (l : Addr) (told : Value) (c₀ : Nat) (hl : s.heap.get? l = some { cls := .type "list", data := .seq #[] c₀ }) (hz : z.cps.size ≤ sizeLine)
    (hR : ∀ h' tk got c', (∀ b o, b ≠ l → s.heap.get? b = some o → h'.get? b = some o) → h'.get? l = some { cls := .type "list", dict := none, data := .seq got c', slots := #[] } → ItemsOf (SignAt z) got z.cps.size → R (.ok (.ret told)) { s with heap := h', toks := tk }) :
    wpAny (model prog w) A.in1 (Builtin.List.listExtendWith (.ref l) (.str z t) told)
      (fun fin s' => match fin with | .done f => R (.ok f) s' | .again c' => c'.quiet = true ∧ codeAny (model prog w) A c' R s') (fun e s' => R (.error e) s') s := by
  have apart : l ∉ [s.heap.objs.size] := fun m => Nat.ne_of_lt (Heap.lt_size hl) (List.mem_singleton.mp m)
  unfold Builtin.List.listExtendWith
  refine wpAny_bind (wpAny_typeOf (T := "str") (v := .str z t) (typeIs_str s z t) ?_)
  have e1 : Builtin.List.listSameRef (.ref l) (.str z t) = false := rfl
  have e2 : (Value.type "str" == Value.type "list") = false := by decide
  have e3 : (Value.type "str" == Value.type "tuple") = false := by decide
  simp only [e1, e2, e3, Bool.or_false, Bool.false_eq_true, if_false]
  refine wpAny_bind (wpAny_pyIter_str fun o St hW h0 => ?_)
  refine wpAny_bind (wpAny_holding (no_hint ?_))
  rw [if_neg (by first | decide | decide +kernel)]
  have W := hW A.in1 hh
  refine wpAny_pure ⟨plainId_quiet PySem.F.plain_extend_loop _, codeAny_extend_loopS W.toS hz _ apart _ z.cps.size 0 _ _ _ rfl (Nat.zero_le _) h0 (Heap.get?_push_of_some _ hl) (ItemsOf.nil _) fun s' got c' hm hl' hgot => ?_⟩
  rw [Moved.eq_with hm]
  refine hR s'.heap s'.toks got c' (fun b ob hb e => hm.heap b ob (fun m => ?_) (Heap.get?_push_of_some _ e)) hl' hgot
  rcases List.mem_cons.mp m with q | m
  · exact hb q
  · exact absurd (Heap.lt_size e) (by rw [List.mem_singleton.mp m]; exact Nat.lt_irrefl _)
theorem begun {R : Result → Shared → Prop} (hh : A.handled = none) (z : Str) (t : Tok) (l : Addr) (hl : s.heap.get? l = some { cls := .type "list", data := .seq #[] }) (hz : z.cps.size ≤ sizeLine)
    (hR : ∀ h' tk got c', (∀ b o, b ≠ l → s.heap.get? b = some o → h'.get? b = some o) → h'.get? l = some { cls := .type "list", dict := none, data := .seq got c', slots := #[] } → ItemsOf (SignAt z) got z.cps.size → R (.ok (.ret .none)) { s with heap := h', toks := tk }) :
    wpAny (model prog w) A.in1 (Builtin.«list.__init__» ⟨[.ref l, .str z t], []⟩)
      (fun fin s' => match fin with | .done f => R (.ok f) s' | .again c' => c'.quiet = true ∧ codeAny (model prog w) A c' R s') (fun e s' => R (.error e) s') s := by
  show wpAny _ _ (do let old ← Builtin.List.listItems (.ref l); Builtin.List.listUpdate (.ref l) (fun _ => #[]); letGo old.toList.reverse; Builtin.List.listExtendWith (.ref l) (.str z t) .none) _ _ s
  refine wpAny_bind ?_
  unfold Builtin.List.listItems
  refine wpAny_bind (wpAny_seqItems hl rfl (wpAny_pure ?_))
  show wpAny _ _ (updateSeq l (fun _ => #[]) >>= fun _ => letGo (#[] : Array Value).toList.reverse >>= fun _ => Builtin.List.listExtendWith (.ref l) (.str z t) .none) _ _ s
  refine wpAny_bind (wpAny_updateSeq hl rfl ?_)
  have hl2 := Heap.get?_update_self (Obj.mapSeq (fun _ => (#[] : Array Value))) hl rfl
  refine wpAny_bind (wpAny_letGo ?_)
  exact grown hh z t l .none _ hl2 hz fun h' tk got c' hk e hi => hR h' tk got c' (fun b o hb q => hk b o hb ((Heap.get?_update_other _ _ (Ne.symm hb)).trans q)) e hi
theorem list_text {z : Str} {t : Tok} {Q : Value → Shared → Prop} (hh : A.handled = none) (hz : z.cps.size ≤ sizeLine)
    (hQ : ∀ h' tk got c', (∀ b o, s.heap.get? b = some o → h'.get? b = some o) → h'.get? s.heap.objs.size = some { cls := .type "list", dict := none, data := .seq got c', slots := #[] } → ItemsOf (SignAt z) got z.cps.size →
      Q (.ref s.heap.objs.size) { s with heap := h', toks := tk }) : wpAny (model prog w) A (call (.type "list") [.str z t]) Q E s := by
  refine callType_codes (Q₁ := fun obj s₁ => obj = .ref s.heap.objs.size ∧ s₁ = { s with heap := s.heap.push { cls := .type "list", data := .seq #[] } }) PySem.F.called_list (PySem.F.typeCall_list_1 _) PySem.F.entry_list_init
    (code_list_new _ ⟨rfl, rfl⟩) fun obj s₁ e => ?_
  obtain ⟨rfl, rfl⟩ := e
  have hl : (s.heap.push { cls := .type "list", data := .seq #[] }).get? s.heap.objs.size = some { cls := .type "list", data := .seq #[] } := Heap.get?_push_size _ rfl
  refine ⟨⟨_, hl, rfl⟩, PySem.F.args_list_init_2 _ _, begun (A := A.in1) hh z t _ hl hz fun h' tk got c' hk e hi => ?_⟩
  exact ⟨rfl, hQ h' tk got c' (fun b o q => hk b o (Nat.ne_of_lt (Heap.lt_size q)) (Heap.get?_push_of_some _ q)) e hi⟩
end
end Lw.Ls
namespace Lw
open PySem PySem.Spec PyProof.Rows L2
section
variable {X : Cx}
def signs (z : Str) : List V := z.cps.toList.map fun c => V.str ⟨#[c]⟩
theorem call_list_txt (hc : X.calm = true) : CallR X (.type "list") (fun xs H Q => ∃ z, xs = [.str z] ∧ z.cps.size ≤ sizeLine ∧ ∀ l, H l = none → Q (.ref l) (upd H l (.lst (signs z)))) := by
  intro pins s σ H xs us Q I r h
  obtain ⟨z, rfl, hz, q⟩ := h
  obtain ⟨u, rfl, ru⟩ := vals1 r
  obtain ⟨t, rfl⟩ := ru
  refine Ls.list_text (I.ok.hd hc) hz fun h' tk got c' hk e hi => ?_
  have lz : (signs z).length = z.cps.size := by unfold signs; rw [List.length_map, Array.length_toList]
  refine ⟨.ref s.heap.objs.size, upd H s.heap.objs.size (.lst (signs z)), I.laid hk (Nat.le_refl _) ⟨by rw [lz]; exact hz, got.toList, c', ?_, by rw [Array.toArray_toList]; exact e⟩, rfl, q _ (I.hok.fresh (Nat.le_refl _))⟩
  refine vals_of_idx _ _ (by rw [lz, Array.length_toList]; exact hi.1) fun j u hj => ?_
  obtain ⟨c, t', hcj, rfl⟩ := hi.2 j u (by rw [← Array.getElem?_toList]; exact hj)
  exact ⟨.str ⟨#[c]⟩, by unfold signs; rw [List.getElem?_map, Array.getElem?_toList, hcj]; rfl, ⟨_, rfl⟩⟩
end
end Lw
namespace Lw
open PySem PySem.Spec PyProof.Rows L2
open SX PySem.NumText TL LamX
abbrev sBen : Stmt := top 29
/-! ### a text, bent -/
theorem slice_in (a : List Nat) (l u : Option Int) : ∃ b, Txt.slice (S a) l u = S b ∧ (∀ c ∈ b, c ∈ a) ∧ b.length ≤ a.length := by
  have hl := Txt.slice_le (S a) l u
  unfold Txt.slice at hl ⊢
  split
  · exact ⟨a, rfl, fun _ h => h, Nat.le_refl _⟩
  · rename_i hc
    rw [if_neg hc, S_len] at hl
    refine ⟨_, rfl, fun c hc => ?_, ?_⟩
    · obtain ⟨i, _, hi⟩ := List.mem_filterMap.mp hc
      have := Array.mem_of_getElem? hi
      exact List.mem_toArray.mp this
    · exact hl
def spBen : Sp := fun vs H Q _ => ∃ (p pl : Addr) (n : Nat) (cs : List Nat), vs = [.ref p, .str (S cs)] ∧ Pen H p pl n ∧ n ≤ 900000 ∧ (∀ c ∈ cs, c < 128) ∧ cs.length ≤ 300 ∧
  ∀ (ds : List Nat) (H' : Hp), (∀ c ∈ ds, c < 128) → ds.length ≤ 3 * cs.length + 1 → Pen H' p pl (n + 3) → Kp p H H' → Q (.str (S ds)) H'
section
variable {P : Program} {w : World} {K : PySem.W.Frag} {mg : Str → Option Value} {base : Heap}
theorem scBen : FnScope ["_law_pen_here", "_law_page", "_law_sign", "_law_way", "_law_at_so"] ["_law_pen_here", "_law_page"] (C8.fnScope sBen) := C8.fnScope_by (by decide +kernel)
theorem cal_ben {f : Addr} {fd : FuncData} (F : C8.Def K mg "_law_bent" sBen f fd) (b : Binds K fd ["_law_pen_here", "_law_page"] []) (T : TxtN mg) (DD : C8.Cal P w K mg base 1 "_law_draw" spDraw []) (DP : C8.Cal P w K mg base 2 "_law_pick" (spPick K) []) : C8.Cal P w K mg base 3 "_law_bent" spBen [] := by
  refine C8.cal0 F b .nil scBen (fun vs H Q E h => ?_) (fun cdv A outer st H vs Q E hr h => ?_)
  · obtain ⟨p, pl, n, cs, rfl, _⟩ := h
    rfl
  · obtain ⟨p, pl, n, cs, rfl, hp, hn, h128, hl, k⟩ := h
    refine ⟨_, (pss_cons (ps_par (i := 3) (j := 4) rfl scBen.nd rfl rfl (by decide) rfl rfl (pa_cons (C8.pe_c DD hr (by decide) (by rfl) (pa_cons (pv 0) (pa_cons pe_int pa_nil))) (pa_cons (C8.pe_c DD hr (by decide) (by rfl) (pa_cons (pv 0) (pa_cons (pe_op op_add (pe_callB call_len_str (by rfl) T.n_len (by decide +kernel) (pa_cons (pv 1) pa_nil)) pe_int) pa_nil))) pa_nil)) (by rfl))
  (pss_cons (ps_set (i := 2) scBen.nd rfl (Or.inl rfl) (C8.pe_c DP hr (by decide) (by rfl) (pa_cons (pv 0) (pa_cons (pe_op op_cat (pe_callTy (call_list_txt rfl) (by rfl) T.n_list (by decide +kernel) (pa_cons pe_str pa_nil)) (pe_lst (pa_cons pe_str (pa_cons pe_str (pa_cons pe_str (pa_cons pe_str (pa_cons pe_str (pa_cons pe_str (pa_cons pe_str (pa_cons pe_str pa_nil)))))))))) pa_nil))))
  (pss_cons (ps_if (pt_cmpR op_eq (pv 3) pe_int (nomark _)) (pss_one (ps_ret (pe_op op_add_str (pe_op op_add_str (pe_slice C8.sl_txt (pv 1) po_none (po_some (pv 4))) (pv 2)) (pe_slice C8.sl_txt (pv 1) (po_some (pv 4)) po_none)))) pss_nil)
  (pss_cons (ps_if (pt_cmpR op_eq (pv 3) pe_int (nomark _)) (pss_one (ps_ret (pe_op op_add_str (pe_slice C8.sl_txt (pv 1) po_none (po_some (pv 4))) (pe_slice C8.sl_txt (pv 1) (po_some (pe_op op_add (pv 4) pe_int)) po_none)))) pss_nil)
  (pss_cons (ps_if (pt_cmpR op_eq (pv 3) pe_int (nomark _)) (pss_one (ps_ret (pe_op op_add_str (pe_op op_add_str (pe_slice C8.sl_txt (pv 1) po_none (po_some (pv 4))) (pv 2)) (pe_slice C8.sl_txt (pv 1) (po_some (pe_op op_add (pv 4) pe_int)) po_none)))) pss_nil)
  (pss_one (ps_ret (pe_op op_add_str (pe_op op_add_str (pe_slice C8.sl_txt (pv 1) po_none (po_some (pv 4))) (pe_slice C8.sl_txt (pv 1) (po_some (pv 4)) (po_some (pe_op op_add (pv 4) pe_int)))) (pe_slice C8.sl_txt (pv 1) (po_some (pv 4)) po_none))))))))), ?_⟩
    have hs : (S cs).length ≤ sizeLine := by rw [S_len]; exact Nat.le_trans hl (by decide)
    refine ⟨_, rfl, p, pl, n, 4, rfl, by decide, by decide, hp, by omega, fun r1 H1 r10 r11 hp1 k1 => ?_⟩
    refine ⟨_, rfl, _, rfl, _, rfl, hs, _, _, rfl, rfl, p, pl, n + 1, _, rfl, ?_, ?_, hp1, by omega, fun r2 H2 r20 r21 hp2 k2 => ?_⟩
    · rw [S_len]; omega
    · rw [S_len]; omega
    refine ⟨_, _, rfl, ?_⟩
    refine ⟨_, rfl, _, rfl, (by decide +kernel), fun l1 hl1 => ⟨(by show 8 ≤ sizeLine; decide), fun l2 hl2 => ?_⟩⟩
    have n12 : l1 ≠ l2 := fun e => by rw [← e, upd_same] at hl2; cases hl2
    refine ⟨l1, l2, _, _, rfl, rfl, by rw [upd_ne n12]; exact upd_same, upd_same, (by decide +kernel), fun q hq => ?_⟩
    have s1 := same_new (o := HO.lst (signs (Str.ofString "0123456789"))) hl1
    have s2 := same_new (o := HO.lst [V.str (Str.ofString "-"), V.str (Str.ofString "/"), V.str (Str.ofString " "), V.str (Str.ofString "+"), V.str (Str.ofString "."), V.str (Str.ofString "a"), V.str (Str.ofString "_"), V.str (Str.ofString "\n")]) hl2
    have s3 := (s1.trans s2).trans (same_new (o := HO.lst (signs (Str.ofString "0123456789") ++ [V.str (Str.ofString "-"), V.str (Str.ofString "/"), V.str (Str.ofString " "), V.str (Str.ofString "+"), V.str (Str.ofString "."), V.str (Str.ofString "a"), V.str (Str.ofString "_"), V.str (Str.ofString "\n")])) hq)
    have hqf := (s1.trans s2).free hq
    refine ⟨p, pl, q, n + 2, _, rfl, hp2.keep s3, by omega, SqL.of upd_same, hp2.ne_new hqf, (by decide +kernel), (by decide +kernel), fun j v H3 hj hp3 k3 => ?_⟩
    have kp : Kp p H H3 := ((k1.trans k2).trans (Kp.of s3)).trans k3
    obtain ⟨c, rfl, hc⟩ : ∃ c, v = V.str (S [c]) ∧ c < 128 := by
      rcases List.mem_append.mp (List.mem_of_getElem? hj) with hv | hv
      · obtain ⟨c, hc, rfl⟩ := List.mem_map.mp hv
        have all : ∀ c ∈ (Str.ofString "0123456789").cps.toList, c < 128 := by decide +kernel
        exact ⟨c, rfl, all c hc⟩
      · simp only [List.mem_cons, List.not_mem_nil, or_false] at hv
        rcases hv with rfl | rfl | rfl | rfl | rfl | rfl | rfl | rfl
        · exact ⟨45, rfl, by decide⟩
        · exact ⟨47, rfl, by decide⟩
        · exact ⟨32, rfl, by decide⟩
        · exact ⟨43, rfl, by decide⟩
        · exact ⟨46, rfl, by decide⟩
        · exact ⟨97, rfl, by decide⟩
        · exact ⟨95, rfl, by decide⟩
        · exact ⟨10, rfl, by decide⟩
    have fin : ∀ t : List Nat, (∀ d ∈ t, d = c ∨ d ∈ cs) → t.length ≤ 3 * cs.length + 1 → Q (.str (S t)) H3 := fun t ht htl => k t H3 (fun d hd => (ht d hd).elim (fun e => by rw [e]; exact hc) (h128 d)) htl hp3 kp
    obtain ⟨a1, eA, mA, lA⟩ := slice_in cs none (some r2)
    obtain ⟨a2, eB, mB, lB⟩ := slice_in cs (some r2) none
    obtain ⟨a3, eC, mC, lC⟩ := slice_in cs (some (r2 + 1)) none
    obtain ⟨a4, eD, mD, lD⟩ := slice_in cs (some r2) (some (r2 + 1))
    have big : 1000 ≤ sizeLine := by decide
    have fits : ∀ x y : List Nat, x.length + y.length ≤ 1000 → (S x).length + (S y).length ≤ sizeLine := fun x y h => by rw [S_len, S_len]; omega
    have fit3 : ∀ x y z : List Nat, x.length + y.length + z.length ≤ 1000 → (S x ++ S y).length + (S z).length ≤ sizeLine := fun x y z h => by rw [S_cat, S_len, S_len, List.length_append]; omega
    refine ⟨_, rfl, rfl, _, rfl, ite2 (fun c0 => ?_) (fun c0 => ?_)⟩
    · refine ⟨_, rfl, _, rfl, _, rfl, S cs, rfl, hs, _, rfl, S a1, S [c], congrArg V.str eA, rfl, fits a1 [c] (by show _ + 1 ≤ _; omega), _, rfl, _, rfl, _, rfl, S cs, rfl, hs, S a1 ++ S [c], S a2, rfl, congrArg V.str eB, fit3 a1 [c] a2 (by show _ + 1 + _ ≤ _; omega), ?_⟩
      rw [S_cat, S_cat]
      refine fin _ (fun d hd => ?_) ?_
      · simp only [List.mem_append, List.mem_singleton] at hd
        rcases hd with (hd | hd) | hd
        · exact .inr (mA d hd)
        · exact .inl hd
        · exact .inr (mB d hd)
      · simp only [List.length_append, List.length_singleton]; omega
    refine ⟨_, rfl, rfl, _, rfl, ite2 (fun c1 => ?_) (fun c1 => ?_)⟩
    · refine ⟨_, rfl, _, rfl, _, rfl, S cs, rfl, hs, _, rfl, _, rfl, _, _, rfl, rfl, _, rfl, S cs, rfl, hs, S a1, S a3, congrArg V.str eA, congrArg V.str eC, fits a1 a3 (by omega), ?_⟩
      rw [S_cat]
      refine fin _ (fun d hd => ?_) ?_
      · rcases List.mem_append.mp hd with hd | hd
        · exact .inr (mA d hd)
        · exact .inr (mC d hd)
      · simp only [List.length_append]; omega
    refine ⟨_, rfl, rfl, _, rfl, ite2 (fun c2 => ?_) (fun c2 => ?_)⟩
    · refine ⟨_, rfl, _, rfl, _, rfl, S cs, rfl, hs, _, rfl, S a1, S [c], congrArg V.str eA, rfl, fits a1 [c] (by show _ + 1 ≤ _; omega), _, rfl, _, rfl, _, _, rfl, rfl, _, rfl, S cs, rfl, hs, S a1 ++ S [c], S a3, rfl, congrArg V.str eC, fit3 a1 [c] a3 (by show _ + 1 + _ ≤ _; omega), ?_⟩
      rw [S_cat, S_cat]
      refine fin _ (fun d hd => ?_) ?_
      · simp only [List.mem_append, List.mem_singleton] at hd
        rcases hd with (hd | hd) | hd
        · exact .inr (mA d hd)
        · exact .inl hd
        · exact .inr (mC d hd)
      · simp only [List.length_append, List.length_singleton]; omega
    · refine ⟨_, rfl, _, rfl, _, rfl, S cs, rfl, hs, _, rfl, _, rfl, _, rfl, _, rfl, _, _, rfl, rfl, _, rfl, S cs, rfl, hs, S a1, S a4, congrArg V.str eA, congrArg V.str eD, fits a1 a4 (by omega), _, rfl, _, rfl, _, rfl, S cs, rfl, hs, S a1 ++ S a4, S a2, rfl, congrArg V.str eB, fit3 a1 a4 a2 (by omega), ?_⟩
      rw [S_cat, S_cat]
      refine fin _ (fun d hd => ?_) ?_
      · simp only [List.mem_append] at hd
        rcases hd with (hd | hd) | hd
        · exact .inr (mA d hd)
        · exact .inr (mD d hd)
        · exact .inr (mB d hd)
      · simp only [List.length_append]; omega
end
end Lw
namespace Lw
open PySem PySem.Spec PyProof.Rows L2
end Lw
namespace Lw.Ow
open PySem PySem.Spec PyProof.Rows PySem.W PySem.Calls
/-! ### != by the own == -/
theorem sl_obj_ne : Slot "object" "__ne__" "object.__ne__" :=
  .of (owner := "object") (n := "__ne__") (by rw [typeLookup_type, builtinLookup_eq_fast]; kernel_rfl) (by decide +kernel) (by decide +kernel) (by decide +kernel)
    (by first | exact .inl (by decide +kernel) | exact .inr (by decide +kernel)) (by rw [isSubtype_type]; kernel_rfl)
section
variable {prog : Program} {w : World} {A : Around} {E : Value → Shared → Prop} {s : Shared} {K : Frag} {x C f : Addr} {ox : Obj} {od : Option Obj}
theorem ifBound_S {M : Model} {name : Str} {id : String} {args : List Value} {Q : Option Value → Shared → Prop} (X : K.In s.heap) (I : InstAt s.heap x ox C od) (hs : findIn K (.ref C) name = some (some (.builtin id))) (hb : ∀ self, bindSpecial (.builtin id) self = pure (.builtin id, [self]))
    (h : wpAny M A (call (.builtin id) (.ref x :: args)) (fun v => Q (some v)) E s) : wpAny M A (callSpecialIfBound? (.ref x) name args) Q E s := by
  simp only [callSpecialIfBound?, bindSpecialIfBound?]
  refine wpAny_holding (wpAny_bind (wpAny_bind (wpAny_bind (I.type.here ((looks_findIn X hs).here ?_)))))
  refine wpAny_bind (wpAny_askSetting (wpAny_ite ?_))
  have fin : wpAny M A (call (.builtin id) ([.ref x] ++ args) >>= fun v => pure (some v)) Q E s := wpAny_bind (wpAny_mono h (fun v s' h' => wpAny_pure h') fun _ _ h' => h')
  split
  · exact wpAny_bind ((Looks.of_pure (hb _)).here (wpAny_pure (by exact fin)))
  · exact wpAny_tryCatch (wpAny_bind ((Looks.of_pure (hb _)).here (wpAny_pure (by exact fin))))
theorem try_ne {b : Value} {Q : Value → Shared → Prop} (hu : A.in1.units < cLine) (X : K.In s.heap) (I : InstAt s.heap x ox C od) (hm : mroIn K C (.type "object") = some true) (hn : findIn K (.ref C) "__ne__" = some (some (.builtin "object.__ne__"))) (he : findIn K (.ref C) "__eq__" = some (some (.ref f))) (hf : isFn K (.ref f) = true)
    (h : wpAny (model prog w) A.in1 (call (.ref f) [.ref x, b]) (fun v s' => ∃ c, v = .bool c ∧ Q (.bool (!c)) s') E s) : wpAny (model prog w) A (tryCompare (.ref x) "__ne__" b) (fun r s' => ∃ v, r = some v ∧ Q v s') E s := by
  unfold tryCompare
  refine wpAny_bind (ifBound_S X I hn sl_obj_ne.bind (wpAny_call (codeAny_call_builtin sl_obj_ne.plain F.cmpEntry_ne (check_slot (i := "object.__ne__") (owner := "object") (n := "__ne__") F.cmpKind_ne F.cmpSplit_ne (I.type.andThen (looks_mroIn X hm)) (F.cmpArgs_ne _ _) ?_))))
  unfold Builtin.«object.__ne__»
  refine wpAny_bind (wpAny_of_eq (a := (Value.ref x, [b])) rfl ?_)
  refine wpAny_bind (m := cRoomFor _ _) (wpAny_cRoomFor hu ?_)
  refine wpAny_bind (m := callSpecialIfBound? (.ref x) (Str.ofString "__eq__") _) (ifBound_K X I he hf (wpAny_mono h (fun r s' hq => ?_) fun _ _ y => y))
  obtain ⟨c, rfl, q⟩ := hq
  refine wpAny_bind (m := truthy (.bool c)) (wpAny_truthy_bool ?_)
  first | exact wpAny_pure (wpAny_pure ⟨_, rfl, q⟩) | exact wpAny_pure ⟨_, rfl, q⟩ | exact ⟨_, rfl, wpAny_pure ⟨_, rfl, q⟩⟩
theorem cmp_ne {b tb : Value} {Q : Value → Shared → Prop} (hu : A.units < cLine) (X : K.In s.heap) (I : InstAt s.heap x ox C od) (hb : Looks (model prog w) s.heap (typeOf b) tb) (hn : notFirst K C tb = true)
    (one : wpAny (model prog w) A (tryCompare (.ref x) "__ne__" b) (fun r s' => ∃ v, r = some v ∧ Q v s') E s) : wpAny (model prog w) A (richCompare .NotEq (.ref x) b) Q E s := by
  unfold richCompare
  simp only [oneThing_ref]
  refine wpAny_holding (wpAny_bind (wpAny_cRoomFor hu ?_))
  refine wpAny_bind (I.type.here (wpAny_bind (hb.here ?_)))
  split
  · rename_i q
    have e : subIn K tb (.ref C) = some false := by
      rcases Bool.or_eq_true_iff.mp hn with e | e
      · rw [beq_iff_eq.mp e] at q; simp at q
      · exact beq_iff_eq.mp e
    refine wpAny_bind ((looks_subIn X e).here ?_)
    simp only [Bool.false_eq_true, if_false]
    refine wpAny_bind (wpAny_mono one (fun r s' z => ?_) fun _ _ e => e)
    obtain ⟨v, rfl, hq⟩ := z
    exact wpAny_pure hq
  · refine wpAny_bind (wpAny_pure ?_)
    simp only [Bool.false_eq_true, if_false]
    refine wpAny_bind (wpAny_mono one (fun r s' z => ?_) fun _ _ e => e)
    obtain ⟨v, rfl, hq⟩ := z
    exact wpAny_pure hq
end
end Lw.Ow
namespace Lw
open PySem PySem.Spec PyProof.Rows L2 LamX
section
variable {X : Cx} {C f : Addr} {k j : Nat} {sp : Sp} {E : XK} {pins : List (Addr × Obj)} {σ : L2.St} {H : Hp} {s : Shared}
structure NeC (K : PySem.W.Frag) (C : Addr) : Prop where
  m : PySem.W.mroIn K C (.type "object") = some true
  n : PySem.W.findIn K (.ref C) "__ne__" = some (some (.builtin "object.__ne__"))
def Nb (Q : VK) : VK := fun v H => ∃ c, v = .bl c ∧ Q (.bl (!c)) H
def rNR (C : Addr) (sp : Sp) (E : XK) : R2 := fun x y H Q => ∃ a dx fs b dy gs, x = .ref a ∧ H a = some (.ins C dx fs) ∧ y = .ref b ∧ H b = some (.ins C dy gs) ∧ sp [x, y] H (Nb Q) E
theorem op_neR (nc : NeC X.K C) (M : MetX X.prog X.w X.K X.mg X.base k C "__eq__" sp) (hx : Passes (L2.CX X.prog X.w) X E) (hr : Room j X.A) (hk : k + 1 ≤ j) : OpR X (compareOp .NotEq) (rNR C sp E) := by
  intro pins s σ H x y v u Q I rx ry h
  obtain ⟨a, dx, fs, b, dy, gs, rfl, ha, rfl, hb, q⟩ := h
  cases (show v = Value.ref a from rx)
  cases (show u = Value.ref b from ry)
  obtain ⟨_, _, J⟩ := ins_at I ha
  obtain ⟨_, _, J'⟩ := ins_at I hb
  have hr1 : Room k X.A.in1 := Room.in1 (hr.mono hk)
  obtain ⟨g, hm, w⟩ := run_metA (us := [.ref a, .ref b]) (vs := [.ref a, .ref b]) M hx hr1 I.env0.in1 I (.cons rfl (.cons rfl .nil)) q
  refine Ow.cmp_ne hr.units0 I.kIn J J'.type (by simp [PySem.W.notFirst]) (Ow.try_ne hr1.units0 I.kIn J nc.m nc.n hm.at_ hm.fn (wpAny_mono w (fun v s' z => ?_) fun _ _ x => x))
  obtain ⟨z', H', I', rz, c, rfl, qz⟩ := z
  cases (show v = Value.bool c from rz)
  exact ⟨c, rfl, .bl (!c), H', I', rfl, qz⟩
end
theorem one_log {u : Int} (h : u.natAbs.log2 < 4000) : u.natAbs.log2 + (1 : Int).natAbs.log2 < 1000000 := by
  have : (1 : Int).natAbs.log2 = 0 := by decide
  omega
abbrev sEq : Stmt := inClass (top 15) 19
abbrev sMul : Stmt := inClass (top 15) 8
structure NoB (K : PySem.W.Frag) (C : Addr) : Prop where
  i : PySem.W.kitOne K (.ref C) (.type "int") = some false
  b : PySem.W.kitOne K (.ref C) (.type "bool") = some false
  s : PySem.W.kitOne K (.ref C) (.type "str") = some false
/-- Ratio.of, ready to be called -/
structure OfM (P : Program) (w : World) (K : PySem.W.Frag) (mg : Str → Option Value) (base : Heap) (C D p g : Addr) (fdg : FuncData) : Prop where
  S : SMet K C "of" p g
  F : FnOk P w K mg base (L2.CX P w) 5 g fdg ["value"] (spOf K C D)
  b : Binds K fdg ["value"] []
def spEqR (C : Addr) : Sp := fun vs H Q _ => ∃ (a b : Addr) (o u p q : Int), vs = [.ref a, .ref b] ∧ RatAt C H a o u ∧ RatAt C H b p q ∧ Q (.bl (decide (o = p) && decide (u = q))) H
/-- a ratio times an integer -/
def spMulW (K : PySem.W.Frag) (C : Addr) : Sp := fun vs H Q _ => ∃ (a : Addr) (o u i : Int), vs = [.ref a, .int i] ∧ RatAt C H a o u ∧ 0 < u ∧ Small u ∧ o.natAbs < 2 ^ 100000 ∧ Small i ∧
  ∀ c H', Same H H' → H c = none → RatAt C H' c (lov (o * i) u) (lun (o * i) u) → Q (.ref c) H'
theorem big_log {i : Int} (h : i.natAbs < 2 ^ 100000) : i.natAbs.log2 < 100000 := by
  by_cases z : i.natAbs = 0
  · rw [z]; decide
  · exact (Nat.log2_lt z).mpr h
theorem dec_intp {i j : Int} : decide (V.int i = V.int j) = decide (i = j) := decide_eq_decide.mpr ⟨fun e => V.int.inj e, fun e => by rw [e]⟩
section
variable {P : Program} {w : World} {K : PySem.W.Frag} {mg : Str → Option Value} {base : Heap}
theorem scEq : FnScope ["self", "other"] ["self", "other"] (C8.fnScope sEq) := C8.fnScope_by (by decide +kernel)
theorem fn_eqR {C f1 : Addr} {fd1 : FuncData} (F : C8.Fun K "__eq__" "Ratio.__eq__" sEq f1 fd1) (T : Txt mg) (hm : mg "Ratio" = some (.ref C)) (cl : Cls K C) (n1 : NoAttr K C "over") (n2 : NoAttr K C "under") (I : C8.InsC K C) (nb : NoB K C) (DI : C8.Cal P w K mg base 1 "is_integer" (spIsInt K) []) :
    FnOk P w K mg base (L2.CX P w) 3 f1 fd1 ["self", "other"] (spEqR C) := by
  obtain ⟨oc, od, dV, kV, doc, pm, an, cdv, ct, osl, rfl, lk, hcd⟩ := F.ex
  refine fn_of lk hcd scEq (fun vs H Q E h => ?_) fun A outer s H vs Q E hr h => ?_
  · obtain ⟨a, b, o, u, p, q, rfl, _⟩ := h
    rfl
  · obtain ⟨a, b, o, u, p, q, rfl, ⟨dxa, ha⟩, ⟨dxb, hb⟩, go⟩ := h
    refine ⟨_, (pss_cons (ps_if (pt_val (C8.pe_c DI hr (by decide) (by rfl) (pa_cons (pv 1) pa_nil))) (pss_one (ps_ret (pe_and (pe_cmpR op_eq (pe_fld (pv 0) rfl) pe_int (nomark _)) (pe_one (pe_cmpR op_eq (pe_fld (pv 0) rfl) (pv 1) (nomark _)))))) pss_nil)
  (pss_one (ps_ret (pe_and (pe_callB call_isz (by rfl) T.n_isinstance (by decide +kernel) (pa_cons (pv 1) (pa_cons (pe_glob (v := .ref C) (by rfl) hm rfl) pa_nil))) (pe_and (pe_cmpR op_eq (pe_fld (pv 0) rfl) (pe_fld (pv 1) rfl) (nomark _)) (pe_one (pe_cmpR op_eq (pe_fld (pv 0) rfl) (pe_fld (pv 1) rfl) (nomark _)))))))), ?_⟩
    have ty : TyZ K H (.ref b) (.ref C) := .x (.base (.ins hb I.cl I.ha I.hn I.htk I.hm))
    refine ⟨_, rfl, .ref b, rfl, .obj ty nb.i nb.b nb.s, ?_⟩
    refine ⟨_, rfl, iteF ?_⟩
    refine ⟨_, rfl, _, .ref C, .ref C, .ref C, true, rfl, .own C, ty, I.me, _, rfl, iteT ?_⟩
    refine ⟨_, rfl, a, C, dxa, _, _, rfl, ha, cl, n1, flds_over o u, _, rfl, b, C, dxb, _, _, rfl, hb, cl, n1, flds_over p q, rfl, ?_⟩
    rw [dec_intp]
    cases hz : decide (o = p) with
    | false =>
      rw [hz, Bool.false_and] at go
      exact ⟨_, rfl, iteF go⟩
    | true =>
      rw [hz, Bool.true_and] at go
      refine ⟨_, rfl, iteT ⟨_, rfl, a, C, dxa, _, _, rfl, ha, cl, n2, flds_under o u, _, rfl, b, C, dxb, _, _, rfl, hb, cl, n2, flds_under p q, rfl, ?_⟩⟩
      rw [dec_intp]
      exact go
theorem scMul : FnScope ["self", "other", "factor"] ["self", "other"] (C8.fnScope sMul) := C8.fnScope_by (by decide +kernel)
theorem fn_mulW {C D f g f1 pO : Addr} {fd fdg fd1 : FuncData} {ds : List Value} (F : C8.Fun K "__mul__" "Ratio.__mul__" sMul f1 fd1) (RM : RatM P w K mg base C D f fd ds) (OM : OfM P w K mg base C D pO g fdg) (cl : Cls K C) (n1 : NoAttr K C "over") (n2 : NoAttr K C "under") (hk : PySem.W.kitOne K (.type "int") (.ref C) = some false) : FnOk P w K mg base (L2.CX P w) 7 f1 fd1 ["self", "other"] (spMulW K C) := by
  obtain ⟨oc, od, dV, kV, doc, pm, an, cdv, ct, osl, rfl, lk, hcd⟩ := F.ex
  refine fn_of lk hcd scMul (fun vs H Q E h => ?_) fun A outer s H vs Q E hr h => ?_
  · obtain ⟨a, o, u, i, rfl, _⟩ := h
    rfl
  · obtain ⟨a, o, u, i, rfl, ⟨dxa, ha⟩, u0, su, bo, si, k⟩ := h
    refine ⟨_, (pss_cons (ps_set (i := 2) scMul.nd rfl (Or.inl rfl) (pe_static (pe_glob (v := .ref C) (by rfl) RM.hm rfl) OM.S OM.F (hr.mono (by decide)) OM.b .nil (passes_call (takes_of rfl rfl rfl rfl) (fun _ _ _ _ z => z)) (pa_cons (pv 1) pa_nil)))
  (pss_one (ps_ret (pe_make RM.M RM.F (hr.mono (by decide)) (by rfl) RM.hm RM.b2 .nil (passes_call (takes_of rfl rfl rfl rfl) (fun _ _ _ _ z => z)) (pa_cons (pe_op op_mulW (pe_fld (pv 0) rfl) (pe_fld (pv 2) rfl)) (pa_cons (pe_op op_mulW (pe_fld (pv 0) rfl) (pe_fld (pv 2) rfl)) pa_nil)))))), ?_⟩
    refine ⟨rfl, _, rfl, .int i, rfl, .inr ⟨.type "int", .int _, .x (.base (.int _)), hk, fun j e => ?_, fun hv => by cases hv⟩⟩
    cases e
    refine fun b H' s1 hb0 hrat => ?_
    rw [(lov_1 _).1, (lov_1 _).2] at hrat
    obtain ⟨dxb, hb⟩ := hrat
    have ha' := s1 _ _ ha
    have l1 := big_log bo
    have l2 := small_log si
    have l3 := small_log su
    refine ⟨_, rfl, a, C, dxa, _, _, rfl, ha', cl, n1, flds_over o u, _, rfl, b, C, dxb, _, _, rfl, hb, cl, n1, flds_over i 1, _, _, rfl, rfl, (by show o.natAbs.log2 + i.natAbs.log2 < 1000000; omega), ?_⟩
    refine ⟨_, rfl, a, C, dxa, _, _, rfl, ha', cl, n2, flds_under o u, _, rfl, b, C, dxb, _, _, rfl, hb, cl, n2, flds_under i 1, _, _, rfl, rfl, (one_log l3), fun x dx hx hdx ne => ?_⟩
    show spRat K C D (.ref x :: ([V.int (o * i), V.int (u * 1)] ++ [])) _ _ _
    rw [Int.mul_one]
    exact makesW (t := o * i) (b := u) (by omega) su hx hdx ne fun H2 s2 r => k x H2 (s1.trans s2) (s1.free hx) r
end
end Lw
namespace Lw
open PySem PySem.Spec PyProof.Rows L2
open LamX ClX
abbrev sHea : Stmt := top 30
/-- the caught error's class, and the ratios' -/
structure Hrd (K : PySem.W.Frag) (mg : Str → Option Value) (C D L : Addr) : Prop where
  xf : XfC K D
  noL : PySem.W.findIn K (.ref D) "line" = some none
  noW : PySem.W.findIn K (.ref D) "word" = some none
  xc : Hx.XCls K D
  me : PySem.W.kitOne K (.ref D) (.ref D) = some true
  ml : mg "LateError" = some (.ref L)
  md : mg "BadText" = some (.ref D)
  ex : PySem.W.exmOne K (.ref D) (.ref L) = some true
  I : C8.InsC K C
  hm : mg "Ratio" = some (.ref C)
  cl : Cls K C
  n1 : NoAttr K C "over"
  n2 : NoAttr K C "under"
def TTheard (K : PySem.W.Frag) (C D : Addr) : (XK → Hp → VK → Prop) → Hp → VK → Prop := fun tl H Q =>
  tl (fun cls d H1 => cls = .ref D ∧ ∃ (dd : Addr) (fs : List (Str × V)) (l w : Int), d = some dd ∧ H1 dd = some (.xd fs) ∧ fs.lookup ("line" : Str) = some (.int l) ∧ fs.lookup ("word" : Str) = some (.int w) ∧ ∀ t H3, Same H1 H3 → H1 t = none → H3 t = some (.lst [.int l, .int w]) → Q (.ref t) H3) H
    (fun x H1 => ∃ a o u, x = .ref a ∧ RatAt C H1 a o u ∧ ∀ t H3, Same H1 H3 → H1 t = none → H3 t = some (.tup [.int o, .int u]) → Q (.ref t) H3)
abbrev NHea : List Str := ["_law_ask", "_law_caught", "_law_made", "error"]
theorem scHea : FnScope NHea ["_law_ask"] (C8.fnScope sHea) := C8.fnScope_by (by decide +kernel)
theorem pe_weak {X : Cx} {e : Expr} {te : TE} (he : PE X e te) : PE X e (fun σ H Q => ∃ Qx : VK, te σ H Qx ∧ ∀ x H1, Qx x H1 → Q x H1) :=
  ⟨fun pins s σ H Q I ⟨Qx, h, m⟩ => wpAny_mono (he.run pins s σ H Qx I h) (fun v s' ⟨x, H', I', r, q⟩ => ⟨x, H', I', r, m _ _ q⟩) (fun _ _ e => e)⟩
theorem heard_gives {X : Cx} {q : Str} {g C D L : Addr} {cdg : Value} (R : Hrd X.K X.mg C D L) (T : Txt X.mg) (hr0 : Room 1 X.A) :
    GivesTo X NHea "_law_heard" (C8.fnScope sHea) g cdg (C8.fnBody sHea) "_law_ask" q (TTheard X.K C D) := by
  intro f c' s H Q tl act hc h
  have hr : Room 0 (cxOf C8.CX0 X.prog X.w X.K X.mg X.base NHea "_law_heard" (C8.fnScope sHea) g cdg X.A X.stack s H C8.E0).nox.A := hr0.deeper _
  refine ⟨_, pss_cons (ps_set (i := 1) scHea.nd rfl (Or.inl rfl) pe_non)
    (pss_cons (ps_try_held (X := (cxOf C8.CX0 X.prog X.w X.K X.mg X.base NHea "_law_heard" (C8.fnScope sHea) g cdg X.A X.stack s H C8.E0).nox) (c := .ref L) (i := 3)
      (tb := fun W Dn σ H => ∃ Ech : XK, (∀ cls d σ' H', Ech cls d H' → W cls d σ' H') ∧ σ[0]? = some (some (.ref f)) ∧ H c' = some (CodeO c' q) ∧ ∃ Qx : VK, tl Ech H Qx ∧ ∀ x H1, Qx x H1 → Dn.nx (σ.set 2 (some x)) H1)
      rfl rfl scHea.nd rfl (by rfl) ⟨by rfl, by decide, .inl R.ml⟩ rfl (fun W pn xe tk _ => ?_) (fun a oe cls d pn _ _ => pss_one (ps_set (i := 1) scHea.nd rfl (Or.inl rfl) (pv 3))))
    (pss_cons (ps_if (pt_cmpR op_notN (pv 1) pe_non (nomark _)) (pss_one (ps_ret (pe_ifExp (pt_val (pe_callB call_isw (by rfl) T.n_isinstance (by decide +kernel) (pa_cons (pv 1) (pa_cons (pe_glob (v := .ref D) (by rfl) R.md rfl) pa_nil))))
      (pe_lst (pa_cons (pe_held R.xf R.noL (pv 1)) (pa_cons (pe_held R.xf R.noW (pv 1)) pa_nil)))
      (pe_lst (pa_cons pe_str pa_nil))))) pss_nil)
    (pss_one (ps_ret (pe_ifExp (pt_val (pe_callB call_isz (by rfl) T.n_isinstance (by decide +kernel) (pa_cons (pv 2) (pa_cons (pe_glob (v := .ref C) (by rfl) R.hm rfl) pa_nil))))
      (pe_tup (pa_cons (pe_fld (pv 2) rfl) (pa_cons (pe_fld (pv 2) rfl) pa_nil)))
      (pe_lst (pa_cons pe_str pa_nil))))))), ?_⟩
  · refine ⟨fun pins s' σ H' Dn I h' => ?_⟩
    obtain ⟨Ech, hW, h1, h2, h3⟩ := h'
    obtain ⟨Qx, h3, h4⟩ := h3
    refine PSs.run (t := tAsg (fun σ H Q => ∃ Qx : VK, (fun σZ HZ Q => σZ[0]? = some (some (V.ref f)) ∧ HZ c' = some (CodeO c' q) ∧ tl Ech HZ Q) σ H Qx ∧ ∀ x H1, Qx x H1 → Q x H1) (gName 2)) ?hp pins s' σ H' Dn I ⟨Qx, ⟨h1, h2, h3⟩, h4⟩
    case hp => exact pss_one (ps_set (i := 2) scHea.nd rfl (Or.inl rfl) (pe_weak (act W pn xe Ech _ _ tk hW)))
  · refine ⟨fun cls d H1 => cls = .ref D ∧ ∃ (dd : Addr) (fs : List (Str × V)) (l w : Int), d = some dd ∧ H1 dd = some (.xd fs) ∧ fs.lookup ("line" : Str) = some (.int l) ∧ fs.lookup ("word" : Str) = some (.int w) ∧ ∀ t H3, Same H1 H3 → H1 t = none → H3 t = some (.lst [.int l, .int w]) → Q (.ref t) H3, fun cls d σ' H' z => ?_, rfl, hc, ?_⟩
    · obtain ⟨rfl, dd, fs, l, w, rfl, e1, f1, f2, go⟩ := z
      intro hl
      obtain ⟨x0, x1, x2, x3, rfl⟩ : ∃ x0 x1 x2 x3, σ' = [x0, x1, x2, x3] := by
        match σ', hl with
        | [x0, x1, x2, x3], _ => exact ⟨x0, x1, x2, x3, rfl⟩
      refine ⟨R.ex, fun a na => ⟨_, rfl, fun na' => ?_⟩⟩
      have dx : dd ≠ a := fun e => by rw [e, na] at e1; cases e1
      have s1 : Same H' (upd H' a (ExO a (.ref D) (some dd))) := same_new na
      refine ⟨_, rfl, rfl, _, rfl, iteT ?_⟩
      refine ⟨_, rfl, _, .ref D, .ref D, .ref D, true, rfl, .own D, .held upd_same (s1 _ _ e1) R.xc, R.me, _, rfl, iteT ?_⟩
      refine ⟨_, rfl, a, dd, _, _, rfl, upd_same, s1 _ _ e1, f1, _, rfl, a, dd, _, _, rfl, upd_same, s1 _ _ e1, f2, (by show 2 ≤ sizeLine; decide), fun t ft => ?_⟩
      exact go t _ (s1.trans (same_new ft)) (s1.free ft) upd_same
    · refine ⟨_, h, ?_⟩
      rintro x H1 ⟨a, o, u, rfl, ⟨dx, ha⟩, go⟩
      refine ⟨_, rfl, rfl, _, rfl, iteF ?_⟩
      refine ⟨_, rfl, _, .ref C, .ref C, .ref C, true, rfl, .own C, .x (.base (.ins ha R.I.cl R.I.ha R.I.hn R.I.htk R.I.hm)), R.I.me, _, rfl, iteT ?_⟩
      refine ⟨_, rfl, a, C, dx, _, _, rfl, ha, R.cl, R.n1, flds_over o u, _, rfl, a, C, dx, _, _, rfl, ha, R.cl, R.n2, flds_under o u, (by show 2 ≤ sizeLine; decide), fun t ft => ?_⟩
      exact go t _ (same_new ft) ft upd_same
end Lw
namespace Lw
open PySem PySem.Spec PyProof.Rows L2
open LamX ClX SX
abbrev sRight : Stmt := top 31
structure DefC (K : PySem.W.Frag) (mg : Str → Option Value) (x : Str) (st : Stmt) (f : Addr) (fd : FuncData) (c : Addr) : Prop where
  ex : ∃ (oc : Value) (od : Option Addr) (dV kV doc pm : Value) (an : Option Addr) (ct : Value) (osl : Array (Option Value)),
    fd = PySem.W.fnOf x x (C8.fnArgs st) (C8.fnBody st) (C8.fnScope st) dV kV doc pm an (.ref c) ct ∧ K.lookup f = some ⟨oc, od, .func fd, osl⟩ ∧ PySem.W.codeIn K (.ref c) x = true
  mgf : mg x = some (.ref f)
  kp : PySem.W.keepIn K (.ref f) = true
theorem calGC {P : Program} {w : World} {K : PySem.W.Frag} {mg : Str → Option Value} {base : Heap} {x : Str} {st : Stmt} {f c : Addr} {fd : FuncData} {N ps : List Str} {ds : List Value} {dvs : List V} {k : Nat} {sp : Sp} (F : DefC K mg x st f fd c) (b : Binds K fd ps ds) (d : Vals dvs ds) (S : FnScope N ps (C8.fnScope st)) (len : ∀ vs H Q E, sp vs H Q E → vs.length = ps.length)
    (body : ∀ (A : Around) (outer : List Env) (s : Shared) (H : Hp) (vs : List V) (Q : VK) (E : XK), (A.deeper (envOfC x (C8.fnScope st) s.heap.objs.size f (.ref c))).guards = some [] → Room k (A.deeper (envOfC x (C8.fnScope st) s.heap.objs.size f (.ref c))) → sp vs H Q E →
      ∃ t, PSs (cxOf C8.CX0 P w K mg base N x (C8.fnScope st) f (.ref c) A outer s H E).nox (C8.fnBody st) t ∧ t { nx := fun _ H' => Q .non H', rt := Q } (start N vs) H) : CalG P w K mg base (k + 1) x sp dvs := by
  refine ⟨f, fd, ps, ds, ⟨len, ?_⟩, F.mgf, F.kp, b, d⟩
  intro A outer s H args us vs Q E hg hr e0 hb r hs
  obtain ⟨oc, od, dV, kV, doc, pm, an, ct, osl, rfl, lk, hcd⟩ := F.ex
  refine LamX.run_ofS lk hcd S hr e0 hb r (len _ _ _ _ hs) fun hr' => ?_
  obtain ⟨t, h1, h2⟩ := body A outer s H vs Q E hg hr' hs
  exact ⟨t, h1.nox, h2⟩
theorem Tabs.put {T : List (Addr × Str)} {H : Hp} {l : Addr} {o : HO} {xs : List V} (t : Tabs T H) (hl : H l = some (.lst xs)) : Tabs T (upd H l o) := by
  intro q hq
  obtain ⟨ps, h1, h2, h3⟩ := t q hq
  refine ⟨ps, ?_, h2, fun pos cv hc => ?_⟩
  · rw [upd_ne (fun e => by rw [e, hl] at h1; cases h1)]; exact h1
  · obtain ⟨c, e1, e2⟩ := h3 pos cv hc
    refine ⟨c, e1, ?_⟩
    rw [upd_ne (fun e => by rw [e, hl] at e2; unfold CodeO at e2; cases e2)]; exact e2
theorem Tabs.kp {T : List (Addr × Str)} {p pl : Addr} {n : Nat} {H H' : Hp} (t : Tabs T H) (hp : Pen H p pl n) (k : Kp p H H') : Tabs T H' := by
  intro q hq
  obtain ⟨ps, h1, h2, h3⟩ := t q hq
  obtain ⟨xs, a, g, hh, _⟩ := hp
  refine ⟨ps, k _ _ (fun e => ?_) h1, h2, fun pos cv hc => ?_⟩
  · rw [e, hh.at_] at h1; cases h1
  · obtain ⟨c, e1, e2⟩ := h3 pos cv hc
    refine ⟨c, e1, k _ _ (fun e => ?_) e2⟩
    rw [e, hh.at_] at e2
    unfold CodeO at e2
    cases e2
theorem Pen.extn {H H' : Hp} {p l : Addr} {n : Nat} (h : Pen H p l n) (e : ExtN H H') : Pen H' p l n := by
  obtain ⟨xs, a, g, ⟨h1, h2, h3, h4, h5⟩, h6⟩ := h
  have nl : ∀ (ys : List V) ps, HO.lst ys ≠ .tbl ps := fun ys ps z => by cases z
  exact ⟨xs, a, g, ⟨e _ _ h1 (nl _), e _ _ h2 (nl _), h3, h4, h5⟩, h6⟩
theorem Tabs.ext' {T : List (Addr × Str)} {H H' : Hp} (t : Tabs T H) (s : Same H H') : Tabs T H' := t.ext s
abbrev tabOf (B B2 : Addr) : List (Addr × Str) := [(B, (("_law_right" : Str) ++ (".<locals>." : Str)) ++ ("<lambda>" : Str)), (B2, (("law" : Str) ++ (".<locals>." : Str)) ++ ("<lambda>" : Str))]
theorem tabOf_own {B B2 : Addr} (n : B2 ≠ B) (p : Addr × Str) (hp : p ∈ tabOf B B2) (e : p.1 = B) : p.2 = (("_law_right" : Str) ++ (".<locals>." : Str)) ++ ("<lambda>" : Str) := by
  rcases List.mem_cons.mp hp with rfl | hp
  · rfl
  · rw [List.mem_singleton.mp hp] at e
    exact absurd e n
/-- Ratio.read, ready to be called -/
structure RdM (P : Program) (w : World) (K : PySem.W.Frag) (mg : Str → Option Value) (base : Heap) (C D p g : Addr) (mc : Value) (fd : FuncData) : Prop where
  r : CRead K C mc
  c : CMet K C mc "read" p g
  F : FnOk P w K mg base (L2.CX P w) 7 g fd ["cls", "text"] (spRd K C D)
  b : Binds K fd ["cls", "text"] []
theorem RdM.R {P : Program} {w : World} {K : PySem.W.Frag} {mg : Str → Option Value} {base : Heap} {C D p g : Addr} {mc : Value} {fd : FuncData} (R : RdM P w K mg base C D p g mc fd) : FnR P w K mg base (L2.CX P w) 7 g (spRd K C D) :=
  (FnOk.raw R.F R.b .nil).imp fun vs H Q E h => by rw [List.append_nil]; exact h
theorem worth_short {cs : List Nat} (h : cs.length ≤ 1000) : worthL cs = ratL cs := by
  have hr : readB cs = true := by
    unfold readB
    rcases par_or cs with ⟨_, e⟩ | ⟨a, b, e0, _, e⟩
    · rw [e]
      have := figs_len cs
      exact decide_eq_true (by omega)
    · rw [e]
      have := figs_len a
      rw [e0, List.length_append, List.length_cons] at h
      show (decide _ && decide _) = true
      rw [decide_eq_true (by omega), decide_eq_true (by omega)]; rfl
  unfold worthL
  rw [if_pos hr]
theorem txtR {cs : List Nat} (h : ∀ c ∈ cs, c < 128) (l : cs.length ≤ 1000) : TextR (.str (S cs)) := fun z e => ⟨cs, by cases e; rfl, h, by omega, .inr l⟩
theorem eqv_two (o u : Int) : PyData.eqv (.tuple [.int o, .int u]) (.tuple [.int o, .int u]) = true := by simp [PyData.eqv, PyData.eqvAll]
def spRight (B B2 : Addr) : Sp := fun vs H Q _ => ∃ cs : List Nat, vs = [.str (S cs)] ∧ (∀ c ∈ cs, c < 128) ∧ cs.length ≤ 1000 ∧ Tabs (tabOf B B2) H ∧ ∀ H', ExtN H H' → Tabs (tabOf B B2) H' → Q (.bl true) H'
section
variable {P : Program} {w : World} {K : PySem.W.Frag} {mg : Str → Option Value} {base : Heap}
theorem scRight : FnScope ["_law_page", "_law_due_here"] ["_law_page"] (C8.fnScope sRight) := C8.fnScope_by (by decide +kernel)
theorem cal_right {f c B B2 C D L gH pR gR : Addr} {mc : Value} {fd fdH fdR : FuncData} (F : DefC K mg "_law_right" sRight f fd c) (b : Binds K fd ["_law_page"] []) (FH : C8.Def K mg "_law_heard" sHea gH fdH) (bH : Binds K fdH ["_law_ask"] []) (TB : TabB base mg c B) (nB : B2 ≠ B)
    (R : Hrd K mg C D L) (T : Txt mg) (RR : RdM P w K mg base C D pR gR mc fdR) (D4 : C8.Cal P w K mg base 4 "_law_due" spDue []) :
    CalG P w K mg base 10 "_law_right" (spRight B B2) [] := by
  obtain ⟨ocH, odH, dVH, kVH, docH, pmH, anH, cdvH, ctH, oslH, rfl, lkH, cdH⟩ := FH.fn.ex
  refine calGC F b .nil scRight (fun vs H Q E h => ?_) (fun A outer st H vs Q E hG hr h => ?_)
  · obtain ⟨cs, rfl, _⟩ := h
    rfl
  · obtain ⟨cs, rfl, h128, hl, ht, k⟩ := h
    refine ⟨_, (pss_cons (ps_set (i := 1) scRight.nd rfl (Or.inl rfl) (C8.pe_c D4 hr (by decide) (by rfl) (pa_cons (pv 0) pa_nil)))
      (pss_one (ps_ret (pe_cmpR (op_eqD hr.units) (pe_lamcall (k := 7) (T := tabOf B B2) (t := fun E => tCMeth C (spRd K C D) E (tC (.ref C)) (tCons (tVar 0) tNil)) (by rfl) FH.mgf FH.kp lkH cdH bH scHea rfl (.inl rfl) (heard_gives R T (hr.mono (by decide))) TB rfl List.mem_cons_self (tabOf_own nB) hr (lamS_by (by rfl)) rfl (fun _ _ _ _ _ => rfl)
        (fun A outer s H E f c2 hr2 => (pe_cmeth (pe_glob (v := .ref C) (by rfl) R.hm rfl) RR.r RR.c RR.R hr2 (passes_call (takes_of rfl rfl rfl rfl) (fun _ _ _ _ z => z)) (pa_cons (pv 0) pa_nil))))
        (pe_ifExp (pt_cmpR op_notN (pv 1) pe_non (nomark _)) (pv 1) (pe_lst (pa_cons pe_int (pa_cons pe_int pa_nil)))) (nomark _))))), ?_⟩
    refine ⟨_, rfl, cs, rfl, h128, hl, ?_⟩
    have ew : worthV (.str (S cs)) = ratL cs := worth_short hl
    cases er : ratL cs with
    | none =>
      intro H1 s1
      refine ⟨ht.ext s1, fun H2 x2 t2 => ?_⟩
      refine ⟨rfl, _, rfl, .str (S cs), rfl, .str _, txtR h128 hl, ?_⟩
      rw [ew, er]
      intro d fs H3 s3 hd f1 f2
      refine ⟨rfl, d, fs, 0, 0, rfl, upd_same, f1, f2, fun t H4 s4 nt h4 => ?_⟩
      refine ⟨_, rfl, rfl, _, rfl, iteF ⟨(by show 2 ≤ sizeLine; decide), fun l hl4 => ?_⟩⟩
      have s5 := same_new (o := HO.lst [V.int 0, V.int 0]) hl4
      have sAll := ((s3.trans (same_new (o := HO.xd fs) hd)).trans s4).trans s5
      refine ⟨_, _, .lst (SqL.of (s5 _ _ h4)) (.cons (.int 0) (.cons (.int 0) .nil)), .lst (SqL.of upd_same) (.cons (.int 0) (.cons (.int 0) .nil)), rfl, rfl, ?_⟩
      exact k _ ((ExtN.of s1).trans (x2.trans (ExtN.of sAll))) (t2.ext sAll)
    | some r =>
      obtain ⟨o, u⟩ := r
      intro t H1 s1 nt h1
      refine ⟨ht.ext s1, fun H2 x2 t2 => ?_⟩
      have h2 : H2 t = some (.tup [.int o, .int u]) := x2 _ _ h1 fun ps z => by cases z
      refine ⟨rfl, _, rfl, .str (S cs), rfl, .str _, txtR h128 hl, ?_⟩
      rw [ew, er]
      intro a H3 s3 na hra
      refine ⟨a, o, u, rfl, hra, fun q H4 s4 nq h4 => ?_⟩
      refine ⟨_, rfl, rfl, _, rfl, iteT ⟨_, rfl, ?_⟩⟩
      have sAll := s3.trans s4
      refine ⟨_, _, .tup (SqT.of h4) (.cons (.int o) (.cons (.int u) .nil)), .tup (SqT.of (sAll _ _ h2)) (.cons (.int o) (.cons (.int u) .nil)), rfl, rfl, ?_⟩
      rw [eqv_two]
      exact k _ ((ExtN.of s1).trans (x2.trans (ExtN.of sAll))) (t2.ext sAll)
end
end Lw
namespace Lw
open PySem PySem.Spec PyProof.Rows L2
open SX PySem.NumText TL LamX
/-! ### texts of least forms -/
theorem intL_asc (i : Int) : ∀ c ∈ intL i, c < 128 := fun c hc => by
  have h : ∀ d ∈ numL i.natAbs, d < 128 := fun d hd => by have := numL_digits i.natAbs d hd; omega
  unfold intL at hc
  split at hc
  · rcases List.mem_cons.mp hc with rfl | hc
    · decide
    · exact h c hc
  · exact h c hc
theorem ratTx_asc (o u : Int) : ∀ c ∈ ratTx o u, c < 128 := fun c hc => by
  unfold ratTx at hc
  split at hc
  · exact intL_asc o c hc
  · rcases List.mem_append.mp hc with hc | hc
    · exact intL_asc o c hc
    · rcases List.mem_cons.mp hc with rfl | hc
      · decide
      · exact intL_asc u c hc
theorem intL_len10 {i : Int} {k : Nat} (hk : 0 < k) (h : i.natAbs < 10 ^ k) : (intL i).length ≤ k + 1 := by
  have l := numL_len hk h
  unfold intL
  split
  · rw [List.length_cons]; omega
  · omega
theorem lov_le' (t b : Int) : (lov t b).natAbs ≤ t.natAbs := by
  unfold lov
  rw [Int.natAbs_ediv_of_dvd, sg_abs]
  · exact Nat.div_le_self _ _
  · exact Int.natAbs_dvd_natAbs.mp (by rw [sg_abs, Int.natAbs_natCast]; exact Nat.gcd_dvd_left _ _)
theorem lun_le' (t b : Int) : (lun t b).natAbs ≤ b.natAbs := by
  unfold lun
  rw [Int.natAbs_ediv_of_dvd, sg_abs]
  · exact Nat.div_le_self _ _
  · exact Int.natAbs_dvd_natAbs.mp (by rw [sg_abs, Int.natAbs_natCast]; exact Nat.gcd_dvd_right _ _)
theorem ratTx_len {t b : Int} (h1 : t.natAbs ≤ 10 ^ 32) (h2 : b.natAbs ≤ 10 ^ 32) : (ratTx (lov t b) (lun t b)).length ≤ 70 := by
  have a1 := intL_len10 (k := 33) (by decide) (Nat.lt_of_le_of_lt (Nat.le_trans (lov_le' t b) h1) (show (10 : Nat) ^ 32 < 10 ^ 33 by decide +kernel))
  have a2 := intL_len10 (k := 33) (by decide) (Nat.lt_of_le_of_lt (Nat.le_trans (lun_le' t b) h2) (show (10 : Nat) ^ 32 < 10 ^ 33 by decide +kernel))
  unfold ratTx
  split
  · omega
  · rw [List.length_append, List.length_cons]; omega
theorem gcd_least {t b : Int} (hb : b ≠ 0) : Nat.gcd (lov t b).natAbs (lun t b).natAbs = 1 := by
  have g0 : 0 < Nat.gcd t.natAbs b.natAbs := Nat.gcd_pos_of_pos_right _ (by omega)
  have e1 : (lov t b).natAbs = t.natAbs / Nat.gcd t.natAbs b.natAbs := by
    unfold lov
    rw [Int.natAbs_ediv_of_dvd, sg_abs, Int.natAbs_natCast]
    exact Int.natAbs_dvd_natAbs.mp (by rw [sg_abs, Int.natAbs_natCast]; exact Nat.gcd_dvd_left _ _)
  have e2 : (lun t b).natAbs = b.natAbs / Nat.gcd t.natAbs b.natAbs := by
    unfold lun
    rw [Int.natAbs_ediv_of_dvd, sg_abs, Int.natAbs_natCast]
    exact Int.natAbs_dvd_natAbs.mp (by rw [sg_abs, Int.natAbs_natCast]; exact Nat.gcd_dvd_right _ _)
  rw [e1, e2]
  rw [Nat.gcd_div (Nat.gcd_dvd_left _ _) (Nat.gcd_dvd_right _ _)]
  exact Nat.div_self g0
theorem ratL_tx {o u : Int} (h : 1 ≤ u) (g : Nat.gcd o.natAbs u.natAbs = 1) : ratL (ratTx o u) = some (o, u) := by
  unfold ratTx
  by_cases h1 : u = 1
  · rw [if_pos h1]
    unfold ratL
    rw [par_head_none (intL_free o), intOf_intL, h1]; rfl
  · rw [if_neg h1]
    unfold ratL
    rw [show TL.par [47] [] (intL o ++ 47 :: intL u) = some (intL o, intL u) from par_head _ (intL_free o)]
    show (match intOf (intL o), intOf (intL u) with
      | some o, some u => if 2 ≤ u ∧ Nat.gcd o.natAbs u.natAbs = 1 then some (o, u) else none
      | _, _ => none) = _
    rw [intOf_intL, intOf_intL]
    exact if_pos ⟨by omega, g⟩
theorem ratL_least {t b : Int} (hb : b ≠ 0) : ratL (ratTx (lov t b) (lun t b)) = some (lov t b, lun t b) := ratL_tx (lun_pos hb) (gcd_least hb)
theorem numL_exact {n k : Nat} (h1 : 10 ^ k ≤ n) (h2 : n < 10 ^ (k + 1)) : (numL n).length = k + 1 := by
  have a := numL_len (k := k + 1) (by omega) h2
  refine Nat.le_antisymm a (Classical.byContradiction fun z => ?_)
  have v := val_lt _ (numL_digits n)
  rw [numL_val] at v
  have : 10 ^ (numL n).length ≤ 10 ^ k := Nat.pow_le_pow_right (by decide) (by omega)
  omega
theorem intL_nat (n : Nat) : intL ((n : Nat) : Int) = numL n := by
  unfold intL
  rw [if_neg (by omega), Int.natAbs_natCast]
/-- the far numbers -/
def far (i : Nat) : Nat := (10 ^ 30 - 1) ^ (i + 1)
theorem far_step (i : Nat) : ((far i : Nat) : Int) * 999999999999999999999999999999 = ((far (i + 1) : Nat) : Int) := by
  unfold far
  rw [Nat.pow_succ _ (i + 1), Int.natCast_mul]
  rfl
theorem far_lt {i : Nat} (h : i ≤ 132) : far i < 2 ^ 20000 := by
  unfold far
  have h1 : (10 ^ 30 - 1) ^ (i + 1) ≤ (10 ^ 30 - 1) ^ 133 := Nat.pow_le_pow_right (by decide) (by omega)
  exact Nat.lt_of_le_of_lt h1 (by decide +kernel)
theorem far_page : 10 ^ 3999 ≤ far 132 * 10 ^ 10 ∧ far 132 * 10 ^ 10 < 10 ^ 4000 := by
  unfold far
  decide +kernel
theorem far_wide : 10 ^ 4000 ≤ far 132 * 10 ^ 11 ∧ far 132 * 10 ^ 11 < 10 ^ 4001 := by
  unfold far
  decide +kernel
theorem read_num (n : Nat) : readB (numL n) = decide ((numL n).length ≤ 4000) := by
  unfold readB
  rw [par_head_none (numL_free (.inl (by decide))), figs_num]
theorem ratL_num (n : Nat) : ratL (numL n) = some (((n : Nat) : Int), 1) := by
  unfold ratL
  rw [par_head_none (numL_free (.inl (by decide)))]
  have := intOf_intL ((n : Nat) : Int)
  rw [intL_nat] at this
  rw [this]; rfl
theorem worth_page : worthL (numL (far 132 * 10 ^ 10)) = some (((far 132 * 10 ^ 10 : Nat) : Int), 1) := by
  unfold worthL
  rw [read_num, numL_exact (k := 3999) far_page.1 far_page.2, ratL_num]; rfl
theorem worth_wide : worthL (numL (far 132 * 10 ^ 11)) = none := by
  unfold worthL
  rw [read_num, numL_exact (k := 4000) far_wide.1 far_wide.2]; rfl
theorem far_asc (n : Nat) : ∀ c ∈ numL n, c < 128 := fun d hd => by have := numL_digits n d hd; omega
theorem txtN {n k : Nat} (hk : 0 < k) (hl : k ≤ 5000) (h : n < 10 ^ k) : TextR (.str (S (numL n))) := fun z e => ⟨numL n, by cases e; rfl, far_asc n, Nat.le_trans (numL_len hk h) hl, .inl (numL_free (.inl (by decide)))⟩
end Lw
namespace Lw
open PySem PySem.Spec PyProof.Rows L2
open SX PySem.NumText TL LamX ClX
abbrev sLaw : Stmt := top 32
/-- the law's def, its code object known -/
structure LawC (K : PySem.W.Frag) (x : Str) (st : Stmt) (f : Addr) (fd : FuncData) (c : Addr) : Prop where
  ex : ∃ (oc : Value) (od : Option Addr) (dV kV doc pm : Value) (an : Option Addr) (ct : Value) (osl : Array (Option Value)),
    fd = PySem.W.fnOf x x (C8.fnArgs st) (C8.fnBody st) (C8.fnScope st) dV kV doc pm an (.ref c) ct ∧ K.lookup f = some ⟨oc, od, .func fd, osl⟩ ∧ PySem.W.codeIn K (.ref c) x = true
theorem fnGC {P : Program} {w : World} {K : PySem.W.Frag} {mg : Str → Option Value} {base : Heap} {x : Str} {st : Stmt} {f c : Addr} {fd : FuncData} {N ps : List Str} {k : Nat} {sp : Sp} (F : LawC K x st f fd c) (S : FnScope N ps (C8.fnScope st)) (len : ∀ vs H Q E, sp vs H Q E → vs.length = ps.length)
    (body : ∀ (A : Around) (outer : List Env) (s : Shared) (H : Hp) (vs : List V) (Q : VK) (E : XK), (A.deeper (envOfC x (C8.fnScope st) s.heap.objs.size f (.ref c))).guards = some [] → Room k (A.deeper (envOfC x (C8.fnScope st) s.heap.objs.size f (.ref c))) → sp vs H Q E →
      ∃ t, PSs (cxOf C8.CX0 P w K mg base N x (C8.fnScope st) f (.ref c) A outer s H E).nox (C8.fnBody st) t ∧ t { nx := fun _ H' => Q .non H', rt := Q } (start N vs) H) : FnG P w K mg base (k + 1) f fd ps sp := by
  refine ⟨len, ?_⟩
  intro A outer s H args us vs Q E hg hr e0 hb r hs
  obtain ⟨oc, od, dV, kV, doc, pm, an, ct, osl, rfl, lk, hcd⟩ := F.ex
  refine LamX.run_ofS lk hcd S hr e0 hb r (len _ _ _ _ hs) fun hr' => ?_
  obtain ⟨t, h1, h2⟩ := body A outer s H vs Q E hg hr' hs
  exact ⟨t, h1.nox, h2⟩
theorem tabOf_own2 {B B2 : Addr} (n : B2 ≠ B) (p : Addr × Str) (hp : p ∈ tabOf B B2) (e : p.1 = B2) : p.2 = (("law" : Str) ++ (".<locals>." : Str)) ++ ("<lambda>" : Str) := by
  rcases List.mem_cons.mp hp with rfl | hp
  · exact absurd e.symm n
  · rw [List.mem_singleton.mp hp]
structure Oks (K : PySem.W.Frag) (C : Addr) : Prop where
  sf : PySem.W.selfFirst K C = true
  rm : ∃ g : Addr, PySem.W.findIn K (.ref C) (dunderR "mul") = some (some (.ref g))
def spLaw (K : PySem.W.Frag) (B B2 : Addr) : Sp := fun vs H Q _ => ∃ (a : Addr) (ns : List Int), vs = [.ref a] ∧ SqL K H a (ns.map V.int) ∧ ns.length ≤ 63 ∧ Tabs (tabOf B B2) H ∧ ∀ H', Q (.bl true) H'
section
variable {P : Program} {w : World} {K : PySem.W.Frag} {mg : Str → Option Value} {base : Heap}
theorem sm32 {z : Int} (h : z.natAbs ≤ 10 ^ 32) : Small z := Nat.lt_of_le_of_lt h (Nat.lt_of_lt_of_le (show (10 : Nat) ^ 32 < 2 ^ 128 by decide +kernel) (Nat.pow_le_pow_right (by decide) (by decide)))
theorem rd_some {C D : Addr} {H : Hp} {Q : VK} {E : XK} {x : V} {o u : Int} (h : worthV x = some (o, u)) (k : ∀ a H', Same H H' → H a = none → RatAt C H' a o u → Q (.ref a) H') : RdE C D H Q E (worthV x) := by rw [h]; exact k
theorem rd_none {C D : Addr} {H : Hp} {Q : VK} {E : XK} {x : V} (h : worthV x = none) (k : ∀ d fs H', Same H H' → H' d = none → fs.lookup ("line" : Str) = some (.int 0) → fs.lookup ("word" : Str) = some (.int 0) → E (.ref D) (some d) (upd H' d (.xd fs))) : RdE C D H Q E (worthV x) := by rw [h]; exact k
theorem small_two : Small 2 := Nat.lt_of_lt_of_le (show 2 < 2 ^ 2 by decide) (Nat.pow_le_pow_right (by decide) (by decide))
/-- pages that are no ratio's text -/
def oddPages : List (List Nat) := [[], [47], [49, 47], [47, 50], [50, 47, 52], [49, 47, 49], [48, 47, 49], [48, 47, 53], [45, 48], [49, 47, 45, 50], [45, 45, 49], [43, 49], [49, 47, 48, 50], [48, 49], [32, 49], [49, 32], [49, 47, 50, 47, 51], [49, 47, 48]]
theorem odd_ok {i : Nat} {x : V} (h : (oddPages.map fun cs => V.str (S cs))[i]? = some x) : ∃ cs, x = .str (S cs) ∧ (∀ c ∈ cs, c < 128) ∧ cs.length ≤ 10 ∧ ratL cs = none := by
  obtain ⟨cs, hc, rfl⟩ := List.mem_map.mp (List.mem_of_getElem? h)
  have all : ∀ cs ∈ oddPages, (cs.all fun c => decide (c < 128)) = true ∧ cs.length ≤ 10 ∧ ratL cs = none := by decide +kernel
  obtain ⟨h1, h2, h3⟩ := all cs hc
  exact ⟨cs, rfl, fun c hc => of_decide_eq_true (List.all_eq_true.mp h1 c hc), h2, h3⟩
def lastPages : List V := [V.str (Str.ofString "0"), V.str (Str.ofString "-7/2"), V.str (Str.ofString "1/2"), V.str (S (List.replicate (500 : Int).toNat [57]).flatten ++ Str.ofString "/2"), V.str (Str.ofString "-" ++ S (List.replicate (900 : Int).toNat [49]).flatten)]
theorem last_ok {i : Nat} {x : V} (h : lastPages[i]? = some x) : ∃ cs : List Nat, x = .str (S cs) ∧ (∀ c ∈ cs, c < 128) ∧ cs.length ≤ 1000 := by
  have hv := List.mem_of_getElem? h
  unfold lastPages at hv
  simp only [List.mem_cons, List.not_mem_nil, or_false] at hv
  rcases hv with rfl | rfl | rfl | rfl | rfl
  · exact ⟨[48], rfl, by decide, by decide⟩
  · exact ⟨[45, 55, 47, 50], rfl, by decide, by decide⟩
  · exact ⟨[49, 47, 50], rfl, by decide, by decide⟩
  · exact ⟨(List.replicate (500 : Int).toNat [57]).flatten ++ [47, 50], congrArg V.str (S_cat _ [47, 50]), by decide +kernel, by decide +kernel⟩
  · exact ⟨[45] ++ (List.replicate (900 : Int).toNat [49]).flatten, congrArg V.str (S_cat [45] _), by decide +kernel, by decide +kernel⟩
theorem scLaw : FnScope ["_law_script", "_law_pen_here", "_law_lap", "_law_some", "_law_far", "_law_page", "_law_bent_here", "_law_odd", "_law_wide", "_law_top", "_law_bottom"] ["_law_script"] (C8.fnScope sLaw) := C8.fnScope_by (by decide +kernel)
theorem fn_law {f c B B2 C D L gH pR gR fI : Addr} {mc : Value} {fd fdH fdR fdI : FuncData} {ds : List Value} (F : LawC K "law" sLaw f fd c) (FH : C8.Def K mg "_law_heard" sHea gH fdH) (bH : Binds K fdH ["_law_ask"] []) (TB : TabB base mg c B2) (nB : B2 ≠ B)
    (R : Hrd K mg C D L) (T : TxtN mg) (O : Oks K C) (nb : NoB K C) (RR : RdM P w K mg base C D pR gR mc fdR) (kb : ∃ gU : List Value → List Value → List Value, KBn K fdR ["cls", "text"] 1 ["text"] gU (fun us zs => us ++ zs)) {Dr : Addr} (RM : RatM P w K mg base C Dr fI fdI ds)
    (MS : MetX P w K mg base 2 C "__str__" (spStrM C)) (NC : NeC K C) (ME : MetX P w K mg base 3 C "__eq__" (spEqR C)) (MM : MetX P w K mg base 7 C "__mul__" (spMulW K C))
    (D0 : C8.Cal P w K mg base 1 "_law_pen" (spPen K) []) (DP : C8.Cal P w K mg base 2 "_law_pick" (spPick K) []) (DPa : C8.Cal P w K mg base 3 "_law_pair" spPai []) (DWr : C8.Cal P w K mg base 3 "_law_written" spWri []) (D4 : C8.Cal P w K mg base 4 "_law_due" spDue []) (DBe : C8.Cal P w K mg base 3 "_law_bent" spBen [])
    (DR : CalG P w K mg base 10 "_law_right" (spRight B B2) []) : FnG P w K mg base 14 f fd ["_law_script"] (spLaw K B B2) := by
  obtain ⟨gU3, KB⟩ := kb
  obtain ⟨ocH, odH, dVH, kVH, docH, pmH, anH, cdvH, ctH, oslH, rfl, lkH, cdH⟩ := FH.fn.ex
  refine fnGC F scLaw (fun vs H Q E h => ?_) (fun A outer st H vs Q E hG hr h => ?_)
  · obtain ⟨a, ns, rfl, _⟩ := h
    rfl
  · obtain ⟨a, ns, rfl, hs, hl, ht, k⟩ := h
    refine ⟨_, (pss_cons (ps_set (i := 1) scLaw.nd rfl (Or.inl rfl) (C8.pe_c D0 hr (by decide) (by rfl) (pa_cons (pv 0) pa_nil)))
  (pss_cons (ps_for PassesOwn.never rfl (pi_range1 (by rfl) T.n_range (pa_cons pe_int pa_nil)) (pg_name (i := 2) scLaw.nd rfl (Or.inl rfl)) (pss_cons (ps_asg (C8.pe_c DPa hr (by decide) (by rfl) (pa_cons (pv 1) pa_nil)) (pg_tup (by rfl) (pgs_cons (pg_name (i := 9) scLaw.nd rfl (Or.inl rfl)) (pgs_cons (pg_name (i := 10) scLaw.nd rfl (Or.inl rfl)) pgs_nil))))
  (pss_cons (ps_set (i := 5) scLaw.nd rfl (Or.inl rfl) (C8.pe_c DWr hr (by decide) (by rfl) (pa_cons (pv 9) (pa_cons (pv 10) pa_nil))))
  (pss_cons (ps_if (PW.pt (pw_or (pt_cmpR op_ne (pe_callTy (call_strOwn (E := C8.E0) MS (passes_call takes0 (fun _ _ _ _ z => z)) hr (by decide)) (by rfl) T.n_str (by decide +kernel) (pa_cons (pe_make RM.M RM.F (hr.mono (by decide)) (by rfl) RM.hm RM.b2 .nil (passes_call takes0 (fun _ _ _ _ z => z)) (pa_cons (pv 9) (pa_cons (pv 10) pa_nil))) pa_nil)) (pv 5) (nomark _)) (pw_or (pt_cmpR (op_neR (E := C8.E0) NC ME (passes_call takes0 (fun _ _ _ _ z => z)) hr (by decide)) (pe_cmethK (E := C8.E0) (pe_glob (v := .ref C) (by rfl) R.hm rfl) RR.r RR.c RR.F (hr.mono (by decide)) KB (passes_call takes0 (fun _ _ _ _ z => z)) (pk_cons (pv 5) pk_nil)) (pe_make RM.M RM.F (hr.mono (by decide)) (by rfl) RM.hm RM.b2 .nil (passes_call takes0 (fun _ _ _ _ z => z)) (pa_cons (pv 9) (pa_cons (pv 10) pa_nil))) (nomark _)) (pw_or1 (pt_not (pt_val (pe_g DR hG hr (by decide) (by rfl) (pa_cons (pv 5) pa_nil)))))))) (pss_one (ps_ret pe_bl)) pss_nil)
  (pss_cons (ps_set (i := 6) scLaw.nd rfl (Or.inl rfl) (C8.pe_c DBe hr (by decide) (by rfl) (pa_cons (pv 1) (pa_cons (pv 5) pa_nil))))
  (pss_cons (ps_if (PW.pt (pw_or (pt_not (pt_val (pe_g DR hG hr (by decide) (by rfl) (pa_cons (pv 6) pa_nil)))) (pw_or1 (pt_not (pt_val (pe_g DR hG hr (by decide) (by rfl) (pa_cons (C8.pe_c DBe hr (by decide) (by rfl) (pa_cons (pv 1) (pa_cons (pv 6) pa_nil))) pa_nil))))))) (pss_one (ps_ret pe_bl)) pss_nil)
  (pss_cons (ps_set (i := 7) scLaw.nd rfl (Or.inr rfl) (C8.pe_c DP hr (by decide) (by rfl) (pa_cons (pv 1) (pa_cons (pe_lst (pa_cons pe_non (pa_cons pe_int (pa_cons pe_bl (pa_cons (pe_tup (pa_cons pe_str pa_nil)) (pa_cons (pe_lst (pa_cons pe_str pa_nil)) (pa_cons pe_dnewK (pa_cons (pe_make RM.M RM.F (hr.mono (by decide)) (by rfl) RM.hm RM.b2 .nil (passes_call takes0 (fun _ _ _ _ z => z)) (pa_cons pe_int (pa_cons pe_int pa_nil))) pa_nil)))))))) pa_nil))))
  (pss_one (ps_if (pt_cmpR (op_neD hr.units) (pe_lamcall (k := 7) (T := tabOf B B2) (t := fun E => tCMeth C (spRd K C D) E (tC (.ref C)) (tCons (tVar 7) tNil)) (by rfl) FH.mgf FH.kp lkH cdH bH scHea rfl (.inl rfl) (heard_gives R T.toTxt (hr.mono (by decide))) TB rfl (List.mem_cons_of_mem _ List.mem_cons_self) (tabOf_own2 nB) (hr.mono (by decide)) (lamS_by (by rfl)) rfl (fun _ _ _ _ _ => rfl)
      (fun A outer s H E f c2 hr2 => (pe_cmeth (pe_glob (v := .ref C) (by rfl) R.hm rfl) RR.r RR.c RR.R hr2 (passes_call (takes_of rfl rfl rfl rfl) (fun _ _ _ _ z => z)) (pa_cons (pv 7) pa_nil)))) (pe_lst (pa_cons pe_int (pa_cons pe_int pa_nil))) (nomark _)) (pss_one (ps_ret pe_bl)) pss_nil)))))))))
  (pss_cons (ps_set (i := 3) scLaw.nd rfl (Or.inl rfl) (pe_lst (pa_cons pe_str (pa_cons pe_str (pa_cons pe_str (pa_cons pe_str (pa_cons pe_str (pa_cons pe_str (pa_cons pe_str (pa_cons pe_str (pa_cons pe_str (pa_cons pe_str (pa_cons pe_str (pa_cons pe_str (pa_cons pe_str (pa_cons pe_str (pa_cons pe_str (pa_cons pe_str pa_nil))))))))))))))))))
  (pss_cons (ps_set (i := 3) scLaw.nd rfl (Or.inl rfl) (pe_op op_cat (pv 3) (pe_lst (pa_cons pe_str (pa_cons pe_str pa_nil)))))
  (pss_cons (ps_if (pt_cmpR (op_neD hr.units) (pe_lc (own := [("_law_page", 5)]) (g := gName 5) rfl scLaw.nd (pi_list (pv 3)) (blkOk_by (own := [("_law_page", 5)]) (N := ["_law_script", "_law_pen_here", "_law_lap", "_law_some", "_law_far", "_law_page", "_law_bent_here", "_law_odd", "_law_wide", "_law_top", "_law_bottom"]) (sc := (C8.fnScope sLaw)) (by decide +kernel)) (fun _ _ _ _ _ => pg_name (i := 5) scLaw.nd rfl (Or.inl rfl)) (fun _ _ _ _ _ => pts_one (PW.pt (pw_or (pt_cmpR op_notN (C8.pe_c D4 hr (by decide) (by rfl) (pa_cons (pv 5) pa_nil)) pe_non (nomark _)) (pw_or1 (pt_not (pt_val (pe_g DR hG hr (by decide) (by rfl) (pa_cons (pv 5) pa_nil)))))))) (fun _ _ _ _ _ => (pv 5))) (pe_lst pa_nil) (nomark _)) (pss_one (ps_ret pe_bl)) pss_nil)
  (pss_cons (ps_set (i := 4) scLaw.nd rfl (Or.inl rfl) (pe_make RM.M RM.F (hr.mono (by decide)) (by rfl) RM.hm RM.b1 RM.d1 (passes_call takes0 (fun _ _ _ _ z => z)) (pa_cons (pe_op op_sub (pe_op op_pow pe_int pe_int) pe_int) pa_nil)))
  (pss_cons (ps_for PassesOwn.never rfl (pi_range1 (by rfl) T.n_range (pa_cons pe_int pa_nil)) (pg_name (i := 2) scLaw.nd rfl (Or.inl rfl)) (pss_one (ps_set (i := 4) scLaw.nd rfl (Or.inl rfl) (pe_op (op_of (op := .Mult) (half_lft (nm := "mul") (E := C8.E0) MM (passes_call takes0 (fun _ _ _ _ z => z)) O.sf O.rm (by decide) hr (by decide))) (pv 4) (pe_op op_sub (pe_op op_pow pe_int pe_int) pe_int)))))
  (pss_cons (ps_asg (pe_tup (pa_cons (pe_callTy (call_strOwn (E := C8.E0) MS (passes_call takes0 (fun _ _ _ _ z => z)) hr (by decide)) (by rfl) T.n_str (by decide +kernel) (pa_cons (pe_op (op_of (op := .Mult) (half_lft (nm := "mul") (E := C8.E0) MM (passes_call takes0 (fun _ _ _ _ z => z)) O.sf O.rm (by decide) hr (by decide))) (pv 4) (pe_op op_pow pe_int pe_int)) pa_nil)) (pa_cons (pe_callTy (call_strOwn (E := C8.E0) MS (passes_call takes0 (fun _ _ _ _ z => z)) hr (by decide)) (by rfl) T.n_str (by decide +kernel) (pa_cons (pe_op (op_of (op := .Mult) (half_lft (nm := "mul") (E := C8.E0) MM (passes_call takes0 (fun _ _ _ _ z => z)) O.sf O.rm (by decide) hr (by decide))) (pv 4) (pe_op op_pow pe_int pe_int)) pa_nil)) pa_nil))) (pg_tup (by rfl) (pgs_cons (pg_name (i := 5) scLaw.nd rfl (Or.inl rfl)) (pgs_cons (pg_name (i := 8) scLaw.nd rfl (Or.inr rfl)) pgs_nil))))
  (pss_cons (ps_if (PW.pt (pw_or (pt_cmpR op_ne (pe_callB call_len_str (by rfl) T.n_len (by decide +kernel) (pa_cons (pv 5) pa_nil)) pe_int (nomark _)) (pw_or (pt_cmpR op_ne (pe_callTy (call_strOwn (E := C8.E0) MS (passes_call takes0 (fun _ _ _ _ z => z)) hr (by decide)) (by rfl) T.n_str (by decide +kernel) (pa_cons (pe_cmeth (E := C8.E0) (pe_glob (v := .ref C) (by rfl) R.hm rfl) RR.r RR.c RR.R (hr.mono (by decide)) (passes_call takes0 (fun _ _ _ _ z => z)) (pa_cons (pv 5) pa_nil)) pa_nil)) (pv 5) (nomark _)) (pw_or1 (pt_cmpR (op_neD hr.units) (pe_lamcall (k := 7) (T := tabOf B B2) (t := fun E => tCMeth C (spRd K C D) E (tC (.ref C)) (tCons (tVar 8) tNil)) (by rfl) FH.mgf FH.kp lkH cdH bH scHea rfl (.inl rfl) (heard_gives R T.toTxt (hr.mono (by decide))) TB rfl (List.mem_cons_of_mem _ List.mem_cons_self) (tabOf_own2 nB) (hr.mono (by decide)) (lamS_by (by rfl)) rfl (fun _ _ _ _ _ => rfl)
      (fun A outer s H E f c2 hr2 => (pe_cmeth (pe_glob (v := .ref C) (by rfl) R.hm rfl) RR.r RR.c RR.R hr2 (passes_call (takes_of rfl rfl rfl rfl) (fun _ _ _ _ z => z)) (pa_cons (pv 8) pa_nil)))) (pe_lst (pa_cons pe_int (pa_cons pe_int pa_nil))) (nomark _)))))) (pss_one (ps_ret pe_bl)) pss_nil)
  (pss_one (ps_ret (pe_cmpR (op_eqD hr.units) (pe_lc (own := [("_law_page", 5)]) (g := gName 5) rfl scLaw.nd (pi_list (pe_lst (pa_cons pe_str (pa_cons pe_str (pa_cons pe_str (pa_cons (pe_op op_add_str (pe_op op_mulS pe_str pe_int) pe_str) (pa_cons (pe_op op_add_str pe_str (pe_op op_mulS pe_str pe_int)) pa_nil))))))) (blkOk_by (own := [("_law_page", 5)]) (N := ["_law_script", "_law_pen_here", "_law_lap", "_law_some", "_law_far", "_law_page", "_law_bent_here", "_law_odd", "_law_wide", "_law_top", "_law_bottom"]) (sc := (C8.fnScope sLaw)) (by decide +kernel)) (fun _ _ _ _ _ => pg_name (i := 5) scLaw.nd rfl (Or.inl rfl)) (fun _ _ _ _ _ => pts_one (pt_not (pt_val (pe_g DR hG hr (by decide) (by rfl) (pa_cons (pv 5) pa_nil))))) (fun _ _ _ _ _ => (pv 5))) (pe_lst pa_nil) (nomark _))))))))))))), ?_⟩
    refine ⟨_, rfl, a, ns, rfl, hs, hl, fun p pl H1 hp1 s1 _ => ?_⟩
    have ht1 := ht.ext s1
    refine ⟨_, rfl, by decide, by decide, for_range (fun i σ' H' => ∃ x2 x5 x6 x7 x9 x10, σ' = [some (V.ref a), some (V.ref p), x2, none, none, x5, x6, x7, none, x9, x10] ∧ Pen H' p pl (11 * i) ∧ Tabs (tabOf B B2) H') ⟨_, _, _, _, _, _, rfl, hp1, ht1⟩ ?_ ?_⟩
    · rintro i σ1 H2 hi ⟨x2, x5, x6, x7, x9, x10, rfl, hp2, ht2⟩
      have hi9 : i < 9 := hi
      refine ⟨_, rfl, p, pl, 11 * i, rfl, hp2, by omega, fun t b l H3 m1 m2 b0 el nl hp3 k3 => ?_⟩
      have ht3 := Lw.Tabs.kp ht2 hp2 k3
      refine ⟨l, _, rfl, .inl (.inl el), rfl, _, _, rfl, _, _, rfl, rfl, ?_⟩
      have smT := sm32 m1
      have smB := sm32 m2
      have wd : ∀ {z : Int}, z.natAbs ≤ 10 ^ 32 → z.natAbs < 2 ^ 100000 := fun h => small_wide (sm32 h)
      have asc := ratTx_asc (lov t b) (lun t b)
      have len := ratTx_len m1 m2
      refine ⟨_, rfl, _, rfl, t, b, rfl, b0, smT, smB, fun H4 s4 => ?_⟩
      have hp4 := hp3.keep s4
      have ht4 := ht3.ext s4
      obtain ⟨pg, hpg⟩ : ∃ pg, pg = ratTx (lov t b) (lun t b) := ⟨_, rfl⟩
      have eR : ratL pg = some (lov t b, lun t b) := by rw [hpg]; exact ratL_least b0
      rw [← hpg] at asc len ⊢
      have ew : worthV (.str (S pg)) = some (lov t b, lun t b) := show worthL pg = _ from (worth_short (by omega)).trans eR
      dsimp only [gName, tSeq]
      refine join_any (fun σ' H' => σ' = [some (V.ref a), some (V.ref p), some (V.int (0 + (i : Int))), none, none, some (V.str (S pg)), x6, x7, none, some (V.int t), some (V.int b)] ∧ Pen H' p pl (11 * i + 4) ∧ Tabs (tabOf B B2) H') ?r1 (fun go => ?_)
      rotate_left
      · refine ⟨_, rfl, _, rfl, fun x dx hx hdx ne => makesW (t := t) (b := b) b0 smB hx hdx ne fun H5 s5 r1 => ?_⟩
        obtain ⟨dx1, e1⟩ := r1
        refine ⟨x, dx1, _, rfl, e1, x, lov t b, lun t b, rfl, ⟨dx1, e1⟩, wd (Nat.le_trans (lov_le' t b) m1), wd (Nat.le_trans (lun_le' t b) m2), fun H6 s6 => ⟨_, rfl, _, rfl, rfl, _, rfl, iteF' (by rw [hpg]; simp) ?_⟩⟩
        refine ⟨rfl, _, rfl, rfl, .str (S pg), rfl, .str _, txtR asc (by omega), rd_some ew fun u H7 s7 nu ru => ?_⟩
        refine ⟨_, rfl, _, rfl, fun y dy hy hdy ne2 => makesW (t := t) (b := b) b0 smB hy hdy ne2 fun H8 s8 r2 => ?_⟩
        obtain ⟨du, eu⟩ := ratat_same s8 ru
        obtain ⟨dy1, e2⟩ := r2
        refine ⟨u, du, _, y, dy1, _, rfl, eu, rfl, e2, u, y, _, _, _, _, rfl, ⟨du, eu⟩, ⟨dy1, e2⟩, _, rfl, _, rfl, iteF' (by simp) ?_⟩
        have s48 : Same H4 H8 := ((s5.trans s6).trans s7).trans s8
        refine ⟨_, rfl, pg, rfl, asc, by omega, ht4.ext s48, fun H9 x9 t9 => ⟨_, rfl, iteF (go _ _ ⟨rfl, (hp4.keep s48).extn x9, t9⟩)⟩⟩
      case r1 =>
      rintro σ2 H5 ⟨rfl, hp5, ht5⟩
      refine ⟨_, rfl, _, rfl, p, pl, 11 * i + 4, pg, rfl, hp5, by omega, asc, by omega, fun ds H6 hd hdl hp6 k6 => ?_⟩
      have ht6 := Lw.Tabs.kp ht5 hp5 k6
      dsimp only [gName, tSeq]
      refine join_any (fun σ' H' => σ' = [some (V.ref a), some (V.ref p), some (V.int (0 + (i : Int))), none, none, some (V.str (S pg)), some (V.str (S ds)), x7, none, some (V.int t), some (V.int b)] ∧ Pen H' p pl (11 * i + 10) ∧ Tabs (tabOf B B2) H') ?r2 (fun go => ?_)
      rotate_left
      · refine ⟨_, rfl, ds, rfl, hd, by omega, ht6, fun H7 x7 t7 => ⟨_, rfl, iteF ?_⟩⟩
        have hp7 := hp6.extn x7
        refine ⟨_, rfl, _, rfl, p, pl, _, ds, rfl, hp7, by omega, hd, by omega, fun es H8 he hel hp8 k8 => ?_⟩
        refine ⟨es, rfl, he, by omega, Lw.Tabs.kp t7 hp7 k8, fun H9 x9 t9 => ⟨_, rfl, iteF (go _ _ ⟨rfl, hp8.extn x9, t9⟩)⟩⟩
      case r2 =>
      rintro σ3 H7 ⟨rfl, hp7, ht7⟩
      refine ⟨_, rfl, (by show 1 ≤ sizeLine; decide), fun q1 f1 => ⟨(by show 1 ≤ sizeLine; decide), fun q2 f2 q3 f3 x dx hx hdx ne => makesW (t := 1) (b := 2) (by decide) small_two hx hdx ne fun H8 s8 r8 => ?_⟩⟩
      have n1 := hp7.ne_new f1
      have s1 := same_new (o := HO.tup [V.str (Str.ofString "1/2")]) f1
      have s2 := same_new (o := HO.lst [V.str (Str.ofString "1")]) f2
      have s3 := same_new (o := HO.dK []) f3
      have n2 := (hp7.keep s1).ne_new f2
      have n3 := ((hp7.keep s1).keep s2).ne_new f3
      have nx := (((hp7.keep s1).keep s2).keep s3).ne_new hx
      have c1 := s8 _ _ (s3 _ _ (s2 _ _ (upd_same (H := H7) (a := q1) (o := HO.tup [V.str (Str.ofString "1/2")]))))
      have c2 := s8 _ _ (s3 _ _ (upd_same (H := upd H7 q1 (HO.tup [V.str (Str.ofString "1/2")])) (a := q2) (o := HO.lst [V.str (Str.ofString "1")])))
      have c3 := s8 _ _ (upd_same (H := upd (upd H7 q1 (HO.tup [V.str (Str.ofString "1/2")])) q2 (HO.lst [V.str (Str.ofString "1")])) (a := q3) (o := HO.dK []))
      have hp8 := (((hp7.keep s1).keep s2).keep s3).keep s8
      have ht8 := (((ht7.ext s1).ext s2).ext s3).ext s8
      obtain ⟨dx8, c4⟩ := r8
      clear s1 s2 s3 s8 hp7 ht7
      refine ⟨(by show 7 ≤ sizeLine; decide), fun l8 f8 => ?_⟩
      have s9 := same_new (o := HO.lst [V.non, V.int 0, V.bl true, V.ref q1, V.ref q2, V.ref q3, V.ref x]) f8
      refine ⟨p, pl, l8, 11 * i + 10, _, rfl, hp8.keep s9, by omega, SqL.of upd_same, hp8.ne_new f8, (by show 0 < 7; decide), (by show 7 < 1000000; decide), fun j v H9 hj hp9 k9 => ?_⟩
      have ht9 := Lw.Tabs.kp (ht8.ext s9) (hp8.keep s9) k9
      have kept : ∀ {q : Addr} {o : HO}, q ≠ p → H8 q = some o → (∀ ps, o ≠ .tbl ps) → ∀ H', ExtN H9 H' → H' q = some o := fun hq e n H' x => x _ _ (k9 _ _ hq (s9 _ _ e)) n
      obtain ⟨av, wv, tv⟩ : (∀ H', ExtN H9 H' → Anyv K H' v) ∧ worthV v = none ∧ TextR v := by
        have hv := List.mem_of_getElem? hj
        simp only [List.mem_cons, List.not_mem_nil, or_false] at hv
        have od : ∀ {H' : Hp} {q : Addr} {T : String}, T = "tuple" ∨ T = "list" ∨ T = "dict" → TyX K H' (.ref q) (.type T) → Anyv K H' (.ref q) := fun {H' q T} e z => by
          rcases e with rfl | rfl | rfl <;> exact .obj (.x z) (kit_ty (by decide +kernel)) (kit_ty (by decide +kernel)) (kit_ty (by decide +kernel))
        rcases hv with rfl | rfl | rfl | rfl | rfl | rfl | rfl
        · exact ⟨fun _ _ => .non, rfl, fun z e => by cases e⟩
        · exact ⟨fun _ _ => .int 0, rfl, fun z e => by cases e⟩
        · exact ⟨fun _ _ => .bl true, rfl, fun z e => by cases e⟩
        · exact ⟨fun H' x' => od (.inl rfl) (.base (.tup (kept n1 c1 (fun ps z => by cases z) H' x'))), rfl, fun z e => by cases e⟩
        · exact ⟨fun H' x' => od (.inr (.inl rfl)) (.base (.lst (kept n2 c2 (fun ps z => by cases z) H' x'))), rfl, fun z e => by cases e⟩
        · exact ⟨fun H' x' => od (.inr (.inr rfl)) (.base (.dK (kept n3 c3 (fun ps z => by cases z) H' x'))), rfl, fun z e => by cases e⟩
        · exact ⟨fun H' x' => .obj (.x (.base (.ins (kept nx c4 (fun ps z => by cases z) H' x') R.I.cl R.I.ha R.I.hn R.I.htk R.I.hm))) nb.i nb.b nb.s, rfl, fun z e => by cases e⟩
      clear kept k9 s9 f8 c1 c2 c3 c4 hp8 ht8 hj
      refine ⟨ht9, fun H10 x10 t10 => ⟨rfl, _, rfl, v, rfl, av _ x10, tv, rd_none wv fun d fs H11 s11 hd g1 g2 => ⟨rfl, d, fs, 0, 0, rfl, upd_same, g1, g2, fun q H12 s12 nq h12 => ?_⟩⟩⟩
      refine ⟨(by show 2 ≤ sizeLine; decide), fun l2 hl2 => ?_⟩
      have s13 := same_new (o := HO.lst [V.int 0, V.int 0]) hl2
      have sAll := ((s11.trans (same_new (o := HO.xd fs) hd)).trans s12).trans s13
      refine ⟨_, _, .lst (SqL.of (s13 _ _ h12)) (.cons (.int 0) (.cons (.int 0) .nil)), .lst (SqL.of upd_same) (.cons (.int 0) (.cons (.int 0) .nil)), rfl, rfl, _, rfl, iteF ?_⟩
      exact ⟨_, _, _, _, _, _, rfl, (hp9.extn x10).keep sAll, t10.ext sAll⟩
    · rintro σ1 H2 ⟨x2, x5, x6, x7, x9, x10, rfl, hp2, ht2⟩
      clear hp1 hp2 ht1 ht s1
      refine ⟨(by show 16 ≤ sizeLine; decide), fun l1 f1 => ?_⟩
      refine ⟨_, rfl, (by show 2 ≤ sizeLine; decide), fun l2 f2 => ?_⟩
      have n12 : l1 ≠ l2 := fun e => by rw [← e, upd_same] at f2; cases f2
      refine ⟨l1, l2, _, _, rfl, rfl, by rw [upd_ne n12]; exact upd_same, upd_same, (by show 16 + 2 ≤ sizeLine; decide), fun l3 f3 => ?_⟩
      have sA := ((same_new (o := HO.lst [V.str (Str.ofString ""), V.str (Str.ofString "/"), V.str (Str.ofString "1/"), V.str (Str.ofString "/2"), V.str (Str.ofString "2/4"), V.str (Str.ofString "1/1"), V.str (Str.ofString "0/1"), V.str (Str.ofString "0/5"), V.str (Str.ofString "-0"), V.str (Str.ofString "1/-2"), V.str (Str.ofString "--1"), V.str (Str.ofString "+1"), V.str (Str.ofString "1/02"), V.str (Str.ofString "01"), V.str (Str.ofString " 1"), V.str (Str.ofString "1 ")]) f1).trans (same_new (o := HO.lst [V.str (Str.ofString "1/2/3"), V.str (Str.ofString "1/0")]) f2)).trans (same_new (o := HO.lst ([V.str (Str.ofString ""), V.str (Str.ofString "/"), V.str (Str.ofString "1/"), V.str (Str.ofString "/2"), V.str (Str.ofString "2/4"), V.str (Str.ofString "1/1"), V.str (Str.ofString "0/1"), V.str (Str.ofString "0/5"), V.str (Str.ofString "-0"), V.str (Str.ofString "1/-2"), V.str (Str.ofString "--1"), V.str (Str.ofString "+1"), V.str (Str.ofString "1/02"), V.str (Str.ofString "01"), V.str (Str.ofString " 1"), V.str (Str.ofString "1 ")] ++ [V.str (Str.ofString "1/2/3"), V.str (Str.ofString "1/0")])) f3)
      have ht3 := ht2.ext sA
      have e3 : upd (upd (upd H2 l1 (HO.lst [V.str (Str.ofString ""), V.str (Str.ofString "/"), V.str (Str.ofString "1/"), V.str (Str.ofString "/2"), V.str (Str.ofString "2/4"), V.str (Str.ofString "1/1"), V.str (Str.ofString "0/1"), V.str (Str.ofString "0/5"), V.str (Str.ofString "-0"), V.str (Str.ofString "1/-2"), V.str (Str.ofString "--1"), V.str (Str.ofString "+1"), V.str (Str.ofString "1/02"), V.str (Str.ofString "01"), V.str (Str.ofString " 1"), V.str (Str.ofString "1 ")])) l2 (HO.lst [V.str (Str.ofString "1/2/3"), V.str (Str.ofString "1/0")])) l3 (HO.lst ([V.str (Str.ofString ""), V.str (Str.ofString "/"), V.str (Str.ofString "1/"), V.str (Str.ofString "/2"), V.str (Str.ofString "2/4"), V.str (Str.ofString "1/1"), V.str (Str.ofString "0/1"), V.str (Str.ofString "0/5"), V.str (Str.ofString "-0"), V.str (Str.ofString "1/-2"), V.str (Str.ofString "--1"), V.str (Str.ofString "+1"), V.str (Str.ofString "1/02"), V.str (Str.ofString "01"), V.str (Str.ofString " 1"), V.str (Str.ofString "1 ")] ++ [V.str (Str.ofString "1/2/3"), V.str (Str.ofString "1/0")])) l3 = some (.lst (oddPages.map fun cs => V.str (S cs))) := upd_same
      clear sA f1 f2 f3 n12
      generalize upd (upd (upd H2 l1 (HO.lst [V.str (Str.ofString ""), V.str (Str.ofString "/"), V.str (Str.ofString "1/"), V.str (Str.ofString "/2"), V.str (Str.ofString "2/4"), V.str (Str.ofString "1/1"), V.str (Str.ofString "0/1"), V.str (Str.ofString "0/5"), V.str (Str.ofString "-0"), V.str (Str.ofString "1/-2"), V.str (Str.ofString "--1"), V.str (Str.ofString "+1"), V.str (Str.ofString "1/02"), V.str (Str.ofString "01"), V.str (Str.ofString " 1"), V.str (Str.ofString "1 ")])) l2 (HO.lst [V.str (Str.ofString "1/2/3"), V.str (Str.ofString "1/0")])) l3 (HO.lst ([V.str (Str.ofString ""), V.str (Str.ofString "/"), V.str (Str.ofString "1/"), V.str (Str.ofString "/2"), V.str (Str.ofString "2/4"), V.str (Str.ofString "1/1"), V.str (Str.ofString "0/1"), V.str (Str.ofString "0/5"), V.str (Str.ofString "-0"), V.str (Str.ofString "1/-2"), V.str (Str.ofString "--1"), V.str (Str.ofString "+1"), V.str (Str.ofString "1/02"), V.str (Str.ofString "01"), V.str (Str.ofString " 1"), V.str (Str.ofString "1 ")] ++ [V.str (Str.ofString "1/2/3"), V.str (Str.ofString "1/0")])) = H3 at ht3 e3 ⊢
      dsimp only [gName, tSeq]
      refine join_any (fun σ' H' => ∃ x2 x5 x6 x7 x9 x10, σ' = [some (V.ref a), some (V.ref p), x2, some (V.ref l3), none, x5, x6, x7, none, x9, x10] ∧ Tabs (tabOf B B2) H') ?q1 (fun go => ?_)
      rotate_left
      · refine ⟨_, rfl, l3, rfl, ⟨_, SqL.of e3⟩, fun D1 hD => ?_⟩
        refine lc_list (xs := oddPages.map fun cs => V.str (S cs)) (fun i H4 => ExtN H3 H4 ∧ Tabs (tabOf B B2) H4 ∧ H4 D1 = some (.lst [])) ⟨ExtN.of (same_new hD), ht3.ext (same_new hD), upd_same⟩ (fun i H4 _ h => SqL.of (h.1 _ _ e3 fun ps z => by cases z)) ?_ ?_
        · rintro i x H4 hx ⟨xe, t4, d4⟩
          obtain ⟨cs, rfl, asc, len, er⟩ := odd_ok hx
          refine ⟨rfl, ?_⟩
          refine ⟨_, rfl, cs, rfl, asc, by omega, ?_⟩
          rw [er]
          refine fun H5 s5 => ⟨rfl, _, rfl, iteF ⟨_, rfl, cs, rfl, asc, by omega, t4.ext s5, fun H6 x6 t6 => ⟨_, rfl, iteF ⟨xe.trans ((ExtN.of s5).trans x6), t6, x6 _ _ (s5 _ _ d4) fun ps z => by cases z⟩⟩⟩⟩
        · rintro H4 ⟨xe, t4, d4⟩
          refine ⟨(by show 0 ≤ sizeLine; decide), fun q hq => ?_⟩
          have sq := same_new (o := HO.lst []) hq
          exact ⟨_, _, .lst (SqL.of (sq _ _ d4)) .nil, .lst (SqL.of upd_same) .nil, rfl, rfl, _, rfl, iteF (go _ _ ⟨_, _, _, _, _, _, rfl, t4.ext sq⟩)⟩
      case q1 =>
      clear e3 ht3
      rintro σ2 H4 ⟨y2, y5, y6, y7, y9, y10, rfl, ht4⟩
      refine ⟨_, _, rfl, rfl, ⟨by decide, by decide, by decide⟩, _, _, rfl, rfl, fun x dx hx hdx ne => makesW (t := 10 ^ 30 - 1) (b := 1) (by decide) small_one hx hdx ne fun H5 s5 r5 => ?_⟩
      rw [(lov_1 _).1, (lov_1 _).2, show (10 ^ 30 - 1 : Int) = ((far 0 : Nat) : Int) by decide +kernel] at r5
      refine ⟨_, rfl, by decide, by decide, for_range (fun i σ' H' => ∃ x2 y, σ' = [some (V.ref a), some (V.ref p), x2, some (V.ref l3), some (.ref y), y5, y6, y7, none, y9, y10] ∧ RatAt C H' y ((far i : Nat) : Int) 1 ∧ Tabs (tabOf B B2) H') ⟨_, _, rfl, r5, ht4.ext s5⟩ ?_ ?_⟩
      · rintro i σ1 H6 hi ⟨x2, y, rfl, ⟨dy, ey⟩, ht6⟩
        have hi2 : i < 132 := hi
        have fl := far_lt (i := i) (by omega)
        refine ⟨_, rfl, _, _, rfl, rfl, ⟨by decide, by decide, by decide⟩, _, _, rfl, rfl, y, dy, _, "int", rfl, ey, .int _, y, ((far i : Nat) : Int), 1, _, rfl, ⟨dy, ey⟩, by decide, small_one, ?_, ?_, fun c' H7 s7 nc rc => ?_⟩
        · rw [Int.natAbs_natCast]
          exact Nat.lt_trans fl (Nat.pow_lt_pow_right (by decide) (by decide))
        · exact sm32 (by decide +kernel)
        rw [(lov_1 _).1, (lov_1 _).2, show ((10 : Int) ^ (30 : Int).toNat - 1) = 999999999999999999999999999999 by decide +kernel, far_step] at rc
        exact ⟨_, _, rfl, rc, ht6.ext s7⟩
      · rintro σ1 H6 ⟨x2, y, rfl, ⟨dy, ey⟩, ht6⟩
        have bn : far 132 < 2 ^ 20000 := far_lt (Nat.le_refl _)
        have wp := worth_page
        have ww := worth_wide
        have lp := numL_exact (k := 3999) far_page.1 far_page.2
        have tp : TextR (.str (S (numL (far 132 * 10 ^ 10)))) := txtN (k := 4000) (by decide) (by decide) far_page.2
        have tw : TextR (.str (S (numL (far 132 * 10 ^ 11)))) := txtN (k := 4001) (by decide) (by decide) far_wide.2
        replace ey : H6 y = some (HO.ins C dy (flds ((far 132 : Nat) : Int) 1)) := ey
        generalize far 132 = n at *
        have b10 : n * 10 ^ 10 < 2 ^ 100000 := Nat.lt_of_lt_of_le (Nat.mul_lt_mul'' bn (show (10 : Nat) ^ 10 < 2 ^ 40 by decide)) (by rw [← Nat.pow_add]; exact Nat.pow_le_pow_right (by decide) (by decide))
        have b11 : n * 10 ^ 11 < 2 ^ 100000 := Nat.lt_of_lt_of_le (Nat.mul_lt_mul'' bn (show (10 : Nat) ^ 11 < 2 ^ 40 by decide)) (by rw [← Nat.pow_add]; exact Nat.pow_le_pow_right (by decide) (by decide))
        have bN : (((n : Nat) : Int)).natAbs < 2 ^ 100000 := by rw [Int.natAbs_natCast]; exact Nat.lt_trans bn (Nat.pow_lt_pow_right (by decide) (by decide))
        have one_wide : (1 : Int).natAbs < 2 ^ 100000 := small_wide small_one
        have i10 : ((n : Nat) : Int) * ((10 : Int) ^ (10 : Int).toNat) = ((n * 10 ^ 10 : Nat) : Int) := by rw [Int.natCast_mul]; rfl
        have i11 : ((n : Nat) : Int) * ((10 : Int) ^ (11 : Int).toNat) = ((n * 10 ^ 11 : Nat) : Int) := by rw [Int.natCast_mul]; rfl
        have tx : ∀ m : Nat, ratTx ((m : Nat) : Int) 1 = numL m := fun m => by rw [ratTx_one, intL_nat]
        refine ⟨_, rfl, _, _, rfl, rfl, ⟨by decide, by decide, by decide⟩, y, dy, _, "int", rfl, ey, .int _, y, ((n : Nat) : Int), 1, _, rfl, ⟨dy, ey⟩, by decide, small_one, bN, sm32 (by decide +kernel), fun c1 H7 s7 nc rc => ?_⟩
        rw [(lov_1 _).1, (lov_1 _).2, i10] at rc
        obtain ⟨d1, ec⟩ := rc
        refine ⟨c1, d1, _, rfl, ec, c1, _, _, rfl, ⟨d1, ec⟩, by rw [Int.natAbs_natCast]; exact b10, one_wide, fun H8 s8 => ⟨_, rfl, ?_⟩⟩
        rw [tx]
        refine ⟨_, rfl, _, _, rfl, rfl, ⟨by decide, by decide, by decide⟩, y, dy, _, "int", rfl, s8 _ _ (s7 _ _ ey), .int _, y, ((n : Nat) : Int), 1, _, rfl, ⟨dy, s8 _ _ (s7 _ _ ey)⟩, by decide, small_one, bN, sm32 (by decide +kernel), fun c2 H9 s9 nc2 rc2 => ?_⟩
        rw [(lov_1 _).1, (lov_1 _).2, i11] at rc2
        obtain ⟨d2, ec2⟩ := rc2
        refine ⟨c2, d2, _, rfl, ec2, c2, _, _, rfl, ⟨d2, ec2⟩, by rw [Int.natAbs_natCast]; exact b11, one_wide, fun H10 s10 => ⟨_, rfl, ?_⟩⟩
        rw [tx]
        have ht10 := (((ht6.ext s7).ext s8).ext s9).ext s10
        refine ⟨(by show 2 ≤ sizeLine; decide), fun tt ntt => ?_⟩
        have ht11 := ht10.ext (same_new (o := HO.tup [V.str (S (numL (n * 10 ^ 10))), V.str (S (numL (n * 10 ^ 11)))]) ntt)
        refine ⟨tt, _, rfl, .inl (.inl upd_same), rfl, _, _, rfl, _, _, rfl, rfl, ?_⟩
        clear ey bN b11 i10 i11 ec ec2 bn
        generalize upd H10 tt (HO.tup [V.str (S (numL (n * 10 ^ 10))), V.str (S (numL (n * 10 ^ 11)))]) = H11 at ht11 ⊢
        clear ht10 ntt s10 s9 s8 s7 nc nc2 ht6
        dsimp only [gName, tSeq]
        refine join_any (fun σ' H' => ∃ x2 x3 x4 x5 x6 x7 x8 x9 x10, σ' = [some (V.ref a), some (V.ref p), x2, x3, x4, x5, x6, x7, x8, x9, x10] ∧ Tabs (tabOf B B2) H') ?q2 (fun go => ?_)
        rotate_left
        · refine ⟨_, rfl, _, rfl, by rw [S_len, lp]; decide, rfl, _, rfl, iteF' (by rw [S_len, lp]; rfl) ?_⟩
          refine ⟨rfl, _, rfl, .str (S (numL (n * 10 ^ 10))), rfl, .str _, tp, rd_some (show worthV (.str (S (numL (n * 10 ^ 10)))) = _ from wp) fun u H12 s12 nu ru => ?_⟩
          obtain ⟨du, eu⟩ := ru
          refine ⟨u, du, _, rfl, eu, u, _, _, rfl, ⟨du, eu⟩, by rw [Int.natAbs_natCast]; exact b10, one_wide, fun H13 s13 => ⟨_, rfl, ?_⟩⟩
          rw [tx]
          refine ⟨_, rfl, rfl, _, rfl, iteF' (by simp) ?_⟩
          have ht13 := (ht11.ext s12).ext s13
          refine ⟨ht13, fun H14 x14 t14 => ⟨rfl, _, rfl, .str (S (numL (n * 10 ^ 11))), rfl, .str _, tw, rd_none (show worthV (.str (S (numL (n * 10 ^ 11)))) = _ from ww) fun d fs H15 s15 hd g1 g2 => ⟨rfl, d, fs, 0, 0, rfl, upd_same, g1, g2, fun q H16 s16 nq h16 => ?_⟩⟩⟩
          refine ⟨(by show 2 ≤ sizeLine; decide), fun l2 hl2 => ?_⟩
          have s17 := same_new (o := HO.lst [V.int 0, V.int 0]) hl2
          have sAll := ((s15.trans (same_new (o := HO.xd fs) hd)).trans s16).trans s17
          refine ⟨_, _, .lst (SqL.of (s17 _ _ h16)) (.cons (.int 0) (.cons (.int 0) .nil)), .lst (SqL.of upd_same) (.cons (.int 0) (.cons (.int 0) .nil)), rfl, rfl, _, rfl, iteF ?_⟩
          exact go _ _ ⟨_, _, _, _, _, _, _, _, _, rfl, t14.ext sAll⟩
        case q2 =>
        clear ht11 tp tw lp wp ww b10
        rintro σ4 H12 ⟨z2, z3, z4, z5, z6, z7, z8, z9, z10, rfl, ht12⟩
        refine ⟨[57], 500, rfl, rfl, by decide, by decide, by decide, _, _, rfl, rfl, by decide +kernel, ?_⟩
        refine ⟨[49], 900, rfl, rfl, by decide, by decide, by decide, _, _, rfl, rfl, by decide +kernel, (by show 5 ≤ sizeLine; decide), fun l hl => ?_⟩
        have ht13 := ht12.ext (same_new (o := HO.lst [V.str (Str.ofString "0"), V.str (Str.ofString "-7/2"), V.str (Str.ofString "1/2"), V.str (S (List.replicate (500 : Int).toNat [57]).flatten ++ Str.ofString "/2"), V.str (Str.ofString "-" ++ S (List.replicate (900 : Int).toNat [49]).flatten)]) hl)
        refine ⟨l, rfl, ⟨_, SqL.of upd_same⟩, fun D1 hD => ?_⟩
        have el : upd H12 l (HO.lst [V.str (Str.ofString "0"), V.str (Str.ofString "-7/2"), V.str (Str.ofString "1/2"), V.str (S (List.replicate (500 : Int).toNat [57]).flatten ++ Str.ofString "/2"), V.str (Str.ofString "-" ++ S (List.replicate (900 : Int).toNat [49]).flatten)]) l = some (.lst lastPages) := upd_same
        generalize upd H12 l (HO.lst [V.str (Str.ofString "0"), V.str (Str.ofString "-7/2"), V.str (Str.ofString "1/2"), V.str (S (List.replicate (500 : Int).toNat [57]).flatten ++ Str.ofString "/2"), V.str (Str.ofString "-" ++ S (List.replicate (900 : Int).toNat [49]).flatten)]) = H13 at *
        refine lc_list (xs := lastPages) (fun i H4 => ExtN H13 H4 ∧ Tabs (tabOf B B2) H4 ∧ H4 D1 = some (.lst [])) ⟨ExtN.of (same_new hD), ht13.ext (same_new hD), upd_same⟩ (fun i H4 _ h => SqL.of (h.1 _ _ el fun ps z => by cases z)) ?_ ?_
        · rintro i x H4 hx ⟨xe, t4, d4⟩
          obtain ⟨cs, rfl, asc, len⟩ := last_ok hx
          refine ⟨rfl, ?_⟩
          refine ⟨_, rfl, cs, rfl, asc, len, t4, fun H6 x6 t6 => ⟨_, rfl, iteF ⟨xe.trans x6, t6, x6 _ _ d4 fun ps z => by cases z⟩⟩⟩
        · rintro H4 ⟨xe, t4, d4⟩
          refine ⟨(by show 0 ≤ sizeLine; decide), fun q hq => ?_⟩
          have sq := same_new (o := HO.lst []) hq
          exact ⟨_, _, .lst (SqL.of (sq _ _ d4)) .nil, .lst (SqL.of upd_same) .nil, rfl, rfl, k _⟩
end
end Lw
namespace Lw
open PySem PySem.Spec PyProof.Rows L2

open LamX
/-! ### the call of the law where nothing is being shown, with tables of code objects -/
/-- what is tracked when the law is entered: the tables, and the script unless it is written -/
def Entry (K : PySem.W.Frag) (h : Heap) (a : Addr) (Bs : List Addr) (ns : List Int) (H : Hp) : Prop :=
  (∀ B ∈ Bs, H B = some (.tbl #[])) ∧ SqL K H a (ns.map V.int) ∧ (∀ b u, H b = some u → (b ∈ Bs ∧ u = .tbl #[]) ∨ (b = a ∧ K.lookup a = none ∧ ∃ o xs, u = .frz o (.lst xs) ∧ h.get? a = some o))
theorem entry {P : Program} {w : World} {K : PySem.W.Frag} {h : Heap} {a : Addr} {Bs : List Addr} {vs : List Value} {ns : List Int} (KX : K.In h) (hT : ∀ B ∈ Bs, h.get? B = some { cls := .none, data := .fields #[] }) (ha : h.get? a = some { cls := .type "list", data := .seq vs.toArray }) (hi : IntsAre vs ns) (hl : ns.length ≤ sizeLine) :
    a ∉ Bs ∧ ∃ H, Entry K h a Bs ns H ∧ HOk P w H h := by
  have rv := vals_ints hi
  have lv := hi.length
  have ne : a ∉ Bs := fun e => by
    have hT := hT a e
    rw [ha] at hT
    have z : Data.seq vs.toArray _ = Data.fields #[] := congrArg Obj.data (Option.some.inj hT)
    cases z
  refine ⟨ne, ?_⟩
  cases hk : K.lookup a with
  | some o =>
    have e := KX a o hk
    rw [ha] at e
    cases e
    refine ⟨fun b => if b ∈ Bs then some (.tbl #[]) else none, ⟨fun B hB => if_pos hB, .inr ⟨_, vs.toArray, _, hk, rfl, rfl, rfl, by rw [List.size_toArray, lv]; exact hl, by simpa using rv⟩, fun b u z => ?_⟩, fun b u z => ?_⟩
    · by_cases q : b ∈ Bs
      · exact .inl ⟨q, (Option.some.inj ((if_pos q).symm.trans z)).symm⟩
      · cases (if_neg q).symm.trans z
    · by_cases q : b ∈ Bs
      · cases (if_pos q).symm.trans z
        exact hT b q
      · cases (if_neg q).symm.trans z
  | none =>
    refine ⟨fun b => if b ∈ Bs then some (.tbl #[]) else if b = a then some (.frz { cls := .type "list", data := .seq vs.toArray } (.lst (ns.map V.int))) else none,
      ⟨fun B hB => if_pos hB, .inl (.inr ⟨_, (if_neg ne).trans (if_pos rfl)⟩), fun b u z => ?_⟩, fun b u z => ?_⟩
    · by_cases q : b ∈ Bs
      · exact .inl ⟨q, (Option.some.inj ((if_pos q).symm.trans z)).symm⟩
      · have z2 := (if_neg q).symm.trans z
        by_cases q2 : b = a
        · exact .inr ⟨q2, hk, _, _, (Option.some.inj ((if_pos q2).symm.trans z2)).symm, ha⟩
        · cases (if_neg q2).symm.trans z2
    · by_cases q : b ∈ Bs
      · cases (if_pos q).symm.trans z
        exact hT b q
      · have z2 := (if_neg q).symm.trans z
        by_cases q2 : b = a
        · cases (if_pos q2).symm.trans z2
          rw [q2]
          exact ⟨ha, by rw [List.length_map]; exact hl, vs, _, rv, ha⟩
        · cases (if_neg q2).symm.trans z2
theorem law_end {P : Program} {w : World} {K : PySem.W.Frag} {mg mb : Str → Option Value} {k : Nat} {fa a : Addr} {Bs : List Addr} {fd : FuncData} {x : Str} {sp : Sp} {s₁ : Shared} {vs : List Value} {ns : List Int}
    (KX : K.In s₁.heap) (hns : s₁.heap.Ns mainGlobals mg) (hb : s₁.heap.Ns builtinsNs mb) (hbb : ∀ x : Str, x ≠ "__name__" → mb x = bootBuiltins x) (hlim : s₁.heap.NoLimit) (hg : s₁.gens = #[])
    (hT : ∀ B ∈ Bs, s₁.heap.get? B = some { cls := .none, data := .fields #[] }) (nT : ∀ B ∈ Bs, K.lookup B = none) (C : ∀ B ∈ Bs, ∃ c, PySem.W.CodeHd s₁.heap c B)
    (hbm : ∃ (bm : Addr) (ob : Obj), mg "__builtins__" = some (.ref bm) ∧ bm ≠ builtinsNs ∧ s₁.heap.get? bm = some ob ∧ ob.cls = .type "module" ∧ ob.dict = some builtinsNs ∧ ob.data = .plain)
    (ha : s₁.heap.get? a = some { cls := .type "list", data := .seq vs.toArray }) (hi : IntsAre vs ns) (hl : ns.length ≤ sizeLine) (hr : Room k callerA)
    (F : ∀ base : Heap, K.In base → base.Ns mainGlobals mg → (∀ B ∈ Bs, ∀ c, PySem.W.CodeHd s₁.heap c B → TabB base mg c B) → FnG P w K mg base k fa fd [x] sp) (hbind : ∀ (s : Shared) (u : Value), BindsTo s fd ⟨[u], []⟩ [(x, u)])
    (hsp : ∀ H : Hp, (∀ B ∈ Bs, H B = some (.tbl #[])) → SqL K H a (ns.map V.int) → sp [.ref a] H (fun v _ => v = .bl true) C8.E0) :
    codeAny (model P w) callerA (.call (.ref fa) ⟨[.ref a], []⟩) (fun r s' => r = .ok (.ret (.bool true)) ∧ OldK s₁.heap s'.heap ∧ s'.os = s₁.os ∧ AllBare s'.gens) s₁ := by
  obtain ⟨ne, H, ⟨hB, hS, hA⟩, hok⟩ := entry (P := P) (w := w) KX hT ha hi hl
  -- what is neither a table nor the script is untracked
  have free : ∀ {b : Addr} {o : Obj}, s₁.heap.get? b = some o → (∀ vs n, o.data ≠ .seq vs n) → o.data ≠ .fields #[] → H b = none := fun {b o} e h1 h2 => by
    cases q : H b with
    | none => rfl
    | some u =>
      rcases hA b u q with ⟨e', _⟩ | ⟨e', _⟩
      · rw [hT b e'] at e
        cases e
        exact absurd rfl h2
      · rw [e', ha] at e
        cases e
        exact absurd rfl (h1 _ _)
  have through : ∀ {b : Addr} {o : Obj}, s₁.heap.get? b = some o → H b = none → (hidT s₁.heap H).get? b = some o := fun e n => hidT_get e n
  have nsT : ∀ {b : Addr} {m : Str → Option Value}, s₁.heap.Ns b m → (hidT s₁.heap H).Ns b m := fun {b m} ⟨o, es, ep, e, d, r⟩ => by
    refine ⟨o, es, ep, through e (free e (fun vs n z => ?_) fun z => ?_), d, r⟩ <;> · rw [d] at z; cases z
  have inT : K.In (hidT s₁.heap H) := fun b o e => by
    refine through (KX b o e) ?_
    cases q : H b with
    | none => rfl
    | some u =>
      rcases hA b u q with ⟨e', _⟩ | ⟨e', n, _⟩
      · rw [nT b e'] at e; cases e
      · rw [e', n] at e; cases e
  have modT : L2.Mod K mg (hidT s₁.heap H) := by
    obtain ⟨mc, h1, h2⟩ := hlim
    exact ⟨inT, nsT hns, ⟨mb, nsT hb, hbb⟩, ⟨mc, nsT h1, h2⟩⟩
  have tabT : ∀ B ∈ Bs, ∀ c, PySem.W.CodeHd s₁.heap c B → TabB (hidT s₁.heap H) mg c B := fun B hBs c C => by
    refine ⟨?_, ?_, fun z => ?_⟩
    · obtain ⟨o, us, file, tf, flags, tg, inF, text, tt, e1, r1, r2, r3, r4⟩ := C
      refine ⟨o, us, file, tf, flags, tg, inF, text, tt, through e1 (free e1 (fun vs n z => ?_) fun z => ?_), r1, r2, r3, r4⟩
      · rw [r2] at z; cases z
      · rw [r2] at z; cases z
        simp at r3
    · obtain ⟨bm, ob, b1, b2, b3, b4, b5, b6⟩ := hbm
      refine ⟨bm, ob, b1, b2, fun q => ?_, fun q => ?_, through b3 (free b3 (fun vs n z => ?_) fun z => ?_), b4, b5, b6⟩
      · obtain ⟨o, es, ep, e, d, _⟩ := hns
        rw [q, e] at b3
        cases b3
        rw [d] at b6
        cases b6
      · rw [q, hT B hBs] at b3
        cases b3
        cases b6
      · rw [b6] at z; cases z
      · rw [b6] at z; cases z
    · obtain ⟨o, es, ep, e, d, _⟩ := hns
      rw [z, hT B hBs] at e
      cases e
      cases d
  have e0 : Env0 P w K mg (hidT s₁.heap H) callerA [] s₁ H := ⟨rfl, modT, fun b o e => of_hidT e, Nat.le_of_eq (hidT_size _ _), trivial, fun b hb => absurd (show b ∈ ([] : List Addr) from hb) (by simp), hok, .of_eq hg⟩
  refine codeAny_mono ((F _ inT (nsT hns) tabT).run callerA [] s₁ H ⟨[.ref a], []⟩ [.ref a] [.ref a] _ _ rfl hr e0 (hbind s₁ (.ref a)) (.cons rfl .nil) (hsp H hB hS)) fun r s' q => ?_
  match r, q with
  | .error e, q => exact (show False from q).elim
  | .ok .next, q => exact (show False from q).elim
  | .ok .brk, q => exact (show False from q).elim
  | .ok .cont, q => exact (show False from q).elim
  | .ok (.ret u), q =>
    obtain ⟨v, H', os, bare, un, hok', r', qv⟩ := q
    have qv' : v = .bl true := qv
    subst qv'
    obtain rfl : u = Value.bool true := r'
    have same : ∀ b o, b ∉ Bs → s₁.heap.get? b = some o → s'.heap.get? b = some o := fun b o nb e => by
      cases q : H b with
      | none => exact un.keep b o e q (by intro z; exact absurd (show b ∈ ([] : List Addr) from z) (by simp)) (by simp)
      | some u =>
        rcases hA b u q with ⟨z, _⟩ | ⟨e', _, ob, xs, rfl, hob⟩
        · exact absurd z nb
        · obtain ⟨e2, _⟩ := hok' b _ (un.frzs b ob _ q)
          rw [e', hob] at e
          cases e
          exact e2
    refine ⟨rfl, ⟨fun b o e => ?_, fun b o e => ?_⟩, os, bare⟩
    · by_cases hb : b ∈ Bs
      · obtain ⟨more, hmore⟩ := un.tbls b #[] (hB b hb)
        have atB := hok' b _ hmore
        obtain ⟨c, C⟩ := C b hb
        have hT := hT b hb
        rw [hT] at e
        cases e
        exact .inr (.inl ⟨(C.tab hT).isCodeTable, rfl, #[], _, rfl, atB⟩)
      · exact .inl (same b o hb e)
    · by_cases hb : b ∈ Bs
      · obtain ⟨more, hmore⟩ := un.tbls b #[] (hB b hb)
        exact ⟨_, hok' b _ hmore⟩
      · exact ⟨o, same b o hb e⟩
theorem tabIn_of {K : PySem.W.Frag} {x : Str} {f c B : Addr} {oc occ : Value} {od odc : Option Addr} {fd : FuncData} {sl slc : Array (Option Value)} {us : Array Value} (h1 : PySem.W.nsIn K mainGlobals x = some (some (.ref f))) (h2 : K.lookup f = some ⟨oc, od, .func fd, sl⟩) (hc : fd.code = .ref c)
    (h3 : K.lookup c = some ⟨occ, odc, .fields us, slc⟩) (h4 : us[11]? = some (.ref B)) : PySem.W.tabIn K x = some (c, B) := by
  unfold PySem.W.tabIn
  rw [h1]
  dsimp only
  rw [h2]
  dsimp only
  rw [hc]
  dsimp only
  rw [h3]
  dsimp only
  rw [h4]
theorem walk_end {l : PySem.W.OpenLaw} {n k : Nat} {q : Program} {loose : List Str} {XP : (Str → Option Value) → Heap → Prop} {YP : World → Heap → Prop} {d : DefRec} {K : Params → PySem.W.Frag} {x : Str} {xt xt2 : Str}
    (hn : l.most = some n) (hn2 : n ≤ 63) (hdf : d.params.defaults = []) (hr : Room k callerA) (hY : ∀ (w : World) (h : Heap), YP w h → (K w.params).In h) (hrec : ((recsOf q).find? fun e => e.name == xt).isSome = true) (hrec2 : ((recsOf q).find? fun e => e.name == xt2).isSome = true)
    (F : ∀ (w : World) (mg : Str → Option Value) (fa : Addr) (h : Heap), (K w.params).In h → h.Ns mainGlobals mg → mg d.name = some (.ref fa) → ∃ (fd : FuncData) (c B c2 B2 : Addr), PySem.W.tabIn (K w.params) xt = some (c, B) ∧ (K w.params).lookup B = none ∧ PySem.W.tabIn (K w.params) xt2 = some (c2, B2) ∧ (K w.params).lookup B2 = none ∧ (∀ (s : Shared) (u : Value), BindsTo s fd ⟨[u], []⟩ [(x, u)]) ∧
      ∀ base : Heap, (K w.params).In base → base.Ns mainGlobals mg → TabB base mg c B → TabB base mg c2 B2 → FnG l.prog w (K w.params) mg base k fa fd [x] (spLaw (K w.params) B B2)) :
    PySem.W.WalkO q loose XP YP l.row.toRowW d [] (fun f vs => PySem.call f vs) := by
  refine Att.attach_callB hn hdf fun w s₀ s₁ mg mb fa o pm cd doc a vs ns G Y ho hd hcd hmg hobj hints hlen hbits hg => ?_
  have KX := hY w _ Y
  obtain ⟨fd, c, B, c2, B2, ht, nT, ht2, nT2, hb, hF⟩ := F w mg fa _ KX G.T.g hmg
  obtain ⟨dr, hdr⟩ := Option.isSome_iff_exists.mp hrec
  obtain ⟨dr2, hdr2⟩ := Option.isSome_iff_exists.mp hrec2
  obtain ⟨hC, hT⟩ := PySem.W.tab_of G.T KX hdr ht
  obtain ⟨hC2, hT2⟩ := PySem.W.tab_of G.T KX hdr2 ht2
  have two : ∀ {p : Addr → Prop}, p B → p B2 → ∀ b ∈ [B, B2], p b := fun {p} h1 h2 b hb => by
    rcases List.mem_cons.mp hb with rfl | hb
    · exact h1
    · rw [List.mem_singleton.mp hb]; exact h2
  exact law_end (Bs := [B, B2]) KX G.T.g G.T.b G.T.builtins G.T.nolimit hg (two hT hT2) (two nT nT2) (two ⟨_, hC⟩ ⟨_, hC2⟩) G.T.bmain hobj hints (Nat.le_trans (Nat.le_trans hlen hn2) (by decide)) hr
    (fun base kin ns tb => hF base kin ns (tb B List.mem_cons_self c hC) (tb B2 (List.mem_cons_of_mem _ List.mem_cons_self) c2 hC2)) hb fun H hB hS =>
    ⟨a, ns, rfl, hS, Nat.le_trans hlen hn2, fun p hp => (by
      rcases List.mem_cons.mp hp with rfl | hp
      · exact TabS.nil (hB B List.mem_cons_self)
      · rw [List.mem_singleton.mp hp]; exact TabS.nil (hB B2 (List.mem_cons_of_mem _ List.mem_cons_self))), fun _ => rfl⟩
end Lw
namespace Lw
open PySem PySem.Spec PyProof.Rows L2

open LamX ClX

/-- no defaults: one value, then one by its keyword -/
theorem kb_one {K : PySem.W.Frag} {x q : Str} {st : Stmt} {f : Addr} {fd : FuncData} (F : C8.Fun K x q st f fd) (df : fd.defaults = .none) (h : ∀ (kV doc pm : Value) (an : Option Addr) (cdv ct : Value) (us ws : List Value), us.length = 1 → ws.length = 1 → bindArgs (PySem.W.fnOf x q (C8.fnArgs st) (C8.fnBody st) (C8.fnScope st) .none kV doc pm an cdv ct) ⟨us, (["text"] : List Str).zip ws⟩ = pure ((["cls", "text"] : List Str).zip (us ++ ws))) :
    KBn K fd ["cls", "text"] 1 ["text"] (fun us ws => us ++ ws) (fun us zs => us ++ zs) := by
  obtain ⟨oc, od, dV, kV, doc, pm, an, cdv, ct, osl, rfl, lk, hcd⟩ := F.ex
  have e : dV = .none := df
  subst e
  exact ⟨fun s us ws X h1 h2 => .of_eq (h kV doc pm an cdv ct us ws h1 h2), fun r1 r2 => r1.append r2⟩
theorem all_known {l : PySem.W.OpenLaw} {w : World} {K : PySem.W.Frag} {h : Heap} {mg : Str → Option Value} {fa : Addr} (X : K.In h) (G : h.Ns mainGlobals mg) (hfa : mg "law" = some (.ref fa))
    {C : Addr}
    {fii : Addr} {ocii kVii dcii pmii ctii cdii : Value} {odii anii : Option Addr} {slii : Array (Option Value)}
    {ftx : Addr} {octx kVtx dctx pmtx cttx cdtx : Value} {odtx antx : Option Addr} {sltx : Array (Option Value)}
    {fio : Addr} {ocio kVio dcio pmio ctio cdio : Value} {odio anio : Option Addr} {slio : Array (Option Value)}
    {fro : Addr} {ocro kVro dcro pmro ctro cdro : Value} {odro anro : Option Addr} {slro : Array (Option Value)}
    {fwo : Addr} {ocwo kVwo dcwo pmwo ctwo cdwo : Value} {odwo anwo : Option Addr} {slwo : Array (Option Value)}
    {frb : Addr} {ocrb kVrb dcrb pmrb ctrb cdrb : Value} {odrb anrb : Option Addr} {slrb : Array (Option Value)}
    {flp : Addr} {oclp kVlp dclp pmlp ctlp cdlp : Value} {odlp anlp : Option Addr} {sllp : Array (Option Value)}
    {fld : Addr} {ocld kVld dcld pmld ctld cdld : Value} {odld anld : Option Addr} {slld : Array (Option Value)}
    {flk : Addr} {oclk kVlk dclk pmlk ctlk cdlk : Value} {odlk anlk : Option Addr} {sllk : Array (Option Value)}
    {flc : Addr} {oclc kVlc dclc pmlc ctlc cdlc : Value} {odlc anlc : Option Addr} {sllc : Array (Option Value)}
    {fll : Addr} {ocll kVll dcll pmll ctll cdll : Value} {odll anll : Option Addr} {slll : Array (Option Value)}
    {flq : Addr} {oclq kVlq dclq pmlq ctlq cdlq : Value} {odlq anlq : Option Addr} {sllq : Array (Option Value)}
    {flw : Addr} {oclw kVlw dclw pmlw ctlw cdlw : Value} {odlw anlw : Option Addr} {sllw : Array (Option Value)}
    {flf : Addr} {oclf kVlf dclf pmlf ctlf cdlf : Value} {odlf anlf : Option Addr} {sllf : Array (Option Value)}
    {flu : Addr} {oclu kVlu dclu pmlu ctlu cdlu : Value} {odlu anlu : Option Addr} {sllu : Array (Option Value)}
    {flb : Addr} {oclb kVlb dclb pmlb ctlb cdlb : Value} {odlb anlb : Option Addr} {sllb : Array (Option Value)}
    {flh : Addr} {oclh kVlh dclh pmlh ctlh cdlh : Value} {odlh anlh : Option Addr} {sllh : Array (Option Value)}
    {flr : Addr} {oclr kVlr dclr pmlr ctlr : Value} {odlr anlr : Option Addr} {sllr : Array (Option Value)}
    {fla : Addr} {ocla kVla dcla pmla ctla : Value} {odla anla : Option Addr} {slla : Array (Option Value)}
    {fmo : Addr} {ocmo kVmo dcmo pmmo ctmo cdmo : Value} {odmo anmo : Option Addr} {slmo : Array (Option Value)}
    {fmr : Addr} {ocmr kVmr dcmr pmmr ctmr cdmr : Value} {odmr anmr : Option Addr} {slmr : Array (Option Value)}
    {fmm : Addr} {ocmm kVmm dcmm pmmm ctmm cdmm : Value} {odmm anmm : Option Addr} {slmm : Array (Option Value)}
    {fme : Addr} {ocme kVme dcme pmme ctme cdme : Value} {odme anme : Option Addr} {slme : Array (Option Value)}
    {fmt : Addr} {ocmt kVmt dcmt pmmt ctmt cdmt : Value} {odmt anmt : Option Addr} {slmt : Array (Option Value)}
    {pO pR : Addr} {mcC : Value} {restO restR : List Value}
    {fI Td fRm : Addr} {ocI kVI dcI pmI cdI ctI ocD : Value} {odI anI odD : Option Addr} {slI slD : Array (Option Value)} {tD : Tok} {nD : Nat}
    {L : Addr}
    {D fEr : Addr} {ocEr kVEr dcEr pmEr cdEr ctEr : Value} {odEr anEr : Option Addr} {slEr : Array (Option Value)} {nmDr qDr : Str} {NDr : Addr} {bsDr bmDr : List Value} {snDr : List Str} {subDr : List Value} {abDr : Bool} {colDr : Option Bool} {ddDr : Option Addr} {e0r e1r e2r e3r e5r : Option Value}
    {D2 fEt : Addr} {ocEt kVEt dcEt pmEt cdEt ctEt : Value} {odEt anEt : Option Addr} {slEt : Array (Option Value)} {nmDt qDt : Str} {NDt : Addr} {bsDt bmDt : List Value} {snDt : List Str} {subDt : List Value} {abDt : Bool} {colDt : Option Bool} {ddDt : Option Addr} {e0t e1t e2t e3t e5t : Option Value}
    {cT B : Addr} {ocT : Value} {odT : Option Addr} {usT : Array Value} {slT : Array (Option Value)}
    {cU B2 : Addr} {ocU : Value} {odU : Option Addr} {usU : Array Value} {slU : Array (Option Value)}
    {tPF tPW tMF : Tok} {iF iW iM : Int}
    (aii : PySem.W.nsIn K mainGlobals "is_integer" = some (some (.ref fii)))
    (lii : K.lookup fii = some ⟨ocii, odii, .func (PySem.W.fnOf "is_integer" "is_integer" (C8.fnArgs sIsInt) (C8.fnBody sIsInt) (C8.fnScope sIsInt) .none kVii dcii pmii anii cdii ctii), slii⟩)
    (cii : PySem.W.codeIn K cdii "is_integer" = true)
    (kii : PySem.W.keepIn K (.ref fii) = true)
    (atx : PySem.W.nsIn K mainGlobals "integer_text" = some (some (.ref ftx)))
    (ltx : K.lookup ftx = some ⟨octx, odtx, .func (PySem.W.fnOf "integer_text" "integer_text" (C8.fnArgs sIntTx) (C8.fnBody sIntTx) (C8.fnScope sIntTx) .none kVtx dctx pmtx antx cdtx cttx), sltx⟩)
    (ctx : PySem.W.codeIn K cdtx "integer_text" = true)
    (ktx : PySem.W.keepIn K (.ref ftx) = true)
    (aio : PySem.W.nsIn K mainGlobals "integer_of" = some (some (.ref fio)))
    (lio : K.lookup fio = some ⟨ocio, odio, .func (PySem.W.fnOf "integer_of" "integer_of" (C8.fnArgs sIntOf) (C8.fnBody sIntOf) (C8.fnScope sIntOf) .none kVio dcio pmio anio cdio ctio), slio⟩)
    (cio : PySem.W.codeIn K cdio "integer_of" = true)
    (kio : PySem.W.keepIn K (.ref fio) = true)
    (aro : PySem.W.nsIn K mainGlobals "ratio_of" = some (some (.ref fro)))
    (lro : K.lookup fro = some ⟨ocro, odro, .func (PySem.W.fnOf "ratio_of" "ratio_of" (C8.fnArgs sRatOf) (C8.fnBody sRatOf) (C8.fnScope sRatOf) .none kVro dcro pmro anro cdro ctro), slro⟩)
    (cro : PySem.W.codeIn K cdro "ratio_of" = true)
    (kro : PySem.W.keepIn K (.ref fro) = true)
    (awo : PySem.W.nsIn K mainGlobals "worth_of" = some (some (.ref fwo)))
    (lwo : K.lookup fwo = some ⟨ocwo, odwo, .func (PySem.W.fnOf "worth_of" "worth_of" (C8.fnArgs sWorth) (C8.fnBody sWorth) (C8.fnScope sWorth) .none kVwo dcwo pmwo anwo cdwo ctwo), slwo⟩)
    (cwo : PySem.W.codeIn K cdwo "worth_of" = true)
    (kwo : PySem.W.keepIn K (.ref fwo) = true)
    (arb : PySem.W.nsIn K mainGlobals "is_readable" = some (some (.ref frb)))
    (lrb : K.lookup frb = some ⟨ocrb, odrb, .func (PySem.W.fnOf "is_readable" "is_readable" (C8.fnArgs sRead) (C8.fnBody sRead) (C8.fnScope sRead) .none kVrb dcrb pmrb anrb cdrb ctrb), slrb⟩)
    (crb : PySem.W.codeIn K cdrb "is_readable" = true)
    (krb : PySem.W.keepIn K (.ref frb) = true)
    (alp : PySem.W.nsIn K mainGlobals "_law_pen" = some (some (.ref flp)))
    (llp : K.lookup flp = some ⟨oclp, odlp, .func (PySem.W.fnOf "_law_pen" "_law_pen" (C8.fnArgs sPen) (C8.fnBody sPen) (C8.fnScope sPen) .none kVlp dclp pmlp anlp cdlp ctlp), sllp⟩)
    (clp : PySem.W.codeIn K cdlp "_law_pen" = true)
    (klp : PySem.W.keepIn K (.ref flp) = true)
    (ald : PySem.W.nsIn K mainGlobals "_law_draw" = some (some (.ref fld)))
    (lld : K.lookup fld = some ⟨ocld, odld, .func (PySem.W.fnOf "_law_draw" "_law_draw" (C8.fnArgs sDraw) (C8.fnBody sDraw) (C8.fnScope sDraw) .none kVld dcld pmld anld cdld ctld), slld⟩)
    (cld : PySem.W.codeIn K cdld "_law_draw" = true)
    (kld : PySem.W.keepIn K (.ref fld) = true)
    (alk : PySem.W.nsIn K mainGlobals "_law_pick" = some (some (.ref flk)))
    (llk : K.lookup flk = some ⟨oclk, odlk, .func (PySem.W.fnOf "_law_pick" "_law_pick" (C8.fnArgs sPick) (C8.fnBody sPick) (C8.fnScope sPick) .none kVlk dclk pmlk anlk cdlk ctlk), sllk⟩)
    (clk : PySem.W.codeIn K cdlk "_law_pick" = true)
    (klk : PySem.W.keepIn K (.ref flk) = true)
    (alc : PySem.W.nsIn K mainGlobals "_law_common" = some (some (.ref flc)))
    (llc : K.lookup flc = some ⟨oclc, odlc, .func (PySem.W.fnOf "_law_common" "_law_common" (C8.fnArgs sCom) (C8.fnBody sCom) (C8.fnScope sCom) .none kVlc dclc pmlc anlc cdlc ctlc), sllc⟩)
    (clc : PySem.W.codeIn K cdlc "_law_common" = true)
    (klc : PySem.W.keepIn K (.ref flc) = true)
    (all : PySem.W.nsIn K mainGlobals "_law_least" = some (some (.ref fll)))
    (lll : K.lookup fll = some ⟨ocll, odll, .func (PySem.W.fnOf "_law_least" "_law_least" (C8.fnArgs sLea) (C8.fnBody sLea) (C8.fnScope sLea) .none kVll dcll pmll anll cdll ctll), slll⟩)
    (cll : PySem.W.codeIn K cdll "_law_least" = true)
    (kll : PySem.W.keepIn K (.ref fll) = true)
    (alq : PySem.W.nsIn K mainGlobals "_law_pair" = some (some (.ref flq)))
    (llq : K.lookup flq = some ⟨oclq, odlq, .func (PySem.W.fnOf "_law_pair" "_law_pair" (C8.fnArgs sPai) (C8.fnBody sPai) (C8.fnScope sPai) .none kVlq dclq pmlq anlq cdlq ctlq), sllq⟩)
    (clq : PySem.W.codeIn K cdlq "_law_pair" = true)
    (klq : PySem.W.keepIn K (.ref flq) = true)
    (alw : PySem.W.nsIn K mainGlobals "_law_written" = some (some (.ref flw)))
    (llw : K.lookup flw = some ⟨oclw, odlw, .func (PySem.W.fnOf "_law_written" "_law_written" (C8.fnArgs sWri) (C8.fnBody sWri) (C8.fnScope sWri) .none kVlw dclw pmlw anlw cdlw ctlw), sllw⟩)
    (clw : PySem.W.codeIn K cdlw "_law_written" = true)
    (klw : PySem.W.keepIn K (.ref flw) = true)
    (alf : PySem.W.nsIn K mainGlobals "_law_figures" = some (some (.ref flf)))
    (llf : K.lookup flf = some ⟨oclf, odlf, .func (PySem.W.fnOf "_law_figures" "_law_figures" (C8.fnArgs sFig) (C8.fnBody sFig) (C8.fnScope sFig) .none kVlf dclf pmlf anlf cdlf ctlf), sllf⟩)
    (clf : PySem.W.codeIn K cdlf "_law_figures" = true)
    (klf : PySem.W.keepIn K (.ref flf) = true)
    (alu : PySem.W.nsIn K mainGlobals "_law_due" = some (some (.ref flu)))
    (llu : K.lookup flu = some ⟨oclu, odlu, .func (PySem.W.fnOf "_law_due" "_law_due" (C8.fnArgs sDue) (C8.fnBody sDue) (C8.fnScope sDue) .none kVlu dclu pmlu anlu cdlu ctlu), sllu⟩)
    (clu : PySem.W.codeIn K cdlu "_law_due" = true)
    (klu : PySem.W.keepIn K (.ref flu) = true)
    (alb : PySem.W.nsIn K mainGlobals "_law_bent" = some (some (.ref flb)))
    (llb : K.lookup flb = some ⟨oclb, odlb, .func (PySem.W.fnOf "_law_bent" "_law_bent" (C8.fnArgs sBen) (C8.fnBody sBen) (C8.fnScope sBen) .none kVlb dclb pmlb anlb cdlb ctlb), sllb⟩)
    (clb : PySem.W.codeIn K cdlb "_law_bent" = true)
    (klb : PySem.W.keepIn K (.ref flb) = true)
    (alh : PySem.W.nsIn K mainGlobals "_law_heard" = some (some (.ref flh)))
    (llh : K.lookup flh = some ⟨oclh, odlh, .func (PySem.W.fnOf "_law_heard" "_law_heard" (C8.fnArgs sHea) (C8.fnBody sHea) (C8.fnScope sHea) .none kVlh dclh pmlh anlh cdlh ctlh), sllh⟩)
    (clh : PySem.W.codeIn K cdlh "_law_heard" = true)
    (klh : PySem.W.keepIn K (.ref flh) = true)
    (alr : PySem.W.nsIn K mainGlobals "_law_right" = some (some (.ref flr)))
    (llr : K.lookup flr = some ⟨oclr, odlr, .func (PySem.W.fnOf "_law_right" "_law_right" (C8.fnArgs sRight) (C8.fnBody sRight) (C8.fnScope sRight) .none kVlr dclr pmlr anlr (.ref cT) ctlr), sllr⟩)
    (clr : PySem.W.codeIn K (.ref cT) "_law_right" = true)
    (klr : PySem.W.keepIn K (.ref flr) = true)
    (ala : PySem.W.nsIn K mainGlobals "law" = some (some (.ref fla)))
    (lla : K.lookup fla = some ⟨ocla, odla, .func (PySem.W.fnOf "law" "law" (C8.fnArgs sLaw) (C8.fnBody sLaw) (C8.fnScope sLaw) .none kVla dcla pmla anla (.ref cU) ctla), slla⟩)
    (cla : PySem.W.codeIn K (.ref cU) "law" = true)
    (kla : PySem.W.keepIn K (.ref fla) = true)
    (lmo : K.lookup fmo = some ⟨ocmo, odmo, .func (PySem.W.fnOf "of" "Ratio.of" (C8.fnArgs sOf) (C8.fnBody sOf) (C8.fnScope sOf) .none kVmo dcmo pmmo anmo cdmo ctmo), slmo⟩)
    (cmo : PySem.W.codeIn K cdmo "Ratio.of" = true)
    (kmo : PySem.W.keepIn K (.ref fmo) = true)
    (lmr : K.lookup fmr = some ⟨ocmr, odmr, .func (PySem.W.fnOf "read" "Ratio.read" (C8.fnArgs sReadM) (C8.fnBody sReadM) (C8.fnScope sReadM) .none kVmr dcmr pmmr anmr cdmr ctmr), slmr⟩)
    (cmr : PySem.W.codeIn K cdmr "Ratio.read" = true)
    (kmr : PySem.W.keepIn K (.ref fmr) = true)
    (amm : PySem.W.findIn K (.ref C) (PySem.dunder "mul") = some (some (.ref fmm)))
    (imm : PySem.W.isFn K (.ref fmm) = true)
    (lmm : K.lookup fmm = some ⟨ocmm, odmm, .func (PySem.W.fnOf "__mul__" "Ratio.__mul__" (C8.fnArgs sMul) (C8.fnBody sMul) (C8.fnScope sMul) .none kVmm dcmm pmmm anmm cdmm ctmm), slmm⟩)
    (cmm : PySem.W.codeIn K cdmm "Ratio.__mul__" = true)
    (kmm : PySem.W.keepIn K (.ref fmm) = true)
    (ame : PySem.W.findIn K (.ref C) ("__eq__") = some (some (.ref fme)))
    (ime : PySem.W.isFn K (.ref fme) = true)
    (lme : K.lookup fme = some ⟨ocme, odme, .func (PySem.W.fnOf "__eq__" "Ratio.__eq__" (C8.fnArgs sEq) (C8.fnBody sEq) (C8.fnScope sEq) .none kVme dcme pmme anme cdme ctme), slme⟩)
    (cme : PySem.W.codeIn K cdme "Ratio.__eq__" = true)
    (kme : PySem.W.keepIn K (.ref fme) = true)
    (amt : PySem.W.findIn K (.ref C) ("__str__") = some (some (.ref fmt)))
    (imt : PySem.W.isFn K (.ref fmt) = true)
    (lmt : K.lookup fmt = some ⟨ocmt, odmt, .func (PySem.W.fnOf "__str__" "Ratio.__str__" (C8.fnArgs sStrM) (C8.fnBody sStrM) (C8.fnScope sStrM) .none kVmt dcmt pmmt anmt cdmt ctmt), slmt⟩)
    (cmt : PySem.W.codeIn K cdmt "Ratio.__str__" = true)
    (kmt : PySem.W.keepIn K (.ref fmt) = true)
    (sT : PySem.W.typeIn K (.ref C) = some mcC)
    (sR : PySem.W.readsIn K C mcC = true)
    (sF : PySem.W.findCls K (.ref C) mcC "of" = some (.get (.builtin "staticmethod.__get__") (.ref pO) .none (.ref C)))
    (sG : PySem.W.specialIn K (.ref C) "__getattribute__" = some (some (.builtin "type.__getattribute__")))
    (sO : PySem.W.recIn K pO "staticmethod" = some (.ref fmo :: restO))
    (rF : PySem.W.findCls K (.ref C) mcC "read" = some (.get (.builtin "classmethod.__get__") (.ref pR) .none (.ref C)))
    (rO : PySem.W.recIn K pR "classmethod" = some (.ref fmr :: restR))
    (rN : PySem.W.fnIn K fmr = true)
    (aC : PySem.W.nsIn K mainGlobals "Ratio" = some (some (.ref C)))
    (aI : PySem.W.findIn K (.ref C) "__init__" = some (some (.ref fI)))
    (iI : PySem.W.isFn K (.ref fI) = true)
    (lI : K.lookup fI = some ⟨ocI, odI, .func (PySem.W.fnOf "__init__" "Ratio.__init__" (C8.fnArgs sRat) (C8.fnBody sRat) (C8.fnScope sRat) (.ref Td) kVI dcI pmI anI cdI ctI), slI⟩)
    (cI : PySem.W.codeIn K cdI "Ratio.__init__" = true)
    (kI : PySem.W.keepIn K (.ref fI) = true)
    (lD : K.lookup Td = some ⟨ocD, odD, .seq #[.int 1 tD] nD, slD⟩)
    (pg : PySem.W.plainGet K C Str.empty = true)
    (hd : PySem.W.hasDictIn K C = true)
    (po : PySem.W.plainOver K C = true)
    (sa : PySem.W.findIn K (.ref C) "__setattr__" = some (some (.builtin "object.__setattr__")))
    (mk : PySem.W.makesIn K C = true)
    (kC : PySem.W.keepIn K (.ref C) = true)
    (nO : PySem.W.findIn K (.ref C) "over" = some none)
    (nU : PySem.W.findIn K (.ref C) "under" = some none)
    (hC : PySem.W.findIn K (.ref C) "__class__" = some (some (.builtin "object.__class__")))
    (hG : PySem.W.specialIn K (.builtin "object.__class__") "__get__" = some (some (.builtin "getset_descriptor.__get__")))
    (hK : PySem.W.takesIn K (.builtin "object.__class__") = some true)
    (hM : PySem.W.mroIn K C (.type "object") = some true)
    (first : PySem.W.selfFirst K C = true)
    (rm : PySem.W.findIn K (.ref C) (dunderR "mul") = some (some (.ref fRm)))
    (nE : PySem.W.findIn K (.ref C) "__ne__" = some (some (.builtin "object.__ne__")))
    (o_int : PySem.W.kitOne K (.ref C) (.type "int") = some false)
    (o_bool : PySem.W.kitOne K (.ref C) (.type "bool") = some false)
    (o_str : PySem.W.kitOne K (.ref C) (.type "str") = some false)
    (qi : PySem.W.kitOne K (.type "int") (.ref C) = some false)
    (aL : PySem.W.nsIn K mainGlobals "LateError" = some (some (.ref L)))
    (aDr : PySem.W.nsIn K mainGlobals "BadRatio" = some (some (.ref D)))
    (xDr : K.lookup D = some (excClassObj nmDr qDr D NDr bsDr bmDr true snDr subDr abDr colDr ddDr e0r e1r e2r e3r e5r "ValueError.__new__"))
    (xBr : PySem.HandSPX.refsVE bmDr = true)
    (xsr : PySem.W.findIn K (.ref D) "__setattr__" = some (some (.builtin "object.__setattr__")))
    (xer : PySem.W.subIn K (.ref D) (.type "BaseException") = some true)
    (xtr : PySem.W.typeIn K (.ref D) = some (.type "type"))
    (xkr : PySem.W.keepIn K (.ref D) = true)
    (xir : PySem.W.findIn K (.ref D) "__init__" = some (some (.ref fEr)))
    (xfr : PySem.W.typeIn K (.ref fEr) = some (.type "function"))
    (lEr : K.lookup fEr = some ⟨ocEr, odEr, .func (PySem.W.fnOf "__init__" "BadRatio.__init__" (C8.fnArgs sErr) (C8.fnBody sErr) (C8.fnScope sErr) .none kVEr dcEr pmEr anEr cdEr ctEr), slEr⟩)
    (cEr : PySem.W.codeIn K cdEr "BadRatio.__init__" = true)
    (aDt : PySem.W.nsIn K mainGlobals "BadText" = some (some (.ref D2)))
    (xDt : K.lookup D2 = some (excClassObj nmDt qDt D2 NDt bsDt bmDt true snDt subDt abDt colDt ddDt e0t e1t e2t e3t e5t "ValueError.__new__"))
    (xBt : PySem.HandSPX.refsVE bmDt = true)
    (xst : PySem.W.findIn K (.ref D2) "__setattr__" = some (some (.builtin "object.__setattr__")))
    (xet : PySem.W.subIn K (.ref D2) (.type "BaseException") = some true)
    (xtt : PySem.W.typeIn K (.ref D2) = some (.type "type"))
    (xkt : PySem.W.keepIn K (.ref D2) = true)
    (xit : PySem.W.findIn K (.ref D2) "__init__" = some (some (.ref fEt)))
    (xft : PySem.W.typeIn K (.ref fEt) = some (.type "function"))
    (lEt : K.lookup fEt = some ⟨ocEt, odEt, .func (PySem.W.fnOf "__init__" "BadText.__init__" (C8.fnArgs sTxE) (C8.fnBody sTxE) (C8.fnScope sTxE) .none kVEt dcEt pmEt anEt cdEt ctEt), slEt⟩)
    (cEt : PySem.W.codeIn K cdEt "BadText.__init__" = true)
    (xv : PySem.W.findIn K (.ref D) "value" = some none)
    (xvL : PySem.W.findIn K (.ref D2) "line" = some none)
    (xvW : PySem.W.findIn K (.ref D2) "word" = some none)
    (xg : PySem.W.findIn K (.ref D2) "__getattribute__" = some (some (.builtin "BaseException.__getattribute__")))
    (xn : PySem.W.findIn K (.ref D2) "__getattr__" = some none)
    (xd : PySem.W.hasDictIn K D2 = true)
    (xc : PySem.W.findIn K (.ref D2) "__class__" = some (some (.builtin "object.__class__")))
    (xm : PySem.W.mroIn K D2 (.type "object") = some true)
    (xo : PySem.W.kitOne K (.ref D2) (.ref D2) = some true)
    (xL : PySem.W.exmOne K (.ref D2) (.ref L) = some true)
    (lT : K.lookup cT = some ⟨ocT, odT, .fields usT, slT⟩)
    (vT : usT[11]? = some (.ref B))
    (nT : K.lookup B = none)
    (lU : K.lookup cU = some ⟨ocU, odU, .fields usU, slU⟩)
    (vU : usU[11]? = some (.ref B2))
    (nU2 : K.lookup B2 = none)
    (nB : B2 ≠ B)
    (gPF : PySem.W.nsIn K mainGlobals "PIECE_FIGURES" = some (some (.int iF tPF)))
    (ePF : iF = 60)
    (gPW : PySem.W.nsIn K mainGlobals "PIECE_WORTH" = some (some (.int iW tPW)))
    (ePW : iW = 10 ^ 60)
    (gMF : PySem.W.nsIn K mainGlobals "MOST_FIGURES" = some (some (.int iM tMF)))
    (eMF : iM = 4000)
    (z_int : PySem.W.nsIn K mainGlobals "int" = some none)
    (z_list : PySem.W.nsIn K mainGlobals "list" = some none)
    (z_len : PySem.W.nsIn K mainGlobals "len" = some none)
    (z_abs : PySem.W.nsIn K mainGlobals "abs" = some none)
    (z_bool : PySem.W.nsIn K mainGlobals "bool" = some none)
    (z_str : PySem.W.nsIn K mainGlobals "str" = some none)
    (z_isinstance : PySem.W.nsIn K mainGlobals "isinstance" = some none)
    (z_range : PySem.W.nsIn K mainGlobals "range" = some none)
    (z_repr : PySem.W.nsIn K mainGlobals "repr" = some none)
    (z_all : PySem.W.nsIn K mainGlobals "all" = some none)
    (gG : PySem.W.nsIn K mainGlobals "gcd" = some (some (.builtin "math.gcd")))
    (lim : limB K = true) :
    ∃ (fd : FuncData) (c B c2 B2 : Addr), PySem.W.tabIn K "_law_right" = some (c, B) ∧ K.lookup B = none ∧ PySem.W.tabIn K "law" = some (c2, B2) ∧ K.lookup B2 = none ∧ (∀ (s : Shared) (u : Value), BindsTo s fd ⟨[u], []⟩ [("_law_script", u)]) ∧
      ∀ base : Heap, K.In base → base.Ns mainGlobals mg → TabB base mg c B → TabB base mg c2 B2 → FnG l.prog w K mg base 14 fa fd ["_law_script"] (spLaw K B B2) := by
  have e := hfa.symm.trans (PySem.W.mg_of X G ala)
  cases e
  subst ePF ePW eMF
  have Fii : C8.Def K mg "is_integer" sIsInt fii _ := ⟨⟨_, _, _, _, _, _, _, _, _, _, rfl, lii, cii⟩, PySem.W.mg_of X G aii, kii⟩
  have bii : Binds K _ ["value"] [] := Fii.fn.binds rfl fun _ _ _ _ _ _ us hl => match us, hl with | [_], _ => rfl
  have Ftx : C8.Def K mg "integer_text" sIntTx ftx _ := ⟨⟨_, _, _, _, _, _, _, _, _, _, rfl, ltx, ctx⟩, PySem.W.mg_of X G atx, ktx⟩
  have btx : Binds K _ ["value"] [] := Ftx.fn.binds rfl fun _ _ _ _ _ _ us hl => match us, hl with | [_], _ => rfl
  have Fio : C8.Def K mg "integer_of" sIntOf fio _ := ⟨⟨_, _, _, _, _, _, _, _, _, _, rfl, lio, cio⟩, PySem.W.mg_of X G aio, kio⟩
  have bio : Binds K _ ["word"] [] := Fio.fn.binds rfl fun _ _ _ _ _ _ us hl => match us, hl with | [_], _ => rfl
  have Fro : C8.Def K mg "ratio_of" sRatOf fro _ := ⟨⟨_, _, _, _, _, _, _, _, _, _, rfl, lro, cro⟩, PySem.W.mg_of X G aro, kro⟩
  have bro : Binds K _ ["word"] [] := Fro.fn.binds rfl fun _ _ _ _ _ _ us hl => match us, hl with | [_], _ => rfl
  have Fwo : C8.Def K mg "worth_of" sWorth fwo _ := ⟨⟨_, _, _, _, _, _, _, _, _, _, rfl, lwo, cwo⟩, PySem.W.mg_of X G awo, kwo⟩
  have bwo : Binds K _ ["word"] [] := Fwo.fn.binds rfl fun _ _ _ _ _ _ us hl => match us, hl with | [_], _ => rfl
  have Frb : C8.Def K mg "is_readable" sRead frb _ := ⟨⟨_, _, _, _, _, _, _, _, _, _, rfl, lrb, crb⟩, PySem.W.mg_of X G arb, krb⟩
  have brb : Binds K _ ["text"] [] := Frb.fn.binds rfl fun _ _ _ _ _ _ us hl => match us, hl with | [_], _ => rfl
  have Flp : C8.Def K mg "_law_pen" sPen flp _ := ⟨⟨_, _, _, _, _, _, _, _, _, _, rfl, llp, clp⟩, PySem.W.mg_of X G alp, klp⟩
  have blp : Binds K _ ["_law_script"] [] := Flp.fn.binds rfl fun _ _ _ _ _ _ us hl => match us, hl with | [_], _ => rfl
  have Fld : C8.Def K mg "_law_draw" sDraw fld _ := ⟨⟨_, _, _, _, _, _, _, _, _, _, rfl, lld, cld⟩, PySem.W.mg_of X G ald, kld⟩
  have bld : Binds K _ ["_law_pen_here", "_law_many"] [] := Fld.fn.binds rfl fun _ _ _ _ _ _ us hl => match us, hl with | [_, _], _ => rfl
  have Flk : C8.Def K mg "_law_pick" sPick flk _ := ⟨⟨_, _, _, _, _, _, _, _, _, _, rfl, llk, clk⟩, PySem.W.mg_of X G alk, klk⟩
  have blk : Binds K _ ["_law_pen_here", "_law_some"] [] := Flk.fn.binds rfl fun _ _ _ _ _ _ us hl => match us, hl with | [_, _], _ => rfl
  have Flc : C8.Def K mg "_law_common" sCom flc _ := ⟨⟨_, _, _, _, _, _, _, _, _, _, rfl, llc, clc⟩, PySem.W.mg_of X G alc, klc⟩
  have blc : Binds K _ ["_law_one_so", "_law_two_so"] [] := Flc.fn.binds rfl fun _ _ _ _ _ _ us hl => match us, hl with | [_, _], _ => rfl
  have Fll : C8.Def K mg "_law_least" sLea fll _ := ⟨⟨_, _, _, _, _, _, _, _, _, _, rfl, lll, cll⟩, PySem.W.mg_of X G all, kll⟩
  have bll : Binds K _ ["_law_top", "_law_bottom"] [] := Fll.fn.binds rfl fun _ _ _ _ _ _ us hl => match us, hl with | [_, _], _ => rfl
  have Flq : C8.Def K mg "_law_pair" sPai flq _ := ⟨⟨_, _, _, _, _, _, _, _, _, _, rfl, llq, clq⟩, PySem.W.mg_of X G alq, klq⟩
  have blq : Binds K _ ["_law_pen_here"] [] := Flq.fn.binds rfl fun _ _ _ _ _ _ us hl => match us, hl with | [_], _ => rfl
  have Flw : C8.Def K mg "_law_written" sWri flw _ := ⟨⟨_, _, _, _, _, _, _, _, _, _, rfl, llw, clw⟩, PySem.W.mg_of X G alw, klw⟩
  have blw : Binds K _ ["_law_top", "_law_bottom"] [] := Flw.fn.binds rfl fun _ _ _ _ _ _ us hl => match us, hl with | [_, _], _ => rfl
  have Flf : C8.Def K mg "_law_figures" sFig flf _ := ⟨⟨_, _, _, _, _, _, _, _, _, _, rfl, llf, clf⟩, PySem.W.mg_of X G alf, klf⟩
  have blf : Binds K _ ["_law_part"] [] := Flf.fn.binds rfl fun _ _ _ _ _ _ us hl => match us, hl with | [_], _ => rfl
  have Flu : C8.Def K mg "_law_due" sDue flu _ := ⟨⟨_, _, _, _, _, _, _, _, _, _, rfl, llu, clu⟩, PySem.W.mg_of X G alu, klu⟩
  have blu : Binds K _ ["_law_page"] [] := Flu.fn.binds rfl fun _ _ _ _ _ _ us hl => match us, hl with | [_], _ => rfl
  have Flb : C8.Def K mg "_law_bent" sBen flb _ := ⟨⟨_, _, _, _, _, _, _, _, _, _, rfl, llb, clb⟩, PySem.W.mg_of X G alb, klb⟩
  have blb : Binds K _ ["_law_pen_here", "_law_page"] [] := Flb.fn.binds rfl fun _ _ _ _ _ _ us hl => match us, hl with | [_, _], _ => rfl
  have Flh : C8.Def K mg "_law_heard" sHea flh _ := ⟨⟨_, _, _, _, _, _, _, _, _, _, rfl, llh, clh⟩, PySem.W.mg_of X G alh, klh⟩
  have blh : Binds K _ ["_law_ask"] [] := Flh.fn.binds rfl fun _ _ _ _ _ _ us hl => match us, hl with | [_], _ => rfl
  have Flr : DefC K mg "_law_right" sRight flr _ cT := ⟨⟨_, _, _, _, _, _, _, _, _, rfl, llr, clr⟩, PySem.W.mg_of X G alr, klr⟩
  have blr : Binds K _ ["_law_page"] [] := C8.Fun.binds (st := sRight) (x := "_law_right") (qual := "_law_right") (f := flr) ⟨_, _, _, _, _, _, _, _, _, _, rfl, llr, clr⟩ rfl fun _ _ _ _ _ _ us hl => match us, hl with | [_], _ => rfl
  have Fla : LawC K "law" sLaw fa _ cU := ⟨⟨_, _, _, _, _, _, _, _, _, rfl, lla, cla⟩⟩
  have Fmo : C8.Fun K "of" "Ratio.of" sOf fmo _ := ⟨_, _, _, _, _, _, _, _, _, _, rfl, lmo, cmo⟩
  have bmo : Binds K _ ["value"] [] := Fmo.binds rfl fun _ _ _ _ _ _ us hl => match us, hl with | [_], _ => rfl
  have Fmr : C8.Fun K "read" "Ratio.read" sReadM fmr _ := ⟨_, _, _, _, _, _, _, _, _, _, rfl, lmr, cmr⟩
  have bmr : Binds K _ ["cls", "text"] [] := Fmr.binds rfl fun _ _ _ _ _ _ us hl => match us, hl with | [_, _], _ => rfl
  have Fmm : C8.Fun K "__mul__" "Ratio.__mul__" sMul fmm _ := ⟨_, _, _, _, _, _, _, _, _, _, rfl, lmm, cmm⟩
  have bmm : Binds K _ ["self", "other"] [] := Fmm.binds rfl fun _ _ _ _ _ _ us hl => match us, hl with | [_, _], _ => rfl
  have tmm : Meth K C (PySem.dunder "mul") fmm := ⟨amm, imm, kmm⟩
  have Fme : C8.Fun K "__eq__" "Ratio.__eq__" sEq fme _ := ⟨_, _, _, _, _, _, _, _, _, _, rfl, lme, cme⟩
  have bme : Binds K _ ["self", "other"] [] := Fme.binds rfl fun _ _ _ _ _ _ us hl => match us, hl with | [_, _], _ => rfl
  have tme : Meth K C ("__eq__") fme := ⟨ame, ime, kme⟩
  have Fmt : C8.Fun K "__str__" "Ratio.__str__" sStrM fmt _ := ⟨_, _, _, _, _, _, _, _, _, _, rfl, lmt, cmt⟩
  have bmt : Binds K _ ["self"] [] := Fmt.binds rfl fun _ _ _ _ _ _ us hl => match us, hl with | [_], _ => rfl
  have tmt : Meth K C ("__str__") fmt := ⟨amt, imt, kmt⟩
  have T : Txt mg := { n_int := PySem.W.mg_none_of X G z_int, n_list := PySem.W.mg_none_of X G z_list, n_len := PySem.W.mg_none_of X G z_len, n_abs := PySem.W.mg_none_of X G z_abs, n_bool := PySem.W.mg_none_of X G z_bool, n_str := PySem.W.mg_none_of X G z_str, n_isinstance := PySem.W.mg_none_of X G z_isinstance, n_range := PySem.W.mg_none_of X G z_range, n_repr := PySem.W.mg_none_of X G z_repr, n_all := PySem.W.mg_none_of X G z_all }
  have TN : TxtN mg := { toTxt := T, c_PF := ⟨_, PySem.W.mg_of X G gPF⟩, c_PW := ⟨_, PySem.W.mg_of X G gPW⟩ }
  have cl : Cls K C := ⟨pg, hd, po, sa⟩
  have IC : C8.InsC K C := ⟨cl, hC, hG, hK, hM, by unfold PySem.W.kitOne; rw [if_pos (by simp)]⟩
  have O : Oks K C := ⟨first, _, rm⟩
  have nb : NoB K C := ⟨o_int, o_bool, o_str⟩
  have NC : NeC K C := ⟨hM, nE⟩
  have FI : C8.Fun K "__init__" "Ratio.__init__" sRat fI _ := ⟨_, _, _, _, _, _, _, _, _, _, rfl, lI, cI⟩
  have FD : FunD K "__init__" "Ratio.__init__" (C8.fnArgs sRat) (C8.fnBody sRat) (C8.fnScope sRat) [.int 1] [] fI _ := ⟨⟨_, _, _, _, _, _, _, _, _, _, rfl, lI, cI, .inr ⟨by simp, Td, _, [.int 1 tD], nD, rfl, lD, rfl, .cons ⟨_, rfl⟩ .nil⟩, .inl rfl⟩, kI⟩
  obtain ⟨ds3, vd3, bI3⟩ := FD.binds1 (ps := ["self", "over", "under"]) 3 1 (by simp) rfl (fun Tq kVq dcq pmq anq cdq ctq us its h1 h2 => match us, its, h1, h2 with | [_, _, _], [_], _, _ => ⟨_, rfl, rfl⟩)
  obtain ⟨ds2, vd2, bI2⟩ := FD.binds1 (ps := ["self", "over", "under"]) 2 0 (by simp) rfl (fun Tq kVq dcq pmq anq cdq ctq us its h1 h2 => match us, its, h1, h2 with | [_, _], [_], _, _ => ⟨_, rfl, rfl⟩)
  cases vd3
  have FE : C8.Fun K "__init__" "BadRatio.__init__" sErr fEr _ := ⟨_, _, _, _, _, _, _, _, _, _, rfl, lEr, cEr⟩
  have bE : Binds K _ ["self", "value"] [] := FE.binds rfl fun _ _ _ _ _ _ us hl => match us, hl with | [_, _], _ => rfl
  have OX : OexC K D := ⟨⟨_, _, _, _, _, _, _, _, _, _, _, _, _, _, _, xDr, xBr⟩, xsr, xer, xtr, xkr⟩
  have FE2 : C8.Fun K "__init__" "BadText.__init__" sTxE fEt _ := ⟨_, _, _, _, _, _, _, _, _, _, rfl, lEt, cEt⟩
  have bE2 : Binds K _ ["self", "line", "word"] [] := FE2.binds rfl fun _ _ _ _ _ _ us hl => match us, hl with | [_, _, _], _ => rfl
  have OX2 : OexC K D2 := ⟨⟨_, _, _, _, _, _, _, _, _, _, _, _, _, _, _, xDt, xBt⟩, xst, xet, xtt, xkt⟩
  have R : Hrd K mg C D2 L := { xf := ⟨xg, xn, xet, xd⟩, noL := xvL, noW := xvW, xc := ⟨xg, xn, xet, xd, xc, hG, hK, xm⟩, me := xo, ml := PySem.W.mg_of X G aL, md := PySem.W.mg_of X G aDt, ex := xL, I := IC, hm := PySem.W.mg_of X G aC, cl := cl, n1 := nO, n2 := nU }
  have kb : ∃ gU : List Value → List Value → List Value, KBn K _ ["cls", "text"] 1 ["text"] gU (fun us zs => us ++ zs) := ⟨fun us ws => us ++ ws, kb_one Fmr rfl fun _ _ _ _ _ _ us ws h1 h2 => match us, ws, h1, h2 with | [_], [_], _, _ => rfl⟩
  refine ⟨PySem.W.fnOf "law" "law" (C8.fnArgs sLaw) (C8.fnBody sLaw) (C8.fnScope sLaw) .none kVla dcla pmla anla (.ref cU) ctla, cT, B, cU, B2, tabIn_of alr llr rfl lT vT, nT, tabIn_of ala lla rfl lU vU, nU2, fun s u => .of_eq rfl, fun base KB GB TB TB2 => ?_⟩
  have ER : Err l.prog w K mg base D fEr _ := ⟨OX, xir, xfr, fn_err FE OX xv, bE, PySem.W.mg_of X G aDr⟩
  have ER2 : Err2 l.prog w K mg base D2 fEt _ := ⟨OX2, xit, xft, fn_txE FE2 OX2 xvL xvW, bE2, PySem.W.mg_of X G aDt⟩
  have Dii := cal_isint (P := l.prog) (w := w) (base := base) Fii bii T
  have mI : Mk K C fI := ⟨mk, aI, iI, kC⟩
  have RM : RatM l.prog w K mg base C D fI _ ds2 := ⟨mI, fn_rat FI cl nO nU (PySem.W.mg_of X G gG) Dii ER, PySem.W.mg_of X G aC, bI2, vd2, bI3⟩
  have OM : OfM l.prog w K mg base C D pO fmo _ := ⟨⟨⟨_, sT, sR, sF⟩, sG, ⟨_, sO⟩, kmo⟩, fn_of' Fmo T IC RM, bmo⟩
  have Dtx := cal_inttx (P := l.prog) (w := w) (base := base) Ftx btx TN
  have Dio := cal_intof (P := l.prog) (w := w) (base := base) Fio bio TN
  have Drb := cal_read (P := l.prog) (w := w) (base := base) Frb brb T (PySem.W.mg_of X G gMF)
  have Dro := cal_ratof Fro bro T (PySem.W.mg_of X G gG) RM Dio
  have Dwo := cal_worth Fwo bwo Dro Drb
  have RR : RdM l.prog w K mg base C D2 pR fmr mcC _ := ⟨⟨sR, sG⟩, ⟨rF, ⟨_, rO⟩, rN⟩, fn_readM Fmr Dwo ER2, bmr⟩
  have MS : MetX l.prog w K mg base 2 C "__str__" (spStrM C) := ⟨_, _, _, tmt, fn_strM Fmt T Dtx cl nO nU, bmt⟩
  have ME : MetX l.prog w K mg base 3 C "__eq__" (spEqR C) := ⟨_, _, _, tme, fn_eqR Fme T (PySem.W.mg_of X G aC) cl nO nU IC nb Dii, bme⟩
  have MM : MetX l.prog w K mg base 7 C "__mul__" (spMulW K C) := ⟨_, _, _, tmm, fn_mulW Fmm RM OM cl nO nU qi, bmm⟩
  have D1 := cal_draw (P := l.prog) (w := w) (K := K) (base := base) Fld bld T.toTxt0
  have D2' := cal_pick Flk blk T.toTxt0 D1
  have D0 := cal_pen (P := l.prog) (w := w) (base := base) Flp blp T.toTxt0
  have Dc := cal_com (P := l.prog) (w := w) (base := base) Flc blc T.toTxt0
  have D3 := cal_lea Fll bll T.toTxt0 Dc
  have D5 := cal_pai Flq blq T.toTxt0 D1 D2'
  have Dw := cal_wri Flw blw TN lim D3
  have Df := cal_fig (P := l.prog) (w := w) (base := base) Flf blf TN lim
  have Du := cal_due Flu blu TN Df Dw
  have Db := cal_ben Flb blb TN D1 D2'
  have DR := cal_right Flr blr Flh blh TB nB R T RR Du
  exact fn_law Fla Flh blh TB2 nB R TN O nb RR kb RM MS NC ME MM D0 D2' D5 Dw Du Db DR
end Lw
open PySem PySem.W PyProof.Rows
set_option maxRecDepth 100000 in
set_option maxHeartbeats 0 in
theorem PySem.Challenge.cw_latechunks_k08_texts_of_ratios_holds : PySem.Challenge.rw_latechunks_k08_texts_of_ratios.Holds := by
  w_on; o_law; k_head; (case hw => w_witness2)
  k_fill
  refine Lw.walk_end (l := PySem.Challenge.rw_latechunks_k08_texts_of_ratios) (x := "_law_script") (xt := "_law_right") (xt2 := "law") (k := 14) rfl (by decide) rfl ⟨rfl, by decide, by decide⟩ (fun w h Y => PySem.W.km_in_of Y) ?hrec ?hrec2 ?F
  case hrec => first | rfl | decide +kernel
  case hrec2 => first | rfl | decide +kernel
  case F =>
    intro w mg fa h KX G hmg
    refine' Lw.all_known KX G hmg ?aii ?lii ?cii ?kii ?atx ?ltx ?ctx ?ktx ?aio ?lio ?cio ?kio ?aro ?lro ?cro ?kro ?awo ?lwo ?cwo ?kwo ?arb ?lrb ?crb ?krb ?alp ?llp ?clp ?klp ?ald ?lld ?cld ?kld ?alk ?llk ?clk ?klk ?alc ?llc ?clc ?klc ?all ?lll ?cll ?kll ?alq ?llq ?clq ?klq ?alw ?llw ?clw ?klw ?alf ?llf ?clf ?klf ?alu ?llu ?clu ?klu ?alb ?llb ?clb ?klb ?alh ?llh ?clh ?klh ?alr ?llr ?clr ?klr ?ala ?lla ?cla ?kla ?lmo ?cmo ?kmo ?lmr ?cmr ?kmr ?amm ?imm ?lmm ?cmm ?kmm ?ame ?ime ?lme ?cme ?kme ?amt ?imt ?lmt ?cmt ?kmt ?sT ?sR ?sF ?sG ?sO ?rF ?rO ?rN ?aC ?aI ?iI ?lI ?cI ?kI ?lD ?pg ?hd ?po ?sa ?mk ?kC ?nO ?nU ?hC ?hG ?hK ?hM ?first ?rm ?nE ?o_int ?o_bool ?o_str ?qi ?aL ?aDr ?xDr ?xBr ?xsr ?xer ?xtr ?xkr ?xir ?xfr ?lEr ?cEr ?aDt ?xDt ?xBt ?xst ?xet ?xtt ?xkt ?xit ?xft ?lEt ?cEt ?xv ?xvL ?xvW ?xg ?xn ?xd ?xc ?xm ?xo ?xL ?lT ?vT ?nT ?lU ?vU ?nU2 ?nB ?gPF ?ePF ?gPW ?ePW ?gMF ?eMF ?z_int ?z_list ?z_len ?z_abs ?z_bool ?z_str ?z_isinstance ?z_range ?z_repr ?z_all ?gG ?lim
    (case aC => k_is); (case aDr => k_is); (case aDt => k_is); (case aL => k_is)
    (case sT => k_is); (case sR => k_is); (case sF => k_is); (case sG => k_is)
    (case sO => k_is); (case rF => k_is); (case rO => k_is); (case aii => k_is)
    (case lii => k_is); (case cii => k_is); (case kii => k_is); (case atx => k_is)
    (case ltx => k_is); (case ctx => k_is); (case ktx => k_is); (case aio => k_is)
    (case lio => k_is); (case cio => k_is); (case kio => k_is); (case aro => k_is)
    (case lro => k_is); (case cro => k_is); (case kro => k_is); (case awo => k_is)
    (case lwo => k_is); (case cwo => k_is); (case kwo => k_is); (case arb => k_is)
    (case lrb => k_is); (case crb => k_is); (case krb => k_is); (case alp => k_is)
    (case llp => k_is); (case clp => k_is); (case klp => k_is); (case ald => k_is)
    (case lld => k_is); (case cld => k_is); (case kld => k_is); (case alk => k_is)
    (case llk => k_is); (case clk => k_is); (case klk => k_is); (case alc => k_is)
    (case llc => k_is); (case clc => k_is); (case klc => k_is); (case all => k_is)
    (case lll => k_is); (case cll => k_is); (case kll => k_is); (case alq => k_is)
    (case llq => k_is); (case clq => k_is); (case klq => k_is); (case alw => k_is)
    (case llw => k_is); (case clw => k_is); (case klw => k_is); (case alf => k_is)
    (case llf => k_is); (case clf => k_is); (case klf => k_is); (case alu => k_is)
    (case llu => k_is); (case clu => k_is); (case klu => k_is); (case alb => k_is)
    (case llb => k_is); (case clb => k_is); (case klb => k_is); (case alh => k_is)
    (case llh => k_is); (case clh => k_is); (case klh => k_is); (case alr => k_is)
    (case llr => k_is); (case clr => k_is); (case klr => k_is); (case ala => k_is)
    (case lla => k_is); (case cla => k_is); (case kla => k_is); (case lmo => k_is)
    (case cmo => k_is); (case kmo => k_is); (case lmr => k_is); (case cmr => k_is)
    (case kmr => k_is); (case amm => k_is); (case imm => k_is); (case lmm => k_is)
    (case cmm => k_is); (case kmm => k_is); (case ame => k_is); (case ime => k_is)
    (case lme => k_is); (case cme => k_is); (case kme => k_is); (case amt => k_is)
    (case imt => k_is); (case lmt => k_is); (case cmt => k_is); (case kmt => k_is)
    (case rN => k_is); (case aI => k_is); (case iI => k_is); (case lI => k_is)
    (case cI => k_is); (case kI => k_is); (case lD => k_is); (case pg => k_is)
    (case hd => k_is); (case po => k_is); (case sa => k_is); (case mk => k_is)
    (case kC => k_is); (case nO => k_is); (case nU => k_is); (case hC => k_is)
    (case hG => k_is); (case hK => k_is); (case hM => k_is); (case first => k_is)
    (case rm => k_is); (case nE => k_is); (case o_int => first | kernel_rfl | rfl | decide +kernel); (case o_bool => first | kernel_rfl | rfl | decide +kernel)
    (case o_str => first | kernel_rfl | rfl | decide +kernel); (case qi => first | kernel_rfl | rfl | decide +kernel); (case xDr => k_is); (case xBr => first | rfl | decide +kernel)
    (case xsr => k_is); (case xer => k_is); (case xtr => k_is); (case xkr => k_is)
    (case xir => k_is); (case xfr => k_is); (case lEr => k_is); (case cEr => k_is)
    (case xDt => k_is); (case xBt => first | rfl | decide +kernel); (case xst => k_is); (case xet => k_is)
    (case xtt => k_is); (case xkt => k_is); (case xit => k_is); (case xft => k_is)
    (case lEt => k_is); (case cEt => k_is); (case xv => k_is); (case xvL => k_is)
    (case xvW => k_is); (case xg => k_is); (case xn => k_is); (case xd => k_is)
    (case xc => k_is); (case xm => k_is); (case xo => first | kernel_rfl | rfl | decide +kernel); (case xL => first | kernel_rfl | rfl | decide +kernel)
    (case lT => k_is); (case vT => first | rfl | decide +kernel); (case nT => first | kernel_rfl | rfl); (case lU => k_is)
    (case vU => first | rfl | decide +kernel); (case nU2 => first | kernel_rfl | rfl); (case nB => decide); (case gPF => k_is)
    (case ePF => first | rfl | decide +kernel); (case gPW => k_is); (case ePW => first | rfl | decide +kernel); (case gMF => k_is)
    (case eMF => first | rfl | decide +kernel); (case z_int => k_is); (case z_list => k_is); (case z_len => k_is)
    (case z_abs => k_is); (case z_bool => k_is); (case z_str => k_is); (case z_isinstance => k_is)
    (case z_range => k_is); (case z_repr => k_is); (case z_all => k_is); (case gG => k_is)
    (case lim => first | kernel_rfl | rfl | decide +kernel)
