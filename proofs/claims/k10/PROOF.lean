import PyProof.Rows.All
import Wide.All
import OpenK.AllK
import Wide.FinOn
import HandS.ForMost
import HandS.Wide
import HandS.Codes
import HandS.EndBits
import HandS.Lambda
import HandS.IsInst
import PyProof.IsiBase
import KE.KIsAll
import HandS.Walk
import HandS.StrMore
import PyProof.StrOps2
import HandS.Words
import HandS.Exc
import HandS.ExcField
import HandS.ExcIs
import HandS.ClsMeth
import HandS.SlotsOwn
import KE.KOpsOwn
import PyProof.TwoTypes
import HandS.ExcInit
import HandS.Zip
import HandS.Iter
import KE.GoesMore
import HandS.Text
import KE.IntTextText
import HandS.Dict
import HandS.Style
import HandS.Defaults
import HandS.ExcValue
import HandS.MakeKwOnly
import HandS.Star
import HandS.FStr
import HandS.RaiseMore
import KE.KCallOwn
import PyProof.Methods
import HandS.TupMul
import HandS.TupAny
import HandS.WideBits
import HandS.Comp
import HandS.EndTab
import HandS.MakeKw
import PySem.Challenge.RW_latechunks_k10_chunks_joined_and_cut
set_option Elab.async false
set_option linter.all false
set_option maxRecDepth 100000
set_option maxHeartbeats 4000000
namespace Lw
open PySem PySem.Spec PyProof.Rows L2
def top (i : Nat) : Stmt := PySem.Challenge.pw_latechunks_k10_chunks_joined_and_cut.main.body.getD i (.Pass ⟨0, 0, 0, 0⟩)

theorem stir {x s : Int} (hx0 : 0 ≤ x) (hx : x < 2147483648) (hs0 : 0 ≤ s) (hs : s ≤ 1000000) (e f g : Int) (he0 : 0 ≤ e) (he : e ≤ 1000) (hf0 : 0 ≤ f) (hf : f ≤ 1000000) (hg0 : 0 ≤ g) (hg : g ≤ 1000000) :
    (x * (2 * s + e) + f * s * s + g).natAbs < 2 ^ 64 := by
  have a0 : 0 ≤ x * (2 * s + e) := Int.mul_nonneg hx0 (by omega)
  have a1 : x * (2 * s + e) ≤ 2147483648 * 2001000 := Int.mul_le_mul (by omega) (by omega) (by omega) (by omega)
  have b0 : 0 ≤ f * s := Int.mul_nonneg hf0 hs0
  have b1 : f * s ≤ 1000000 * 1000000 := Int.mul_le_mul hf hs hs0 (by omega)
  have c0 : 0 ≤ f * s * s := Int.mul_nonneg b0 hs0
  have c1 : f * s * s ≤ 1000000 * 1000000 * 1000000 := Int.mul_le_mul b1 hs hs0 (by omega)
  omega
theorem fsmall {f s : Int} (hf0 : 0 ≤ f) (hf : f ≤ 1000000) (hs0 : 0 ≤ s) (hs : s ≤ 1000000) : -(2 ^ 64) < f * s ∧ f * s < 2 ^ 64 := by
  have b0 : 0 ≤ f * s := Int.mul_nonneg hf0 hs0
  have b1 : f * s ≤ 1000000 * 1000000 := Int.mul_le_mul hf hs hs0 (by omega)
  omega
theorem fm0 {a d : Int} (hd : 0 < d) : 0 ≤ Int.fmod a d := Int.fmod_nonneg_of_pos _ hd
theorem fm1 {a d : Int} (hd : 0 < d) (h : d ≤ 2147483648) : Int.fmod a d < 2147483648 := Int.lt_of_lt_of_le (Int.fmod_lt_of_pos _ hd) h
theorem fm64 {a d : Int} (hd : 0 < d) (h : d ≤ 2147483648) : -(2 ^ 64) < Int.fmod a d ∧ Int.fmod a d < 2 ^ 64 := by
  have h0 := fm0 (a := a) hd
  have h1 := fm1 (a := a) hd h
  omega
theorem ite_false_of {c : Bool} {A B : Prop} (h : ¬ c = true) (hb : B) : if c = true then A else B := by rw [if_neg h]; exact hb
/-- behind an if: what both ways end in -/
theorem join_if {t u : TS} {D : Ends} {b : Bool} {σ : L2.St} {H : Hp} (Pj : L2.St → Hp → Prop) (hr : ∀ σ' H', Pj σ' H' → D.nx σ' H') (h : (∀ σ' H', Pj σ' H' → D.nx σ' H') → if b = true then t D σ H else u D σ H) : if b = true then t D σ H else u D σ H := h hr
theorem lay_ints : ∀ xs : List Int, PyData.canLayAll0 (xs.map PyData.int) = true
  | [] => rfl
  | x :: r => by
    show (PyData.canLay0 (.int x) && PyData.canLayAll0 (r.map PyData.int)) = true
    rw [lay_ints r]; rfl
theorem depth_ints : ∀ xs : List Int, PyData.depthAll (xs.map PyData.int) = 0
  | [] => rfl
  | x :: r => by
    show max (PyData.depth (.int x)) (PyData.depthAll (r.map PyData.int)) = 0
    rw [depth_ints r]; rfl
theorem shaped_ints (xs : List Int) : SeqAt.shaped (.list (xs.map PyData.int)) = true := by
  unfold SeqAt.shaped
  have h1 : PyData.canLay0 (.list (xs.map PyData.int)) = true := lay_ints xs
  have h2 : PyData.depth (.list (xs.map PyData.int)) = 1 := by
    show PyData.depthAll (xs.map PyData.int) + 1 = 1
    rw [depth_ints]
  rw [h1, h2]; rfl
theorem dp_ints {K : PySem.W.Frag} {H : Hp} : ∀ xs : List Int, DpAll K H (xs.map V.int) (xs.map PyData.int)
  | [] => .nil
  | x :: r => .cons (.int x) (dp_ints r)
theorem eqv_nil (xs : List Int) : PyData.eqv (.list (xs.map PyData.int)) (.list []) = decide (xs = []) := by
  cases xs <;> rfl
abbrev sPen : Stmt := top 28
abbrev sDraw : Stmt := top 29
abbrev sPick : Stmt := top 30
/-- all but what stands at p is as it was -/
def Kp (p : Addr) (H H' : Hp) : Prop := ∀ b o, b ≠ p → H b = some o → H' b = some o
/-- a pen at p: its numbers at l, its place, its rest -/
structure PenAt (H : Hp) (p l : Addr) (xs : List Int) (s g : Int) : Prop where
  at_ : H p = some (.lst [.ref l, .int s, .int g])
  ls : H l = some (.lst (xs.map V.int))
  ne : p ≠ l
  s0 : 0 ≤ s
  g0 : 0 ≤ g
def Pen (H : Hp) (p l : Addr) (n : Nat) : Prop := ∃ xs s g, PenAt H p l xs s g ∧ s ≤ n
def spDraw : Sp := fun vs H Q _ => ∃ (p l : Addr) (n : Nat) (m : Int), vs = [.ref p, .int m] ∧ 0 < m ∧ m < 2 ^ 200 ∧ Pen H p l n ∧ n ≤ 1000000 ∧
  ∀ (r : Int) (H' : Hp), 0 ≤ r → r < m → Pen H' p l (n + 1) → Kp p H H' → Q (.int r) H'
structure Txt0 (mg : Str → Option Value) : Prop where
  n_int : mg "int" = none
  n_list : mg "list" = none
  n_len : mg "len" = none
  n_abs : mg "abs" = none
section
variable {P : Program} {w : World} {K : PySem.W.Frag} {mg : Str → Option Value} {base : Heap}
theorem scDraw : FnScope ["_law_pen_here", "_law_many", "_law_digit", "_law_spot", "_law_cell", "_law_great", "_law_mixed"] ["_law_pen_here", "_law_many"] (C8.fnScope sDraw) := C8.fnScope_by (by decide +kernel)
theorem cal_draw {f : Addr} {fd : FuncData} (F : C8.Def K mg "_law_draw" sDraw f fd) (b : Binds K fd ["_law_pen_here", "_law_many"] []) (T : Txt0 mg) : C8.Cal P w K mg base 1 "_law_draw" spDraw [] := by
  refine C8.cal0 F b .nil scDraw (fun vs H Q E h => ?_) (fun cdv A outer st H vs Q E hr h => ?_)
  · obtain ⟨p, l, n, m, rfl, _⟩ := h
    rfl
  · obtain ⟨p, l, n, m, rfl, hm, hm2, ⟨xs, s, g, ⟨hp, hl, ne, s0, g0⟩, hs⟩, hn, k⟩ := h
    refine ⟨_, (pss_cons (ps_if (pt_cmpR op_gt (pe_ix ix_list (pv 0) pe_int (fun _ _ => rfl)) pe_int (nomark _)) (pss_cons (ps_set (i := 2) scDraw.nd rfl (Or.inl rfl) (pe_op op_modN (pe_callTy call_int1 (by rfl) T.n_int (by decide +kernel) (pa_cons (pe_ix ix_list (pv 0) pe_int (fun _ _ => rfl)) pa_nil)) (pv 1)))
  (pss_cons (ps_asg (pe_op op_fdivW (pe_callTy call_int1 (by rfl) T.n_int (by decide +kernel) (pa_cons (pe_ix ix_list (pv 0) pe_int (fun _ _ => rfl)) pa_nil)) (pv 1)) (pg_sub (pv 0) pe_int set_list))
  (pss_one (ps_ret (pv 2))))) pss_nil)
  (pss_cons (ps_set (i := 3) scDraw.nd rfl (Or.inl rfl) (pe_ix ix_list (pv 0) pe_int (fun _ _ => rfl)))
  (pss_cons (ps_asg (pe_op op_add (pv 3) pe_int) (pg_sub (pv 0) pe_int set_list))
  (pss_cons (ps_set (i := 4) scDraw.nd rfl (Or.inl rfl) (pe_op op_add (pe_op op_mul pe_int (pv 3)) pe_int))
  (pss_cons (ps_if (pt_cmpR (op_neD hr.units) (pe_ix ix_list (pv 0) pe_int (fun _ _ => rfl)) (pe_lst pa_nil) (nomark _)) (pss_one (ps_set (i := 4) scDraw.nd rfl (Or.inl rfl) (pe_ix ix_list (pe_ix ix_list (pv 0) pe_int (fun _ _ => rfl)) (pe_op op_modN (pe_callTy call_int1 (by rfl) T.n_int (by decide +kernel) (pa_cons (pv 3) pa_nil)) (pe_callB call_len_seq (by rfl) T.n_len (by decide +kernel) (pa_cons (pe_ix ix_list (pv 0) pe_int (fun _ _ => rfl)) pa_nil))) (fun _ _ => rfl)))) pss_nil)
  (pss_cons (ps_if (PW.pt (pw_and (pt_cmpR op_lt (pv 3) (pe_callB call_len_seq (by rfl) T.n_len (by decide +kernel) (pa_cons (pe_ix ix_list (pv 0) pe_int (fun _ _ => rfl)) pa_nil)) (nomark _)) (pw_and1 (pt_cmpR op_ge (pe_callB call_abs (by rfl) T.n_abs (by decide +kernel) (pa_cons (pv 4) pa_nil)) (pe_op op_pow pe_int pe_int) (nomark _))))) (pss_cons (ps_set (i := 5) scDraw.nd rfl (Or.inl rfl) (pe_op op_add (pe_op op_mul pe_int (pe_op op_sub (pe_callB call_abs (by rfl) T.n_abs (by decide +kernel) (pa_cons (pv 4) pa_nil)) (pe_op op_pow pe_int pe_int))) (pe_callTy call_int1 (by rfl) T.n_int (by decide +kernel) (pa_cons (pe_cmpR op_lt (pv 4) pe_int (nomark _)) pa_nil))))
  (pss_cons (ps_asg (pe_op op_fdivW (pe_callTy call_int1 (by rfl) T.n_int (by decide +kernel) (pa_cons (pv 5) pa_nil)) (pv 1)) (pg_sub (pv 0) pe_int set_list))
  (pss_one (ps_ret (pe_op op_modN (pe_callTy call_int1 (by rfl) T.n_int (by decide +kernel) (pa_cons (pv 5) pa_nil)) (pv 1)))))) pss_nil)
  (pss_cons (ps_set (i := 6) scDraw.nd rfl (Or.inl rfl) (pe_op op_modN (pe_callTy call_int1 (by rfl) T.n_int (by decide +kernel) (pa_cons (pe_op op_pow (pe_op op_add (pe_op op_add (pe_op op_modN (pe_callTy call_int1 (by rfl) T.n_int (by decide +kernel) (pa_cons (pv 4) pa_nil)) pe_int) (pe_op op_mul pe_int (pv 3))) pe_int) pe_int) pa_nil)) pe_int))
  (pss_cons (ps_set (i := 6) scDraw.nd rfl (Or.inl rfl) (pe_op op_modN (pe_callTy call_int1 (by rfl) T.n_int (by decide +kernel) (pa_cons (pe_op op_pow (pe_op op_add (pe_op op_add (pe_op op_mul (pv 6) (pe_op op_add (pe_op op_mul pe_int (pv 3)) pe_int)) (pe_op op_mul (pe_op op_mul pe_int (pv 3)) (pv 3))) pe_int) pe_int) pa_nil)) pe_int))
  (pss_one (ps_ret (pe_op op_modN (pe_callTy call_int1 (by rfl) T.n_int (by decide +kernel) (pa_cons (pe_op op_fdivW (pv 6) pe_int) pa_nil)) (pv 1)))))))))))), ?_⟩
    have hmb : CDivW 0 m := wide_div (b := 200) hm (by omega) (by decide) (by decide)
    refine ⟨_, rfl, p, _, _, _, rfl, rfl, SqL.of hp, rfl, _, _, rfl, rfl, _, rfl, ite2 (fun c => ?_) (fun c => ?_)⟩
    · -- the rest is above 0: a digit of it
      refine ⟨_, rfl, p, _, _, _, rfl, rfl, SqL.of hp, rfl, Or.inl ⟨_, rfl, ?_⟩⟩
      refine ⟨_, rfl, _, _, rfl, rfl, (by omega), ?_⟩
      refine ⟨_, rfl, p, _, _, _, rfl, rfl, SqL.of hp, rfl, Or.inl ⟨_, rfl, ?_⟩⟩
      refine ⟨_, rfl, _, _, rfl, rfl, hmb, ?_⟩
      refine ⟨_, rfl, p, _, _, _, rfl, rfl, hp, rfl, ?_⟩
      refine ⟨_, rfl, ?_⟩
      refine k _ _ (Int.fmod_nonneg_of_pos _ hm) (Int.fmod_lt_of_pos _ hm) ⟨xs, s, g / m, ⟨?_, ?_, ne, s0, Int.ediv_nonneg g0 (Int.le_of_lt hm)⟩, by omega⟩ fun b o hb e => ?_
      · rw [upd_same]; rfl
      · rw [upd_ne (Ne.symm ne)]; exact hl
      · rw [upd_ne hb]; exact e
    · -- the next place
      refine ⟨_, rfl, p, _, _, _, rfl, rfl, SqL.of hp, rfl, ?_⟩
      refine ⟨_, rfl, _, _, rfl, rfl, _, rfl, p, _, _, _, rfl, rfl, hp, rfl, ?_⟩
      have hp1 : upd H p (.lst [V.ref l, V.int (s + 1), V.int g]) p = some (.lst [V.ref l, V.int (s + 1), V.int g]) := upd_same
      have hl1 : upd H p (.lst [V.ref l, V.int (s + 1), V.int g]) l = some (.lst (xs.map V.int)) := by rw [upd_ne (Ne.symm ne)]; exact hl
      have k1 : Kp p H (upd H p (.lst [V.ref l, V.int (s + 1), V.int g])) := fun b o hb e => by rw [upd_ne hb]; exact e
      show tSeq _ _ _ _ (upd H p (.lst [V.ref l, V.int (s + 1), V.int g]))
      generalize upd H p (.lst [V.ref l, V.int (s + 1), V.int g]) = H1 at hp1 hl1 k1 ⊢
      have fin : ∀ (r g' : Int) (H' : Hp), 0 ≤ r → r < m → 0 ≤ g' → H' p = some (.lst [V.ref l, V.int (s + 1), V.int g']) → Kp p H1 H' → Q (.int r) H' := fun r g' H' h0 h1 h2 h3 h4 =>
        k r H' h0 h1 ⟨xs, s + 1, g', ⟨h3, h4 _ _ (Ne.symm ne) hl1, ne, by omega, h2⟩, by omega⟩ fun b o hb e => h4 b o hb (k1 b o hb e)
      refine ⟨_, rfl, _, _, rfl, rfl, Or.inl (by decide), _, _, rfl, rfl, ?_⟩
      refine ⟨_, rfl, p, _, _, _, rfl, rfl, SqL.of hp1, rfl, (by show 0 ≤ sizeLine; decide), fun q hq => ?_⟩
      have lq : l ≠ q := ne_of_none hl1 hq
      have pq : p ≠ q := ne_of_none hp1 hq
      have hl2 : upd H1 q (.lst []) l = some (.lst (xs.map V.int)) := by rw [upd_ne lq]; exact hl1
      have hp2 : upd H1 q (.lst []) p = some (.lst [V.ref l, V.int (s + 1), V.int g]) := by rw [upd_ne pq]; exact hp1
      have k2 : Kp p H1 (upd H1 q (.lst [])) := fun b o hb e => by rw [upd_ne (ne_of_none e hq)]; exact e
      refine ⟨.list (xs.map PyData.int), .list [], .lst (SqL.of hl2) (dp_ints xs), .lst (SqL.of upd_same) .nil, shaped_ints xs, rfl, _, rfl, ?_⟩
      generalize upd H1 q (.lst []) = H2 at hl2 hp2 k2 ⊢
      refine join_if (fun σ' H' => ∃ cell : Int, σ' = [some (V.ref p), some (V.int m), none, some (V.int s), some (V.int cell), none, none] ∧ H' = H2) ?rest (fun go => ?_)
      case rest =>
        rintro σ' H' ⟨cell, rfl, rfl⟩
        refine ⟨_, rfl, _, rfl, p, _, _, _, rfl, rfl, SqL.of hp2, rfl, l, xs.map V.int, rfl, .inl (SqL.of hl2), _, _, rfl, rfl, _, rfl, ?_⟩
        refine ite2 (fun c2 => ?_) (fun c2 => ?_)
        · refine ⟨_, rfl, _, rfl, _, _, rfl, rfl, ⟨by decide, by decide, by decide⟩, _, _, rfl, rfl, _, rfl, ?_⟩
          refine ite2 (fun c3 => ?_) (fun c3 => ?_)
          · refine ⟨_, rfl, _, rfl, _, _, rfl, rfl, ⟨by decide, by decide, by decide⟩, _, _, rfl, rfl, _, _, rfl, rfl, Or.inl (by decide), _, rfl, _, _, rfl, rfl, Or.inr ⟨_, rfl, _, _, rfl, rfl, ?_⟩⟩
            have hge : (10 : Int) ^ (18 : Int).toNat ≤ (if cell < 0 then -cell else cell) := of_decide_eq_true c3
            generalize hG : 2 * ((if cell < 0 then -cell else cell) - 10 ^ (18 : Int).toNat) + (if decide (cell < 0) = true then (1 : Int) else 0) = G
            have hG0 : 0 ≤ G := by
              rw [← hG]
              have h1 : 0 ≤ (if decide (cell < 0) = true then (1 : Int) else 0) := by split <;> decide
              omega
            refine ⟨_, rfl, Or.inl ⟨_, rfl, _, rfl, _, _, rfl, rfl, (by exact hmb), _, rfl, p, _, _, _, rfl, rfl, hp2, rfl, ?_⟩⟩
            refine ⟨_, rfl, Or.inl ⟨_, rfl, _, rfl, _, _, rfl, rfl, (by show ¬ (_ = _); omega), ?_⟩⟩
            refine fin _ (G / m) _ (fm0 hm) (Int.fmod_lt_of_pos _ hm) (Int.ediv_nonneg hG0 (Int.le_of_lt hm)) ?_ fun b o hb e => ?_
            · rw [upd_same, ← hG]; rfl
            · rw [upd_ne hb]; exact k2 b o hb e
          · refine ⟨_, rfl, Or.inl ⟨_, rfl, ?_⟩⟩
            refine ⟨_, _, rfl, rfl, (by show ¬ (_ = _); decide), _, rfl, _, _, rfl, rfl, Or.inl (by decide), _, _, rfl, rfl, _, _, rfl, rfl, ?_⟩
            generalize hz : Int.fmod cell _ = z
            have hz0 : 0 ≤ z := by rw [← hz]; exact fm0 (by decide)
            have hz1 : z < 2147483648 := by rw [← hz]; exact fm1 (by decide) (by decide)
            refine ⟨_, _, rfl, rfl, ⟨by decide, by decide, by omega⟩, Or.inl ⟨_, rfl, ?_⟩⟩
            refine ⟨_, _, rfl, rfl, (by show ¬ (_ = _); decide), ?_⟩
            refine ⟨_, rfl, _, rfl, _, _, rfl, rfl, Or.inl (by decide), _, _, rfl, rfl, _, _, rfl, rfl, Or.inl (by exact fm64 (by decide) (by decide)), ?_⟩
            refine ⟨_, rfl, _, _, rfl, rfl, Or.inl (by decide), _, rfl, _, _, rfl, rfl, Or.inl (by exact fsmall (by decide) (by decide) s0 (by omega)), _, _, rfl, rfl, _, _, rfl, rfl, ?_⟩
            refine ⟨_, _, rfl, rfl, ⟨by decide, by decide, by exact stir (fm0 (by decide)) (fm1 (by decide) (by decide)) s0 (by omega) _ _ _ (by decide) (by decide) (by decide) (by decide) (by decide) (by decide)⟩, Or.inl ⟨_, rfl, ?_⟩⟩
            refine ⟨_, _, rfl, rfl, (by show ¬ (_ = _); decide), ?_⟩
            refine ⟨_, rfl, _, _, rfl, rfl, ⟨by decide, by decide⟩, Or.inl ⟨_, rfl, _, rfl, _, _, rfl, rfl, (by show ¬ (_ = _); omega), ?_⟩⟩
            exact fin _ g _ (fm0 hm) (Int.fmod_lt_of_pos _ hm) g0 hp2 k2
        · refine iteF ?_
          refine ⟨_, rfl, Or.inl ⟨_, rfl, ?_⟩⟩
          refine ⟨_, _, rfl, rfl, (by show ¬ (_ = _); decide), _, rfl, _, _, rfl, rfl, Or.inl (by decide), _, _, rfl, rfl, _, _, rfl, rfl, ?_⟩
          generalize hz : Int.fmod cell _ = z
          have hz0 : 0 ≤ z := by rw [← hz]; exact fm0 (by decide)
          have hz1 : z < 2147483648 := by rw [← hz]; exact fm1 (by decide) (by decide)
          refine ⟨_, _, rfl, rfl, ⟨by decide, by decide, by omega⟩, Or.inl ⟨_, rfl, ?_⟩⟩
          refine ⟨_, _, rfl, rfl, (by show ¬ (_ = _); decide), ?_⟩
          refine ⟨_, rfl, _, rfl, _, _, rfl, rfl, Or.inl (by decide), _, _, rfl, rfl, _, _, rfl, rfl, Or.inl (by exact fm64 (by decide) (by decide)), ?_⟩
          refine ⟨_, rfl, _, _, rfl, rfl, Or.inl (by decide), _, rfl, _, _, rfl, rfl, Or.inl (by exact fsmall (by decide) (by decide) s0 (by omega)), _, _, rfl, rfl, _, _, rfl, rfl, ?_⟩
          refine ⟨_, _, rfl, rfl, ⟨by decide, by decide, by exact stir (fm0 (by decide)) (fm1 (by decide) (by decide)) s0 (by omega) _ _ _ (by decide) (by decide) (by decide) (by decide) (by decide) (by decide)⟩, Or.inl ⟨_, rfl, ?_⟩⟩
          refine ⟨_, _, rfl, rfl, (by show ¬ (_ = _); decide), ?_⟩
          refine ⟨_, rfl, _, _, rfl, rfl, ⟨by decide, by decide⟩, Or.inl ⟨_, rfl, _, rfl, _, _, rfl, rfl, (by show ¬ (_ = _); omega), ?_⟩⟩
          exact fin _ g _ (fm0 hm) (Int.fmod_lt_of_pos _ hm) g0 hp2 k2
      refine ite2 (fun c1 => ?_) (fun c1 => ?_)
      · rw [eqv_nil] at c1
        have hx : xs ≠ [] := by simpa using c1
        have hlen : 0 < xs.length := List.length_pos_iff.mpr hx
        refine ⟨_, rfl, p, _, _, _, rfl, rfl, SqL.of hp2, rfl, ?_⟩
        refine ⟨_, rfl, Or.inl ⟨_, rfl, ?_⟩⟩
        refine ⟨_, rfl, p, _, _, _, rfl, rfl, SqL.of hp2, rfl, l, xs.map V.int, rfl, .inl (SqL.of hl2), ?_⟩
        have hL : ((xs.map V.int).length : Int) = (xs.length : Int) := by rw [List.length_map]
        have hb1 : 0 ≤ s.fmod ((xs.map V.int).length : Int) := Int.fmod_nonneg_of_pos _ (by omega)
        have hb2 : s.fmod ((xs.map V.int).length : Int) < ((xs.map V.int).length : Int) := Int.fmod_lt_of_pos _ (by omega)
        obtain ⟨j, hj⟩ : ∃ j : Nat, s.fmod ((xs.map V.int).length : Int) = (j : Int) := ⟨(s.fmod ((xs.map V.int).length : Int)).toNat, by omega⟩
        have hjl : j < xs.length := by omega
        have hat : atI (xs.map V.int) (s.fmod ((xs.map V.int).length : Int)) = some (V.int xs[j]) := by
          rw [hj]; exact atI_nat (by simp [hjl])
        refine ⟨_, _, rfl, rfl, (by omega), ?_⟩
        refine ⟨l, _, _, V.int xs[j], rfl, rfl, SqL.of hl2, hat, ?_⟩
        exact go _ _ ⟨xs[j], rfl, rfl⟩
      · exact go _ _ ⟨_, rfl, rfl⟩
end
end Lw
namespace Lw
open PySem PySem.Spec PyProof.Rows L2

theorem Kp.refl (p : Addr) (H : Hp) : Kp p H H := fun _ _ _ e => e
theorem Kp.trans {p : Addr} {H H1 H2 : Hp} (a : Kp p H H1) (b : Kp p H1 H2) : Kp p H H2 := fun c o hc e => b c o hc (a c o hc e)
theorem Kp.of {p : Addr} {H H' : Hp} (s : Same H H') : Kp p H H' := fun b o _ e => s b o e
theorem Kp.seq {K : PySem.W.Frag} {p a : Addr} {H H' : Hp} {ys : List V} (k : Kp p H H') (ne : a ≠ p) (h : SqL K H a ys) : SqL K H' a ys := by
  rcases h with (h | ⟨o, h⟩) | h
  · exact .inl (.inl (k _ _ ne h))
  · exact .inl (.inr ⟨o, k _ _ ne h⟩)
  · exact .inr h
theorem same_new {H : Hp} {q : Addr} {o : HO} (hq : H q = none) : Same H (upd H q o) := fun b u e => by rw [upd_ne (ne_of_none e hq)]; exact e
theorem Pen.keep {H H' : Hp} {p l : Addr} {n : Nat} (h : Pen H p l n) (s : Same H H') : Pen H' p l n := by
  obtain ⟨xs, a, g, ⟨h1, h2, h3, h4, h5⟩, h6⟩ := h
  exact ⟨xs, a, g, ⟨s _ _ h1, s _ _ h2, h3, h4, h5⟩, h6⟩
theorem Pen.at {H : Hp} {p l : Addr} {n : Nat} (h : Pen H p l n) : ∃ o, H p = some o := by
  obtain ⟨xs, a, g, h, _⟩ := h
  exact ⟨_, h.at_⟩
theorem Pen.ne_new {H : Hp} {p l q : Addr} {n : Nat} (h : Pen H p l n) (hq : H q = none) : q ≠ p := by
  obtain ⟨o, h1⟩ := h.at
  exact (ne_of_none h1 hq).symm
theorem Pen.more {H : Hp} {p l : Addr} {n m : Nat} (h : Pen H p l n) (hm : n ≤ m) : Pen H p l m := by
  obtain ⟨xs, a, g, h1, h2⟩ := h
  exact ⟨xs, a, g, h1, by omega⟩
def spPick (K : PySem.W.Frag) : Sp := fun vs H Q _ => ∃ (p l a : Addr) (n : Nat) (ys : List V), vs = [.ref p, .ref a] ∧ Pen H p l n ∧ n ≤ 1000000 ∧ SqL K H a ys ∧ a ≠ p ∧ 0 < ys.length ∧ ys.length < 1000000 ∧
  ∀ (j : Nat) (v : V) (H' : Hp), ys[j]? = some v → Pen H' p l (n + 1) → Kp p H H' → Q v H'
def spPen (K : PySem.W.Frag) : Sp := fun vs H Q _ => ∃ (a : Addr) (ns : List Int), vs = [.ref a] ∧ SqL K H a (ns.map V.int) ∧ ns.length ≤ 63 ∧ ∀ (p l : Addr) (H' : Hp), Pen H' p l 0 → Same H H' → H p = none → Q (.ref p) H'
theorem Pen.over {H : Hp} {p l q : Addr} {n : Nat} {o : HO} (h : Pen H p l n) (h1 : q ≠ p) (h2 : q ≠ l) : Pen (upd H q o) p l n := by
  obtain ⟨xs, a, g, ⟨e1, e2, e3, e4, e5⟩, h6⟩ := h
  exact ⟨xs, a, g, ⟨by rw [upd_ne h1.symm]; exact e1, by rw [upd_ne h2.symm]; exact e2, e3, e4, e5⟩, h6⟩
theorem Pen.ne_new2 {H : Hp} {p l q : Addr} {n : Nat} (h : Pen H p l n) (hq : H q = none) : q ≠ l := by
  obtain ⟨xs, a, g, h, _⟩ := h
  exact (ne_of_none h.ls hq).symm
section
variable {P : Program} {w : World} {K : PySem.W.Frag} {mg : Str → Option Value} {base : Heap}
theorem scPick : FnScope ["_law_pen_here", "_law_some"] ["_law_pen_here", "_law_some"] (C8.fnScope sPick) := C8.fnScope_by (by decide +kernel)
theorem cal_pick {f : Addr} {fd : FuncData} (F : C8.Def K mg "_law_pick" sPick f fd) (b : Binds K fd ["_law_pen_here", "_law_some"] []) (T : Txt0 mg) (D : C8.Cal P w K mg base 1 "_law_draw" spDraw []) : C8.Cal P w K mg base 2 "_law_pick" (spPick K) [] := by
  refine C8.cal0 F b .nil scPick (fun vs H Q E h => ?_) (fun cdv A outer st H vs Q E hr h => ?_)
  · obtain ⟨p, l, a, n, ys, rfl, _⟩ := h
    rfl
  · obtain ⟨p, l, a, n, ys, rfl, hp, hn, hs, ne, h0, h1, k⟩ := h
    refine ⟨_, (pss_one (ps_ret (pe_ix ix_list (pv 1) (C8.pe_c D hr (by decide) (by rfl) (pa_cons (pv 0) (pa_cons (pe_callB call_len_seq (by rfl) T.n_len (by decide +kernel) (pa_cons (pv 1) pa_nil)) pa_nil))) (fun _ _ => rfl)))), ?_⟩
    refine ⟨_, rfl, _, rfl, _, rfl, a, ys, rfl, .inl hs, ?_⟩
    refine ⟨p, l, n, _, rfl, (by omega), (by omega), hp, hn, fun r H' r0 r1 hp' k' => ?_⟩
    obtain ⟨j, hj⟩ : ∃ j : Nat, r = (j : Int) := ⟨r.toNat, by omega⟩
    subst hj
    have hjl : j < ys.length := by omega
    refine ⟨a, ys, _, ys[j], rfl, rfl, k'.seq ne hs, atI_nat (by simp [hjl]), ?_⟩
    exact k j _ H' (by simp [hjl]) hp' k'
theorem scPen : FnScope ["_law_script"] ["_law_script"] (C8.fnScope sPen) := C8.fnScope_by (by decide +kernel)
theorem cut_ints (xs : List Int) (lo hi : Option Int) : cutV (xs.map V.int) lo hi = ((xs.drop (HT.sIx xs.length 0 lo)).take (HT.sIx xs.length xs.length hi - HT.sIx xs.length 0 lo)).map V.int := by
  unfold cutV
  rw [List.length_map, List.map_take, List.map_drop]
theorem cal_pen {f : Addr} {fd : FuncData} (F : C8.Def K mg "_law_pen" sPen f fd) (b : Binds K fd ["_law_script"] []) (T : Txt0 mg) : C8.Cal P w K mg base 1 "_law_pen" (spPen K) [] := by
  refine C8.cal0 F b .nil scPen (fun vs H Q E h => ?_) (fun cdv A outer st H vs Q E hr h => ?_)
  · obtain ⟨a, ns, rfl, _⟩ := h
    rfl
  · obtain ⟨a, ns, rfl, hs, hl, k⟩ := h
    refine ⟨_, (pss_one (ps_ret (pe_lst (pa_cons (pe_callTy call_list_of (by rfl) T.n_list (by decide +kernel) (pa_cons (pe_slice sl_list (pv 0) po_none (po_some pe_int)) pa_nil)) (pa_cons pe_int (pa_cons pe_int pa_nil)))))), ?_⟩
    refine ⟨_, rfl, _, rfl, a, _, rfl, hs, fun c hc => ?_⟩
    refine ⟨c, _, rfl, .inl (SqL.of upd_same), fun l hl2 => ?_⟩
    refine ⟨(by show 3 ≤ sizeLine; decide), fun p hp => ?_⟩
    have s1 := same_new (o := HO.lst (cutV (ns.map V.int) none (some 63))) hc
    have s2 := same_new (o := HO.lst (cutV (ns.map V.int) none (some 63))) hl2
    have s3 := same_new (o := HO.lst [V.ref l, V.int 0, V.int 0]) hp
    have pl : p ≠ l := fun e => by rw [e, upd_same] at hp; cases hp
    refine k p l _ ⟨((ns.drop (HT.sIx ns.length 0 none)).take (HT.sIx ns.length ns.length (some 63) - HT.sIx ns.length 0 none)), 0, 0, ⟨upd_same, ?_, pl, by omega, by omega⟩, by omega⟩ ((s1.trans s2).trans s3) ((s1.trans s2).free hp)
    rw [upd_ne pl.symm, upd_same, cut_ints]
end
end Lw
namespace Lw
open PySem PySem.Spec PyProof.Rows L2

/-! ### defs that are called where no repr runs -/
/-- a def's promise where nothing is being shown -/
structure FnG (P : Program) (w : World) (K : PySem.W.Frag) (mg : Str → Option Value) (base : Heap) (k : Nat) (f : Addr) (fd : FuncData) (ps : List Str) (sp : Sp) : Prop where
  len : ∀ vs H Q E, sp vs H Q E → vs.length = ps.length
  run : ∀ (A : Around) (outer : List Env) (s : Shared) (H : Hp) (args : Args) (us : List Value) (vs : List V) (Q : VK) (E : XK), A.guards = some [] → Room k A → Env0 P w K mg base A outer s H →
    BindsTo s fd args (ps.zip us) → Vals vs us → sp vs H Q E → codeAny (model P w) A (.call (.ref f) args) (CR C8.CX0 outer P w H s Q E) s
structure CalG (P : Program) (w : World) (K : PySem.W.Frag) (mg : Str → Option Value) (base : Heap) (k : Nat) (x : Str) (sp : Sp) (dvs : List V) : Prop where
  ex : ∃ (f : Addr) (fd : FuncData) (ps : List Str) (ds : List Value), FnG P w K mg base k f fd ps sp ∧ mg x = some (.ref f) ∧ PySem.W.keepIn K (.ref f) = true ∧ Binds K fd ps ds ∧ Vals dvs ds
section
variable {P : Program} {w : World} {K : PySem.W.Frag} {mg : Str → Option Value} {base : Heap}
theorem calG {x : Str} {st : Stmt} {f : Addr} {fd : FuncData} {N ps : List Str} {ds : List Value} {dvs : List V} {k : Nat} {sp : Sp} (F : C8.Def K mg x st f fd) (b : Binds K fd ps ds) (d : Vals dvs ds) (S : FnScope N ps (C8.fnScope st))
    (len : ∀ vs H Q E, sp vs H Q E → vs.length = ps.length)
    (body : ∀ (cdv : Value) (A : Around) (outer : List Env) (s : Shared) (H : Hp) (vs : List V) (Q : VK) (E : XK), (A.deeper (envOfC x (C8.fnScope st) s.heap.objs.size f cdv)).guards = some [] → Room k (A.deeper (envOfC x (C8.fnScope st) s.heap.objs.size f cdv)) → sp vs H Q E →
      ∃ t, PSs (cxOf C8.CX0 P w K mg base N x (C8.fnScope st) f cdv A outer s H E).nox (C8.fnBody st) t ∧ t { nx := fun _ H' => Q .non H', rt := Q } (start N vs) H) : CalG P w K mg base (k + 1) x sp dvs := by
  refine ⟨f, fd, ps, ds, ⟨len, ?_⟩, F.mgf, F.kp, b, d⟩
  intro A outer s H args us vs Q E hg hr e0 hb r hs
  obtain ⟨oc, od, dV, kV, doc, pm, an, cdv, ct, osl, rfl, lk, hcd⟩ := F.fn.ex
  refine LamX.run_ofS lk hcd S hr e0 hb r (len _ _ _ _ hs) fun hr' => ?_
  obtain ⟨t, h1, h2⟩ := body cdv A outer s H vs Q E hg hr' hs
  exact ⟨t, h1.nox, h2⟩
end
section
variable {X : Cx} {k j : Nat} {x : Str} {sp : Sp} {dvs : List V} {p pos : Pos} {e : Expr} {es : List Expr} {t : TA}
theorem pe_g (c : CalG X.prog X.w X.K X.mg X.base k x sp dvs) (hG : X.A.guards = some []) (hr : Room j X.A) (hk : k ≤ j) (hg : Gl X x) (ha : PA X (e :: es) t)
    (hdb : (x == ("__debug__" : Str)) = false := by decide) (he : starEach (e :: es) X.env = (false, eval e X.env) :: starEach es X.env := by rfl) (hpl : (backTo pos (starEach es X.env)).any (·.1) = false := by rfl) :
    PE X (.Call (.Name x p) (e :: es) [] pos) (tCall sp dvs C8.E0 t) := by
  obtain ⟨f, fd, ps, ds, F, hm, kp, b, d⟩ := c.ex
  refine ⟨fun pins s σ H Q I h => ?_⟩
  refine wpAny_Call_Name_kw (ld_glob I hg hm ?_ hdb)
  refine PySem.W.callWith_K (h₀ := X.base) I.ok.mod.kin kp (thn (ha.run pos pins s σ H _ I h) fun us s1 g => ?_) he hpl
  obtain ⟨vs, H1, I1, r, q⟩ := g
  refine ⟨I1.kIn, ?_⟩
  have r2 := r.append d
  have hl : (us ++ ds).length = ps.length := r2.length.symm.trans (F.len _ _ _ _ q)
  refine wpAny_call (codeAny_mono (F.run X.A X.stack s1 H1 ⟨us, []⟩ (us ++ ds) (vs ++ dvs) Q C8.E0 hG (hr.mono hk) I1.env0 (b s1 us I1.kIn hl) r2 q) fun r s' hq => ?_)
  match r, hq with
  | .error e, hq => exact hq.elim
  | .ok (.ret u), hq => exact I1.after hq
  | .ok .next, hq => exact hq.elim
  | .ok .brk, hq => exact hq.elim
  | .ok .cont, hq => exact hq.elim
/-! ### repr of data -/
def rRepr (K : PySem.W.Frag) : List V → Hp → VK → Prop := fun xs H Q => ∃ (a : Addr) (d : PyData), xs = [.ref a] ∧ Dp K H (.ref a) d ∧ d.showable = true ∧ d.hasDict = false ∧ d.depth ≤ 100 ∧ d.shown.length ≤ sizeLine ∧ Q (.str d.shown) H
theorem call_reprD (hG : X.A.guards = some []) (hr : Room 0 X.A) : CallR X (.builtin "repr") (rRepr X.K) := by
  intro pins s σ H xs us Q I r h
  obtain ⟨a, d, rfl, hd, h1, h2, h3, h4, q⟩ := h
  obtain ⟨u, rfl, ru⟩ := vals1 r
  have e : u = Value.ref a := ru
  subst e
  obtain ⟨as, rd⟩ := Dp.reads I d _ _ hd rfl
  have hun := hr.un
  exact repr_of_reads' rd h1 (fun z => by rw [h2] at z; cases z) hG (by omega) (fun _ _ e => e) (fun h' u' tk kp => ⟨.str d.shown, H, I.kept kp, ⟨u', rfl⟩, q⟩) h4
end
end Lw
namespace Lw
open PySem PySem.Spec PyProof.Rows L2

open LamX
/-! ### a lambda as a value -/
def FnO (f : Addr) : HO := .ext fun h => ∃ o : Obj, h.get? f = some o ∧ o.cls = .type "function"
section
variable {X : Cx} {pins : List (Addr × Obj)} {σ : L2.St} {H : Hp} {s : Shared}
theorem lay_fn {h' : Heap} {t' : Nat} {o : Obj} (I : Inv X pins σ H { s with heap := h', toks := t' }) (ho : o.cls = .type "function") (hs : o.isFreed = false) :
    Inv X pins σ (upd H h'.objs.size (FnO h'.objs.size)) { s with heap := h'.push o, toks := t' } := by
  refine I.laid (h' := h'.push o) (t' := t') (fun b u e => Heap.get?_push_of_some _ e) (Nat.le_refl _) ?_
  have g : (h'.push o).get? h'.objs.size = some o := Heap.get?_push_size _ hs
  refine ⟨⟨o, g, ho⟩, ⟨o, g⟩, ?_⟩
  rintro h1 h2 ⟨u, e1, e2⟩ st
  exact ⟨u, st u e1, e2⟩
theorem lam_val {T : List (Addr × Str)} {c B : Addr} {params : Arguments} {body : Expr} {scope : Scope} {pos : Pos} {E Q : Value → Shared → Prop} (I : Inv X pins σ H s) (TB : TabB X.base X.mg c B) (hcode : X.env.code = .ref c)
    (hm : (B, X.env.qual ++ "<lambda>") ∈ T) (hu : ∀ p ∈ T, p.1 = B → p.2 = X.env.qual ++ "<lambda>") (hT : Tabs T H) (hdef : defaultsOf params X.env = ([], []))
    (hfree : ∀ y ∈ scope.names, y.2 = .free → ∃ c, X.env.cells.lookup y.1 = some c)
    (h : ∀ (f : Addr) (H1 : Hp) (s' : Shared), Inv X pins σ (upd H1 f (FnO f)) s' → ExtN H H1 → Tabs T H1 → H1 f = none → Q (.ref f) s') :
    wpAny (model X.prog X.w) X.A (eval (.Lambda params body scope pos) X.env) Q E s := by
  have known := hT _ hm
  obtain ⟨ps, hB, trip, amg⟩ := known
  refine PySem.W.kla_eval hdef ?_
  have hat : s.heap.get? B = some { cls := .none, data := .fields ps } := I.hok B _ hB
  have blt := TB.bm.keeps I.bk
  have hdc := TB.code.keeps I.bk
  have glb := I.mod.glob.keeps I.bk
  rcases hc : codeAmong pos ps.toList with _ | cv
  · refine PySem.W.kla_makeFunction (mg := X.mg) (c := c) (P := B) (ps := ps) (closure_ok hfree) I.ok.glob glb hcode hdc hat trip hc TB.gP blt ?_
    intro c2 ctv h' tk hx hge hlt hrec htb
    obtain ⟨c3, oc, vs, t, e3, g1, g2, g3⟩ := hrec
    cases e3
    have nC : H c2 = none := I.hok.fresh hge
    have I0 := inv_table (t' := tk) (more := #[rawInt pos.line, rawInt pos.col, .ref c2]) (h' := h') I hB hx htb hge ⟨oc, vs, t, g1, g2, g3⟩
    have stays : ExtN H (upd (upd H B (.tbl (ps ++ #[rawInt pos.line, rawInt pos.col, .ref c2]))) c2 (CodeO c2 (X.env.qual ++ "<lambda>"))) := by
      intro b o e n
      rw [upd_ne (ne_of_none e nC)]
      by_cases hb : b = B
      · subst hb
        rw [hB] at e
        exact absurd (Option.some.inj e).symm (n ps)
      · rw [upd_ne hb]; exact e
    refine h h'.objs.size _ _ (lay_fn (t' := tk) I0 rfl rfl) stays ?_ ?_
    · intro p hp
      by_cases hb : p.1 = B
      · rw [hu p hp hb, hb]
        refine ⟨ps ++ #[rawInt pos.line, rawInt pos.col, .ref c2], ?_, ?_, ?_⟩
        · rw [upd_ne (ne_of_none hB nC), upd_same]
        · rw [show (ps ++ #[rawInt pos.line, rawInt pos.col, .ref c2]).toList = ps.toList ++ [rawInt pos.line, rawInt pos.col, .ref c2] by simp]
          exact PySem.TriplesOk_snoc _ _ _ _ trip
        · intro p' cv' hcv
          rw [show (ps ++ #[rawInt pos.line, rawInt pos.col, .ref c2]).toList = ps.toList ++ [rawInt pos.line, rawInt pos.col, .ref c2] by simp] at hcv
          rcases among_app _ trip hcv with z | z
          · obtain ⟨c0, a1, a2⟩ := amg p' cv' z
            exact ⟨c0, a1, stays _ _ a2 codeO_ne⟩
          · exact ⟨c2, z, upd_same⟩
      · obtain ⟨qs, a1, a2, a3⟩ := hT p hp
        refine ⟨qs, ?_, a2, ?_⟩
        · rw [upd_ne (ne_of_none a1 nC), upd_ne hb]; exact a1
        · intro p' cv' hcv
          obtain ⟨c0, b1, b2⟩ := a3 p' cv' hcv
          exact ⟨c0, b1, stays _ _ b2 codeO_ne⟩
    · have n1 : h'.objs.size ≠ c2 := Nat.ne_of_gt hlt
      have n2 : h'.objs.size ≠ B := Nat.ne_of_gt (Nat.lt_of_lt_of_le (Heap.lt_size hat) (Nat.le_trans hge (Nat.le_of_lt hlt)))
      rw [upd_ne n1, upd_ne n2]
      exact I.hok.fresh (Nat.le_trans hge (Nat.le_of_lt hlt))
  · obtain ⟨c2, e, hco⟩ := amg pos cv hc
    subst e
    refine PySem.W.kla_makeFunctionHit (mg := X.mg) (c := c) (P := B) (ps := ps) (closure_ok hfree) I.ok.glob glb hcode hdc hat trip hc blt ?_
    intro ctv h' tk hx hsz
    have I0 : Inv X pins σ H { s with heap := h', toks := tk } := I.kept hx
    exact h h'.objs.size H _ (lay_fn (t' := tk) I0 rfl rfl) (ExtN.refl H) hT (I.hok.fresh hsz)
end
def tLamV (T : List (Addr × Str)) : TE := fun _ H Q => Tabs T H ∧ ∀ (f : Addr) (H1 : Hp), ExtN H H1 → Tabs T H1 → H1 f = none → Q (.ref f) (upd H1 f (FnO f))
section
variable {X : Cx}
theorem pe_lamV {T : List (Addr × Str)} {c B : Addr} {params : Arguments} {body : Expr} {scope : Scope} {pos : Pos} (TB : TabB X.base X.mg c B) (hcode : X.env.code = .ref c)
    (hm : (B, X.env.qual ++ "<lambda>") ∈ T) (hu : ∀ p ∈ T, p.1 = B → p.2 = X.env.qual ++ "<lambda>") (hdef : defaultsOf params X.env = ([], [])) (L : ∀ y ∈ scope.names, y.2 ≠ .free) :
    PE X (.Lambda params body scope pos) (tLamV T) := by
  refine ⟨fun pins s σ H Q I h => ?_⟩
  refine lam_val I TB hcode hm hu h.1 hdef (fun y hy e => absurd e (L y hy)) fun f H1 s' I1 eN T1 nf => ?_
  exact ⟨.ref f, _, I1, rfl, h.2 f H1 eN T1 nf⟩
end
end Lw
namespace Lf
open PySem
open Sem (wp)

theorem ga : Slot "function" "__getattribute__" "object.__getattribute__" := by
  refine .of (owner := "object") (n := "__getattribute__") ?_ (by decide +kernel) (by decide +kernel) (by decide +kernel) ?_ ?_
  · rw [typeLookup_type, builtinLookup_eq_fast]
    kernel_rfl
  · first
      | exact .inl (by decide +kernel)
      | exact .inr (by decide +kernel)
  · rw [isSubtype_type]
    kernel_rfl
theorem lkc : typeLookup (.type "function") "__class__" = pure (some (.builtin "object.__class__")) := by
  rw [typeLookup_type, builtinLookup_eq_fast]
  kernel_rfl
theorem sub_own : isSubtype (.type "function") (.type (".".intercalate ("object.__class__".cutAt '.').dropLast)) = pure true := by
  rw [F.owner_object_class]
  rw [isSubtype_type]
  kernel_rfl
section
variable {prog : Program} {w : World} {A : Around} {E : Value → Shared → Prop} {h : Heap} {g : Array GenState} {d : Drawn} {t : Nat} {os : OsState} {a : Addr} {o : Obj}
theorem fn_get {R : Result → Shared → Prop} (hx : h.get? a = some o) (hc : o.cls = .type "function")
    (hq : R (.ok (.ret (.type "function"))) ⟨h, g, d, t, os⟩) :
    codeAny (model prog w) A (.call (.builtin "getset_descriptor.__get__") ⟨[.builtin "object.__class__", .ref a, .type "function"], []⟩) R ⟨h, g, d, t, os⟩ := by
  have i1 : (⟨h, g, d, t, os⟩ : Shared).TypeIs (.ref a) "function" := ⟨o, hx, hc⟩
  have i2 : (⟨h, g, d, t, os⟩ : Shared).TypeIs (.builtin "object.__class__") "getset_descriptor" := F.typeOf_object_class
  have i3 := sub_own
  refine codeAny_call_builtin F.slot_gs_get.plain F.entry_gs_get ?_
  refine F.slot_gs_get.check _ _ _ _ _ _ _ _ i2 (F.args_gs_get _ _ _) ?_
  repeat (any_goals (first | assumption | wp_step))
  refine ⟨Code.quiet_builtin _ (by decide +kernel), ?_⟩
  refine codeAny_builtin F.entry_object_class ?_
  repeat (any_goals (first | assumption | wp_step))
theorem fn_ga {tk : Tok} {Q : Fin → Shared → Prop} (hx : h.get? a = some o) (hc : o.cls = .type "function")
    (hq : Q (.done (.ret (.type "function"))) ⟨h, g, d, t, os⟩) :
    wpAny (model prog w) A (Builtin.«object.__getattribute__» ⟨[.ref a, .str "__class__" tk], []⟩) Q E ⟨h, g, d, t, os⟩ := by
  have i1 : (⟨h, g, d, t, os⟩ : Shared).TypeIs (.ref a) "function" := ⟨o, hx, hc⟩
  have i2 : (⟨h, g, d, t, os⟩ : Shared).TypeIs (.builtin "object.__class__") "getset_descriptor" := F.typeOf_object_class
  have i3 := lkc
  have i4 := F.typeOf_object_class
  have i5 := F.slot_gs_get.lookup
  have i6 := F.slot_gs_set.lookup
  repeat (any_goals (first | assumption | wp_step))
  refine fn_get hx hc ?_
  repeat (any_goals (first | assumption | wp_step))
theorem fn_call {tk : Tok} {R : Result → Shared → Prop} (hx : h.get? a = some o) (hc : o.cls = .type "function")
    (hq : R (.ok (.ret (.type "function"))) ⟨h, g, d, t, os⟩) :
    codeAny (model prog w) A (.call (.builtin "object.__getattribute__") ⟨[.ref a, .str "__class__" tk], []⟩) R ⟨h, g, d, t, os⟩ := by
  refine codeAny_call_builtin ga.plain F.entry_object_getattribute ?_
  exact ga.check _ _ _ _ _ _ _ _ (show (⟨h, g, d, t, os⟩ : Shared).TypeIs (.ref a) "function" from ⟨o, hx, hc⟩) (F.args_object_getattribute_2 _ _) (fn_ga hx hc hq)
theorem fn_by {tk : Tok} {Q : Value → Shared → Prop} (hx : h.get? a = some o) (hc : o.cls = .type "function") (hq : Q (.type "function") ⟨h, g, d, t, os⟩) :
    wpAny (model prog w) A (getAttrBy (.ref a) (.str "__class__" tk) false) Q E ⟨h, g, d, t, os⟩ := by
  have i1 : (⟨h, g, d, t, os⟩ : Shared).TypeIs (.ref a) "function" := ⟨o, hx, hc⟩
  have i2 := ga.lookup
  have i3 := ga.bind (.ref a)
  repeat (any_goals (first | assumption | wp_step))
  refine fn_call hx hc ?_
  repeat (any_goals (first | assumption | wp_step))
theorem fn_attr {Q : Option Value → Shared → Prop} (hx : h.get? a = some o) (hc : o.cls = .type "function") (hq : Q (some (.type "function")) ⟨h, g, d, t + 1, os⟩) :
    wpAny (model prog w) A (getAttr? (.ref a) "__class__") Q E ⟨h, g, d, t, os⟩ := by
  unfold getAttr? getAttrBy?
  repeat (any_goals (first | assumption | with_reducible apply fn_by hx hc | wp_step))
end
end Lf
namespace Lw
open PySem PySem.Spec PyProof.Rows L2

open LamX
theorem kitx_fn {K : PySem.W.Frag} {a : Addr} : PySem.W.KitX K (.ref a) (.type "function") (PySem.W.KitAt a "function") := PySem.W.kitx_of PySem.W.kitAt_ty (fun {_ _ _ _ _ s} p k => by
  obtain ⟨h, g, d, t, os⟩ := s
  obtain ⟨o, h1, h2⟩ := p
  exact Lf.fn_attr h1 h2 k)
/-- a value's type: a def's, too -/
inductive TyZ (K : PySem.W.Frag) (H : Hp) : V → Value → Prop where
  | x {v : V} {t : Value} (h : TyX K H v t) : TyZ K H v t
  | fn {a : Addr} (e : H a = some (FnO a)) : TyZ K H (.ref a) (.type "function")
def rIsz (K : PySem.W.Frag) : List V → Hp → VK → Prop := fun xs H Q => ∃ (x c : V) (t u : Value) (b : Bool), xs = [x, c] ∧ ClsV c u ∧ TyZ K H x t ∧ PySem.W.kitOne K t u = some b ∧ Q (.bl b) H
theorem call_isz {X : Cx} : CallR X (.builtin "isinstance") (rIsz X.K) := by
  intro pins s σ H xs us Q I r h
  obtain ⟨x, c, t, u, b, rfl, k, ty, e, q⟩ := h
  obtain ⟨u1, u2, rfl, r1, r2⟩ := vals2 r
  have e2 := k.eq r2
  subst e2
  cases ty with
  | x ty =>
    obtain ⟨W, Z, p, hx⟩ := kit_of I r1 ty
    exact PySem.W.kia_one Z I.kIn p e hx fun tk => ⟨.bl b, H, I.tok tk, rfl, q⟩
  | @fn a ea =>
    have e3 : u1 = Value.ref a := r1
    subst e3
    obtain ⟨⟨o, h1, h2⟩, _⟩ := I.hok a _ ea
    exact PySem.W.kia_one kitx_fn I.kIn ⟨o, h1, h2⟩ e (fun z => by cases z) fun tk => ⟨.bl b, H, I.tok tk, rfl, q⟩
end Lw
namespace Lw
open PySem PySem.Spec PyProof.Rows L2

open LamX
abbrev sIsInt : Stmt := top 3
abbrev sWithin : Stmt := top 4
abbrev sSize : Stmt := top 5
/-- what the top has told of the module's names -/
structure Txt (mg : Str → Option Value) : Prop extends Txt0 mg where
  n_bool : mg "bool" = none
  n_str : mg "str" = none
  n_isinstance : mg "isinstance" = none
  n_range : mg "range" = none
  n_repr : mg "repr" = none
  n_all : mg "all" = none
  c_GS : ∃ t, mg "GREATEST_SIZE" = some (.int (10 ^ 30) t)
/-- any value that a caller may pass here -/
inductive Anyv (K : PySem.W.Frag) (H : Hp) : V → Prop where
  | int (i : Int) : Anyv K H (.int i)
  | non : Anyv K H .non
  | bl (b : Bool) : Anyv K H (.bl b)
  | str (z : Str) : Anyv K H (.str z)
  | obj {a : Addr} {t : Value} (h : TyZ K H (.ref a) t) (h1 : PySem.W.kitOne K t (.type "int") = some false) (h2 : PySem.W.kitOne K t (.type "bool") = some false) (h3 : PySem.W.kitOne K t (.type "str") = some false) : Anyv K H (.ref a)
def isI : V → Bool
  | .int _ => true
  | _ => false
def clsI : V → Bool
  | .int _ => true
  | .bl _ => true
  | _ => false
def clsB : V → Bool
  | .bl _ => true
  | _ => false
def isS : V → Bool
  | .str _ => true
  | _ => false
def inB (x : V) (lo hi : Int) : Bool := match x with
  | .int i => decide (lo ≤ i) && decide (i ≤ hi)
  | _ => false
def spIsInt (K : PySem.W.Frag) : Sp := fun vs H Q _ => ∃ x, vs = [x] ∧ Anyv K H x ∧ Q (.bl (isI x)) H
def spWithin (K : PySem.W.Frag) : Sp := fun vs H Q _ => ∃ x lo hi, vs = [x, .int lo, .int hi] ∧ Anyv K H x ∧ Q (.bl (inB x lo hi)) H
def spSize (K : PySem.W.Frag) : Sp := fun vs H Q _ => ∃ x, vs = [x] ∧ Anyv K H x ∧ Q (.bl (inB x 1 (10 ^ 30))) H
section
variable {P : Program} {w : World} {K : PySem.W.Frag} {mg : Str → Option Value} {base : Heap}
theorem isz_int {H : Hp} {x : V} {Q : V → Hp → Prop} (a : Anyv K H x) (q : Q (.bl (clsI x)) H) : rIsz K [x, .ty "int"] H Q := by
  cases a with
  | int i => exact ⟨_, _, .type "int", .type "int", true, rfl, .ty "int", .x (.base (.int i)), kit_ty (r := true) (by decide +kernel), q⟩
  | non => exact ⟨_, _, .type "NoneType", .type "int", false, rfl, .ty "int", .x (.base .non), kit_ty (r := false) (by decide +kernel), q⟩
  | bl b => exact ⟨_, _, .type "bool", .type "int", true, rfl, .ty "int", .x (.base (.bl b)), kit_ty (r := true) (by decide +kernel), q⟩
  | str z => exact ⟨_, _, .type "str", .type "int", false, rfl, .ty "int", .x (.base (.str z)), kit_ty (r := false) (by decide +kernel), q⟩
  | obj h h1 h2 h3 => exact ⟨_, _, _, .type "int", _, rfl, .ty "int", h, h1, q⟩
theorem isz_bool {H : Hp} {x : V} {Q : V → Hp → Prop} (a : Anyv K H x) (q : Q (.bl (clsB x)) H) : rIsz K [x, .ty "bool"] H Q := by
  cases a with
  | int i => exact ⟨_, _, .type "int", .type "bool", false, rfl, .ty "bool", .x (.base (.int i)), kit_ty (r := false) (by decide +kernel), q⟩
  | non => exact ⟨_, _, .type "NoneType", .type "bool", false, rfl, .ty "bool", .x (.base .non), kit_ty (r := false) (by decide +kernel), q⟩
  | bl b => exact ⟨_, _, .type "bool", .type "bool", true, rfl, .ty "bool", .x (.base (.bl b)), kit_ty (r := true) (by decide +kernel), q⟩
  | str z => exact ⟨_, _, .type "str", .type "bool", false, rfl, .ty "bool", .x (.base (.str z)), kit_ty (r := false) (by decide +kernel), q⟩
  | obj h h1 h2 h3 => exact ⟨_, _, _, .type "bool", _, rfl, .ty "bool", h, h2, q⟩
theorem isz_str {H : Hp} {x : V} {Q : V → Hp → Prop} (a : Anyv K H x) (q : Q (.bl (isS x)) H) : rIsz K [x, .ty "str"] H Q := by
  cases a with
  | int i => exact ⟨_, _, .type "int", .type "str", false, rfl, .ty "str", .x (.base (.int i)), kit_ty (r := false) (by decide +kernel), q⟩
  | non => exact ⟨_, _, .type "NoneType", .type "str", false, rfl, .ty "str", .x (.base .non), kit_ty (r := false) (by decide +kernel), q⟩
  | bl b => exact ⟨_, _, .type "bool", .type "str", false, rfl, .ty "str", .x (.base (.bl b)), kit_ty (r := false) (by decide +kernel), q⟩
  | str z => exact ⟨_, _, .type "str", .type "str", true, rfl, .ty "str", .x (.base (.str z)), kit_ty (r := true) (by decide +kernel), q⟩
  | obj h h1 h2 h3 => exact ⟨_, _, _, .type "str", _, rfl, .ty "str", h, h3, q⟩
theorem scIsInt : FnScope ["value"] ["value"] (C8.fnScope sIsInt) := C8.fnScope_by (by decide +kernel)
theorem fn_isint {f : Addr} {fd : FuncData} (F : C8.Def K mg "is_integer" sIsInt f fd) (T : Txt mg) : FnOk P w K mg base C8.CX0 1 f fd ["value"] (spIsInt K) := by
  refine C8.fn0 F.fn scIsInt (fun vs H Q E h => ?_) (fun cdv A outer st H vs Q E hr h => ?_)
  · obtain ⟨x, rfl, _⟩ := h
    rfl
  · obtain ⟨x, rfl, a, k⟩ := h
    refine ⟨_, (pss_one (ps_ret (pe_and (pe_callB call_isz (by rfl) T.n_isinstance (by decide +kernel) (pa_cons (pv 0) (pa_cons (pe_bltn (v := .ty "int") (by rfl) T.n_int (by decide +kernel) rfl) pa_nil))) (pe_one (pe_not (pe_callB call_isz (by rfl) T.n_isinstance (by decide +kernel) (pa_cons (pv 0) (pa_cons (pe_bltn (v := .ty "bool") (by rfl) T.n_bool (by decide +kernel) rfl) pa_nil)))))))), ?_⟩
    refine ⟨_, rfl, ?_⟩
    dsimp only [tCons, tC, tNil]
    refine isz_int a ⟨_, rfl, ?_⟩
    cases a with
    | int i =>
      refine iteT ⟨_, rfl, ?_⟩
      dsimp only [tCons, tC, tNil]
      exact isz_bool (.int i) ⟨_, rfl, k⟩
    | bl b =>
      refine iteT ⟨_, rfl, ?_⟩
      dsimp only [tCons, tC, tNil]
      exact isz_bool (.bl b) ⟨_, rfl, k⟩
    | non => exact iteF k
    | str z => exact iteF k
    | obj h h1 h2 h3 => exact iteF k
theorem cal_isint {f : Addr} {fd : FuncData} (F : C8.Def K mg "is_integer" sIsInt f fd) (b : Binds K fd ["value"] []) (T : Txt mg) : C8.Cal P w K mg base 1 "is_integer" (spIsInt K) [] :=
  ⟨f, fd, _, [], fn_isint F T, F.mgf, F.kp, b, .nil⟩
theorem scWithin : FnScope ["value", "least", "most"] ["value", "least", "most"] (C8.fnScope sWithin) := C8.fnScope_by (by decide +kernel)
theorem fn_within {f : Addr} {fd : FuncData} (F : C8.Def K mg "is_within" sWithin f fd) (T : Txt mg) (D : C8.Cal P w K mg base 1 "is_integer" (spIsInt K) []) : FnOk P w K mg base C8.CX0 2 f fd ["value", "least", "most"] (spWithin K) := by
  refine C8.fn0 F.fn scWithin (fun vs H Q E h => ?_) (fun cdv A outer st H vs Q E hr h => ?_)
  · obtain ⟨x, lo, hi, rfl, _⟩ := h
    rfl
  · obtain ⟨x, lo, hi, rfl, a, k⟩ := h
    refine ⟨_, (pss_one (ps_ret (pe_and (C8.pe_c D hr (by decide) (by rfl) (pa_cons (pv 0) pa_nil)) (pe_one (pe_chain op_le op_le (pv 1) (pv 0) (pv 2)))))), ?_⟩
    refine ⟨_, rfl, x, rfl, a, _, rfl, ?_⟩
    cases a with
    | int i =>
      refine iteT ⟨_, rfl, _, rfl, _, _, rfl, rfl, _, rfl, ite2 (fun c => ?_) (fun c => ?_)⟩
      · refine ⟨_, rfl, _, _, rfl, rfl, ?_⟩
        rw [show inB (.int i) lo hi = decide (i ≤ hi) by simp [inB, of_decide_eq_true c]] at k
        exact k
      · rw [show inB (.int i) lo hi = false by simp [inB, of_decide_eq_false (Bool.eq_false_iff.mpr c)]] at k
        exact k
    | bl b => exact iteF k
    | non => exact iteF k
    | str z => exact iteF k
    | obj h h1 h2 h3 => exact iteF k
theorem cal_within {f : Addr} {fd : FuncData} (F : C8.Def K mg "is_within" sWithin f fd) (b : Binds K fd ["value", "least", "most"] []) (T : Txt mg) (D : C8.Cal P w K mg base 1 "is_integer" (spIsInt K) []) : C8.Cal P w K mg base 2 "is_within" (spWithin K) [] :=
  ⟨f, fd, _, [], fn_within F T D, F.mgf, F.kp, b, .nil⟩
theorem scSize : FnScope ["value"] ["value"] (C8.fnScope sSize) := C8.fnScope_by (by decide +kernel)
theorem fn_size {f : Addr} {fd : FuncData} (F : C8.Def K mg "is_size" sSize f fd) (T : Txt mg) (D : C8.Cal P w K mg base 2 "is_within" (spWithin K) []) : FnOk P w K mg base C8.CX0 3 f fd ["value"] (spSize K) := by
  refine C8.fn0 F.fn scSize (fun vs H Q E h => ?_) (fun cdv A outer st H vs Q E hr h => ?_)
  · obtain ⟨x, rfl, _⟩ := h
    rfl
  · obtain ⟨x, rfl, a, k⟩ := h
    obtain ⟨tk, hGS⟩ := T.c_GS
    refine ⟨_, (pss_one (ps_ret (C8.pe_c D hr (by decide) (by rfl) (pa_cons (pv 0) (pa_cons pe_int (pa_cons (pe_glob (v := .int (10 ^ 30)) rfl hGS ⟨_, rfl⟩) pa_nil)))))), ?_⟩
    exact ⟨_, rfl, x, _, _, rfl, a, k⟩
theorem cal_size {f : Addr} {fd : FuncData} (F : C8.Def K mg "is_size" sSize f fd) (b : Binds K fd ["value"] []) (T : Txt mg) (D : C8.Cal P w K mg base 2 "is_within" (spWithin K) []) : C8.Cal P w K mg base 3 "is_size" (spSize K) [] :=
  ⟨f, fd, _, [], fn_size F T D, F.mgf, F.kp, b, .nil⟩
end
end Lw
namespace Lw
open PySem PySem.Spec PyProof.Rows L2

open LamX
/-- a comprehension over a text, whose tests and element leave the heap as it is -/
theorem lc_text {z : Str} {g : TG} {tt : TT} {te : TE} {vs : List Nat} {σ : L2.St} {H1 : Hp} {D : Addr} {Qd : Hp → Prop} (σc : Nat → L2.St) (flt : Nat → Bool) (f : Nat → V)
    (hg : ∀ c H (R : L2.St → Hp → Prop), R (σc c) H → g (.str ⟨#[c]⟩) (wipe σ vs) H R) (hw : ∀ c, wipe (σc c) vs = wipe σ vs) (ht : ∀ c H (R : Bool → Hp → Prop), R (flt c) H → tt (σc c) H R)
    (he : ∀ c H (R : V → Hp → Prop), flt c = true → R (f c) H → te (σc c) H R) (hz : z.cps.size ≤ 1000000) (hd : Qd (upd H1 D (.lst ((z.cps.toList.filter flt).map f)))) :
    ∃ W : Nat → Nat → Hp → Prop, (∃ m, W 0 m (upd H1 D (.lst []))) ∧ ∀ i m H, W i m H →
      ((Its z).stop i H ∧ Qd H) ∨ ((Its z).go i H ∧ ∃ Nx : Hp → Prop, (∀ H', Nx H' → ∃ m', m' < m ∧ W (i + 1) m' H') ∧ ∀ x H', (Its z).yld i H x H' → g x (wipe σ vs) H' fun σ2 H2 => wipe σ2 vs = wipe σ vs ∧ tt σ2 H2 fun b H3 =>
        if b = true then te σ2 H3 fun y H4 => ∃ acc, H4 D = some (.lst acc) ∧ acc.length < sizeLine ∧ Nx (upd H4 D (.lst (acc ++ [y]))) else Nx H3) := by
  refine lc_it (walk_str (z := z)) (fun i H => H = upd H1 D (.lst (((z.cps.toList.take i).filter flt).map f))) (by simp) (fun _ _ _ _ => trivial) ?_ ?_
  · intro i x H H' hi hP hY
    obtain ⟨rfl, c, hc, rfl⟩ := hY
    have hc' : z.cps.toList[i]? = some c := by rw [Array.getElem?_toList]; exact hc
    have htake : z.cps.toList.take (i + 1) = z.cps.toList.take i ++ [c] := by
      rw [List.take_add_one, hc']; rfl
    refine hg c _ _ ⟨hw c, ht c _ _ ?_⟩
    rw [hP]
    cases hf : flt c with
    | true =>
      refine iteT (he c _ _ hf ⟨_, upd_same, ?_, ?_⟩)
      · have h1 : (((z.cps.toList.take i).filter flt).map f).length ≤ z.cps.toList.length := by
          rw [List.length_map]
          exact Nat.le_trans (List.length_filter_le _ _) (List.length_take_le' _ _)
        rw [Array.length_toList] at h1
        exact Nat.lt_of_le_of_lt (Nat.le_trans h1 hz) (by show 1000000 < sizeLine; decide)
      · rw [upd_upd, htake, List.filter_append, List.map_append]
        simp [hf]
    | false =>
      refine iteF ?_
      rw [htake, List.filter_append, List.map_append]
      simp [hf]
  · rintro H rfl
    have e : z.cps.toList.take z.cps.size = z.cps.toList := List.take_of_length_le (by rw [Array.length_toList]; exact Nat.le_refl _)
    rw [e]
    exact hd
theorem inV_str (z : Str) : ∀ ws : List Str, inV (.str z) (ws.map V.str) = decide (z ∈ ws)
  | [] => rfl
  | x :: r => by
    show (eqV (.str x) (.str z) || inV (.str z) (r.map V.str)) = decide (z ∈ x :: r)
    rw [inV_str z r]
    show ((x == z) || decide (z ∈ r)) = _
    by_cases h : z = x
    · subst h; simp
    · have h2 : ¬ x = z := fun e => h e.symm
      simp [h, h2]
theorem flat_strs (ws : List Str) : (ws.map V.str).all flatV = true := by
  induction ws with
  | nil => rfl
  | cons x r ih => show (true && (r.map V.str).all flatV) = true; rw [ih]; rfl
theorem dp_signs {K : PySem.W.Frag} {H : Hp} : ∀ cs : List Nat, DpAll K H (cs.map fun c => V.str ⟨#[c]⟩) (cs.map fun c => PyData.str ⟨#[c]⟩)
  | [] => .nil
  | c :: r => .cons (.str _) (dp_signs r)
theorem lay_signs : ∀ cs : List Nat, (∀ c ∈ cs, c < 1114112) → PyData.canLayAll0 (cs.map fun c => PyData.str ⟨#[c]⟩) = true
  | [], _ => rfl
  | c :: r, h => by
    have h1 : PyData.canLay0 (.str ⟨#[c]⟩) = true := by
      show (#[c] : Array Nat).all (· < 1114112) = true
      simp [h c List.mem_cons_self]
    show (PyData.canLay0 (.str ⟨#[c]⟩) && PyData.canLayAll0 (r.map fun c => PyData.str ⟨#[c]⟩)) = true
    rw [h1, lay_signs r fun d hd => h d (List.mem_cons_of_mem _ hd)]; rfl
theorem depth_signs : ∀ cs : List Nat, PyData.depthAll (cs.map fun c => PyData.str ⟨#[c]⟩) = 0
  | [] => rfl
  | c :: r => by
    show max 0 (PyData.depthAll (r.map fun c => PyData.str ⟨#[c]⟩)) = 0
    rw [depth_signs r]; rfl
theorem shaped_signs (cs : List Nat) (h : ∀ c ∈ cs, c < 1114112) : SeqAt.shaped (.list (cs.map fun c => PyData.str ⟨#[c]⟩)) = true := by
  unfold SeqAt.shaped
  have h1 : PyData.canLay0 (.list (cs.map fun c => PyData.str ⟨#[c]⟩)) = true := lay_signs cs h
  have h2 : PyData.depth (.list (cs.map fun c => PyData.str ⟨#[c]⟩)) = 1 := by
    show PyData.depthAll (cs.map fun c => PyData.str ⟨#[c]⟩) + 1 = 1
    rw [depth_signs]
  rw [h1, h2]; rfl
theorem eqv_signs (cs : List Nat) : PyData.eqv (.list (cs.map fun c => PyData.str ⟨#[c]⟩)) (.list []) = cs.isEmpty := by
  cases cs <;> rfl
theorem filt_nil (p : Nat → Bool) : ∀ l : List Nat, (l.filter fun c => !p c).isEmpty = l.all p
  | [] => rfl
  | c :: r => by
    have ih := filt_nil p r
    cases h : p c with
    | true => simp only [List.filter_cons, h, Bool.not_true, List.all_cons, Bool.true_and]; exact ih
    | false => simp [h]
end Lw
namespace Lw
open PySem PySem.Spec PyProof.Rows L2

open SX PySem.NumText
/-! ### texts as lists of signs -/
def figs : List Nat → List Nat
  | 45 :: r => r
  | cs => cs
theorem figs_minus (r : List Nat) : figs (45 :: r) = r := rfl
theorem figs_other {c : Nat} (r : List Nat) (h : c ≠ 45) : figs (c :: r) = c :: r := by
  unfold figs
  split
  · rename_i e
    exact absurd (List.cons.inj e).1 h
  · rfl
theorem len1 : Str.length (S [45]) = 1 := rfl
theorem sub_head (c d : Nat) (r : List Nat) : Builtin.Str.subAt (S (c :: r)) (S [d]) 0 = decide (c = d) := by
  unfold Builtin.Str.subAt
  show ((c :: r).toArray.extract 0 (0 + 1) == #[d]) = _
  simp
  by_cases h : c = d <;> simp [h]
theorem rm_minus (cs : List Nat) : Txt.removeprefix (S cs) (S [45]) = S (figs cs) := by
  unfold Txt.removeprefix
  cases cs with
  | nil => rfl
  | cons c r =>
    rw [sub_head]
    by_cases h : c = 45
    · subst h
      rw [figs_minus]
      simp only [decide_true, if_true]
      show (if (((45 :: r).toArray.size - 1) == (45 :: r).toArray.size) = true then S (45 :: r) else Builtin.Str.strSub (S (45 :: r)) 1 ((45 :: r).toArray.size)) = S r
      have e : ((45 :: r).toArray.size - 1 == (45 :: r).toArray.size) = false := by simp
      rw [e]
      simp [Builtin.Str.strSub, S]
    · rw [figs_other r h]
      simp only [decide_eq_false h, Bool.false_eq_true, if_false]
      rfl
theorem sw_head (c d : Nat) (r : List Nat) : Txt.startswith (S (c :: r)) (S [d]) = decide (c = d) := by
  unfold Txt.startswith
  rw [sub_head]
  have e : decide (0 + (S [d]).length ≤ (S (c :: r)).length) = true := decide_eq_true (by rw [S_len, S_len]; simp)
  rw [e, Bool.true_and]
theorem sw_nil (d : Nat) : Txt.startswith (S []) (S [d]) = false := by
  unfold Txt.startswith
  have e : decide (0 + (S [d]).length ≤ (S []).length) = false := decide_eq_false (by rw [S_len, S_len]; simp)
  rw [e, Bool.false_and]
theorem ascii_S {cs : List Nat} (h : ∀ c ∈ cs, c < 128) : Txt.isascii (S cs) = true := by
  unfold Txt.isascii
  show cs.toArray.all (· < 128) = true
  simp only [List.all_toArray, List.all_eq_true, decide_eq_true_eq]
  exact h
theorem dig128 : ∀ c, c < 128 → Unicode.isDigit c = (decide (48 ≤ c) && decide (c ≤ 57)) := by decide +kernel
/-- all are figures, and there is one -/
def digB (cs : List Nat) : Bool := !cs.isEmpty && cs.all fun c => decide (48 ≤ c) && decide (c ≤ 57)
theorem isdigit_S {cs : List Nat} (h : ∀ c ∈ cs, c < 128) : Txt.isdigit (S cs) = digB cs := by
  unfold Txt.isdigit digB
  have e1 : decide ((S cs).length > 0) = !cs.isEmpty := by
    rw [S_len]
    cases cs <;> simp
  have e2 : (S cs).cps.all Unicode.isDigit = cs.all fun c => decide (48 ≤ c) && decide (c ≤ 57) := by
    show cs.toArray.all Unicode.isDigit = _
    rw [List.all_toArray]
    induction cs with
    | nil => rfl
    | cons c r ih =>
      rw [List.all_cons, List.all_cons, dig128 c (h c List.mem_cons_self), ih (fun d hd => h d (List.mem_cons_of_mem _ hd)) (by rw [S_len]; cases r <;> simp)]
  rw [e1, e2]
theorem digB_all {cs : List Nat} (h : digB cs = true) : AllDigits cs ∧ cs ≠ [] := by
  unfold digB at h
  rw [Bool.and_eq_true] at h
  refine ⟨fun c hc => ?_, fun e => by rw [e] at h; exact absurd h.1 (by decide)⟩
  have := List.all_eq_true.mp h.2 c hc
  rw [Bool.and_eq_true, decide_eq_true_eq, decide_eq_true_eq] at this
  exact this
theorem figs_sub {cs : List Nat} {c : Nat} (h : c ∈ figs cs) : c ∈ cs := by
  unfold figs at h
  split at h
  · exact List.mem_cons_of_mem _ h
  · exact h
theorem figs_len (cs : List Nat) : (figs cs).length ≤ cs.length := by
  unfold figs
  split
  · simp
  · exact Nat.le_refl _
/-! ### what figures are worth -/
theorem fold_app (a b : List Nat) (x : Nat) : (a ++ b).foldl (fun acc c => acc * 10 + (c - 48)) x = b.foldl (fun acc c => acc * 10 + (c - 48)) (a.foldl (fun acc c => acc * 10 + (c - 48)) x) := List.foldl_append
theorem fold_from : ∀ (b : List Nat) (x : Nat), b.foldl (fun acc c => acc * 10 + (c - 48)) x = x * 10 ^ b.length + digitsVal b
  | [], x => by simp [digitsVal]
  | c :: r, x => by
    show r.foldl _ (x * 10 + (c - 48)) = x * 10 ^ (r.length + 1) + r.foldl _ (0 * 10 + (c - 48))
    rw [fold_from r, fold_from r (0 * 10 + (c - 48)), Nat.pow_succ, Nat.zero_mul, Nat.zero_add, Nat.add_mul, Nat.mul_assoc, Nat.mul_comm 10 (10 ^ r.length), Nat.add_assoc]
theorem val_app (a b : List Nat) : digitsVal (a ++ b) = digitsVal a * 10 ^ b.length + digitsVal b := by
  show (a ++ b).foldl _ 0 = _
  rw [fold_app, fold_from b]; rfl
theorem val_zeros : ∀ k : Nat, digitsVal (List.replicate k 48) = 0
  | 0 => rfl
  | k + 1 => val_zeros k
theorem val_lt : ∀ cs : List Nat, AllDigits cs → digitsVal cs < 10 ^ cs.length
  | [], _ => by decide
  | c :: r, h => by
    have h1 := h c List.mem_cons_self
    have ih := val_lt r fun d hd => h d (List.mem_cons_of_mem _ hd)
    have e : digitsVal (c :: r) = (c - 48) * 10 ^ r.length + digitsVal r := by
      rw [show c :: r = [c] ++ r from rfl, val_app]
      show (0 * 10 + (c - 48)) * _ + _ = _
      rw [Nat.zero_mul, Nat.zero_add]
    rw [e, List.length_cons, Nat.pow_succ]
    have h2 : (c - 48) * 10 ^ r.length ≤ 9 * 10 ^ r.length := Nat.mul_le_mul_right _ (by omega)
    omega
theorem ten_two (n : Nat) : 10 ^ n ≤ 2 ^ (4 * n) := by
  rw [Nat.pow_mul]
  exact Nat.pow_le_pow_left (by decide) n
theorem all_zeros (k : Nat) : AllDigits (List.replicate k 48) := fun c hc => by
  rw [List.eq_of_mem_replicate hc]
  decide
theorem AllDigits.app {a b : List Nat} (ha : AllDigits a) (hb : AllDigits b) : AllDigits (a ++ b) := fun c hc => (List.mem_append.mp hc).elim (ha c) (hb c)
/-- the integer that a text writes just as str does -/
def intOf (cs : List Nat) : Option Int :=
  if digB (figs cs) = true then
    if (figs cs).head? = some 48 ∧ cs ≠ [48] then none
    else if cs.head? = some 45 then some (-((digitsVal (figs cs) : Nat) : Int)) else some ((digitsVal (figs cs) : Nat) : Int)
  else none
def optV : Option Int → V
  | none => .non
  | some i => .int i
end Lw
namespace Lw
open PySem PySem.Spec PyProof.Rows L2

open SX PySem.NumText
abbrev sIntOf : Stmt := top 17
theorem rep_list (z : Array Nat) : ∀ n : Nat, ∀ acc : Array Nat, ((List.replicate n z).foldl (· ++ ·) acc).toList = acc.toList ++ (List.replicate n z.toList).flatten
  | 0, acc => by simp
  | n + 1, acc => by
    rw [List.replicate_succ, List.foldl_cons, rep_list z n, List.replicate_succ, List.flatten_cons, Array.toList_append, List.append_assoc]
/-- a text, so many times -/
theorem op_mulS {X : Cx} : OpR X (binaryOp .Mult) (fun x y H Q => ∃ (cs : List Nat) (n : Int), x = .str (S cs) ∧ y = .int n ∧ 0 ≤ n ∧ n ≤ 10000 ∧ cs.length ≤ 1000 ∧ Q (.str (S (List.replicate n.toNat cs).flatten)) H) := by
  intro pins s σ H x y v u Q I rx ry h
  obtain ⟨cs, n, rfl, rfl, h0, h1, h2, q⟩ := h
  obtain ⟨t, rfl⟩ := rx
  obtain ⟨t2, rfl⟩ := ry
  refine PySem.P.mul_str ?_ ?_ ?_ ?_
  · rw [decide_eq_false (show ¬ n < -(2 ^ 63 : Int) by omega), decide_eq_false (show ¬ n ≥ 2 ^ 63 by omega)]; rfl
  · intro hn _ hz
    rw [S_len] at hz
    have : (9223372036854775807 : Int) / n ≥ 922337203685477 := by
      rw [ge_iff_le, Int.le_ediv_iff_mul_le (by omega)]
      omega
    have e : ((2 : Int) ^ 63 - 1) = 9223372036854775807 := by decide
    rw [e] at hz
    omega
  · intro hn _
    rw [S_len]
    have : cs.length * n.toNat ≤ 1000 * 10000 := Nat.mul_le_mul h2 (by omega)
    refine decide_eq_false ?_
    exact Nat.not_lt.mpr (Nat.le_trans this (by rw [sizeLine_eq]; decide))
  · by_cases hn : n < 1
    · rw [if_pos hn]
      have e : n.toNat = 0 := by omega
      rw [e] at q
      exact ⟨by decide, ⟨.str (S []), H, I.tok _, ⟨_, rfl⟩, q⟩⟩
    · rw [if_neg hn]
      by_cases hc : (n == 1 || (S cs).length == 0) = true
      · rw [if_pos hc]
        have e : (List.replicate n.toNat cs).flatten = cs := by
          rw [Bool.or_eq_true, beq_iff_eq, beq_iff_eq, S_len] at hc
          rcases hc with e | e
          · subst e; simp
          · rw [List.length_eq_zero_iff.mp e]; simp
        rw [e] at q
        exact ⟨.str (S cs), H, I, ⟨t, rfl⟩, q⟩
      · rw [if_neg hc]
        have e : (⟨(List.replicate n.toNat (S cs).cps).foldl (· ++ ·) #[]⟩ : Str) = S (List.replicate n.toNat cs).flatten := by
          refine congrArg Str.mk ?_
          refine Array.toList_inj.mp ?_
          rw [rep_list]; simp [S]
        rw [e]
        refine ⟨?_, ⟨.str _, H, I.tok _, ⟨_, rfl⟩, q⟩⟩
        rw [S_len, List.length_flatten, List.map_replicate, List.sum_replicate_nat]
        exact Nat.le_trans (Nat.mul_le_mul (show n.toNat ≤ 10000 by omega) h2) (by rw [sizeLine_eq]; decide)
theorem join_ifS {c : TT} {t u : TS} {D : Ends} {σ : L2.St} {H : Hp} (Pj : L2.St → Hp → Prop) (hr : ∀ σ' H', Pj σ' H' → D.nx σ' H') (h : (∀ σ' H', Pj σ' H' → D.nx σ' H') → tIfS c t u D σ H) : tIfS c t u D σ H := h hr
theorem nxt {t u : TS} {D D' : Ends} {σ : L2.St} {H : Hp} (e : D'.nx = tSeq t u D) (h : t { D with nx := u D } σ H) : tNext D' σ H := by
  show D'.nx σ H
  rw [e]; exact h
theorem slice_mid {a : List Nat} {i j : Int} (h0 : 0 ≤ i) (h1 : i ≤ j) (h2 : j ≤ (a.length : Int)) : Txt.slice (S a) (some i) (some j) = S ((a.drop i.toNat).take (j - i).toNat) :=
  beq_iff_eq.mp (PyProof.Rows.slice_closesL (x := S a) h0 h1 (by rw [S_len]; exact h2))
theorem rg60 (m : Nat) (hm : m ≤ 1000) : RgC 0 ((60 * m : Nat) : Int) 60 m := by
  refine ⟨by decide, by decide, ?_, ?_⟩
  · have key : ∀ x : Int, 0 ≤ x → x ≤ 100000 → Builtin.Range.rangeFitsLong x = true := fun x h0 h1 => by
      unfold Builtin.Range.rangeFitsLong
      rw [decide_eq_true (show -(2 ^ 63) ≤ x by omega), decide_eq_true (show x < 2 ^ 63 by omega)]; rfl
    have size : Builtin.Range.rangeSize 0 ((60 * m : Nat) : Int) 60 = (m : Int) := by
      unfold Builtin.Range.rangeSize
      rw [if_pos (show (60 : Int) > 0 by decide)]
      split <;> omega
    unfold Builtin.Range.small
    rw [size, if_pos (show (60 : Int) > 0 by decide), key 0 (by omega) (by omega), key _ (by omega) (by omega), key 60 (by omega) (by omega), key _ (by omega) (by omega), key _ (by omega) (by omega)]
    simp
  · unfold Builtin.Range.rangeSize
    rw [if_pos (show (60 : Int) > 0 by decide)]
    split <;> omega
structure TxtN (mg : Str → Option Value) : Prop extends Txt mg where
  c_PF : ∃ t, mg "PIECE_FIGURES" = some (.int 60 t)
  c_PW : ∃ t, mg "PIECE_WORTH" = some (.int (10 ^ 60) t)
def TextOk (x : V) : Prop := ∀ z, x = .str z → ∃ cs, z = S cs ∧ (∀ c ∈ cs, c < 128) ∧ cs.length ≤ 5000
def intV : V → Option Int
  | .str z => intOf z.cps.toList
  | _ => none
def spIntOf (K : PySem.W.Frag) : Sp := fun vs H Q _ => ∃ x, vs = [x] ∧ Anyv K H x ∧ TextOk x ∧ Q (optV (intV x)) H
section
variable {P : Program} {w : World} {K : PySem.W.Frag} {mg : Str → Option Value} {base : Heap}
theorem scIntOf : FnScope ["word", "figures", "filled", "worth", "at"] ["word"] (C8.fnScope sIntOf) := C8.fnScope_by (by decide +kernel)
theorem cal_intof {f : Addr} {fd : FuncData} (F : C8.Def K mg "integer_of" sIntOf f fd) (b : Binds K fd ["word"] []) (T : TxtN mg) : C8.Cal P w K mg base 1 "integer_of" (spIntOf K) [] := by
  refine C8.cal0 F b .nil scIntOf (fun vs H Q E h => ?_) (fun cdv A outer st H vs Q E hr h => ?_)
  · obtain ⟨x, rfl, _⟩ := h
    rfl
  · obtain ⟨x, rfl, a, ok, k⟩ := h
    obtain ⟨t1, hPF⟩ := T.c_PF
    obtain ⟨t2, hPW⟩ := T.c_PW
    refine ⟨_, (pss_cons (ps_if (pt_not (pt_val (pe_callB call_isz (by rfl) T.n_isinstance (by decide +kernel) (pa_cons (pv 0) (pa_cons (pe_bltn (v := .ty "str") (by rfl) T.n_str (by decide +kernel) rfl) pa_nil))))) (pss_one (ps_ret pe_non)) pss_nil)
  (pss_cons (ps_set (i := 1) scIntOf.nd rfl (Or.inl rfl) (pe_m1 PySem.F.slot_str_removeprefix PySem.F.type_str_removeprefix mt_removeprefix (pv 0) pe_str))
  (pss_cons (ps_if (PW.pt (pw_or (pt_not (pt_val (pe_m0 PySem.F.slot_str_isascii PySem.F.type_str_isascii mt_isascii (pv 1)))) (pw_or1 (pt_not (pt_val (pe_m0 PySem.F.slot_str_isdigit PySem.F.type_str_isdigit mt_isdigit (pv 1))))))) (pss_one (ps_ret pe_non)) pss_nil)
  (pss_cons (ps_if (PW.pt (pw_and (pt_val (pe_m1 PySem.F.slot_str_startswith PySem.F.type_str_startswith mt_startswith (pv 1) pe_str)) (pw_and1 (pt_cmpR op_ne (pv 0) pe_str (nomark _))))) (pss_one (ps_ret pe_non)) pss_nil)
  (pss_cons (ps_set (i := 2) scIntOf.nd rfl (Or.inl rfl) (pe_op op_add_str (pe_op op_mulS pe_str (pe_op op_modN (pe_un un_neg (pe_callB call_len_str (by rfl) T.n_len (by decide +kernel) (pa_cons (pv 1) pa_nil))) (pe_glob (v := .int 60) rfl hPF ⟨_, rfl⟩))) (pv 1)))
  (pss_cons (ps_set (i := 3) scIntOf.nd rfl (Or.inl rfl) pe_int)
  (pss_cons (ps_for PassesOwn.never rfl (pi_range3 (by rfl) T.n_range (pa_cons pe_int (pa_cons (pe_callB call_len_str (by rfl) T.n_len (by decide +kernel) (pa_cons (pv 2) pa_nil)) (pa_cons (pe_glob (v := .int 60) rfl hPF ⟨_, rfl⟩) pa_nil)))) (pg_name (i := 4) scIntOf.nd rfl (Or.inl rfl)) (pss_one (ps_set (i := 3) scIntOf.nd rfl (Or.inl rfl) (pe_op op_add (pe_op op_mulW (pv 3) (pe_glob (v := .int (10 ^ 60)) rfl hPW ⟨_, rfl⟩)) (pe_callTy call_int_str (by rfl) T.n_int (by decide +kernel) (pa_cons (pe_slice C8.sl_txt (pv 2) (po_some (pv 4)) (po_some (pe_op op_add (pv 4) (pe_glob (v := .int 60) rfl hPF ⟨_, rfl⟩)))) pa_nil))))))
  (pss_one (ps_ret (pe_ifExp (pt_val (pe_m1 PySem.F.slot_str_startswith PySem.F.type_str_startswith mt_startswith (pv 0) pe_str)) (pe_un un_neg (pv 3)) (pv 3))))))))))), ?_⟩
    refine ⟨_, rfl, ?_⟩
    dsimp only [tCons, tC, tNil]
    refine isz_str a ⟨_, rfl, ?_⟩
    cases a with
    | str z =>
      obtain ⟨cs, rfl, h128, hlen⟩ := ok z rfl
      refine iteF ?_
      have hl : (S cs).length ≤ sizeLine := by rw [S_len]; exact Nat.le_trans hlen (by decide)
      have f128 : ∀ c ∈ figs cs, c < 128 := fun c hc => h128 c (figs_sub hc)
      have flen : (figs cs).length ≤ 5000 := Nat.le_trans (figs_len cs) hlen
      refine ⟨_, rfl, ⟨_, rfl⟩, _, _, rfl, rfl, hl, ?_⟩
      rw [show (Str.ofString "-") = S [45] from rfl, rm_minus]
      refine ⟨_, rfl, ⟨_, rfl⟩, _, rfl, rfl, trivial, _, rfl, ?_⟩
      rw [ascii_S f128]
      refine iteF ⟨_, rfl, ⟨_, rfl⟩, _, rfl, rfl, trivial, _, rfl, ?_⟩
      rw [isdigit_S f128]
      have kk : ∀ o : Option Int, o = intOf cs → Q (optV o) H := fun o e => by rw [e]; exact k
      cases hd : digB (figs cs) with
      | false =>
        refine iteT (kk none ?_)
        unfold intOf
        rw [hd]; rfl
      | true =>
        refine iteF ?_
        obtain ⟨hall, hne⟩ := digB_all hd
        obtain ⟨f, fr, hfig⟩ : ∃ f fr, figs cs = f :: fr := by
          cases e : figs cs with
          | nil => exact absurd e hne
          | cons f fr => exact ⟨f, fr, rfl⟩
        have bad : ¬ ((figs cs).head? = some 48 ∧ cs ≠ [48]) → ∀ o : Option Int, (o = if cs.head? = some 45 then some (-((digitsVal (figs cs) : Nat) : Int)) else some ((digitsVal (figs cs) : Nat) : Int)) → Q (optV o) H := fun hb o e => by
          refine kk o ?_
          unfold intOf
          rw [if_pos hd, if_neg hb]; exact e
        have s0 : Str.ofString "0" = S [48] := rfl
        dsimp only [tNext, tSeq]
        refine join_ifS (fun σ' H' => σ' = [some (.str (S cs)), some (.str (S (figs cs))), none, none, none] ∧ H' = H ∧ ¬ ((figs cs).head? = some 48 ∧ cs ≠ [48])) ?rest (fun go => ?_)
        case rest =>
          rintro σ' H' ⟨rfl, rfl, hb⟩
          have fl : ((S (figs cs)).length : Int) = ((figs cs).length : Int) := by rw [S_len]
          obtain ⟨pad, hpad⟩ : ∃ pad : Nat, Int.fmod (-((S (figs cs)).length : Int)) 60 = (pad : Int) := ⟨(Int.fmod (-((S (figs cs)).length : Int)) 60).toNat, by have := fm0 (a := -((S (figs cs)).length : Int)) (d := 60) (by decide); omega⟩
          have hpad' : (-((figs cs).length : Int)) % 60 = (pad : Int) := by rw [← fl, ← hpad, Int.fmod_eq_emod_of_nonneg _ (by decide)]
          obtain ⟨m, hm⟩ : ∃ m : Nat, pad + (figs cs).length = 60 * m := ⟨(pad + (figs cs).length) / 60, by omega⟩
          have hfl : (S (figs cs)).length ≤ sizeLine := by rw [S_len]; exact Nat.le_trans flen (by decide)
          refine ⟨_, rfl, _, rfl, hfl, _, rfl, _, _, rfl, rfl, (by show ¬ (_ = _); decide), [48], _, s0 ▸ rfl, rfl, ?_⟩
          rw [hpad]
          have pl : pad < 60 := by omega
          have ez : (List.replicate ((pad : Int).toNat) [48]).flatten = List.replicate pad 48 := by
            rw [Int.toNat_natCast]
            induction pad with
            | zero => rfl
            | succ p ih => rw [List.replicate_succ, List.flatten_cons, List.replicate_succ]; simp
          rw [ez]
          obtain ⟨fill, hfill⟩ : ∃ fill, fill = List.replicate pad 48 ++ figs cs := ⟨_, rfl⟩
          have flenF : fill.length = 60 * m := by rw [hfill, List.length_append, List.length_replicate]; exact hm
          have allF : AllDigits fill := by rw [hfill]; exact AllDigits.app (all_zeros pad) hall
          have valF : digitsVal fill = digitsVal (figs cs) := by rw [hfill, val_app, val_zeros, Nat.zero_mul, Nat.zero_add]
          have hm60 : m ≤ 90 := by omega
          have lF : (S fill).length ≤ sizeLine := by rw [S_len, flenF]; exact Nat.le_trans (show 60 * m ≤ 5400 by omega) (by decide)
          refine ⟨by omega, by omega, by decide, _, rfl, _, _, rfl, rfl, ?_, ?_⟩
          · rw [S_len, S_len, List.length_replicate]; exact Nat.le_trans (show pad + (figs cs).length ≤ 5400 by omega) (by decide)
          rw [S_cat, ← hfill]
          refine ⟨_, rfl, _, rfl, lF, 0, _, 60, m, rfl, ?_, for_rangeC (fun i σ' H2 => ∃ at_, σ' = [some (V.str (S cs)), some (V.str (S (figs cs))), some (V.str (S fill)), some (V.int ((digitsVal (fill.take (60 * i)) : Nat) : Int)), at_] ∧ H2 = H') ⟨none, rfl, rfl⟩ ?_ ?_⟩
          · rw [show ((S fill).length : Int) = ((60 * m : Nat) : Int) by rw [S_len, flenF]]
            exact rg60 m (by omega)
          · rintro i σ' H2 hi ⟨at_, rfl, rfl⟩
            have h60 : 60 * i + 60 ≤ 60 * m := by omega
            have sl : Txt.slice (S fill) (some (0 + ((i : Nat) : Int) * 60)) (some (0 + ((i : Nat) : Int) * 60 + 60)) = S ((fill.drop (60 * i)).take 60) := by
              rw [slice_mid (by omega) (by omega) (by rw [flenF]; omega)]
              rw [show (0 + ((i : Nat) : Int) * 60).toNat = 60 * i by omega, show (0 + ((i : Nat) : Int) * 60 + 60 - (0 + ((i : Nat) : Int) * 60)).toNat = 60 by omega]
            have cl : ((fill.drop (60 * i)).take 60).length = 60 := by rw [List.length_take, List.length_drop, flenF]; omega
            have cd : AllDigits ((fill.drop (60 * i)).take 60) := fun c hc => allF c (List.mem_of_mem_drop (List.mem_of_mem_take hc))
            have tk : fill.take (60 * (i + 1)) = fill.take (60 * i) ++ (fill.drop (60 * i)).take 60 := by rw [Nat.mul_succ, List.take_add]
            have td : AllDigits (fill.take (60 * i)) := fun c hc => allF c (List.mem_of_mem_take hc)
            have tl : (fill.take (60 * i)).length = 60 * i := by rw [List.length_take, flenF]; omega
            have big : (((digitsVal (fill.take (60 * i)) : Nat) : Int)).natAbs < 2 ^ (4 * (60 * i) + 1) := by
              have h1 := val_lt _ td
              rw [tl] at h1
              have h2 := ten_two (60 * i)
              have h3 : (2 : Nat) ^ (4 * (60 * i)) < 2 ^ (4 * (60 * i) + 1) := Nat.pow_lt_pow_right (by decide) (by omega)
              rw [Int.natAbs_natCast]
              omega
            refine ⟨_, rfl, _, _, rfl, rfl, wide_mul big (show ((10 : Int) ^ 60).natAbs < 2 ^ 240 by decide) (by omega) (by decide) (by omega), ?_⟩
            have hint : intText? (Txt.slice (S fill) (some (0 + ((i : Nat) : Int) * 60)) (some (0 + ((i : Nat) : Int) * 60 + 60))) = some ((digitsVal ((fill.drop (60 * i)).take 60) : Nat) : Int) := by
              rw [sl]
              exact intText_digits (x := S ((fill.drop (60 * i)).take 60)) cd (fun e => by rw [show (fill.drop (60 * i)).take 60 = [] from e] at cl; exact absurd cl (by decide)) (by rw [S_len, cl]; decide)
            have hsl : (Txt.slice (S fill) (some (0 + ((i : Nat) : Int) * 60)) (some (0 + ((i : Nat) : Int) * 60 + 60))).length ≤ 640 := by rw [sl, S_len, cl]; decide
            have val : ((digitsVal (fill.take (60 * i)) : Nat) : Int) * 10 ^ 60 + ((digitsVal ((fill.drop (60 * i)).take 60) : Nat) : Int) = ((digitsVal (fill.take (60 * (i + 1))) : Nat) : Int) := by
              rw [tk, val_app, cl]
              rw [Int.natCast_add, Int.natCast_mul, Int.natCast_pow]; rfl
            refine ⟨_, rfl, ⟨_, rfl, _, rfl, ⟨_, rfl, _, _, rfl, rfl, _, rfl, _, rfl, lF, _, _, rfl, hint, hsl, _, _, rfl, rfl, some (V.int (0 + ((i : Nat) : Int) * 60)), ?_, rfl⟩⟩⟩
            rw [← val]; rfl
          · rintro σ' H2 ⟨at_, rfl, rfl⟩
            have full : fill.take (60 * m) = fill := List.take_of_length_le (by omega)
            rw [full, valF]
            refine ⟨_, rfl, ⟨_, rfl⟩, _, _, rfl, rfl, _, rfl, ?_⟩
            obtain ⟨c, r, hcs⟩ : ∃ c r, cs = c :: r := by
              cases e : cs with
              | nil => rw [e] at hfig; cases hfig
              | cons c r => exact ⟨c, r, rfl⟩
            have esw : Txt.startswith (S cs) (S [45]) = decide (c = 45) := by rw [hcs]; exact sw_head c 45 r
            rw [esw]
            refine ite2 (fun c2 => ?_) (fun c2 => ?_)
            · have e2 : c = 45 := of_decide_eq_true c2
              refine ⟨_, rfl, _, rfl, bad hb (some (-((digitsVal (figs cs) : Nat) : Int))) ?_⟩
              rw [if_pos (show cs.head? = some 45 by rw [hcs, e2]; rfl)]
            · have e2 : c ≠ 45 := of_decide_eq_false (Bool.eq_false_iff.mpr c2)
              refine ⟨_, rfl, bad hb (some ((digitsVal (figs cs) : Nat) : Int)) ?_⟩
              rw [if_neg (show ¬ cs.head? = some 45 by rw [hcs]; exact fun z => e2 (Option.some.inj z))]
        refine ⟨_, rfl, ⟨_, rfl⟩, _, _, rfl, rfl, _, rfl, ?_⟩
        rw [hfig, s0, sw_head]
        refine ite2 (fun c0 => ?_) (fun c0 => ?_)
        · refine ⟨_, rfl, rfl, _, rfl, ite2 (fun c1 => ?_) (fun c1 => ?_)⟩
          · refine kk none ?_
            unfold intOf
            rw [if_pos hd, if_pos]
            refine ⟨by rw [hfig, of_decide_eq_true c0]; rfl, fun e => ?_⟩
            rw [e] at c1
            exact absurd c1 (by decide)
          · refine go _ _ ⟨by rw [hfig]; rfl, rfl, fun hb => hb.2 ?_⟩
            have e : V.str (S cs) = V.str (S [48]) := by simpa using c1
            exact S_inj (V.str.inj e)
        · refine iteF (go _ _ ⟨by rw [hfig]; rfl, rfl, fun hb => ?_⟩)
          rw [hfig] at hb
          have e : f = 48 := Option.some.inj hb.1
          exact c0 (decide_eq_true e)
    | int i => exact iteT k
    | bl b => exact iteT k
    | non => exact iteT k
    | obj h h1 h2 h3 => exact iteT k
end
end Lw
namespace Lw
open PySem PySem.Spec PyProof.Rows L2

/-! ### try: body / except X as n: suite, the caught exception held behind the suite -/
/-- an exception's object: its class, its dict -/
def ExO (a : Addr) (cls : Value) (d : Option Addr) : HO := .ext fun h => ∃ o, h.get? a = some o ∧ Zc cls d o ∧ ∃ vs, o.data = .fields vs
section
variable {X : Cx} {pins : List (Addr × Obj)} {σ : L2.St} {H : Hp} {s : Shared}
/-- a pinned object is tracked from now on -/
theorem promote {a : Addr} {o : Obj} {cls : Value} {d : Option Addr} (I : Inv X ((a, o) :: pins) σ H s) (hz : Zc cls d o) (hf : ∃ vs, o.data = .fields vs) (new : X.s_0.heap.get? a = none) (apart : ∀ p ∈ X.pn ++ pins, p.1 ≠ a) : Inv X pins σ (upd H a (ExO a cls d)) s := by
  obtain ⟨ha, na, nL, nF, nC⟩ := I.pin (a, o) (List.mem_append_right _ List.mem_cons_self)
  have here : ∀ b, b ≠ a → upd H a (ExO a cls d) b = H b := fun b n => upd_ne n
  have known : ∀ b u, H b = some u → b ≠ a := fun b u e z => by rw [z, na] at e; cases e
  have old : ∀ b u, X.s_0.heap.get? b = some u → b ≠ a := fun b u e z => by rw [z, new] at e; cases e
  refine ⟨I.ok, I.os, I.bare, ⟨I.base.keep, I.base.slot, fun b u e n hx => ?_, I.base.there, fun b xs e => ?_, fun b u v e => ?_, fun b ps e => ?_⟩, I.loc, I.cell, ?_, fun y c e => ?_, fun p hp => ?_, fun b u e => ?_, I.len⟩
  · rw [here b (old b u e)]
    exact I.base.free b u e n hx
  · have z := I.base.tups b xs e
    rw [here b (known b _ z)]
    exact z
  · have z := I.base.frzs b u v e
    rw [here b (known b _ z)]
    exact z
  · obtain ⟨more, z⟩ := I.base.tbls b ps e
    exact ⟨more, by rw [here b (known b _ z)]; exact z⟩
  · rw [here _ nL.symm]
    exact I.free
  · have ne : c ≠ a := fun z => by
      obtain ⟨v, oc, hoc, hdc⟩ := I.cell y c e
      rw [z, ha] at hoc
      cases hoc
      exact nC v hdc
    rw [here c ne]
    exact I.freeC y c e
  · have hp2 : p ∈ X.pn ++ ((a, o) :: pins) := by
      rcases List.mem_append.mp hp with h | h
      · exact List.mem_append_left _ h
      · exact List.mem_append_right _ (List.mem_cons_of_mem _ h)
    obtain ⟨e1, e2, e3⟩ := I.pin p hp2
    exact ⟨e1, by rw [here _ (apart p hp)]; exact e2, e3⟩
  · by_cases q : b = a
    · subst q
      rw [upd_same] at e
      cases e
      refine ⟨⟨o, ha, hz, hf⟩, ⟨o, ha⟩, ?_⟩
      rintro h1 h2 ⟨u, e1, e2⟩ st
      exact ⟨u, st u e1, e2⟩
    · rw [here b q] at e
      exact (I.hok b u e).stay (fun _ _ _ z => z) (fun c z => by rw [here c (known c _ z)]; exact z) fun c xs z => by rw [here c (known c _ z)]; exact z
end
end Lw
namespace Lw
open PySem PySem.Spec PyProof.Rows L2

/-- what the body's exceptions must be: of the class that is named; the suite ends plainly, and the exception stays known behind it -/
def wHeld (K : PySem.W.Frag) (c : Value) (i n : Nat) (ts : Addr → Value → Option Addr → TS) (D : Ends) : WX := fun cls d σ H => σ.length = n →
  PySem.W.exmOne K cls c = some true ∧ ∀ a, H a = none → ts a cls d { nx := fun σ' H' => H' a = none → D.nx (σ'.set i none) (upd H' a (ExO a cls d)), rt := fun _ _ => False, bk := fun _ _ => False, ct := fun _ _ => False } (σ.set i (some (.ref a))) H
section
variable {X : Cx} {x n : Str} {c : Value} {i : Nat} {body suite : List Stmt} {b₀ : Stmt} {np pos pos' : Pos} {tb : WX → TS} {ts : Addr → Value → Option Addr → TS}
theorem ps_try_held (stk : X.stack = X.env :: X.outer) (frm : X.env.frame = some X.env.locals) (hN : X.N.Nodup) (hi : X.N[i]? = some n) (loc : X.env.kindOf n = some .local) (nm : Names X x c) (noex : X.ex = [])
    (hb : ∀ (W : WX) (pn : List (Addr × Obj)) (xe : Value → Shared → Prop), Takes (X.tr pn xe) W → PassesOwn (model X.prog X.w) X.A X.env xe → PSs (X.tr pn xe) body (tb W))
    (hsu : ∀ (a : Addr) (oe : Obj) (cls : Value) (d : Option Addr) (pn : List (Addr × Obj)), Zc cls d oe → (∃ vs, oe.data = .fields vs) → PSs (X.suite a ((a, oe) :: pn)) (b₀ :: suite) (ts a cls d)) :
    PS X (.Try body [.ExceptHandler (some (.Name x np)) (some n) (b₀ :: suite) pos'] [] [] pos) (fun D σ H => tb (wHeld X.K c i X.N.length ts D) D σ H) := by
  refine ⟨fun pins s σ H D I h => ?_⟩
  have ok := I.ok
  have frames : X.A.frames = some (X.env :: X.outer) := by rw [ok.frames, stk]
  refine wpAny_Try_except ?_
  refine wpAny_mono ((hb (wHeld X.K c i X.N.length ts D) (X.pn ++ pins) (fun e s₁ => wpAny (model X.prog X.w) X.A (noteFrame e X.env) (fun _ s₂ => wpAny (model X.prog X.w) X.A (setFlight e none) (fun _ s₃ =>
    wpAny (model X.prog X.w) X.A (handleBy e X.env [.ExceptHandler (some (.Name x np)) (some n) (b₀ :: suite) pos']) (SP X pins D) X.xe s₃) X.xe s₂) X.xe s₁) (fun u s' air => ?_) PassesOwn.looking).run [] s σ H D (I.toTry _) h) (fun f s1 q => ?_) (fun e s1 q => q)
  · obtain ⟨a, B, sI, pins', σ', H', cls, d, rfl, JT, nb, up, sky, na, os, ag, hw⟩ := air
    have J : Inv X pins σ' H' sI := JT.ofTry ok
    obtain ⟨ours, go⟩ := hw J.len
    rw [stk] at sky
    show wpAny (model X.prog X.w) X.A (noteFrame (.ref a) X.env) _ _ _
    refine Sky.land Zc.steady frames frm sky fun hA flA upA => ?_
    have JA : Inv X pins σ' H' { s' with heap := hA } := J.landed nb flA.1 (up.trans upA) os ag
    obtain ⟨oA, vsA, eA, zA, dA⟩ := flA.there
    -- the exception's object is no frame, and it is new
    have noFrame : a ∉ frs (X.env :: X.outer) := fun hm => by
      obtain ⟨_, o', e', hnf⟩ := flA.2.2.1.mem hm
      rw [eA] at e'
      cases e'
      exact hnf _ dA
    have nL : a ≠ X.env.locals := fun z => noFrame (List.mem_filterMap.mpr ⟨X.env, List.mem_cons_self, by rw [frm, z]⟩)
    have nF : a ∉ X.fs := fun hm => by
      obtain ⟨e, he, q⟩ := List.mem_filterMap.mp hm
      exact noFrame (List.mem_filterMap.mpr ⟨e, List.mem_cons_of_mem _ he, q⟩)
    have nB : B.get? a = none := flA.2.1
    have ground : ∀ b o, sI.heap.get? b = some o → b ≠ a := fun b o e z => by
      rw [z] at e
      have k := nb a o e (by rw [stk]; exact noFrame)
      rw [nB] at k
      cases k
    have fresh : X.s_0.heap.get? a = none := by
      cases e : X.s_0.heap.get? a with
      | none => rfl
      | some o =>
        obtain ⟨o', e'⟩ := J.base.there a o e (by rw [noex]; simp)
        exact absurd rfl (ground a o' e')
    have apart : ∀ p ∈ X.pn ++ pins, p.1 ≠ a := fun p hp => ground p.1 p.2 (J.pin p hp).1
    refine wpAny_handleBy_cons (codeAny_handlers_test ?_) (by intro q; cases q)
    have LT : PySem.W.Looks (model X.prog X.w) hA (typeOf (.ref a)) cls := fun A Q E s k q => wpAny_typeOf_ref (k _ _ eA) (by rw [zA.1]; exact q)
    have LM := PySem.W.exm_one (M := model X.prog X.w) JA.kIn LT ours
    have SA := JA.suite eA dA na nL nF
    have look : ∀ {Q : Value → Shared → Prop} {E : Value → Shared → Prop}, Q c { s' with heap := hA } → wpAny (model X.prog X.w) (X.A.mark (some (.ref a))) (eval (.Name x np) X.env) Q E { s' with heap := hA } := fun {Q E} q => by
      rcases nm with ⟨g1, g2, g3 | ⟨g3, g4, g5⟩⟩
      · exact ld_glob (X := X.suite a ((a, oA) :: (X.pn ++ pins))) SA g1 g3 q g2
      · exact ld_blt (X := X.suite a ((a, oA) :: (X.pn ++ pins))) SA g1 g3 g4 q g5 g2
    refine look (LM.here ?_)
    refine codeAny_handlers_suite_as ?_
    refine HandSPX.lands_againZ flA fun hB flB upB => ?_
    have JB : Inv X pins σ' H' { s' with heap := hB } := J.landed nb flB.1 ((up.trans upA).trans upB) os ag
    obtain ⟨oB, vsB, eB, zB, dB⟩ := flB.there
    refine store_ok (X := X.suite a ((a, oB) :: (X.pn ++ pins))) (v := .ref a) (JB.suite eB dB na nL nF) hN hi (.inl loc) rfl (fun s5 S5 => ?_) (.inr loc)
    refine wpAny_mono ((hsu a oB cls d (X.pn ++ pins) zB ⟨_, dB⟩).run [] s5 _ H' _ S5 (go a na)) (fun f s6 q => ?_) (fun _ _ z => False.elim z)
    cases f with
    | next =>
      obtain ⟨σ6, H6, S6, q6⟩ := q
      have held : Inv X ((a, oB) :: pins) σ6 H6 s6 := ⟨ok, S6.os, S6.bare, S6.base, S6.loc, S6.cell, S6.free, S6.freeC, fun p hp => by
        refine S6.pin p (List.mem_append_left _ ?_)
        show p ∈ (a, oB) :: (X.pn ++ pins)
        rcases List.mem_append.mp hp with h | h
        · exact List.mem_cons_of_mem _ (List.mem_append_left _ h)
        · rcases List.mem_cons.mp h with h | h
          · rw [h]; exact List.mem_cons_self
          · exact List.mem_cons_of_mem _ (List.mem_append_right _ h), S6.hok, S6.len⟩
      refine gone_ok held hN hi loc fun s7 I7 => ?_
      exact ⟨_, _, promote I7 zB ⟨_, dB⟩ fresh apart, q6 (I7.pin (a, oB) (List.mem_append_right _ List.mem_cons_self)).2.1⟩
    | brk =>
      obtain ⟨_, _, _, z⟩ := q
      exact z.elim
    | cont =>
      obtain ⟨_, _, _, z⟩ := q
      exact z.elim
    | ret u =>
      obtain ⟨_, _, _, _, _, z⟩ := q
      exact z.elim
  · cases f with
    | next =>
      obtain ⟨σ1, H1, I1, q1⟩ := q
      exact wpAny_execs_nil ⟨σ1, H1, I1.ofTry ok, q1⟩
    | brk =>
      obtain ⟨σ1, H1, I1, q1⟩ := q
      exact ⟨σ1, H1, I1.ofTry ok, q1⟩
    | cont =>
      obtain ⟨σ1, H1, I1, q1⟩ := q
      exact ⟨σ1, H1, I1.ofTry ok, q1⟩
    | ret u =>
      obtain ⟨v1, σ1, H1, I1, r1, q1⟩ := q
      exact ⟨v1, σ1, H1, I1.ofTry ok, r1, q1⟩
end
end Lw
namespace Lw
open PySem PySem.Spec PyProof.Rows L2

section
variable {X : Cx} {pins : List (Addr × Obj)} {σ : L2.St} {H : Hp} {s : Shared}
theorem held_at {a : Addr} {cls : Value} {d : Option Addr} (I : Inv X pins σ H s) (h : H a = some (ExO a cls d)) : ∃ o vs, s.heap.get? a = some o ∧ o.cls = cls ∧ o.dict = d ∧ o.data = .fields vs := by
  obtain ⟨⟨o, h1, h2, vs, h3⟩, _⟩ := (show ObjOk X.prog X.w H s.heap a (ExO a cls d) from I.hok a _ h)
  exact ⟨o, vs, h1, h2.1, h2.2, h3⟩
/-- the exception as an instance, its attributes known -/
theorem held_inst {a C dd : Addr} {fs : List (Str × V)} (I : Inv X pins σ H s) (h : H a = some (ExO a (.ref C) (some dd))) (hd : H dd = some (.xd fs)) : ∃ o od, PySem.W.InstAt s.heap a o C (some od) ∧ ∀ f v, fs.lookup f = some v → ∃ u, PySem.W.lookIn f od = some (some u) ∧ RelV v u := by
  obtain ⟨o, vs, h1, h2, h3, h4⟩ := held_at I h
  obtain ⟨mA, hns, hr⟩ := (show ObjOk X.prog X.w H s.heap dd (.xd fs) from I.hok dd _ hd)
  obtain ⟨od, ho, hl⟩ := lookIn_ns hns
  refine ⟨o, od, ⟨h1, h2, by unfold PySem.W.notCls; rw [h4] <;> rfl, by rw [h3]; exact ho⟩, fun f v e => ?_⟩
  obtain ⟨u, hu, ru⟩ := RelO.some_of (v := v) (o := mA f) (by rw [← e]; exact hr f)
  exact ⟨u, by rw [hl, hu], ru⟩
/-- e.f of an exception that is held -/
def tHeld (C : Addr) (f : Str) (te : TE) : TE := fun σ H Q => te σ H fun x H1 => ∃ (a dd : Addr) (fs : List (Str × V)) (v : V), x = .ref a ∧ H1 a = some (ExO a (.ref C) (some dd)) ∧ H1 dd = some (.xd fs) ∧ fs.lookup f = some v ∧ Q v H1
theorem pe_held {C : Addr} {e : Expr} {te : TE} {pos : Pos} {f : Str} (T : XfC X.K C) (hno : PySem.W.findIn X.K (.ref C) f = some none) (he : PE X e te) (hb : attributeBase e f X.env (eval e X.env) = eval e X.env := by rfl) : PE X (.Attribute e f pos) (tHeld C f te) := by
  refine ⟨fun pins s σ H Q I q => attr_of hb (thn (he.run pins s σ H _ I q) fun u s1 got => ?_)⟩
  obtain ⟨x, H1, I1, rx, a, dd, fs, v, rfl, ha, hd, hl, q⟩ := got
  obtain rfl : u = Value.ref a := rx
  obtain ⟨o, od, J, fld⟩ := held_inst I1 ha hd
  obtain ⟨u, hu, ru⟩ := fld f v hl
  exact HandSPX.exc_get I1.kIn J T.ga T.gg T.exC (PySem.W.findObj_own T.hdC hno rfl hu) (handed_of ru) ⟨v, H1, I1.tok _, ru, q⟩
end
end Lw
namespace Lw.Hx
open PySem PySem.Spec PySem.Calls PyProof.Rows PySem.W

/-! ### isinstance of an exception that has attributes -/
/-- what isinstance asks of the exception's class -/
structure XCls (K : Frag) (D : Addr) : Prop where
  ga : findIn K (.ref D) "__getattribute__" = some (some (.builtin "BaseException.__getattribute__"))
  gt : findIn K (.ref D) "__getattr__" = some none
  sub : subIn K (.ref D) (.type "BaseException") = some true
  dct : hasDictIn K D = true
  ca : findIn K (.ref D) "__class__" = some (some (.builtin "object.__class__"))
  cn : specialIn K (.builtin "object.__class__") "__get__" = some (some (.builtin "getset_descriptor.__get__"))
  ct : takesIn K (.builtin "object.__class__") = some true
  cm : mroIn K D (.type "object") = some true
section
variable {prog : Program} {w : World} {A : Around} {E : Value → Shared → Prop} {s : Shared} {K : Frag} {x D : Addr} {ox : Obj} {od : Option Obj}
theorem finds (c : XCls K D) : findObj K D od "__class__" = some (.bind (.builtin "getset_descriptor.__get__") (.builtin "object.__class__")) := by
  obtain ⟨cd, hc, _⟩ := any_some c.dct
  unfold findObj
  rw [hc, Option.bind_some, c.ca, Option.bind_some]
  simp only [c.cn, c.ct, Option.bind_some]
theorem class_of (c : XCls K D) {Q : Option Value → Shared → Prop} (X : K.In s.heap) (I : InstAt s.heap x ox D od) (h : Q (some (.ref D)) { s with toks := s.toks + 1 }) : wpAny (model prog w) A (getAttr? (.ref x) "__class__") Q E s := by
  have found := finds (od := od) c
  obtain ⟨hp, gs, dr, tk, os⟩ := s
  have kind := I.type (M := model prog w)
  have asks := looks_findIn (M := model prog w) X c.ga
  have more := looks_findIn (M := model prog w) X c.gt
  have seen := looks_find (M := model prog w) X I found
  have under : Looks (model prog w) hp (isInstance (.ref x) (.type "BaseException")) true := kind.andThen (looks_subIn X c.sub)
  have n2 : (Value.builtin "BaseException.__getattribute__" == Value.builtin "object.__getattribute__") = false := by decide +kernel
  have n1 : (onTheHeap (Value.ref D) && Value.builtin "BaseException.__getattribute__" == Value.builtin "object.__getattribute__") = false := by rw [n2]; rfl
  unfold getAttr? getAttrBy? getAttrBy
  refine wpAny_bind (wpAny_mkText (wpAny_bind (wpAny_attempt (wpAny_holding (wpAny_bind (kind.at (wpAny_bind (asks.at ?_))))))))
  show wpAny _ _ (ite ((onTheHeap (Value.ref D) && Value.builtin "BaseException.__getattribute__" == Value.builtin "object.__getattribute__") = true) _ _) _ _ _
  rw [n1, if_neg (by decide)]
  unfold getAttrByItsOwn hookBefore
  refine wpAny_bind ?_
  rw [if_pos (show onTheHeap (.ref D) = true from rfl)]
  refine more.at (wpAny_bind (wpAny_attempt (wpAny_holding ?_)))
  unfold callGetattribute
  rw [if_neg (show ¬ (false && onTheHeap (Value.builtin "BaseException.__getattribute__")) = true from by decide)]
  unfold boundAndCalled
  rw [PySem.F.excAttr_ValueError.ga.bind (.ref x)]
  refine wpAny_bind (wpAny_pure ?_)
  show wpAny _ _ (call (.builtin "BaseException.__getattribute__") [.ref x, .str "__class__" tk]) _ _ _
  refine wpAny_call (codeAny_call_builtin PySem.F.excAttr_ValueError.ga.plain PySem.F.entry_bexc_ga ?_)
  refine @check_slot (model prog w) _ _ ⟨hp, gs, dr, tk + 1, os⟩ "BaseException.__getattribute__" "BaseException" "__getattribute__" (.ref x) [.str "__class__" tk] [] _ (by decide +kernel) (by decide +kernel) under (PySem.F.args_bexc_ga (.ref x) (.str "__class__" tk)) ?_
  unfold Builtin.«object.__getattribute__»
  refine wpAny_bind (wpAny_of_eq (a := ((Value.ref x : Value), [Value.str "__class__" tk])) (by first | rfl | (simp only [slotArgs] <;> rfl)) ?_)
  refine wpAny_bind (wpAny_pure (wpAny_bind (kind.at (wpAny_bind (seen.at ?_)))))
  show wpAny _ _ (holding [Value.builtin "object.__class__"] (call (.builtin "getset_descriptor.__get__") [.builtin "object.__class__", .ref x, .ref D]) >>= ret) _ _ _
  refine wpAny_bind (wpAny_holding (wpAny_call (class_get (s := ⟨hp, gs, dr, tk + 1, os⟩) X I c.cm ?_)))
  refine wpAny_pure ?_
  show wpAny _ _ (handedOut (.ref D)) _ _ _
  rw [handedOut_of (v := .ref D) rfl]
  first
    | exact wpAny_pure (wpAny_pure h)
    | exact wpAny_pure h
    | exact wpAny_pure (wpAny_bind (wpAny_pure (wpAny_pure h)))
theorem no_list (c : XCls K D) : ∃ o cd, K.lookup D = some o ∧ o.data = .cls cd := by
  obtain ⟨cd, hc, _⟩ := any_some c.dct
  unfold clsIn at hc
  split at hc
  · rename_i c' d' cd' sl' ho
    exact ⟨_, _, ho, rfl⟩
  · cases hc
theorem kitx_held (c : XCls K D) : KitX K (.ref x) (.ref D) (fun h => InstAt h x ox D od) where
  ty := fun _ _ _ I => I.type
  it := fun _ _ X _ => by
    obtain ⟨o, cd, ho, hd⟩ := no_list c
    intro A' Q' E' s' k q
    unfold isType loadHead
    refine wpAny_bind (wpAny_loadPart (k _ _ (X _ _ ho)) ?_)
    rw [hd]
    exact wpAny_pure q
  ne := fun h tp dd its n sl X htp => by
    refine Bool.eq_false_iff.mpr fun q => ?_
    have e : D = tp := Value.ref.inj (beq_iff_eq.mp q)
    obtain ⟨o, cd, ho, hd⟩ := no_list c
    have z := X _ _ ho
    rw [e, htp] at z
    cases z
    cases hd
  ca := fun X I k => class_of c X I k
end
end Lw.Hx
namespace Lw
open PySem PySem.Spec PyProof.Rows L2

/-- a value's kind: an exception's that is held, too -/
inductive TyW (K : PySem.W.Frag) (H : Hp) : V → Value → Prop where
  | z {v : V} {t : Value} (h : TyZ K H v t) : TyW K H v t
  | held {a D dd : Addr} {fs : List (Str × V)} (e : H a = some (ExO a (.ref D) (some dd))) (hd : H dd = some (.xd fs)) (c : Hx.XCls K D) : TyW K H (.ref a) (.ref D)
def rIsw (K : PySem.W.Frag) : List V → Hp → VK → Prop := fun xs H Q => ∃ (x c : V) (t u : Value) (b : Bool), xs = [x, c] ∧ ClsV c u ∧ TyW K H x t ∧ PySem.W.kitOne K t u = some b ∧ Q (.bl b) H
theorem call_isw {X : Cx} : CallR X (.builtin "isinstance") (rIsw X.K) := by
  intro pins s σ H xs us Q I r h
  obtain ⟨x, c, t, u, b, rfl, k, ty, e, q⟩ := h
  cases ty with
  | z ty => exact call_isz pins s σ H _ us Q I r ⟨x, c, t, u, b, rfl, k, ty, e, q⟩
  | @held a D dd fs ea hd cl =>
    obtain ⟨w1, w2, rfl, r1, r2⟩ := vals2 r
    obtain rfl := k.eq r2
    obtain rfl : w1 = Value.ref a := r1
    obtain ⟨o, od, J, _⟩ := held_inst I ea hd
    exact PySem.W.kia_one (Hx.kitx_held cl) I.kIn J e (fun z => by cases z) fun tk => ⟨.bl b, H, I.tok tk, rfl, q⟩
end Lw
namespace Lw
open PySem PySem.Spec PyProof.Rows L2

/-! ### C.m(e, ..), m a static method -/
structure SMet (K : PySem.W.Frag) (C : Addr) (m : Str) (p g : Addr) : Prop where
  mc : ∃ mc, PySem.W.typeIn K (.ref C) = some mc ∧ PySem.W.readsIn K C mc = true ∧ PySem.W.findCls K (.ref C) mc m = some (.get (.builtin "staticmethod.__get__") (.ref p) .none (.ref C))
  ga : PySem.W.specialIn K (.ref C) "__getattribute__" = some (some (.builtin "type.__getattribute__"))
  rc : ∃ rest, PySem.W.recIn K p "staticmethod" = some (.ref g :: rest)
  kp : PySem.W.keepIn K (.ref g) = true
def tStatic (C : Addr) (sp : Sp) (dvs : List V) (E : XK) (ta : TE) (t : TA) : TE := fun σ H Q => ta σ H fun x H1 => x = .ref C ∧ t σ H1 fun vs H2 => sp (vs ++ dvs) H2 Q E
section
variable {X : Cx} {CX : CXT} {C p g : Addr} {k : Nat} {fd : FuncData} {ps : List Str} {sp : Sp} {E : XK} {ds : List Value} {dvs : List V} {o e : Expr} {es : List Expr} {m : Str} {pos apos : Pos} {ta : TE} {t : TA} {pl : Sem Bool}
theorem pe_static (he : PE X o ta) (c : SMet X.K C m p g) (F : FnOk X.prog X.w X.K X.mg X.base CX k g fd ps sp) (hr : Room k X.A) (b : Binds X.K fd ps ds) (d : Vals dvs ds) (hx : Passes CX X E) (ha : PA X (e :: es) t)
    (hst : starEach (e :: es) X.env = (false, eval e X.env) :: starEach es X.env := by rfl) (hpl : (backTo pos (starEach es X.env)).any (·.1) = false := by rfl)
    (ht : eval (.Call (.Attribute o m apos) (e :: es) [] pos) X.env = (do
      let ov ← eval o X.env
      standAt apos.atName
      let (f, first) ← holding [ov] (getMethod ov m pl)
      callWith pos f first (backTo pos (starEach (e :: es) X.env)) (backToKw pos (keywordEach [] X.env))) := by rfl) :
    PE X (.Call (.Attribute o m apos) (e :: es) [] pos) (tStatic C sp dvs E ta t) := by
  refine ⟨fun pins s σ H Q I h => ?_⟩
  refine PySem.W.methodCall_KW (pl := pl) (thn (he.run pins s σ H _ I h) fun u s1 ⟨x, H1, I1, rx, ex, q⟩ => ?_) ht
  subst ex
  obtain rfl : u = Value.ref C := rx
  obtain ⟨mc, h1, h2, h3⟩ := c.mc
  obtain ⟨rest, h4⟩ := c.rc
  obtain ⟨fm, hF⟩ := I1.fr
  refine PySem.W.method_cls I1.kIn c.ga (PySem.W.cls_sm hF I1.ok.mod.kin h1 h2 h3 h4 rfl ?_)
  have I2 : Inv X pins σ H1 { s1 with toks := s1.toks + 1 } := I1.tok _
  refine PySem.W.callWith_K (h₀ := X.base) I2.ok.mod.kin c.kp (thn (ha.run pos pins _ σ H1 _ I2 q) fun us s3 ⟨vs, H2, I3, rv, q2⟩ => ⟨I3.kIn, ?_⟩) hst hpl
  exact run_fn F hr b d hx I3 rv q2
end
end Lw
namespace Lw
open PySem PySem.Spec PyProof.Rows L2

/-! ### own operators: + - * // % and the sign, of instances of one class and of a built-in value beside -/
section
variable {X : Cx} {C : Addr} {k j : Nat} {sp : Sp} {pins : List (Addr × Obj)} {σ : L2.St} {H : Hp} {s : Shared}
theorem ins_at {a dx : Addr} {fs : List (Str × V)} (I : Inv X pins σ H s) (h : H a = some (.ins C dx fs)) : ∃ ox od, PySem.W.InstAt s.heap a ox C (some od) := by
  obtain ⟨mA, O, _⟩ := ins_get I.hok h
  obtain ⟨od, J, _⟩ := O.look
  exact ⟨_, od, J⟩
/-- a method of the class, called with an instance and another value -/
theorem run_two {m : Str} {us : List Value} {vs : List V} {Q : VK} (M : C8.Met X.prog X.w X.K X.mg X.base k C m sp []) (hr : Room j X.A) (hk : k ≤ j) (I : Inv X pins σ H s) (r : Vals vs us) (q : sp vs H Q C8.E0) :
    ∃ g : Addr, Meth X.K C m g ∧ wpAny (model X.prog X.w) X.A (call (.ref g) us) (PySem.W.CmpBack (EP X pins σ Q)) X.xe s := by
  obtain ⟨g, fd, ps, ds, hC, hm, F, b, d⟩ := M.ex
  have q' : sp (vs ++ []) H Q C8.E0 := by rw [List.append_nil]; exact q
  refine ⟨g, hm, wpAny_mono (run_fn F (hr.mono hk) b d C8.pass0 I r q') (fun w s' z => ?_) fun _ _ x => x⟩
  obtain ⟨z', H', I', rz, qz⟩ := z
  exact SlX.cmpback rz ⟨z', H', I', rz, qz⟩
def rSame (C : Addr) (sp : Sp) : R2 := fun x y H Q => ∃ a dx fs b dy gs, x = .ref a ∧ y = .ref b ∧ H a = some (.ins C dx fs) ∧ H b = some (.ins C dy gs) ∧ sp [x, y] H Q C8.E0
theorem op_same {op : Operator} (M : C8.Met X.prog X.w X.K X.mg X.base k C (PySem.dunder op.info.2) sp []) (hc : PySem.W.selfFirst X.K C = true) (hr : Room j X.A) (hk : k ≤ j) : OpR X (binaryOp op) (rSame C sp) := by
  intro pins s σ H x y v u Q I rx ry h
  obtain ⟨a, dx, fs, b, dy, gs, rfl, rfl, ha, hb, q⟩ := h
  cases (show v = Value.ref a from rx)
  cases (show u = Value.ref b from ry)
  obtain ⟨_, _, J⟩ := ins_at I ha
  obtain ⟨_, _, J'⟩ := ins_at I hb
  obtain ⟨g, hm, w⟩ := run_two (us := [.ref a, .ref b]) (vs := [.ref a, .ref b]) M hr hk I (.cons rfl (.cons rfl .nil)) q
  obtain ⟨m, hF⟩ := I.fr
  exact PySem.W.binop_K hF I.ok.mod.kin J J'.type hc hm.at_ hm.fn w
/-- what the operator asks of the class and of a built-in type beside it -/
structure Beside (K : PySem.W.Frag) (C : Addr) (op : Operator) (T : String) : Prop where
  first : PySem.W.selfFirst K C = true
  back : ∃ rc, PySem.W.findIn K (.ref C) (dunderR op.info.2) = some rc ∧ (rc = none ∨ ∃ g : Addr, rc = some (.ref g))
  ahead : ∃ fo, PySem.W.findIn K (.type T) (PySem.dunder op.info.2) = some fo
  behind : ∃ ro, PySem.W.findIn K (.type T) (dunderR op.info.2) = some ro
  sub : PySem.W.subIn K (.type T) (.ref C) = some false
/-- a built-in value's kind, as typeOf tells it -/
inductive Kind : V → String → Prop where
  | int (i : Int) : Kind (.int i) "int"
  | bl (b : Bool) : Kind (.bl b) "bool"
  | non : Kind .non "NoneType"
  | str (z : Str) : Kind (.str z) "str"
theorem Kind.type {y : V} {T : String} {u : Value} (h : Kind y T) (r : RelV y u) : typeOf u = pure (.type T) := by
  cases h with
  | int i => obtain ⟨t, e⟩ := (show ∃ t, u = Value.int i t from r); subst e; rfl
  | bl b => cases (show u = Value.bool b from r); rfl
  | non => cases (show u = Value.none from r); rfl
  | str z => obtain ⟨t, e⟩ := (show ∃ t, u = Value.str z t from r); subst e; rfl
def rBeside (K : PySem.W.Frag) (C : Addr) (op : Operator) (sp : Sp) : R2 := fun x y H Q => ∃ a dx fs T, x = .ref a ∧ H a = some (.ins C dx fs) ∧ Kind y T ∧ Beside K C op T ∧ sp [x, y] H Q C8.E0
theorem op_beside {op : Operator} (M : C8.Met X.prog X.w X.K X.mg X.base k C (PySem.dunder op.info.2) sp []) (hr : Room j X.A) (hk : k ≤ j) : OpR X (binaryOp op) (rBeside X.K C op sp) := by
  intro pins s σ H x y v u Q I rx ry h
  obtain ⟨a, dx, fs, T, rfl, ha, hT, hB, q⟩ := h
  cases (show v = Value.ref a from rx)
  obtain ⟨_, _, J⟩ := ins_at I ha
  obtain ⟨g, hm, w⟩ := run_two (us := [.ref a, u]) (vs := [.ref a, y]) M hr hk I (.cons rfl (.cons ry .nil)) q
  obtain ⟨m, hF⟩ := I.fr
  obtain ⟨rc, r1, r2⟩ := hB.back
  obtain ⟨fo, f1⟩ := hB.ahead
  obtain ⟨ro, o1⟩ := hB.behind
  exact PySem.W.ksp_binT hF I.ok.mod.kin J (hT.type ry) hB.first hm.at_ hm.fn r1 r2 f1 o1 hB.sub w
def rSign (C : Addr) (sp : Sp) : V → Hp → VK → Prop := fun x H Q => ∃ a dx fs, x = .ref a ∧ H a = some (.ins C dx fs) ∧ sp [x] H Q C8.E0
theorem un_sign (M : C8.Met X.prog X.w X.K X.mg X.base k C "__neg__" sp []) (hr : Room j X.A) (hk : k ≤ j) : UnR X (unaryOp .USub) (rSign C sp) := by
  intro pins s σ H x v Q I rx h
  obtain ⟨a, dx, fs, rfl, ha, q⟩ := h
  cases (show v = Value.ref a from rx)
  obtain ⟨_, _, J⟩ := ins_at I ha
  obtain ⟨g, fd, ps, ds, hC, hm, F, b, d⟩ := M.ex
  obtain ⟨m, hF⟩ := I.fr
  have q' : sp ([V.ref a] ++ []) H Q C8.E0 := q
  exact PySem.W.ksp_neg hF I.ok.mod.kin J hm.at_ hm.fn (run_fn (us := [.ref a]) (vs := [.ref a]) F (hr.mono hk) b d C8.pass0 I (.cons rfl .nil) q')
end
end Lw
namespace Lw.Ow
open PySem PySem.Spec PyProof.Rows PySem.W PySem.Calls

/-! ### own operators, the instance on the right -/
section
variable {prog : Program} {w : World} {A : Around} {E : Value → Shared → Prop} {s : Shared} {K : Frag} {x C f g : Addr} {ox : Obj} {od : Option Obj}
theorem right_bare {op : Operator} {a : Value} {T : String} {Q : Value → Shared → Prop} (X : K.In s.heap) (I : InstAt s.heap x ox C od) (ht : Looks (model prog w) s.heap (typeOf a) (.type T)) (hc : selfFirst K C = true) (hs : findIn K (.ref C) (PySem.dunder op.info.2) = some (some (.ref f))) (hr : findIn K (.ref C) (dunderR op.info.2) = some (some (.ref g)))
    (hg : isFn K (.ref g) = true) (hL : fillsNumberSlot (.type T) op.info.2 = pure false) (h : wpAny (model prog w) A (call (.ref g) [.ref x, a]) (PySem.W.CmpBack Q) E s) : wpAny (model prog w) A (binaryOp op a (.ref x)) Q E s := by
  obtain ⟨cd, rest, hcd, hm⟩ := ksp_first hc
  rcases hi : op.info with ⟨sym, nm⟩
  rw [hi] at hs hr hL
  dsimp only at hs hr hL
  have one := ksp_try X I hr hg h
  obtain ⟨hh, gg, d, tt, os⟩ := s
  have L2 : Looks (model prog w) hh (typeOf (.ref x)) (.ref C) := I.type
  have L3 : Looks (model prog w) hh (fillsNumberSlot (.ref C) nm) true := fills_K X hcd hm hs
  have hne : (Value.type T == Value.ref C) = false := Bool.eq_false_iff.mpr fun q => by cases beq_iff_eq.mp q
  simp only [binaryOp, hi]
  refine wpAny_holding (wpAny_bind ?_)
  unfold binaryOp1
  refine wpAny_bind (ht.at (wpAny_bind (L2.at (wpAny_bind (wpAny_of_eq hL ?_)))))
  simp only [hne, Bool.false_eq_true, if_false]
  refine wpAny_bind (L3.at ?_)
  simp only [Bool.false_and, Bool.false_eq_true, if_false, pure_bind, Bool.not_false, Bool.and_true, if_true]
  refine wpAny_bind (wpAny_mono one (fun r s' hr' => ?_) fun _ _ e => e)
  obtain ⟨v, rfl, hq⟩ := hr'
  exact wpAny_bind (wpAny_rule (wpAny_pure (wpAny_pure hq)))
theorem right_number {op : Operator} {a : Value} {T id : String} {Q : Value → Shared → Prop} (X : K.In s.heap) (I : InstAt s.heap x ox C od) (ht : typeOf a = pure (.type T)) (hT : s.TypeIs a T) (hc : selfFirst K C = true) (hs : findIn K (.ref C) (PySem.dunder op.info.2) = some (some (.ref f))) (hr : findIn K (.ref C) (dunderR op.info.2) = some (some (.ref g)))
    (hg : isFn K (.ref g) = true) (hL : fillsNumberSlot (.type T) op.info.2 = pure true) (hsub : subIn K (.ref C) (.type T) = some false) (sl : Slot T (PySem.dunder op.info.2) id) (hd : ∀ Q' : Value → Shared → Prop, Q' .notImplemented s → wpAny (model prog w) A (call (.builtin id) [a, .ref x]) Q' E s)
    (h : wpAny (model prog w) A (call (.ref g) [.ref x, a]) (PySem.W.CmpBack Q) E s) : wpAny (model prog w) A (binaryOp op a (.ref x)) Q E s := by
  obtain ⟨cd, rest, hcd, hm⟩ := ksp_first hc
  rcases hi : op.info with ⟨sym, nm⟩
  rw [hi] at hs hr hL sl
  dsimp only at hs hr hL sl
  have one := ksp_try X I hr hg h
  have two := wpAny_tryMethod_declines (Q := fun r s' => r = none ∧ s' = s) hT sl (hd _ ⟨rfl, rfl, rfl⟩)
  obtain ⟨hh, gg, d, tt, os⟩ := s
  have L2 : Looks (model prog w) hh (typeOf (.ref x)) (.ref C) := I.type
  have L3 : Looks (model prog w) hh (fillsNumberSlot (.ref C) nm) true := fills_K X hcd hm hs
  have L4 : Looks (model prog w) hh (isSubtype (.ref C) (.type T)) false := looks_subIn X hsub
  have hpy : numberSlotInPython (.type T) nm = pure false := rfl
  have hne : (Value.type T == Value.ref C) = false := Bool.eq_false_iff.mpr fun q => by cases beq_iff_eq.mp q
  simp only [binaryOp, hi]
  refine wpAny_holding (wpAny_bind ?_)
  unfold binaryOp1
  refine wpAny_bind (wpAny_of_eq ht (wpAny_bind (L2.at (wpAny_bind (wpAny_of_eq hL ?_)))))
  simp only [hne, Bool.false_eq_true, if_false]
  refine wpAny_bind (L3.at ?_)
  simp only [Bool.and_self, if_true]
  refine wpAny_bind (L4.at ?_)
  simp only [Bool.false_eq_true, if_false, pure_bind, Bool.not_false, Bool.and_self, if_true, hpy]
  refine wpAny_bind (wpAny_mono two (fun r s' z => ?_) fun _ _ e => e)
  obtain ⟨rfl, rfl⟩ := z
  refine wpAny_bind (wpAny_mono one (fun r s' hr' => ?_) fun _ _ e => e)
  obtain ⟨v, rfl, hq⟩ := hr'
  exact wpAny_bind (wpAny_rule (wpAny_pure (wpAny_pure hq)))
end
end Lw.Ow
namespace Lw.Ow
open PySem PySem.Spec PyProof.Rows

section
variable {prog : Program} {w : World} {A : Around} {E : Value → Shared → Prop} {s : Shared}
theorem binary_no {nm : String} {f : Int → Int → Sem Fin} {i : Int} {t : Tok} {x : Addr} {o : Obj} {Q : Value → Shared → Prop} (ho : s.heap.get? x = some o) (hp : o.data = .plain) (h : Q .notImplemented s) :
    wpAny (model prog w) A (Builtin.Int.intBinary nm f false ⟨[.int i t, .ref x], []⟩) (fun fin s' => ∃ v, fin = .done (.ret v) ∧ Q v s') E s := by
  unfold Builtin.Int.intBinary
  refine wpAny_bind (wpAny_of_eq (a := (Value.int i t, [Value.ref x])) rfl ?_)
  refine wpAny_bind (wpAny_of_eq (a := i) rfl ?_)
  refine wpAny_bind ?_
  show wpAny _ _ (load x >>= fun ob => match ob.data with | .prim (.int i _) => pure (some i) | _ => pure none) _ _ _
  refine wpAny_bind (wpAny_load ho ?_)
  rw [hp]
  exact wpAny_pure (wpAny_bind (wpAny_rule (wpAny_pure ⟨_, rfl, h⟩)))
theorem no_add {i : Int} {t : Tok} {x : Addr} {o : Obj} {Q : Value → Shared → Prop} (ho : s.heap.get? x = some o) (hp : o.data = .plain) (h : Q .notImplemented s) : wpAny (model prog w) A (call (.builtin "int.__add__") [.int i t, .ref x]) Q E s :=
  wpAny_call_entry F.slot_int_add (typeIs_int s i t) F.entry_int_add (binary_no ho hp h) (F.args_int_add_2 _ _)
theorem no_sub {i : Int} {t : Tok} {x : Addr} {o : Obj} {Q : Value → Shared → Prop} (ho : s.heap.get? x = some o) (hp : o.data = .plain) (h : Q .notImplemented s) : wpAny (model prog w) A (call (.builtin "int.__sub__") [.int i t, .ref x]) Q E s :=
  wpAny_call_entry F.slot_int_sub (typeIs_int s i t) F.entry_int_sub (binary_no ho hp h) (F.args_int_sub_2 _ _)
theorem no_mul {i : Int} {t : Tok} {x : Addr} {o : Obj} {Q : Value → Shared → Prop} (ho : s.heap.get? x = some o) (hp : o.data = .plain) (h : Q .notImplemented s) : wpAny (model prog w) A (call (.builtin "int.__mul__") [.int i t, .ref x]) Q E s :=
  wpAny_call_entry F.slot_int_mul (typeIs_int s i t) F.entry_int_mul (binary_no ho hp h) (F.args_int_mul_2 _ _)
theorem no_mod {i : Int} {t : Tok} {x : Addr} {o : Obj} {Q : Value → Shared → Prop} (ho : s.heap.get? x = some o) (hp : o.data = .plain) (h : Q .notImplemented s) : wpAny (model prog w) A (call (.builtin "int.__mod__") [.int i t, .ref x]) Q E s :=
  wpAny_call_entry F.slot_int_mod (typeIs_int s i t) F.entry_int_mod (binary_no ho hp h) (F.args_int_mod_2 _ _)
theorem no_floordiv {i : Int} {t : Tok} {x : Addr} {o : Obj} {Q : Value → Shared → Prop} (ho : s.heap.get? x = some o) (hp : o.data = .plain) (h : Q .notImplemented s) : wpAny (model prog w) A (call (.builtin "int.__floordiv__") [.int i t, .ref x]) Q E s := by
  refine wpAny_call_entry F.slot_int_floordiv (typeIs_int s i t) F.entry_int_floordiv ?_ (F.args_int_floordiv_2 _ _)
  unfold Builtin.«int.__floordiv__»
  refine wpAny_bind ?_
  unfold Builtin.exactOperandsForPylong
  rw [if_pos (by rfl)]
  dsimp only
  refine wpAny_bind (wpAny_of_eq (a := some i) rfl ?_)
  refine wpAny_bind ?_
  show wpAny _ _ (load x >>= fun ob => match ob.data with | .prim (.int i _) => pure (some i) | _ => pure none) _ _ _
  refine wpAny_bind (wpAny_load ho ?_)
  rw [hp]
  exact wpAny_pure (wpAny_pure (binary_no ho hp h))
end

end Lw.Ow
namespace Lw
open PySem PySem.Spec PyProof.Rows L2
section
variable {X : Cx} {C f : Addr} {k j : Nat} {sp : Sp}
def rRight (C : Addr) (P : V → Prop) (sp : Sp) : R2 := fun x y H Q => ∃ a dx fs, P x ∧ y = .ref a ∧ H a = some (.ins C dx fs) ∧ sp [y, x] H Q C8.E0
theorem ins_plain {pins : List (Addr × Obj)} {σ : L2.St} {H : Hp} {s : Shared} {a dx : Addr} {fs : List (Str × V)} (I : Inv X pins σ H s) (h : H a = some (.ins C dx fs)) : ∃ ox od, PySem.W.InstAt s.heap a ox C (some od) ∧ s.heap.get? a = some ox ∧ ox.data = .plain := by
  obtain ⟨mA, O, _⟩ := ins_get I.hok h
  obtain ⟨od, J, _⟩ := O.look
  exact ⟨_, od, J, J.at_, rfl⟩
/-- an int beside an instance on the right -/
theorem op_rightI {op : Operator} {id : String} (M : C8.Met X.prog X.w X.K X.mg X.base k C (dunderR op.info.2) sp []) (hc : PySem.W.selfFirst X.K C = true) (hs : PySem.W.findIn X.K (.ref C) (PySem.dunder op.info.2) = some (some (.ref f))) (hL : fillsNumberSlot (.type "int") op.info.2 = pure true)
    (hsub : PySem.W.subIn X.K (.ref C) (.type "int") = some false) (sl : Slot "int" (PySem.dunder op.info.2) id) (hd : ∀ {A : Around} {E : Value → Shared → Prop} {s : Shared} {i : Int} {t : Tok} {x : Addr} {o : Obj} {Q' : Value → Shared → Prop}, s.heap.get? x = some o → o.data = .plain → Q' .notImplemented s → wpAny (model X.prog X.w) A (call (.builtin id) [.int i t, .ref x]) Q' E s)
    (hr : Room j X.A) (hk : k ≤ j) : OpR X (binaryOp op) (rRight C (fun x => ∃ i, x = .int i) sp) := by
  intro pins s σ H x y v u Q I rx ry h
  obtain ⟨a, dx, fs, ⟨i, rfl⟩, rfl, ha, q⟩ := h
  cases (show u = Value.ref a from ry)
  obtain ⟨t, rfl⟩ := (show ∃ t, v = Value.int i t from rx)
  obtain ⟨ox, od, J, hx, hp⟩ := ins_plain I ha
  obtain ⟨g, hm, w⟩ := run_two (us := [.ref a, .int i t]) (vs := [.ref a, .int i]) M hr hk I (.cons rfl (.cons ⟨t, rfl⟩ .nil)) q
  exact Ow.right_number I.kIn J rfl (typeIs_int s i t) hc hs hm.at_ hm.fn hL hsub sl (fun Q' z => hd hx hp z) w
/-- a value whose type has no number slot for the operator -/
theorem op_rightB {op : Operator} {T : String} (M : C8.Met X.prog X.w X.K X.mg X.base k C (dunderR op.info.2) sp []) (hc : PySem.W.selfFirst X.K C = true) (hs : PySem.W.findIn X.K (.ref C) (PySem.dunder op.info.2) = some (some (.ref f))) (hL : fillsNumberSlot (.type T) op.info.2 = pure false)
    (hr : Room j X.A) (hk : k ≤ j) : OpR X (binaryOp op) (rRight C (fun x => Kind x T) sp) := by
  intro pins s σ H x y v u Q I rx ry h
  obtain ⟨a, dx, fs, hT, rfl, ha, q⟩ := h
  cases (show u = Value.ref a from ry)
  obtain ⟨ox, od, J, hx, hp⟩ := ins_plain I ha
  obtain ⟨g, hm, w⟩ := run_two (us := [.ref a, v]) (vs := [.ref a, x]) M hr hk I (.cons rfl (.cons rx .nil)) q
  exact Ow.right_bare I.kIn J (PySem.W.Looks.of_pure (hT.type rx)) hc hs hm.at_ hm.fn hL w
end
end Lw
namespace Lw.Ow
open PySem PySem.Spec PyProof.Rows PySem.W PySem.Calls

/-! ### x op= y of instances whose class has no operator of that kind -/
section
variable {prog : Program} {w : World} {A : Around} {E : Value → Shared → Prop} {s : Shared} {K : Frag} {x C f g : Addr} {ox : Obj} {od : Option Obj}
/-- the operator's first half tells a value -/
def Told (Q : Value → Shared → Prop) (r : Option Value) (s' : Shared) : Prop := ∃ v, r = some v ∧ Q v s'
theorem half_same {nm : String} {b : Value} {Q : Value → Shared → Prop} (X : K.In s.heap) (I : InstAt s.heap x ox C od) (hb : Looks (model prog w) s.heap (typeOf b) (.ref C)) (hc : selfFirst K C = true) (hs : findIn K (.ref C) (PySem.dunder nm) = some (some (.ref f))) (hf : isFn K (.ref f) = true)
    (h : wpAny (model prog w) A (call (.ref f) [.ref x, b]) (PySem.W.CmpBack Q) E s) : wpAny (model prog w) A (binaryOp1 nm (.ref x) b) (Told Q) E s := by
  obtain ⟨cd, rest, hcd, hm⟩ := ksp_first hc
  have one := ksp_try X I hs hf h
  obtain ⟨hh, gg, d, tt, os⟩ := s
  have L1 : Looks (model prog w) hh (typeOf (.ref x)) (.ref C) := I.type
  have L2 : Looks (model prog w) hh (typeOf b) (.ref C) := hb
  have L3 : Looks (model prog w) hh (fillsNumberSlot (.ref C) nm) true := fills_K X hcd hm hs
  unfold binaryOp1
  refine wpAny_bind (L1.at (wpAny_bind (L2.at (wpAny_bind (L3.at ?_)))))
  simp only [beq_self_eq_true, if_true]
  refine wpAny_bind (wpAny_pure ?_)
  simp only [Bool.and_false, Bool.false_and, Bool.false_eq_true, if_false, if_true, pure_bind]
  refine wpAny_bind (wpAny_mono one (fun r s' z => ?_) fun _ _ e => e)
  obtain ⟨v, rfl, hq⟩ := z
  exact wpAny_pure ⟨v, rfl, hq⟩
/-- no class above has the operator of that kind -/
theorem bare_inplace {nm : String} {add : Bool} {cd : ClassData} {h : Heap} {M : Model} (X : K.In h) (hc : clsIn K C = some cd) (hm : cd.mro = [.ref C, .type "object"]) (h1 : findIn K (.ref C) (dunderI nm) = some none) (h2 : findIn K (.type "object") (dunderI nm) = some none) : Looks M h (fillsInplaceSlot (.ref C) nm add) false := by
  intro A Q E s k q
  have Lm : Looks M h (mroOf (.ref C)) cd.mro := (looks_clsIn X hc).andThen (f := fun cd => pure cd.mro) .now
  have Lm2 := Lm.keeps k
  obtain ⟨hh, gg, d, tt, os⟩ := s
  have X2 : K.In hh := X.keeps k
  have L1 : Looks M hh (typeLookup (.ref C) (dunderI nm)) none := looks_findIn X2 h1
  have L2 : Looks M hh (typeLookup (.type "object") (dunderI nm)) none := looks_findIn X2 h2
  unfold fillsInplaceSlot
  refine wpAny_bind (Lm2.at ?_)
  rw [hm, List.anyM_cons]
  refine wpAny_bind (wpAny_bind (L1.at ?_))
  refine wpAny_pure ?_
  rw [List.anyM_cons]
  refine wpAny_bind (wpAny_bind (L2.at ?_))
  refine wpAny_pure ?_
  rw [List.anyM_nil]
  exact wpAny_pure q
theorem inplace_of {op : Operator} {b : Value} {cd : ClassData} {Q : Value → Shared → Prop} (X : K.In s.heap) (I : InstAt s.heap x ox C od) (hc : clsIn K C = some cd) (hm : cd.mro = [.ref C, .type "object"]) (h1 : findIn K (.ref C) (dunderI op.info.2) = some none) (h2 : findIn K (.type "object") (dunderI op.info.2) = some none)
    (h : wpAny (model prog w) A (binaryOp1 op.info.2 (.ref x) b) (Told Q) E s) : wpAny (model prog w) A (inplaceOp op (.ref x) b) Q E s := by
  have L1 : Looks (model prog w) s.heap (typeOf (.ref x)) (.ref C) := I.type
  have L2 : Looks (model prog w) s.heap (fillsInplaceSlot (.ref C) op.info.2 (op == .Add)) false := bare_inplace X hc hm h1 h2
  unfold inplaceOp
  refine wpAny_holding ?_
  refine wpAny_bind (L1.here (wpAny_bind (L2.here ?_)))
  simp only [Bool.false_eq_true, if_false, pure_bind]
  refine wpAny_bind (wpAny_mono h (fun r s' z => ?_) fun _ _ e => e)
  obtain ⟨v, rfl, hq⟩ := z
  exact wpAny_pure hq
end
end Lw.Ow
namespace Lw.Ow
open PySem PySem.Spec PyProof.Rows PySem.W PySem.Calls

section
variable {prog : Program} {w : World} {A : Around} {E : Value → Shared → Prop} {s : Shared} {K : Frag} {x C f g : Addr} {ox : Obj} {od : Option Obj}
theorem half_left {nm : String} {b : Value} {T : String} {fo ro rc : Option Value} {Q : Value → Shared → Prop} (X : K.In s.heap) (I : InstAt s.heap x ox C od) (hb : Looks (model prog w) s.heap (typeOf b) (.type T)) (hc : selfFirst K C = true) (hs : findIn K (.ref C) (PySem.dunder nm) = some (some (.ref f))) (hf : isFn K (.ref f) = true)
    (hr : findIn K (.ref C) (dunderR nm) = some rc) (hp : rc = none ∨ ∃ g : Addr, rc = some (.ref g)) (h1 : findIn K (.type T) (PySem.dunder nm) = some fo) (h2 : findIn K (.type T) (dunderR nm) = some ro) (hsub : subIn K (.type T) (.ref C) = some false)
    (h : wpAny (model prog w) A (call (.ref f) [.ref x, b]) (PySem.W.CmpBack Q) E s) : wpAny (model prog w) A (binaryOp1 nm (.ref x) b) (Told Q) E s := by
  obtain ⟨cd, rest, hcd, hm⟩ := ksp_first hc
  have one := ksp_try X I hs hf h
  obtain ⟨hh, gg, d, tt, os⟩ := s
  have L1 : Looks (model prog w) hh (typeOf (.ref x)) (.ref C) := I.type
  have L3 : Looks (model prog w) hh (fillsNumberSlot (.ref C) nm) true := fills_K X hcd hm hs
  have L4 : Looks (model prog w) hh (fillsNumberSlot (.type T) nm) ((fo.isSome && !isSeqSlot fo) || (ro.isSome && !isSeqSlot ro)) := ksp_fillsT X h1 h2
  have L5 : Looks (model prog w) hh (isSubtype (.type T) (.ref C)) false := looks_subIn X hsub
  have L6 : Looks (model prog w) hh (numberSlotInPython (.ref C) nm) true := ksp_inPy X hs hr hp
  have L7 : Looks (model prog w) hh (numberSlotInPython (.type T) nm) false := Looks.of_pure rfl
  have L8 : Looks (model prog w) hh (typeLookup (.type T) (dunderR nm)) ro := looks_findIn X h2
  have hne : (Value.ref C == Value.type T) = false := Bool.eq_false_iff.mpr fun q => by cases beq_iff_eq.mp q
  have done : ∀ {r : Option Value} {s' : Shared}, (∃ v, r = some v ∧ Q v s') → ∃ v, r = some v ∧ Told Q r s' := fun ⟨v, e, q⟩ => ⟨v, e, v, e, q⟩
  generalize ((fo.isSome && !isSeqSlot fo) || (ro.isSome && !isSeqSlot ro)) = right at L4
  unfold binaryOp1
  refine wpAny_bind (L1.at (wpAny_bind (hb.at (wpAny_bind (L3.at ?_)))))
  simp only [hne, Bool.false_eq_true, if_false]
  refine wpAny_bind (L4.at ?_)
  cases right with
  | false =>
    simp only [Bool.and_false, Bool.false_and, Bool.false_eq_true, if_false, if_true, pure_bind]
    refine wpAny_bind (wpAny_mono one (fun r s' z => ?_) fun _ _ e => e)
    obtain ⟨v, rfl, hq⟩ := z
    exact wpAny_pure ⟨v, rfl, hq⟩
  | true =>
    simp only [Bool.and_self, if_true]
    refine wpAny_bind (L5.at ?_)
    simp only [Bool.false_eq_true, if_false, if_true, Bool.not_false, Bool.and_self]
    refine wpAny_bind (L6.at ?_)
    simp only [if_true]
    refine wpAny_bind (L7.at ?_)
    simp only [Bool.not_false, if_true]
    refine wpAny_bind (L8.at ?_)
    refine wpAny_bind (wpAny_mono one (fun r s' z => ?_) fun _ _ e => e)
    obtain ⟨v, rfl, hq⟩ := z
    exact wpAny_pure ⟨v, rfl, hq⟩
theorem half_number {nm : String} {a : Value} {T id : String} {Q : Value → Shared → Prop} (X : K.In s.heap) (I : InstAt s.heap x ox C od) (ht : typeOf a = pure (.type T)) (hT : s.TypeIs a T) (hc : selfFirst K C = true) (hs : findIn K (.ref C) (PySem.dunder nm) = some (some (.ref f))) (hr : findIn K (.ref C) (dunderR nm) = some (some (.ref g)))
    (hg : isFn K (.ref g) = true) (hL : fillsNumberSlot (.type T) nm = pure true) (hsub : subIn K (.ref C) (.type T) = some false) (sl : Slot T (PySem.dunder nm) id) (hd : ∀ Q' : Value → Shared → Prop, Q' .notImplemented s → wpAny (model prog w) A (call (.builtin id) [a, .ref x]) Q' E s)
    (h : wpAny (model prog w) A (call (.ref g) [.ref x, a]) (PySem.W.CmpBack Q) E s) : wpAny (model prog w) A (binaryOp1 nm a (.ref x)) (Told Q) E s := by
  obtain ⟨cd, rest, hcd, hm⟩ := ksp_first hc
  have one := ksp_try X I hr hg h
  have two := wpAny_tryMethod_declines (Q := fun r s' => r = none ∧ s' = s) hT sl (hd _ ⟨rfl, rfl, rfl⟩)
  obtain ⟨hh, gg, d, tt, os⟩ := s
  have L2 : Looks (model prog w) hh (typeOf (.ref x)) (.ref C) := I.type
  have L3 : Looks (model prog w) hh (fillsNumberSlot (.ref C) nm) true := fills_K X hcd hm hs
  have L4 : Looks (model prog w) hh (isSubtype (.ref C) (.type T)) false := looks_subIn X hsub
  have hpy : numberSlotInPython (.type T) nm = pure false := rfl
  have hne : (Value.type T == Value.ref C) = false := Bool.eq_false_iff.mpr fun q => by cases beq_iff_eq.mp q
  unfold binaryOp1
  refine wpAny_bind (wpAny_of_eq ht (wpAny_bind (L2.at (wpAny_bind (wpAny_of_eq hL ?_)))))
  simp only [hne, Bool.false_eq_true, if_false]
  refine wpAny_bind (L3.at ?_)
  simp only [Bool.and_self, if_true]
  refine wpAny_bind (L4.at ?_)
  simp only [Bool.false_eq_true, if_false, pure_bind, Bool.not_false, Bool.and_self, if_true, hpy]
  refine wpAny_bind (wpAny_mono two (fun r s' z => ?_) fun _ _ e => e)
  obtain ⟨rfl, rfl⟩ := z
  refine wpAny_bind (wpAny_mono one (fun r s' z => ?_) fun _ _ e => e)
  obtain ⟨v, rfl, hq⟩ := z
  exact wpAny_bind (wpAny_rule (wpAny_pure ⟨v, rfl, hq⟩))
end
end Lw.Ow
namespace Lw
open PySem PySem.Spec PyProof.Rows L2

/-- a class right below object that has no operator of the kind op= -/
structure NoInplace (K : PySem.W.Frag) (C : Addr) (op : Operator) : Prop where
  mro : ∃ cd, PySem.W.clsIn K C = some cd ∧ cd.mro = [.ref C, .type "object"]
  own : PySem.W.findIn K (.ref C) (dunderI op.info.2) = some none
  obj : PySem.W.findIn K (.type "object") (dunderI op.info.2) = some none
section
variable {X : Cx} {C f : Addr} {k j : Nat} {sp : Sp}
theorem iop_same {op : Operator} (M : C8.Met X.prog X.w X.K X.mg X.base k C (PySem.dunder op.info.2) sp []) (hc : PySem.W.selfFirst X.K C = true) (ni : NoInplace X.K C op) (hr : Room j X.A) (hk : k ≤ j) : OpR X (inplaceOp op) (rSame C sp) := by
  intro pins s σ H x y v u Q I rx ry h
  obtain ⟨a, dx, fs, b, dy, gs, rfl, rfl, ha, hb, q⟩ := h
  cases (show v = Value.ref a from rx)
  cases (show u = Value.ref b from ry)
  obtain ⟨_, _, J⟩ := ins_at I ha
  obtain ⟨_, _, J'⟩ := ins_at I hb
  obtain ⟨g, hm, w⟩ := run_two (us := [.ref a, .ref b]) (vs := [.ref a, .ref b]) M hr hk I (.cons rfl (.cons rfl .nil)) q
  obtain ⟨cd, h1, h2⟩ := ni.mro
  exact Ow.inplace_of I.kIn J h1 h2 ni.own ni.obj (Ow.half_same I.kIn J J'.type hc hm.at_ hm.fn w)
theorem iop_beside {op : Operator} (M : C8.Met X.prog X.w X.K X.mg X.base k C (PySem.dunder op.info.2) sp []) (ni : NoInplace X.K C op) (hr : Room j X.A) (hk : k ≤ j) : OpR X (inplaceOp op) (rBeside X.K C op sp) := by
  intro pins s σ H x y v u Q I rx ry h
  obtain ⟨a, dx, fs, T, rfl, ha, hT, hB, q⟩ := h
  cases (show v = Value.ref a from rx)
  obtain ⟨_, _, J⟩ := ins_at I ha
  obtain ⟨g, hm, w⟩ := run_two (us := [.ref a, u]) (vs := [.ref a, y]) M hr hk I (.cons rfl (.cons ry .nil)) q
  obtain ⟨cd, h1, h2⟩ := ni.mro
  obtain ⟨rc, r1, r2⟩ := hB.back
  obtain ⟨fo, f1⟩ := hB.ahead
  obtain ⟨ro, o1⟩ := hB.behind
  exact Ow.inplace_of I.kIn J h1 h2 ni.own ni.obj (Ow.half_left I.kIn J (PySem.W.Looks.of_pure (hT.type ry)) hB.first hm.at_ hm.fn r1 r2 f1 o1 hB.sub w)
/-- i op= x, i an int, x an instance -/
theorem iop_rightI {op : Operator} {id : String} (M : C8.Met X.prog X.w X.K X.mg X.base k C (dunderR op.info.2) sp []) (hc : PySem.W.selfFirst X.K C = true) (hs : PySem.W.findIn X.K (.ref C) (PySem.dunder op.info.2) = some (some (.ref f))) (hL : fillsNumberSlot (.type "int") op.info.2 = pure true) (hI : fillsInplaceSlot (.type "int") op.info.2 (op == .Add) = pure false)
    (hsub : PySem.W.subIn X.K (.ref C) (.type "int") = some false) (sl : Slot "int" (PySem.dunder op.info.2) id) (hd : ∀ {A : Around} {E : Value → Shared → Prop} {s : Shared} {i : Int} {t : Tok} {x : Addr} {o : Obj} {Q' : Value → Shared → Prop}, s.heap.get? x = some o → o.data = .plain → Q' .notImplemented s → wpAny (model X.prog X.w) A (call (.builtin id) [.int i t, .ref x]) Q' E s)
    (hr : Room j X.A) (hk : k ≤ j) : OpR X (inplaceOp op) (rRight C (fun x => ∃ i, x = .int i) sp) := by
  intro pins s σ H x y v u Q I rx ry h
  obtain ⟨a, dx, fs, ⟨i, rfl⟩, rfl, ha, q⟩ := h
  cases (show u = Value.ref a from ry)
  obtain ⟨t, rfl⟩ := (show ∃ t, v = Value.int i t from rx)
  obtain ⟨ox, od, J, hx, hp⟩ := ins_plain I ha
  obtain ⟨g, hm, w⟩ := run_two (us := [.ref a, .int i t]) (vs := [.ref a, .int i]) M hr hk I (.cons rfl (.cons ⟨t, rfl⟩ .nil)) q
  have half := Ow.half_number I.kIn J rfl (typeIs_int s i t) hc hs hm.at_ hm.fn hL hsub sl (fun Q' z => hd hx hp z) w
  unfold inplaceOp
  refine wpAny_holding ?_
  refine wpAny_bind (wpAny_of_eq (a := Value.type "int") rfl (wpAny_bind (wpAny_of_eq hI ?_)))
  simp only [Bool.false_eq_true, if_false, pure_bind]
  refine wpAny_bind (wpAny_mono half (fun r s' z => ?_) fun _ _ e => e)
  obtain ⟨v, rfl, hq⟩ := z
  exact wpAny_pure hq
theorem int_no_inplace : fillsInplaceSlot (.type "int") "add" true = pure false ∧ fillsInplaceSlot (.type "int") "sub" false = pure false ∧ fillsInplaceSlot (.type "int") "mul" false = pure false := by
  refine ⟨?_, ?_, ?_⟩ <;> · simp only [fillsInplaceSlot, typeLookup_type]; rfl
end
end Lw
namespace Lw
open PySem PySem.Spec PyProof.Rows L2

/-! ### the same operators, their methods may raise -/
/-- a method of the class that may raise what E tells -/
structure MetX (P : Program) (w : World) (K : PySem.W.Frag) (mg : Str → Option Value) (base : Heap) (k : Nat) (C : Addr) (m : Str) (sp : Sp) : Prop where
  ex : ∃ (g : Addr) (fd : FuncData) (ps : List Str), Meth K C m g ∧ FnOk P w K mg base (L2.CX P w) k g fd ps sp ∧ Binds K fd ps []
section
variable {X : Cx} {C f : Addr} {k j : Nat} {sp : Sp} {E : XK} {pins : List (Addr × Obj)} {σ : L2.St} {H : Hp} {s : Shared}
theorem run_met {m : Str} {us : List Value} {vs : List V} {Q : VK} (M : MetX X.prog X.w X.K X.mg X.base k C m sp) (hx : Passes (L2.CX X.prog X.w) X E) (hr : Room j X.A) (hk : k ≤ j) (I : Inv X pins σ H s) (r : Vals vs us) (q : sp vs H Q E) :
    ∃ g : Addr, Meth X.K C m g ∧ wpAny (model X.prog X.w) X.A (call (.ref g) us) (PySem.W.CmpBack (EP X pins σ Q)) X.xe s ∧ wpAny (model X.prog X.w) X.A (call (.ref g) us) (EP X pins σ Q) X.xe s := by
  obtain ⟨g, fd, ps, hm, F, b⟩ := M.ex
  have q' : sp (vs ++ []) H Q E := by rw [List.append_nil]; exact q
  have ran := run_fn F (hr.mono hk) b .nil hx I r q'
  refine ⟨g, hm, wpAny_mono ran (fun w s' z => ?_) (fun _ _ x => x), ran⟩
  obtain ⟨z', H', I', rz, qz⟩ := z
  exact SlX.cmpback rz ⟨z', H', I', rz, qz⟩
def rSameX (C : Addr) (sp : Sp) (E : XK) : R2 := fun x y H Q => ∃ a dx fs b dy gs, x = .ref a ∧ y = .ref b ∧ H a = some (.ins C dx fs) ∧ H b = some (.ins C dy gs) ∧ sp [x, y] H Q E
theorem op_sameX {op : Operator} (M : MetX X.prog X.w X.K X.mg X.base k C (PySem.dunder op.info.2) sp) (hx : Passes (L2.CX X.prog X.w) X E) (hc : PySem.W.selfFirst X.K C = true) (hr : Room j X.A) (hk : k ≤ j) : OpR X (binaryOp op) (rSameX C sp E) := by
  intro pins s σ H x y v u Q I rx ry h
  obtain ⟨a, dx, fs, b, dy, gs, rfl, rfl, ha, hb, q⟩ := h
  cases (show v = Value.ref a from rx)
  cases (show u = Value.ref b from ry)
  obtain ⟨_, _, J⟩ := ins_at I ha
  obtain ⟨_, _, J'⟩ := ins_at I hb
  obtain ⟨g, hm, w, _⟩ := run_met (us := [.ref a, .ref b]) (vs := [.ref a, .ref b]) M hx hr hk I (.cons rfl (.cons rfl .nil)) q
  obtain ⟨m, hF⟩ := I.fr
  exact PySem.W.binop_K hF I.ok.mod.kin J J'.type hc hm.at_ hm.fn w
def rBesideX (K : PySem.W.Frag) (C : Addr) (op : Operator) (sp : Sp) (E : XK) : R2 := fun x y H Q => ∃ a dx fs T, x = .ref a ∧ H a = some (.ins C dx fs) ∧ Kind y T ∧ Beside K C op T ∧ sp [x, y] H Q E
theorem op_besideX {op : Operator} (M : MetX X.prog X.w X.K X.mg X.base k C (PySem.dunder op.info.2) sp) (hx : Passes (L2.CX X.prog X.w) X E) (hr : Room j X.A) (hk : k ≤ j) : OpR X (binaryOp op) (rBesideX X.K C op sp E) := by
  intro pins s σ H x y v u Q I rx ry h
  obtain ⟨a, dx, fs, T, rfl, ha, hT, hB, q⟩ := h
  cases (show v = Value.ref a from rx)
  obtain ⟨_, _, J⟩ := ins_at I ha
  obtain ⟨g, hm, w, _⟩ := run_met (us := [.ref a, u]) (vs := [.ref a, y]) M hx hr hk I (.cons rfl (.cons ry .nil)) q
  obtain ⟨m, hF⟩ := I.fr
  obtain ⟨rc, r1, r2⟩ := hB.back
  obtain ⟨fo, f1⟩ := hB.ahead
  obtain ⟨ro, o1⟩ := hB.behind
  exact PySem.W.ksp_binT hF I.ok.mod.kin J (hT.type ry) hB.first hm.at_ hm.fn r1 r2 f1 o1 hB.sub w
def rSignX (C : Addr) (sp : Sp) (E : XK) : V → Hp → VK → Prop := fun x H Q => ∃ a dx fs, x = .ref a ∧ H a = some (.ins C dx fs) ∧ sp [x] H Q E
theorem un_signX (M : MetX X.prog X.w X.K X.mg X.base k C "__neg__" sp) (hx : Passes (L2.CX X.prog X.w) X E) (hr : Room j X.A) (hk : k ≤ j) : UnR X (unaryOp .USub) (rSignX C sp E) := by
  intro pins s σ H x v Q I rx h
  obtain ⟨a, dx, fs, rfl, ha, q⟩ := h
  cases (show v = Value.ref a from rx)
  obtain ⟨_, _, J⟩ := ins_at I ha
  obtain ⟨g, hm, _, w⟩ := run_met (us := [.ref a]) (vs := [.ref a]) M hx hr hk I (.cons rfl .nil) q
  obtain ⟨m, hF⟩ := I.fr
  exact PySem.W.ksp_neg hF I.ok.mod.kin J hm.at_ hm.fn w
end
end Lw
namespace Lw
open PySem PySem.Spec PyProof.Rows L2
end Lw
namespace Lw.Zm
open PySem PySem.Spec PyProof.Rows L2
/-! ### zip of a list and a tuple -/
/-- the list at a and the tuple at b as they stand at each turn -/
def ItzM (K : PySem.W.Frag) (a b : Addr) : It where
  go i H := ∃ (xs ys : List V) (x y : V), (SqL K H a xs ∧ xs[i]? = some x) ∧ SqT K H b ys ∧ ys[i]? = some y
  yld i H v H' := ∃ T x y, (v = .ref T ∧ H T = none ∧ H' = upd H T (.tup [x, y])) ∧ (∀ xs, SqL K H a xs → xs[i]? = some x) ∧ ∀ ys, SqT K H b ys → ys[i]? = some y
  stop i H := ∃ xs ys : List V, SqL K H a xs ∧ SqT K H b ys ∧ xs.length = ys.length ∧ i = xs.length
theorem sep {z TI TO i1 i2 a b : Addr} (D : ZipApart z TI TO i1 i2 a b) : ZipSep2 z TI TO i1 i2 [i1, a] [i2, b] where
  TIz := D.TIz
  TOz := D.TOz
  TITO := D.TITO
  TIi1 := D.TIi1
  TIi2 := D.TIi2
  mem1 := List.mem_cons_self
  mem2 := List.mem_cons_self
  zf1 := fun h => by
    rcases List.mem_cons.mp h with e | h
    · exact D.i1z e.symm
    · exact D.l1z (List.mem_singleton.mp h).symm
  zf2 := fun h => by
    rcases List.mem_cons.mp h with e | h
    · exact D.i2z e.symm
    · exact D.l2z (List.mem_singleton.mp h).symm
  Tf1 := fun h => by
    rcases List.mem_cons.mp h with e | h
    · exact D.TOi1 e
    · exact D.l1TO (List.mem_singleton.mp h).symm
  Tf2 := fun h => by
    rcases List.mem_cons.mp h with e | h
    · exact D.TOi2 e
    · exact D.l2TO (List.mem_singleton.mp h).symm
  sep1_2 := fun h => by
    rcases List.mem_cons.mp h with e | h
    · exact D.i12 e
    · exact D.l2i1 (List.mem_singleton.mp h).symm
  sep2_1 := fun h => by
    rcases List.mem_cons.mp h with e | h
    · exact D.i12 e.symm
    · exact D.l1i2 (List.mem_singleton.mp h).symm
/-- how the five records of such a zip stand -/
def Rec (z TI TO i1 i2 a b : Addr) (i : Nat) (h : Heap) : Prop := (IsZip h z TI TO .none ∧ IsPair h TI (.ref i1) (.ref i2) ∧ ∃ x y, IsPair h TO x y) ∧ h.IsListIter i1 a i ∧ h.IsTupleIter i2 b i
theorem five {z TI TO i1 i2 c : Addr} (h : c ∈ [z, TI, TO, i1, i2]) : c = z ∨ c = TI ∨ c = TO ∨ c = i1 ∨ c = i2 := by simpa using h
theorem Rec.lt {z TI TO i1 i2 a b : Addr} {i : Nat} {h : Heap} (r : Rec z TI TO i1 i2 a b i h) : ∀ c ∈ [z, TI, TO, i1, i2], ∃ o, h.get? c = some o ∧ ∀ v, o.data ≠ .cell v := by
  obtain ⟨⟨r1, r2, p, q, r3⟩, ⟨o4, g4, _, d4⟩, o5, g5, _, d5⟩ := r
  intro c hc
  rcases five hc with rfl | rfl | rfl | rfl | rfl
  · exact ⟨_, r1, fun v z => nomatch z⟩
  · exact ⟨_, r2, fun v z => nomatch z⟩
  · exact ⟨_, r3, fun v z => nomatch z⟩
  · exact ⟨o4, g4, fun v z => by rw [d4] at z; cases z⟩
  · exact ⟨o5, g5, fun v z => by rw [d5] at z; cases z⟩
theorem turn {P : Program} {w : World} {K : PySem.W.Frag} {elts : List Expr} {kk : Nat} {tpos : Pos} {a b z TI TO i1 i2 : Addr} (D : ZipApart z TI TO i1 i2 a b) :
    Turn P w K (.Tuple elts kk tpos) (ItzM K a b) [z, TI, TO, i1, i2] z (Rec z TI TO i1 i2 a b) where
  mem := List.mem_cons_self
  obj := fun i h r => r.lt
  keep := fun i h h' r k => by
    obtain ⟨⟨r1, r2, p, q, r3⟩, r4, r5⟩ := r
    exact ⟨⟨k _ (by simp) _ r1, k _ (by simp) _ r2, p, q, k _ (by simp) _ r3⟩, r4.at fun o g => k _ (by simp) o g, r5.at fun o g => k _ (by simp) o g⟩
  item := by
    intro X hP hw hK hc i pins s σ H E I hf r hg
    subst hP
    subst hw
    subst hK
    have below := r.lt
    obtain ⟨⟨r1, r2, p, q, r3⟩, r4, r5⟩ := r
    obtain ⟨xs, ys, x, y, ⟨sx, ex⟩, sy, ey⟩ := hg
    obtain ⟨us, ru, pu, _⟩ := I.list sx
    obtain ⟨ws, rw', pw, _⟩ := I.tuple sy
    obtain ⟨u, hu, ru1⟩ := ru.get ex
    obtain ⟨v, hv, rv1⟩ := rw'.get ey
    have l1 : i < us.toArray.size := by
      have := (List.getElem?_eq_some_iff.mp hu).1
      simpa using this
    have l2 : i < ws.toArray.size := by
      have := (List.getElem?_eq_some_iff.mp hv).1
      simpa using this
    have hh := I.ok.hd hc
    refine wpAny_pyNext_zipD2_item (sep D) (Draws.list (A := X.A.in1) hh i1 a D.l1i1 us.toArray) (Draws.tuple (A := X.A.in1) hh i2 b D.l2i2 ws.toArray) r1 r2 r3 ⟨r4, pu.isList⟩ ⟨r5, pw⟩ l1 l2 fun x1 x2 h' tk p1 p2 z1 t1 st1 st2 tT sz kp => ?_
    have e1 : x1 = u := by
      have : us.toArray[i]? = some u := by simpa using hu
      rw [this] at p1
      exact (Option.some.inj p1).symm
    have e2 : x2 = v := by
      have : ws.toArray[i]? = some v := by simpa using hv
      rw [this] at p2
      exact (Option.some.inj p2).symm
    subst e1
    subst e2
    refine ⟨_, rfl, wpAny_letOwnedTupleGo_zip (s := { s with heap := h', toks := tk }) z1 fun h2 z2 sb => ?_⟩
    have lz : ∀ c ∈ [z, TI, TO, i1, i2], c < s.heap.objs.size := fun c hc => by
      obtain ⟨o, g, _⟩ := below c hc
      exact Heap.lt_size g
    have atT : h2.get? s.heap.objs.size = some { cls := .type "tuple", data := .seq #[x1, x2] } := (sb.2 _ (Nat.ne_of_gt (lz z List.mem_cons_self))).trans tT
    have new : ObjOk X.prog X.w (upd H s.heap.objs.size (.tup [x, y])) h2 s.heap.objs.size (.tup [x, y]) := ⟨(show 2 ≤ sizeLine by decide), [x1, x2], .cons ru1 (.cons rv1 .nil), _, atT, rfl, _, rfl⟩
    have same : ∀ c o, c ∉ [z, TI, TO, i1, i2] → s.heap.get? c = some o → h2.get? c = some o := fun c o n g => by
      have ne : ∀ d ∈ [z, TI, TO, i1, i2], c ≠ d := fun d hd e => n (e ▸ hd)
      exact (sb.2 c (ne z (by simp))).trans (kp c o (ne z (by simp)) (ne TO (by simp)) (ne i1 (by simp)) (ne i2 (by simp)) g)
    have J : Inv X pins σ (upd H s.heap.objs.size (.tup [x, y])) { s with heap := h2, toks := tk } := I.turnedNew (ch := [z, TI, TO, i1, i2]) same hf (Nat.le_refl _) new
    refine ⟨.ref s.heap.objs.size, _, J, rfl, ⟨_, x, y, ⟨rfl, I.hok.fresh (Nat.le_refl _), rfl⟩, fun l hl => ?_, fun l hl => ?_⟩, ⟨⟨z2, ?_, x1, x2, ?_⟩, ?_, ?_⟩, fun c hc => ?_⟩
    · rw [I.list_inj hl sx]
      exact ex
    · rw [I.tuple_inj hl sy]
      exact ey
    · exact (sb.2 _ D.TIz).trans (kp _ _ D.TIz D.TITO D.TIi1 D.TIi2 r2)
    · exact (sb.2 _ D.TOz).trans t1
    · exact st1.1.at fun o g => (sb.2 _ D.i1z).trans g
    · exact st2.1.at fun o g => (sb.2 _ D.i2z).trans g
    · rw [upd_ne (Nat.ne_of_lt (lz c hc))]
      exact (hf c hc).1
  done := by
    intro X hP hw hK hc i pins s σ H E I hf r hg
    subst hP
    subst hw
    subst hK
    obtain ⟨⟨r1, r2, p, q, r3⟩, r4, r5⟩ := r
    obtain ⟨xs, ys, sx, sy, el, ei⟩ := hg
    obtain ⟨us, ru, pu, _⟩ := I.list sx
    obtain ⟨ws, rw', pw, _⟩ := I.tuple sy
    have n1 := ru.length
    have n2 := rw'.length
    have hh := I.ok.hd hc
    have m1 : us.toArray.size = us.length := by simp
    have m2 : ws.toArray.size = ws.length := by simp
    refine wpAny_pyNext_zipD2_end (sep D) (Draws.list (A := X.A.in1) hh i1 a D.l1i1 us.toArray) (Draws.tuple (A := X.A.in1) hh i2 b D.l2i2 ws.toArray) r1 r2 r3 ⟨r4, pu.isList⟩ ⟨r5, pw⟩ (by omega) (by omega) (.inl (by omega)) fun h' tk kp => ?_
    refine ⟨rfl, I.turnedL (ch := [z, TI, TO, i1, i2]) (fun c o n g => ?_) hf⟩
    have ne : ∀ d ∈ [z, TI, TO, i1, i2], c ≠ d := fun d hd e => n (e ▸ hd)
    exact kp c o (ne z (by simp)) (ne TO (by simp)) (ne i1 (by simp)) (ne i2 (by simp)) g
  self := fun A i s Q E r h => wpAny_pyIter_zip r.1.1 h
def iZipM (K : PySem.W.Frag) (ta : TA) : TI := fun σ H R => ta σ H fun vs H1 => ∃ a b xs ys, vs = [.ref a, .ref b] ∧ (SqL K H1 a xs ∧ SqT K H1 b ys) ∧ R (ItzM K a b) H1
theorem pi_zipM {X : Cx} {e e2 : Expr} {ta : TA} {p pos tpos : Pos} {elts : List Expr} {kk : Nat} (hg : Gl X "zip") (hm : X.mg "zip" = none) (ha : PA X [e, e2] ta)
    (hs : starEach [e, e2] X.env = (false, eval e X.env) :: starEach [e2] X.env := by rfl) (hpl : (backTo pos (starEach [e2] X.env)).any (·.1) = false := by rfl) :
    PI X (.Tuple elts kk tpos) (.Call (.Name "zip" p) [e, e2] [] pos) (iZipM X.K ta) := by
  refine ⟨fun pins s σ H R I h => Call_ (ld_blt I hg hm PyProof.Rows.boot_zip (PyProof.Rows.callWith_type1 (thn (ha.run pos pins s σ H _ I h) fun us s1 got => ?_) hs hpl))⟩
  obtain ⟨vs, H1, J, rv, a, b, xs, ys, rfl, ⟨sx, sy⟩, go⟩ := got
  obtain ⟨u1, u2, rfl, e1, e2'⟩ := vals2 rv
  obtain rfl : u1 = Value.ref a := e1
  obtain rfl : u2 = Value.ref b := e2'
  obtain ⟨us, ru, pu, _⟩ := J.list sx
  obtain ⟨ws, rw', pw, _⟩ := J.tuple sy
  obtain ⟨ob, gb, _⟩ := id pw
  refine zip_begins2 (begins_list a us.toArray) (begins_tuple b ws.toArray) pu.isList pw fun h' z1 t1 t2 g1 g2 sz kp => wpAny_pyIter_zip z1 ?_
  have J' : Inv X pins σ H1 { s1 with heap := h' } := J.kept (t' := s1.toks) kp
  refine ⟨_, [s1.heap.objs.size + 4, s1.heap.objs.size + 2, s1.heap.objs.size + 3, s1.heap.objs.size, s1.heap.objs.size + 1], _, _, H1, rfl, J', turn (PySem.W.ktu_apart s1.heap.objs.size a b pu.lt (Heap.lt_size gb)), ⟨⟨z1, t1, _, _, t2⟩, ⟨_, g1, rfl, rfl⟩, _, g2, rfl, rfl⟩, fun c hc => ?_, go⟩
  have le : s1.heap.objs.size ≤ c := by
    rcases five hc with rfl | rfl | rfl | rfl | rfl <;> first | exact Nat.le_refl _ | exact Nat.le_add_right _ _
  exact J.fpOk le (J.hok.fresh le)
theorem walk {K : PySem.W.Frag} {a b : Addr} {xs ys : List V} (hl : xs.length = ys.length) : Walk (ItzM K a b) xs.length (fun H => SqL K H a xs ∧ SqT K H b ys) (fun i H v H' => ∃ T x y, (v = .ref T ∧ H T = none ∧ H' = upd H T (.tup [x, y])) ∧ xs[i]? = some x ∧ ys[i]? = some y) := by
  refine ⟨fun i H hi q => ?_, fun H q => ⟨xs, ys, q.1, q.2, hl, rfl⟩, fun i H v H' hi q y => ?_⟩
  · have h2 : i < ys.length := by omega
    exact ⟨xs, ys, xs[i], ys[i], ⟨q.1, by simp [hi]⟩, q.2, by simp [h2]⟩
  · obtain ⟨T, x, z, h1, h2, h3⟩ := y
    exact ⟨T, x, z, h1, h2 _ q.1, h3 _ q.2⟩
end Lw.Zm
namespace Lw
open PySem PySem.Spec PyProof.Rows L2
open SX PySem.NumText TL
abbrev sNumOf : Stmt := top 18
theorem dig_back : ∀ cs : List Nat, AllDigits cs → (cs.map Char.ofNat).map Char.toNat = cs
  | [], _ => rfl
  | c :: r, h => by
    have h1 := h c List.mem_cons_self
    have e : (Char.ofNat c).toNat = c := by
      have k : ∀ d : Nat, d < 58 → (Char.ofNat d).toNat = d := by decide
      exact k c (by omega)
    rw [List.map_cons, List.map_cons, e, dig_back r fun d hd => h d (List.mem_cons_of_mem _ hd)]
theorem num_back {c : Nat} {r : List Nat} (h : AllDigits (c :: r)) (hc : 49 ≤ c ∨ r = []) : numL (digitsVal (c :: r)) = c :: r := by
  unfold numL
  rw [toDigits_digitsVal r.length (c :: r) rfl h (hc.elim (fun h => .inr ⟨c, r, rfl, h⟩) fun e => .inl (by rw [e]; rfl)), dig_back _ h]
theorem num_head : ∀ n : Nat, 0 < n → ∃ c r, numL n = c :: r ∧ 49 ≤ c := by
  intro n
  induction n using Nat.strongRecOn with
  | _ n ih =>
    intro h0
    by_cases h : n < 10
    · exact ⟨48 + n, [], numL_lt h, by omega⟩
    · obtain ⟨c, r, e, hc⟩ := ih (n / 10) (by omega) (by omega)
      exact ⟨c, r ++ [48 + n % 10], by rw [numL_step (by omega), e]; rfl, hc⟩
def numV (x : V) (lo hi : Int) : Option Int := match intV x with
  | some i => if lo ≤ i ∧ i ≤ hi then some i else none
  | none => none
theorem join_any {t : TS} {D : Ends} {σ : L2.St} {H : Hp} (Pj : L2.St → Hp → Prop) (hr : ∀ σ' H', Pj σ' H' → D.nx σ' H') (h : (∀ σ' H', Pj σ' H' → D.nx σ' H') → t D σ H) : t D σ H := h hr
def spNumOf (K : PySem.W.Frag) : Sp := fun vs H Q _ => ∃ x lo hi, vs = [x, .int lo, .int hi] ∧ Anyv K H x ∧ TextOk x ∧ Q (optV (numV x lo hi)) H
section
variable {P : Program} {w : World} {K : PySem.W.Frag} {mg : Str → Option Value} {base : Heap}
theorem scNumOf : FnScope ["word", "least", "most", "value"] ["word", "least", "most"] (C8.fnScope sNumOf) := C8.fnScope_by (by decide +kernel)
theorem fn_numof {f : Addr} {fd : FuncData} (F : C8.Def K mg "number_of" sNumOf f fd) (DI : C8.Cal P w K mg base 1 "integer_of" (spIntOf K) []) (DW : C8.Cal P w K mg base 2 "is_within" (spWithin K) []) :
    FnOk P w K mg base C8.CX0 3 f fd ["word", "least", "most"] (spNumOf K) := by
  refine C8.fn0 F.fn scNumOf (fun vs H Q E h => ?_) (fun cdv A outer st H vs Q E hr h => ?_)
  · obtain ⟨x, lo, hi, rfl, _⟩ := h
    rfl
  · obtain ⟨x, lo, hi, rfl, a, ok, k⟩ := h
    refine ⟨_, (pss_cons (ps_set (i := 3) scNumOf.nd rfl (Or.inl rfl) (C8.pe_c DI hr (by decide) (by rfl) (pa_cons (pv 0) pa_nil)))
  (pss_one (ps_ret (pe_ifExp (pt_val (C8.pe_c DW hr (by decide) (by rfl) (pa_cons (pv 3) (pa_cons (pv 1) (pa_cons (pv 2) pa_nil))))) (pv 3) pe_non)))), ?_⟩
    refine ⟨_, rfl, x, rfl, a, ok, ?_⟩
    have av : Anyv K H (optV (intV x)) := by cases intV x with | none => exact .non | some i => exact .int i
    refine ⟨_, rfl, _, rfl, _, rfl, _, _, _, rfl, av, _, rfl, ?_⟩
    unfold numV at k
    cases e : intV x with
    | none =>
      rw [e] at k
      exact iteF k
    | some i =>
      rw [e] at k
      refine ite2 (fun c => ?_) (fun c => ?_)
      · have h2 : lo ≤ i ∧ i ≤ hi := by
          have c' : (decide (lo ≤ i) && decide (i ≤ hi)) = true := c
          rw [Bool.and_eq_true, decide_eq_true_eq, decide_eq_true_eq] at c'
          exact c'
        refine ⟨_, rfl, ?_⟩
        simp only [h2, and_self, if_true] at k
        exact k
      · have h2 : ¬ (lo ≤ i ∧ i ≤ hi) := fun z => c (by
          show (decide (lo ≤ i) && decide (i ≤ hi)) = true
          rw [decide_eq_true z.1, decide_eq_true z.2]; rfl)
        simp only [h2, if_false] at k
        exact k
theorem cal_numof {f : Addr} {fd : FuncData} (F : C8.Def K mg "number_of" sNumOf f fd) (b : Binds K fd ["word", "least", "most"] []) (DI : C8.Cal P w K mg base 1 "integer_of" (spIntOf K) []) (DW : C8.Cal P w K mg base 2 "is_within" (spWithin K) []) :
    C8.Cal P w K mg base 3 "number_of" (spNumOf K) [] :=
  ⟨f, fd, _, [], fn_numof F DI DW, F.mgf, F.kp, b, .nil⟩
end
end Lw
namespace Lw
open PySem PySem.Spec PyProof.Rows L2
open LamX ClX
/-! ### errors of two fields, raised -/
abbrev sTxE : Stmt := inClass (top 11) 0
abbrev sMnE : Stmt := inClass (top 13) 0
/-- what an __init__ that keeps its two arguments promises -/
def spE2 (C : Addr) (f1 f2 : Str) : Sp := fun vs H Q _ => ∃ (a : Addr) (v1 v2 : V), vs = [.ref a, v1, v2] ∧ H a = some (exo a C none) ∧ ∀ dx, H dx = none → dx ≠ a → ∀ fs, fs.lookup f1 = some v1 → fs.lookup f2 = some v2 → Q .non (upd (upd H dx (exd dx fs)) a (exo a C (some dx)))
theorem two_fields {H : Hp} {a C dx : Addr} {f1 f2 : Str} {v1 v2 : V} (ne : dx ≠ a) : upd (upd (upd H dx (exd dx [(f1, v1)])) a (exo a C (some dx))) dx (exd dx [(f2, v2), (f1, v1)]) = upd (upd H dx (exd dx [(f2, v2), (f1, v1)])) a (exo a C (some dx)) := by
  funext b
  by_cases h1 : b = a
  · rw [h1, upd_ne ne.symm, upd_same, upd_same]
  · by_cases h2 : b = dx
    · rw [h2, upd_same, upd_ne ne, upd_same]
    · rw [upd_ne h2, upd_ne h1, upd_ne h2, upd_ne h1, upd_ne h2]
section
variable {P : Program} {w : World} {K : PySem.W.Frag} {mg : Str → Option Value} {base : Heap}
theorem sctxE : FnScope ["self", "line", "word"] ["self", "line", "word"] (C8.fnScope sTxE) := C8.fnScope_by (by decide +kernel)
theorem fn_txE {C f : Addr} {fd : FuncData} (F : C8.Fun K "__init__" "BadText.__init__" sTxE f fd) (T : OexC K C) (no1 : PySem.W.findIn K (.ref C) "line" = some none) (no2 : PySem.W.findIn K (.ref C) "word" = some none) : FnOk P w K mg base C8.CX0 1 f fd ["self", "line", "word"] (spE2 C "line" "word") := by
  refine C8.fn0 F sctxE (fun vs H Q E h => ?_) (fun cdv A outer st H vs Q E hr h => ?_)
  · obtain ⟨a, v1, v2, rfl, _⟩ := h
    rfl
  · obtain ⟨a, v1, v2, rfl, ha, k⟩ := h
    refine ⟨_, pss_cons (ps_ost (pv 0) (pv 1)) (pss_one (ps_ost (pv 0) (pv 2))), ?_⟩
    refine ⟨_, rfl, _, rfl, a, C, rfl, T, no1, .inl ⟨ha, fun dx h1 h2 => ?_⟩⟩
    refine ⟨_, rfl, _, rfl, a, C, rfl, T, no2, .inr ⟨dx, [("line", v1)], upd_same, (by rw [upd_ne h2]; exact upd_same), (by show 1 ≤ 900; decide), ?_⟩⟩
    rw [two_fields h2]
    exact k dx h1 h2 _ (by rw [lookup_put, if_neg (by decide +kernel), lookup_put, if_pos rfl]) (by rw [lookup_put, if_pos rfl])
theorem scmnE : FnScope ["self", "what", "most"] ["self", "what", "most"] (C8.fnScope sMnE) := C8.fnScope_by (by decide +kernel)
theorem fn_mnE {C f : Addr} {fd : FuncData} (F : C8.Fun K "__init__" "TooMany.__init__" sMnE f fd) (T : OexC K C) (no1 : PySem.W.findIn K (.ref C) "what" = some none) (no2 : PySem.W.findIn K (.ref C) "most" = some none) : FnOk P w K mg base C8.CX0 1 f fd ["self", "what", "most"] (spE2 C "what" "most") := by
  refine C8.fn0 F scmnE (fun vs H Q E h => ?_) (fun cdv A outer st H vs Q E hr h => ?_)
  · obtain ⟨a, v1, v2, rfl, _⟩ := h
    rfl
  · obtain ⟨a, v1, v2, rfl, ha, k⟩ := h
    refine ⟨_, pss_cons (ps_ost (pv 0) (pv 1)) (pss_one (ps_ost (pv 0) (pv 2))), ?_⟩
    refine ⟨_, rfl, _, rfl, a, C, rfl, T, no1, .inl ⟨ha, fun dx h1 h2 => ?_⟩⟩
    refine ⟨_, rfl, _, rfl, a, C, rfl, T, no2, .inr ⟨dx, [("what", v1)], upd_same, (by rw [upd_ne h2]; exact upd_same), (by show 1 ≤ 900; decide), ?_⟩⟩
    rw [two_fields h2]
    exact k dx h1 h2 _ (by rw [lookup_put, if_neg (by decide +kernel), lookup_put, if_pos rfl]) (by rw [lookup_put, if_pos rfl])
end
/-- the error's class, ready to be raised -/
structure Err2 (nm f1 f2 : Str) (P : Program) (w : World) (K : PySem.W.Frag) (mg : Str → Option Value) (base : Heap) (D fE : Addr) (fdE : FuncData) : Prop where
  T : OexC K D
  iC : PySem.W.findIn K (.ref D) "__init__" = some (some (.ref fE))
  tI : PySem.W.typeIn K (.ref fE) = some (.type "function")
  F : FnOk P w K mg base C8.CX0 1 fE fdE ["self", f1, f2] (spE2 D f1 f2)
  b : Binds K fdE ["self", f1, f2] []
  hm : mg nm = some (.ref D)
section
variable {X : Cx} {f1 f2 : Str} {C fI : Addr} {fd : FuncData} {W : WX} {j : Nat} {e1 e2 : Expr} {te1 te2 : TE} {p pos pos2 : Pos}
/-- raise X(e1, e2), X such a class -/
def tBad2 (f1 f2 : Str) (C : Addr) (W : WX) (te1 te2 : TE) : TS := fun _ σ H => tMkO C (spE2 C f1 f2) [] (tCons te1 (tCons te2 tNil)) σ H fun cls d H' => W cls d σ H'
theorem ps_bad2 {x : Str} (hc : X.calm = true) (tk : Takes X W) (T : OexC X.K C) (iC : PySem.W.findIn X.K (.ref C) "__init__" = some (some (.ref fI))) (tI : PySem.W.typeIn X.K (.ref fI) = some (.type "function")) (F : FnOk X.prog X.w X.K X.mg X.base C8.CX0 1 fI fd ["self", f1, f2] (spE2 C f1 f2)) (hr : Room (j + 2) X.A) (hb : Binds X.K fd ["self", f1, f2] [])
    (hg : Gl X x) (hm : X.mg x = some (.ref C)) (he1 : PE X e1 te1) (he2 : PE X e2 te2) (hst2 : starEach [e2] X.env = [(false, eval e2 X.env)] := by rfl) (hst : starEach [e1, e2] X.env = (false, eval e1 X.env) :: starEach [e2] X.env := by rfl) (hdb : (x == ("__debug__" : Str)) = false := by decide) (hpl : (backTo pos (starEach [e2] X.env)).any (·.1) = false := by rfl) :
    PS X (.Raise (some (.Call (.Name x p) [e1, e2] [] pos)) none pos2) (tBad2 f1 f2 C W te1 te2) :=
  ps_raise hc tk (pmk_oex T iC tI F (hr.mono (by omega)) hb .nil C8.pass0 hg hm (pa_cons he1 (pa_cons he2 pa_nil hst2) hst) hdb hst hpl)
theorem bad_leaf2 {H1 : Hp} {v1 v2 : V} {Q : XK} (k : ∀ d fs, H1 d = none → fs.lookup f1 = some v1 → fs.lookup f2 = some v2 → Q (.ref C) (some d) (upd H1 d (.xd fs))) :
    ([v1, v2] : List V).length ≤ 1000 ∧ ∀ a, H1 a = none → spE2 C f1 f2 (.ref a :: ([v1, v2] ++ [])) (upd H1 a (exo a C none)) (fun z H2 => z = .non ∧ ∃ (d : Addr) (fs : List (Str × V)), H2 a = some (exo a C (some d)) ∧ H2 d = some (exd d fs) ∧ H1 d = none ∧ Q (.ref C) (some d) (upd (del H2 a) d (.xd fs))) (fun _ _ _ => False) := by
  refine ⟨(by show 2 ≤ 1000; decide), fun a ha => ⟨a, v1, v2, rfl, upd_same, fun dx h1 h2 fs e1 e2 => ?_⟩⟩
  rw [upd_ne h2] at h1
  refine ⟨rfl, dx, fs, upd_same, by rw [upd_ne h2]; exact upd_same, h1, ?_⟩
  have e : upd (del (upd (upd (upd H1 a (exo a C none)) dx (exd dx fs)) a (exo a C (some dx))) a) dx (.xd fs) = upd H1 dx (.xd fs) := by
    funext b
    by_cases q : b = dx
    · rw [q, upd_same, upd_same]
    · rw [upd_ne q, upd_ne q]
      by_cases q2 : b = a
      · rw [q2, del_same, ha]
      · rw [del_ne q2, upd_ne q2, upd_ne q, upd_ne q2]
  rw [e]
  exact k dx fs h1 e1 e2
end
/-! ### a classmethod by keywords -/
section
variable {X : Cx} {CX : CXT} {C p g : Addr} {mc : Value} {k : Nat} {fd : FuncData} {ps ks : List Str} {sp : Sp} {E : XK} {o : Expr} {kws : List Keyword} {m : Str} {pos apos : Pos} {ta : TE} {tkw : TA} {gU : List Value → List Value → List Value} {gV : List V → List V → List V} {pl : Sem Bool}
theorem pe_cmethK (he : PE X o ta) (r : CRead X.K C mc) (c : CMet X.K C mc m p g) (F : FnOk X.prog X.w X.K X.mg X.base CX k g fd ps sp) (hr : Room k X.A) (hb : KBn X.K fd ps 1 ks gU gV) (hx : Passes CX X E) (hkw : PK X kws tkw)
    (hall : (backToKw pos (keywordEach kws X.env)).all (·.1.isSome) = true := by rfl) (hks : (backToKw pos (keywordEach kws X.env)).filterMap (·.1) = ks := by rfl)
    (hpl : ((backTo pos (starEach [] X.env)).any (·.1) || (backToKw pos (keywordEach kws X.env)).any (·.1.isNone)) = false := by rfl)
    (ht : eval (.Call (.Attribute o m apos) [] kws pos) X.env = (do
      let ov ← eval o X.env
      standAt apos.atName
      let (f, first) ← holding [ov] (getMethod ov m pl)
      callWith pos f first (backTo pos (starEach [] X.env)) (backToKw pos (keywordEach kws X.env))) := by rfl) :
    PE X (.Call (.Attribute o m apos) [] kws pos) (fun σ H Q => ta σ H fun x H1 => x = .ref C ∧ tkw σ H1 fun zs H2 => zs.length = ks.length ∧ sp (gV [.ref C] zs) H2 Q E) := by
  refine ⟨fun pins s σ H Q I h => ?_⟩
  refine PySem.W.methodCall_KW (pl := pl) (thn (he.run pins s σ H _ I h) fun u s1 ⟨x, H1, I1, rx, ex, q⟩ => ?_) ht
  subst ex
  obtain rfl : u = Value.ref C := rx
  refine getmethcm_ok I1 r c fun s2 I2 => ?_
  refine PySem.W.callWith_of (P := PySem.W.MethP X.K s1.heap.objs.size g (.ref C)) hpl (PySem.W.keeps_M c.fi) (evalArgs_kw2_nil hall ?_)
  refine thn (hkw.run pos _ s2 σ H1 _ I2 q) fun ws s3 ⟨zs, H2, I3, rz, l2, q2⟩ => ⟨⟨pin_at I3, I3.kIn⟩, ?_⟩
  rw [hks]
  have hl : ws.length = ks.length := rz.length.symm.trans l2
  have z : wpAny (model X.prog X.w) X.A (call (.ref s1.heap.objs.size) [] (ks.zip ws)) (EP X ((s1.heap.objs.size, PySem.W.methodObj (.ref g) (.ref C)) :: pins) σ Q) X.xe s3 := by
    refine wpAny_call (PySem.W.method_call (pin_at I3) ?_)
    have r2 : Vals (gV [.ref C] zs) (gU [.ref C] ws) := hb.rel (.cons rfl .nil) rz
    refine codeAny_mono (F.run X.A X.stack s3 H2 ⟨[.ref C], ks.zip ws⟩ (gU [.ref C] ws) (gV [.ref C] zs) Q E hr I3.env0 (hb.to s3 [.ref C] ws I3.kIn rfl hl) r2 q2) fun r s' hq => ?_
    cases r with
    | error e => exact hx _ σ H2 s3 e s' I3 hq
    | ok fl =>
      cases fl with
      | ret u => exact I3.after hq
      | next => exact False.elim hq
      | brk => exact False.elim hq
      | cont => exact False.elim hq
  exact thn z fun _ _ y => unpinE y
end
end Lw
namespace Lw
open PySem PySem.Spec PyProof.Rows L2
open SX PySem.NumText TL LamX
/-! ### the Reader -/
abbrev sRI : Stmt := inClass (top 19) 0
abbrev sRah : Stmt := inClass (top 19) 1
abbrev sRrf : Stmt := inClass (top 19) 2
abbrev sRtk : Stmt := inClass (top 19) 3
abbrev sRex : Stmt := inClass (top 19) 5
abbrev sRmo : Stmt := inClass (top 19) 6
abbrev sRfi : Stmt := inClass (top 19) 7
section
variable {X : Cx} {k j : Nat} {C : Addr} {m : Str} {sp : Sp} {E : XK} {o e : Expr} {es : List Expr} {ta : TE} {t : TA} {pos apos : Pos} {pl : Sem Bool}
/-- a method of an own class, called -/
theorem pe_mx0 (he : PE X o ta) (c : Cls X.K C) (M : MetX X.prog X.w X.K X.mg X.base k C m sp) (hr : Room j X.A) (hk : k ≤ j) (hx : Passes (L2.CX X.prog X.w) X E)
    (ht : eval (.Call (.Attribute o m apos) [] [] pos) X.env = (do
      let ov ← eval o X.env
      standAt apos.atName
      let (f, first) ← holding [ov] (getMethod ov m pl)
      callWith pos f first (backTo pos (starEach [] X.env)) (backToKw pos (keywordEach [] X.env))) := by rfl) :
    PE X (.Call (.Attribute o m apos) [] [] pos) (tMeth C m sp [] E ta tNil) := by
  obtain ⟨g, fd, ps, hm, F, b⟩ := M.ex
  exact pe_meth0 he c hm F (hr.mono hk) b .nil hx ht
theorem pe_mx (he : PE X o ta) (c : Cls X.K C) (M : MetX X.prog X.w X.K X.mg X.base k C m sp) (hr : Room j X.A) (hk : k ≤ j) (hx : Passes (L2.CX X.prog X.w) X E) (ha : PA X (e :: es) t)
    (hst : starEach (e :: es) X.env = (false, eval e X.env) :: starEach es X.env := by rfl) (hpl : (backTo pos (starEach es X.env)).any (·.1) = false := by rfl)
    (ht : eval (.Call (.Attribute o m apos) (e :: es) [] pos) X.env = (do
      let ov ← eval o X.env
      standAt apos.atName
      let (f, first) ← holding [ov] (getMethod ov m pl)
      callWith pos f first (backTo pos (starEach (e :: es) X.env)) (backToKw pos (keywordEach [] X.env))) := by rfl) :
    PE X (.Call (.Attribute o m apos) (e :: es) [] pos) (tMeth C m sp [] E ta t) := by
  obtain ⟨g, fd, ps, hm, F, b⟩ := M.ex
  exact pe_meth he c hm F (hr.mono hk) b .nil hx ha hst hpl ht
end
theorem putF_len (f : Str) (v : V) : ∀ fs : List (Str × V), (putF f v fs).length ≤ fs.length + 1
  | [] => Nat.le_refl _
  | (g, x) :: r => by
    unfold putF
    split
    · simp
    · have := putF_len f v r
      rw [List.length_cons, List.length_cons]
      omega
/-- its attributes -/
def rdF (l : Addr) (n : Int) : List (Str × V) := [("_words", .ref l), ("_row", .int 0), ("_at", .int n)]
theorem rdF_words (l : Addr) (n : Int) : (rdF l n).lookup ("_words" : Str) = some (.ref l) := by unfold rdF; rw [lookup_put, if_pos rfl]
theorem rdF_row (l : Addr) (n : Int) : (rdF l n).lookup ("_row" : Str) = some (.int 0) := by unfold rdF; rw [lookup_put, if_neg (by decide +kernel), lookup_put, if_pos rfl]
theorem rdF_at (l : Addr) (n : Int) : (rdF l n).lookup ("_at" : Str) = some (.int n) := by unfold rdF; rw [lookup_put, if_neg (by decide +kernel), lookup_put, if_neg (by decide +kernel), lookup_put, if_pos rfl]
theorem rdF_no {m : Str} (l : Addr) (n : Int) (h1 : m ≠ "_words") (h2 : m ≠ "_row") (h3 : m ≠ "_at") : (rdF l n).lookup m = none := by unfold rdF; rw [lookup_put, if_neg h1, lookup_put, if_neg h2, lookup_put, if_neg h3]; rfl
theorem rdF_put (l : Addr) (n i : Int) : putF "_at" (.int i) (rdF l n) = rdF l i := by
  unfold rdF putF
  rw [if_neg (by decide +kernel)]
  unfold putF
  rw [if_neg (by decide +kernel)]
  unfold putF
  rw [if_pos rfl]
theorem rdF_new (l : Addr) (n : Int) : putF "_at" (.int n) (putF "_row" (.int 0) (putF "_words" (.ref l) [])) = rdF l n := by
  have e1 : putF "_words" (.ref l) [] = [(("_words" : Str), V.ref l)] := rfl
  have e2 : putF "_row" (.int 0) [(("_words" : Str), V.ref l)] = [(("_words" : Str), V.ref l), (("_row" : Str), V.int 0)] := by
    unfold putF
    rw [if_neg (by decide +kernel)]
    rfl
  rw [e1, e2]
  unfold putF
  rw [if_neg (by decide +kernel)]
  unfold putF
  rw [if_neg (by decide +kernel)]
  rfl
/-- the words of a text -/
def wds (cs : List Nat) : List (List Nat) := TL.spl [32] 0 [] cs
theorem split_wds (cs : List Nat) : Txt.split (S cs) (Str.ofString " ") = (wds cs).map S := split_S (b := [32]) (List.cons_ne_nil _ _) rfl
def wV (ws : List (List Nat)) : List V := (ws.map S).map V.str
def RdAt (R : Addr) (H : Hp) (r l : Addr) (ws : List (List Nat)) (n : Nat) : Prop := (∃ dx, H r = some (.ins R dx (rdF l n))) ∧ H l = some (.lst (wV ws))
theorem RdAt.same {R : Addr} {H H' : Hp} {r l : Addr} {ws : List (List Nat)} {n : Nat} (h : RdAt R H r l ws n) (s : Same H H') : RdAt R H' r l ws n := by
  obtain ⟨⟨dx, h1⟩, h2⟩ := h
  exact ⟨⟨dx, s _ _ h1⟩, s _ _ h2⟩
/-- the word at hand -/
def handV (ws : List (List Nat)) (n : Nat) : V := match ws[n]? with
  | some w => .str (S w)
  | none => .non
/-- all but what stands at r is as it was: Kp. A refusal at word n -/
def Rf (D : Addr) (H : Hp) (E : XK) (n : Nat) : Prop := ∀ d fs H', Same H H' → H' d = none → fs.lookup ("line" : Str) = some (.int 0) → fs.lookup ("word" : Str) = some (.int n) → E (.ref D) (some d) (upd H' d (.xd fs))
def spRI (K : PySem.W.Frag) (R D : Addr) : Sp := fun vs H Q E => ∃ (r dx : Addr) (x : V), vs = [.ref r, x, .int 0] ∧ Anyv K H x ∧ H r = some (.ins R dx []) ∧ (isS x = false → Rf D H E 0) ∧
  ∀ z, x = .str z → ∃ cs, z = S cs ∧ cs.length ≤ 100000 ∧ ∀ l, H l = none → Q .non (upd (upd H l (.lst (wV (wds cs)))) r (.ins R dx (rdF l 0)))
def spRah (R : Addr) : Sp := fun vs H Q _ => ∃ r l ws n, vs = [.ref r] ∧ RdAt R H r l ws n ∧ Q (handV ws n) H
def spRrf (R D : Addr) : Sp := fun vs H _ E => ∃ r l ws n, vs = [.ref r] ∧ RdAt R H r l ws n ∧ Rf D H E n
def spRtk (R D : Addr) : Sp := fun vs H Q E => ∃ r l ws n x, vs = [.ref r, x] ∧ RdAt R H r l ws n ∧ (x = .non → Rf D H E n) ∧ (x ≠ .non → ∀ H', Kp r H H' → RdAt R H' r l ws (n + 1) → Q x H')
def spRex (R : Addr) : Sp := fun vs H Q _ => ∃ r l ws n z, vs = [.ref r, .str z] ∧ RdAt R H r l ws n ∧ handV ws n = .str z ∧ ∀ H', Kp r H H' → RdAt R H' r l ws (n + 1) → Q .non H'
def moreB (ws : List (List Nat)) (n : Nat) : Bool := match ws[n]? with
  | some w => !(decide (w = [47]) || decide (w = [59]))
  | none => false
def spRmo (R : Addr) : Sp := fun vs H Q _ => ∃ r l ws n, vs = [.ref r] ∧ RdAt R H r l ws n ∧ ∀ H', Same H H' → Q (.bl (moreB ws n)) H'
def spRfi (R D : Addr) : Sp := fun vs H Q E => ∃ r l ws n, vs = [.ref r] ∧ RdAt R H r l ws n ∧ (n < ws.length → Rf D H E n) ∧ (ws.length ≤ n → Q .non H)
/-- the Reader's class -/
structure RdC (K : PySem.W.Frag) (R : Addr) : Prop where
  cl : Cls K R
  n1 : NoAttr K R "_words"
  n2 : NoAttr K R "_row"
  n3 : NoAttr K R "_at"
theorem eqV_S (a b : List Nat) : eqV (.str (S a)) (.str (S b)) = decide (b = a) := by
  show (S a == S b) = _
  by_cases h : b = a
  · subst h; simp
  · rw [decide_eq_false h]
    exact beq_eq_false_iff_ne.mpr fun e => h (S_inj e).symm
theorem iteT' {A B : Prop} {c : Bool} (hc : c = true) (h : A) : if c = true then A else B := by rw [if_pos hc]; exact h
theorem iteF' {A B : Prop} {c : Bool} (hc : c = false) (h : B) : if c = true then A else B := by rw [if_neg (by rw [hc]; exact Bool.false_ne_true)]; exact h
section
variable {P : Program} {w : World} {K : PySem.W.Frag} {mg : Str → Option Value} {base : Heap}
theorem scRI : FnScope ["self", "text", "row"] ["self", "text", "row"] (C8.fnScope sRI) := C8.fnScope_by (by decide +kernel)
theorem fn_ri {R D f fE : Addr} {fd fdE : FuncData} (F : C8.Fun K "__init__" "Reader.__init__" sRI f fd) (T : Txt mg) (rc : RdC K R) (ER : Err2 "BadText" "line" "word" P w K mg base D fE fdE) : FnOk P w K mg base (L2.CX P w) 3 f fd ["self", "text", "row"] (spRI K R D) := by
  obtain ⟨oc, od, dV, kV, doc, pm, an, cdv, ct, osl, rfl, lk, hcd⟩ := F.ex
  refine fn_of lk hcd scRI (fun vs H Q E h => ?_) fun A outer s H vs Q E hr h => ?_
  · obtain ⟨r, dx, x, rfl, _⟩ := h
    rfl
  · obtain ⟨r, dx, x, rfl, av, hx, k1, k2⟩ := h
    have tk : Takes (cxOf (L2.CX P w) P w K mg base ["self", "text", "row"] "Reader.__init__" (C8.fnScope sRI) f cdv A outer s H E) (fun cls d _ H' => E cls d H') := takes_of rfl rfl rfl rfl
    refine ⟨_, (pss_cons (ps_if (pt_not (pt_val (pe_callB call_isz (by rfl) T.n_isinstance (by decide +kernel) (pa_cons (pv 1) (pa_cons (pe_bltn (v := .ty "str") (by rfl) T.n_str (by decide +kernel) rfl) pa_nil))))) (pss_one (ps_bad2 (x := "BadText") rfl tk ER.T ER.iC ER.tI ER.F hr ER.b (by rfl) ER.hm pe_int pe_int)) pss_nil)
      (pss_cons (ps_fld (pv 0) (pe_split (pv 1) pe_str) rfl)
      (pss_cons (ps_fld (pv 0) (pv 2) rfl)
      (pss_one (ps_fld (pv 0) pe_int rfl))))), ?_⟩
    refine ⟨_, rfl, ?_⟩
    dsimp only [tCons, tC, tNil]
    refine isz_str av ⟨_, rfl, ?_⟩
    have no : isS x = false → tBad2 "line" "word" D (fun cls d _ H' => E cls d H') (tC (.int 0)) (tC (.int 0)) { nx := fun _ H' => Q .non H', rt := Q } [] H := fun e => by
      exact bad_leaf2 fun d fs hd e1 e2 => k1 e d fs H (Same.refl _) hd e1 e2
    cases av with
    | str z =>
      obtain ⟨cs, rfl, hl, go⟩ := k2 z rfl
      have hs : (S cs).length + 2 ≤ sizeLine := by rw [S_len]; exact Nat.le_trans (Nat.add_le_add_right hl 2) (by decide)
      refine iteF ?_
      refine ⟨_, rfl, ⟨_, rfl⟩, _, _, rfl, rfl, by rfl, hs, fun l fl => ?_⟩
      rw [split_wds]
      have ne : l ≠ r := fun e => by rw [e, hx] at fl; cases fl
      refine ⟨_, rfl, r, R, dx, [], rfl, by rw [upd_ne ne.symm]; exact hx, rc.cl, rc.n1, (by show 0 < 1000; decide), ?_⟩
      refine ⟨_, rfl, _, rfl, r, R, dx, _, rfl, upd_same, rc.cl, rc.n2, (by show 1 < 1000; decide), ?_⟩
      refine ⟨_, rfl, r, R, dx, _, rfl, upd_same, rc.cl, rc.n3, ?_, ?_⟩
      · exact Nat.lt_of_le_of_lt (Nat.le_trans (putF_len _ _ _) (Nat.add_le_add_right (putF_len _ _ _) 1)) (by decide)
      rw [upd_upd, upd_upd, rdF_new]
      exact go l fl
    | int i => exact iteT (no rfl)
    | bl b => exact iteT (no rfl)
    | non => exact iteT (no rfl)
    | obj h h1 h2 h3 => exact iteT (no rfl)
theorem hand_any (K : PySem.W.Frag) (H : Hp) (ws : List (List Nat)) (n : Nat) : Anyv K H (handV ws n) := by
  unfold handV
  cases ws[n]? with
  | none => exact .non
  | some w => exact .str _
theorem scRah : FnScope ["self"] ["self"] (C8.fnScope sRah) := C8.fnScope_by (by decide +kernel)
theorem fn_rah {R f : Addr} {fd : FuncData} (F : C8.Fun K "at_hand" "Reader.at_hand" sRah f fd) (T : Txt mg) (rc : RdC K R) : FnOk P w K mg base (L2.CX P w) 1 f fd ["self"] (spRah R) := by
  obtain ⟨oc, od, dV, kV, doc, pm, an, cdv, ct, osl, rfl, lk, hcd⟩ := F.ex
  refine fn_of lk hcd scRah (fun vs H Q E h => ?_) fun A outer s H vs Q E hr h => ?_
  · obtain ⟨r, l, ws, n, rfl, _⟩ := h
    rfl
  · obtain ⟨r, l, ws, n, rfl, ⟨⟨dx, hr1⟩, hl⟩, k⟩ := h
    refine ⟨_, (pss_one (ps_ret (pe_ifExp (pt_cmpR op_lt (pe_fld (pv 0) rfl) (pe_callB call_len_seq (by rfl) T.n_len (by decide +kernel) (pa_cons (pe_fld (pv 0) rfl) pa_nil)) (nomark _)) (pe_ix ix_list (pe_fld (pv 0) rfl) (pe_fld (pv 0) rfl) (fun _ _ => rfl)) pe_non))), ?_⟩
    refine ⟨_, rfl, r, R, dx, _, _, rfl, hr1, rc.cl, rc.n3, rdF_at l n, _, rfl, r, R, dx, _, _, rfl, hr1, rc.cl, rc.n1, rdF_words l n, l, _, rfl, .inl (SqL.of hl), _, _, rfl, rfl, _, rfl, ite2 (fun c => ?_) (fun c => ?_)⟩
    · have c' := of_decide_eq_true c
      have hlen : (wV ws).length = ws.length := by unfold wV; rw [List.length_map, List.length_map]
      rw [hlen] at c'
      have hn : n < ws.length := by omega
      refine ⟨_, rfl, r, R, dx, _, _, rfl, hr1, rc.cl, rc.n1, rdF_words l n, _, rfl, r, R, dx, _, _, rfl, hr1, rc.cl, rc.n3, rdF_at l n, l, _, _, .str (S ws[n]), rfl, rfl, SqL.of hl, atI_nat (by unfold wV; simp [hn]), ?_⟩
      unfold handV at k
      rw [List.getElem?_eq_getElem hn] at k
      exact k
    · have c' := of_decide_eq_false (Bool.eq_false_iff.mpr c)
      have hlen : (wV ws).length = ws.length := by unfold wV; rw [List.length_map, List.length_map]
      rw [hlen] at c'
      unfold handV at k
      rw [List.getElem?_eq_none (by omega)] at k
      exact k
theorem scRrf : FnScope ["self"] ["self"] (C8.fnScope sRrf) := C8.fnScope_by (by decide +kernel)
theorem fn_rrf {R D f fE : Addr} {fd fdE : FuncData} (F : C8.Fun K "refuse" "Reader.refuse" sRrf f fd) (rc : RdC K R) (ER : Err2 "BadText" "line" "word" P w K mg base D fE fdE) : FnOk P w K mg base (L2.CX P w) 3 f fd ["self"] (spRrf R D) := by
  obtain ⟨oc, od, dV, kV, doc, pm, an, cdv, ct, osl, rfl, lk, hcd⟩ := F.ex
  refine fn_of lk hcd scRrf (fun vs H Q E h => ?_) fun A outer s H vs Q E hr h => ?_
  · obtain ⟨r, l, ws, n, rfl, _⟩ := h
    rfl
  · obtain ⟨r, l, ws, n, rfl, ⟨⟨dx, hr1⟩, hl⟩, k⟩ := h
    have tk : Takes (cxOf (L2.CX P w) P w K mg base ["self"] "Reader.refuse" (C8.fnScope sRrf) f cdv A outer s H E) (fun cls d _ H' => E cls d H') := takes_of rfl rfl rfl rfl
    refine ⟨_, (pss_one (ps_bad2 (x := "BadText") rfl tk ER.T ER.iC ER.tI ER.F hr ER.b (by rfl) ER.hm (pe_fld (pv 0) rfl) (pe_fld (pv 0) rfl))), ?_⟩
    refine ⟨_, rfl, r, R, dx, _, _, rfl, hr1, rc.cl, rc.n2, rdF_row l n, _, rfl, r, R, dx, _, _, rfl, hr1, rc.cl, rc.n3, rdF_at l n, ?_⟩
    exact bad_leaf2 fun d fs hd e1 e2 => k d fs H (Same.refl _) hd e1 e2
theorem scRtk : FnScope ["self", "worth"] ["self", "worth"] (C8.fnScope sRtk) := C8.fnScope_by (by decide +kernel)
theorem fn_rtk {R D f : Addr} {fd : FuncData} (F : C8.Fun K "take" "Reader.take" sRtk f fd) (rc : RdC K R) (MR : MetX P w K mg base 3 R "refuse" (spRrf R D)) : FnOk P w K mg base (L2.CX P w) 5 f fd ["self", "worth"] (spRtk R D) := by
  obtain ⟨oc, od, dV, kV, doc, pm, an, cdv, ct, osl, rfl, lk, hcd⟩ := F.ex
  refine fn_of lk hcd scRtk (fun vs H Q E h => ?_) fun A outer s H vs Q E hr h => ?_
  · obtain ⟨r, l, ws, n, x, rfl, _⟩ := h
    rfl
  · obtain ⟨r, l, ws, n, x, rfl, at_, k1, k2⟩ := h
    obtain ⟨⟨dx, hr1⟩, hl⟩ := id at_
    refine ⟨_, (pss_cons (ps_if (pt_cmpR op_isN (pv 1) pe_non (nomark _)) (pss_one (ps_expr (pe_mx0 (pv 0) rc.cl MR hr (by decide) (passes_call (takes_of rfl rfl rfl rfl) (fun _ _ _ _ z => z))))) pss_nil)
      (pss_cons (ps_fldaug (pv 0) pe_int in_add)
      (pss_one (ps_ret (pv 1))))), ?_⟩
    refine ⟨_, rfl, rfl, _, rfl, ite2 (fun c => ?_) (fun c => ?_)⟩
    · exact ⟨_, rfl, r, dx, _, rfl, hr1, rdF_no l n (by decide +kernel) (by decide +kernel) (by decide +kernel), r, l, ws, n, rfl, at_, k1 (of_decide_eq_true c)⟩
    · have nx : x ≠ .non := of_decide_eq_false (Bool.eq_false_iff.mpr c)
      refine ⟨_, rfl, r, R, dx, _, _, rfl, hr1, rc.cl, rc.n3, rdF_at l n, ?_⟩
      refine ⟨_, _, rfl, rfl, dx, _, hr1, (by show 3 < 1000; decide), ?_⟩
      rw [rdF_put]
      have nl : l ≠ r := fun e => by rw [e, hr1] at hl; cases hl
      refine ⟨_, rfl, k2 nx _ (fun b o hb e => by rw [upd_ne hb]; exact e) ⟨⟨dx, ?_⟩, by rw [upd_ne nl]; exact hl⟩⟩
      rw [upd_same]
      rfl
theorem scRex : FnScope ["self", "sign"] ["self", "sign"] (C8.fnScope sRex) := C8.fnScope_by (by decide +kernel)
theorem fn_rex {R D f : Addr} {fd : FuncData} (F : C8.Fun K "expect" "Reader.expect" sRex f fd) (rc : RdC K R) (MA : MetX P w K mg base 1 R "at_hand" (spRah R)) (MT : MetX P w K mg base 5 R "take" (spRtk R D)) : FnOk P w K mg base (L2.CX P w) 7 f fd ["self", "sign"] (spRex R) := by
  obtain ⟨oc, od, dV, kV, doc, pm, an, cdv, ct, osl, rfl, lk, hcd⟩ := F.ex
  refine fn_of lk hcd scRex (fun vs H Q E h => ?_) fun A outer s H vs Q E hr h => ?_
  · obtain ⟨r, l, ws, n, z, rfl, _⟩ := h
    rfl
  · obtain ⟨r, l, ws, n, z, rfl, at_, hz, k⟩ := h
    obtain ⟨⟨dx, hr1⟩, hl⟩ := id at_
    refine ⟨_, (pss_one (ps_expr (pe_mx (E := C8.E0) (pv 0) rc.cl MT hr (by decide) (passes_call takes0 (fun _ _ _ _ z => z)) (pa_cons (pe_ifExp (pt_cmpR op_eq (pe_mx0 (E := C8.E0) (pv 0) rc.cl MA hr (by decide) (passes_call takes0 (fun _ _ _ _ z => z))) (pv 1) (nomark _)) (pv 1) pe_non) pa_nil)))), ?_⟩
    refine ⟨_, rfl, r, dx, _, rfl, hr1, rdF_no l n (by decide +kernel) (by decide +kernel) (by decide +kernel), ?_⟩
    refine ⟨_, rfl, r, dx, _, rfl, hr1, rdF_no l n (by decide +kernel) (by decide +kernel) (by decide +kernel), r, l, ws, n, rfl, at_, ?_⟩
    rw [hz]
    refine ⟨_, rfl, rfl, _, rfl, iteT' (by simp) ?_⟩
    exact ⟨_, rfl, r, l, ws, n, _, rfl, at_, (fun e => by cases e), fun _ H' k1 a1 => k H' k1 a1⟩
theorem scRmo : FnScope ["self"] ["self"] (C8.fnScope sRmo) := C8.fnScope_by (by decide +kernel)
theorem fn_rmo {R f : Addr} {fd : FuncData} (F : C8.Fun K "more" "Reader.more" sRmo f fd) (rc : RdC K R) (MA : MetX P w K mg base 1 R "at_hand" (spRah R)) : FnOk P w K mg base (L2.CX P w) 3 f fd ["self"] (spRmo R) := by
  obtain ⟨oc, od, dV, kV, doc, pm, an, cdv, ct, osl, rfl, lk, hcd⟩ := F.ex
  refine fn_of lk hcd scRmo (fun vs H Q E h => ?_) fun A outer s H vs Q E hr h => ?_
  · obtain ⟨r, l, ws, n, rfl, _⟩ := h
    rfl
  · obtain ⟨r, l, ws, n, rfl, at_, k⟩ := h
    obtain ⟨⟨dx, hr1⟩, hl⟩ := id at_
    refine ⟨_, (pss_one (ps_ret (pe_cmpR op_notIn_seq (pe_mx0 (E := C8.E0) (pv 0) rc.cl MA hr (by decide) (passes_call takes0 (fun _ _ _ _ z => z))) (pe_tup (pa_cons pe_non (pa_cons pe_str (pa_cons pe_str pa_nil)))) (by rfl)))), ?_⟩
    refine ⟨_, rfl, r, dx, _, rfl, hr1, rdF_no l n (by decide +kernel) (by decide +kernel) (by decide +kernel), r, l, ws, n, rfl, at_, ?_⟩
    refine ⟨(by show 3 ≤ sizeLine; decide), fun q hq => ?_⟩
    refine ⟨q, _, rfl, .inr (SqT.of upd_same), by unfold handV; cases ws[n]? <;> rfl, rfl, ?_⟩
    have e : (!inV (handV ws n) [V.non, .str (Str.ofString "/"), .str (Str.ofString ";")]) = moreB ws n := by
      unfold handV moreB
      cases ws[n]? with
      | none => rfl
      | some w =>
        show (!(eqV .non (.str (S w)) || (eqV (.str (Str.ofString "/")) (.str (S w)) || (eqV (.str (Str.ofString ";")) (.str (S w)) || false)))) = _
        have e1 : eqV (.str (Str.ofString "/")) (.str (S w)) = decide (w = [47]) := eqV_S [47] w
        have e2 : eqV (.str (Str.ofString ";")) (.str (S w)) = decide (w = [59]) := eqV_S [59] w
        rw [e1, e2, Bool.or_false]
        rfl
    have := k _ (same_new (o := HO.tup [V.non, .str (Str.ofString "/"), .str (Str.ofString ";")]) hq)
    rw [← e] at this
    exact this
theorem scRfi : FnScope ["self"] ["self"] (C8.fnScope sRfi) := C8.fnScope_by (by decide +kernel)
theorem fn_rfi {R D f : Addr} {fd : FuncData} (F : C8.Fun K "finish" "Reader.finish" sRfi f fd) (T : Txt mg) (rc : RdC K R) (MR : MetX P w K mg base 3 R "refuse" (spRrf R D)) : FnOk P w K mg base (L2.CX P w) 5 f fd ["self"] (spRfi R D) := by
  obtain ⟨oc, od, dV, kV, doc, pm, an, cdv, ct, osl, rfl, lk, hcd⟩ := F.ex
  refine fn_of lk hcd scRfi (fun vs H Q E h => ?_) fun A outer s H vs Q E hr h => ?_
  · obtain ⟨r, l, ws, n, rfl, _⟩ := h
    rfl
  · obtain ⟨r, l, ws, n, rfl, at_, k1, k2⟩ := h
    obtain ⟨⟨dx, hr1⟩, hl⟩ := id at_
    refine ⟨_, (pss_one (ps_if (pt_cmpR op_lt (pe_fld (pv 0) rfl) (pe_callB call_len_seq (by rfl) T.n_len (by decide +kernel) (pa_cons (pe_fld (pv 0) rfl) pa_nil)) (nomark _)) (pss_one (ps_expr (pe_mx0 (pv 0) rc.cl MR hr (by decide) (passes_call (takes_of rfl rfl rfl rfl) (fun _ _ _ _ z => z))))) pss_nil)), ?_⟩
    have hlen : (wV ws).length = ws.length := by unfold wV; rw [List.length_map, List.length_map]
    refine ⟨_, rfl, r, R, dx, _, _, rfl, hr1, rc.cl, rc.n3, rdF_at l n, _, rfl, r, R, dx, _, _, rfl, hr1, rc.cl, rc.n1, rdF_words l n, l, _, rfl, .inl (SqL.of hl), _, _, rfl, rfl, _, rfl, ite2 (fun c => ?_) (fun c => ?_)⟩
    · have c' := of_decide_eq_true c
      rw [hlen] at c'
      exact ⟨_, rfl, r, dx, _, rfl, hr1, rdF_no l n (by decide +kernel) (by decide +kernel) (by decide +kernel), r, l, ws, n, rfl, at_, k1 (by omega)⟩
    · have c' := of_decide_eq_false (Bool.eq_false_iff.mpr c)
      rw [hlen] at c'
      exact k2 (by omega)
end
end Lw
namespace Lw
open PySem PySem.Spec PyProof.Rows L2

open LamX
/-! ### lambdas without captured names, with parameters: made here, called anywhere -/
/-- the object at f is the lambda of this text -/
def LamN (q : Str) (params : Arguments) (body : Expr) (scope : Scope) (f c' : Addr) : HO := .ext fun h => ∃ pm ctv : Value, h.get? f = some (PySem.W.kla_obj "<lambda>" q params body scope [] pm c' ctv)
theorem lamN_ne {q : Str} {params : Arguments} {body : Expr} {scope : Scope} {f c' : Addr} (ps : Array Value) : LamN q params body scope f c' ≠ .tbl ps := fun z => by
  unfold LamN at z
  cases z
/-- what its call does -/
structure LamF (P : Program) (w : World) (K : PySem.W.Frag) (mg : Str → Option Value) (base : Heap) (k : Nat) (ps : List Str) (sp : Sp) (q : Str) (params : Arguments) (body : Expr) (scope : Scope) (f c' : Addr) : Prop where
  S : FnScope ps ps scope
  bind : ∀ (pm cv ctv : Value) (us : List Value), us.length = ps.length → bindArgs (PySem.W.kla_fn "<lambda>" q params body scope [] pm cv ctv) ⟨us, []⟩ = pure (ps.zip us)
  len : ∀ vs H Q E, sp vs H Q E → vs.length = ps.length
  run : ∀ (A : Around) (out : List Env) (s : Shared) (H : Hp) (vs : List V) (Q : VK), Room k (A.deeper (envOfC q scope s.heap.objs.size f (.ref c'))) → sp vs H Q C8.E0 →
    ∃ te, PE (cxOf C8.CX0 P w K mg base ps q scope f (.ref c') A out s H C8.E0) body te ∧ te (start ps vs) H Q
def LamAt (P : Program) (w : World) (K : PySem.W.Frag) (mg : Str → Option Value) (base : Heap) (k : Nat) (ps : List Str) (sp : Sp) (H : Hp) (f : Addr) : Prop := ∃ (q : Str) (params : Arguments) (body : Expr) (scope : Scope) (c' : Addr),
  H f = some (LamN q params body scope f c') ∧ H c' = some (CodeO c' q) ∧ LamF P w K mg base k ps sp q params body scope f c'
theorem LamAt.extn {P : Program} {w : World} {K : PySem.W.Frag} {mg : Str → Option Value} {base : Heap} {k : Nat} {ps : List Str} {sp : Sp} {H H' : Hp} {f : Addr} (h : LamAt P w K mg base k ps sp H f) (e : ExtN H H') : LamAt P w K mg base k ps sp H' f := by
  obtain ⟨q, params, body, scope, c', h1, h2, a⟩ := h
  exact ⟨q, params, body, scope, c', e _ _ h1 lamN_ne, e _ _ h2 codeO_ne, a⟩
section
variable {X : Cx} {pins : List (Addr × Obj)} {σ : L2.St} {H : Hp} {s : Shared} {k : Nat} {ps : List Str} {sp : Sp}
theorem run_lam {f : Addr} {us : List Value} {vs : List V} {Q : VK} (L : LamAt X.prog X.w X.K X.mg X.base k ps sp H f) (hr : Room (k + 1) X.A) (I : Inv X pins σ H s) (r : Vals vs us) (q : sp vs H Q C8.E0) :
    wpAny (model X.prog X.w) X.A (call (.ref f) us) (EP X pins σ Q) X.xe s := by
  obtain ⟨qn, params, body, scope, c', hf, hc, F⟩ := L
  obtain ⟨⟨pm, ctv, of1⟩, _, _⟩ := I.hok f _ hf
  obtain ⟨⟨oc, vc, t', hoc, hdc, hvc⟩, _, _⟩ := I.hok c' _ hc
  have hl : us.length = ps.length := r.length.symm.trans (F.len _ _ _ _ q)
  have kinds : ∀ y ∈ ps.zip us, scope.names.lookup y.1 = some .local ∨ (scope.names.lookup y.1 = some .cell ∧ ((cellsFrom (s.heap.objs.size + 1) scope.names []).lookup y.1).isSome = true) := fun ⟨m, v⟩ hy => by
    rcases F.S.par m (List.of_mem_zip hy).1 with z | z
    · exact .inl z
    · exact .inr ⟨z, PySem.W.cellsFrom_some _ _ _ (.inl z)⟩
  have rc : codeAny (model X.prog X.w) X.A (.call (.ref f) ⟨us, []⟩) (CR C8.CX0 X.stack X.prog X.w H s Q C8.E0) s := by
    refine PySem.W.kla_callFunE hr.depth of1 rfl F.S.co F.S.gen rfl ⟨c', oc, vc, t', rfl, hoc, hdc, hvc⟩ ?_
    rw [F.bind _ _ _ us hl]
    refine wpAny_pure (wpAny_newFunctionEnv_cells F.S.kind kinds fun env he s1 cll => ?_)
    subst he
    refine ⟨I.nolimit.keeps cll.toInCall.keep, ?_⟩
    obtain ⟨te, ht, hq⟩ := F.run X.A X.stack s H vs Q (hr.deeper _) q
    have I0 := inv_start (CX := C8.CX0) (A := X.A) (E := C8.E0) F.S hr.hd I.env0 (F.len _ _ _ _ q) r cll
    refine PySem.W.kla_codeExpr (wpAny_mono (ht.run [] s1 (start ps vs) H _ I0 hq) (fun v s' hs => ?_) fun e s' hs => hs)
    obtain ⟨v', H', J, rv, z⟩ := hs
    exact ⟨v', H', J.os, J.bare, J.base, J.hok, rv, z⟩
  refine wpAny_call (codeAny_mono rc fun r s' hq => ?_)
  match r, hq with
  | .error e, hq => exact hq.elim
  | .ok (.ret u), hq => exact I.after hq
  | .ok .next, hq => exact hq.elim
  | .ok .brk, hq => exact hq.elim
  | .ok .cont, hq => exact hq.elim
/-- e(a, ..), e any expression that gives such a lambda -/
theorem pe_lamcallN {fe a : Expr} {es : List Expr} {pos : Pos} {tf : TE} {ta : TA} (hr : Room (k + 1) X.A) (hf : PE X fe tf) (ha : PA X (a :: es) ta)
    (ht : eval (.Call fe (a :: es) [] pos) X.env = (do callWith pos (← eval fe X.env) [] (backTo pos (starEach (a :: es) X.env)) (backToKw pos (keywordEach [] X.env))) := by rfl)
    (he : starEach (a :: es) X.env = (false, eval a X.env) :: starEach es X.env := by rfl) (hpl : (backTo pos (starEach es X.env)).any (·.1) = false := by rfl) :
    PE X (.Call fe (a :: es) [] pos) (fun σ H Q => tf σ H fun x H1 => ∃ (f : Addr) (ps : List Str) (sp : Sp), x = .ref f ∧ LamAt X.prog X.w X.K X.mg X.base k ps sp H1 f ∧ ta σ H1 fun vs H2 => LamAt X.prog X.w X.K X.mg X.base k ps sp H2 f ∧ sp vs H2 Q C8.E0) := by
  refine ⟨fun pins s σ H Q I h => ?_⟩
  refine Call_ (thn (hf.run pins s σ H _ I h) fun u s1 ⟨x, H1, I1, r1, f, ps, sp, ex, l1, q⟩ => ?_) ht
  subst ex
  obtain rfl : u = Value.ref f := r1
  have fnAt : ∀ {H' : Hp} {t : Shared}, Inv X pins σ H' t → LamAt X.prog X.w X.K X.mg X.base k ps sp H' f → PySem.W.FnAt f t.heap := fun {H' t} J L => by
    obtain ⟨qn, params, body, scope, c', hf, _, _⟩ := L
    obtain ⟨⟨pm, ctv, e⟩, _, _⟩ := J.hok f _ hf
    exact ⟨_, _, _, _, e⟩
  refine PySem.W.callWith_F (fnAt I1 l1) (thn (ha.run pos pins s1 σ H1 _ I1 q) fun us s2 ⟨vs, H2, I2, r2, l2, q2⟩ => ⟨fnAt I2 l2, ?_⟩) he hpl
  exact run_lam l2 hr I2 r2 q2
def tLamN (P : Program) (w : World) (K : PySem.W.Frag) (mg : Str → Option Value) (base : Heap) (k : Nat) (ps : List Str) (sp : Sp) (T : List (Addr × Str)) : TE := fun _ H Q => Tabs T H ∧ ∀ (f : Addr) (H1 : Hp), ExtN H H1 → Tabs T H1 → H f = none → LamAt P w K mg base k ps sp H1 f → Q (.ref f) H1
theorem lay_lamN {h' : Heap} {t' : Nat} {q : Str} {params : Arguments} {body : Expr} {scope : Scope} {c' : Addr} {pm ctv : Value} (I : Inv X pins σ H { s with heap := h', toks := t' }) :
    Inv X pins σ (upd H h'.objs.size (LamN q params body scope h'.objs.size c')) { s with heap := h'.push (PySem.W.kla_obj "<lambda>" q params body scope [] pm c' ctv), toks := t' } := by
  refine I.laid (h' := h'.push _) (t' := t') (fun b u e => Heap.get?_push_of_some _ e) (Nat.le_refl _) ?_
  have g : (h'.push (PySem.W.kla_obj "<lambda>" q params body scope [] pm c' ctv)).get? h'.objs.size = some (PySem.W.kla_obj "<lambda>" q params body scope [] pm c' ctv) := Heap.get?_push_size _ rfl
  refine ⟨⟨pm, ctv, g⟩, ⟨_, g⟩, ?_⟩
  rintro h1 h2 ⟨pm, ctv, e⟩ st
  exact ⟨pm, ctv, st _ e⟩
theorem pe_lamN {T : List (Addr × Str)} {c B : Addr} {params : Arguments} {body : Expr} {scope : Scope} {pos : Pos} (TB : TabB X.base X.mg c B) (hcode : X.env.code = .ref c)
    (hm : (B, X.env.qual ++ "<lambda>") ∈ T) (hu : ∀ p ∈ T, p.1 = B → p.2 = X.env.qual ++ "<lambda>") (hdef : defaultsOf params X.env = ([], [])) (nofree : ∀ y ∈ scope.names, y.2 ≠ .free) (nocl : cloFrom X.env.cells scope.names [] = [])
    (act : ∀ f c', LamF X.prog X.w X.K X.mg X.base k ps sp (X.env.qual ++ "<lambda>") params body scope f c') : PE X (.Lambda params body scope pos) (tLamN X.prog X.w X.K X.mg X.base k ps sp T) := by
  refine ⟨fun pins s σ H Q I h => ?_⟩
  obtain ⟨hT, h⟩ := h
  obtain ⟨pt, hB, trip, amg⟩ := hT _ hm
  refine PySem.W.kla_eval hdef ?_
  have hat : s.heap.get? B = some { cls := .none, data := .fields pt } := I.hok B _ hB
  have blt := TB.bm.keeps I.bk
  have hdc := TB.code.keeps I.bk
  have glb := I.mod.glob.keeps I.bk
  have cl := closure_ok (scope := scope) (env := X.env) (fun y hy e => absurd e (nofree y hy))
  rw [nocl] at cl
  have tell : ∀ {H1 : Hp} {f c' : Addr} {s' : Shared}, Inv X pins σ (upd H1 f (LamN (X.env.qual ++ "<lambda>") params body scope f c')) s' → ExtN H H1 → Tabs T H1 → H1 f = none → H f = none → H1 c' = some (CodeO c' (X.env.qual ++ "<lambda>")) →
      EP X pins σ Q (.ref f) s' := fun {H1 f c' s'} I1 eN T1 n1 n0 hc => by
    have sm := same_new (o := LamN (X.env.qual ++ "<lambda>") params body scope f c') n1
    exact ⟨.ref f, _, I1, rfl, h f _ (fun b o e n => sm _ _ (eN b o e n)) (T1.ext sm) n0 ⟨_, params, body, scope, c', upd_same, sm _ _ hc, act f c'⟩⟩
  rcases hc : codeAmong pos pt.toList with _ | cv
  · refine PySem.W.kla_makeFunction (mg := X.mg) (c := c) (P := B) (ps := pt) cl I.ok.glob glb hcode hdc hat trip hc TB.gP blt ?_
    intro c2 ctv h' tk hx hge hlt hrec htb
    obtain ⟨c3, oc, vs, t', e3, g1, g2, g3⟩ := hrec
    cases e3
    have nC : H c2 = none := I.hok.fresh hge
    have I0 := inv_table (t' := tk) (more := #[rawInt pos.line, rawInt pos.col, .ref c2]) (h' := h') I hB hx htb hge ⟨oc, vs, t', g1, g2, g3⟩
    have stays : ExtN H (upd (upd H B (.tbl (pt ++ #[rawInt pos.line, rawInt pos.col, .ref c2]))) c2 (CodeO c2 (X.env.qual ++ "<lambda>"))) := by
      intro b o e n
      rw [upd_ne (ne_of_none e nC)]
      by_cases hb : b = B
      · subst hb
        rw [hB] at e
        exact absurd (Option.some.inj e).symm (n pt)
      · rw [upd_ne hb]; exact e
    have fresh : H h'.objs.size = none := I.hok.fresh (Nat.le_trans hge (Nat.le_of_lt hlt))
    refine tell (lay_lamN (t' := tk) (c' := c2) (ctv := ctv) I0) stays ?_ ?_ fresh upd_same
    · intro p hp
      by_cases hb : p.1 = B
      · rw [hu p hp hb, hb]
        refine ⟨pt ++ #[rawInt pos.line, rawInt pos.col, .ref c2], ?_, ?_, ?_⟩
        · rw [upd_ne (ne_of_none hB nC), upd_same]
        · rw [show (pt ++ #[rawInt pos.line, rawInt pos.col, .ref c2]).toList = pt.toList ++ [rawInt pos.line, rawInt pos.col, .ref c2] by simp]
          exact PySem.TriplesOk_snoc _ _ _ _ trip
        · intro p' cv' hcv
          rw [show (pt ++ #[rawInt pos.line, rawInt pos.col, .ref c2]).toList = pt.toList ++ [rawInt pos.line, rawInt pos.col, .ref c2] by simp] at hcv
          rcases among_app _ trip hcv with z | z
          · obtain ⟨c0, a1, a2⟩ := amg p' cv' z
            exact ⟨c0, a1, stays _ _ a2 codeO_ne⟩
          · exact ⟨c2, z, upd_same⟩
      · obtain ⟨qs, a1, a2, a3⟩ := hT p hp
        refine ⟨qs, ?_, a2, ?_⟩
        · rw [upd_ne (ne_of_none a1 nC), upd_ne hb]; exact a1
        · intro p' cv' hcv
          obtain ⟨c0, b1, b2⟩ := a3 p' cv' hcv
          exact ⟨c0, b1, stays _ _ b2 codeO_ne⟩
    · have n1 : h'.objs.size ≠ c2 := Nat.ne_of_gt hlt
      have n2 : h'.objs.size ≠ B := Nat.ne_of_gt (Nat.lt_of_lt_of_le (Heap.lt_size hat) (Nat.le_trans hge (Nat.le_of_lt hlt)))
      rw [upd_ne n1, upd_ne n2]
      exact fresh
  · obtain ⟨c2, e, hco⟩ := amg pos cv hc
    subst e
    refine PySem.W.kla_makeFunctionHit (mg := X.mg) (c := c) (P := B) (ps := pt) cl I.ok.glob glb hcode hdc hat trip hc blt ?_
    intro ctv h' tk hx hsz
    have I0 : Inv X pins σ H { s with heap := h', toks := tk } := I.kept hx
    exact tell (lay_lamN (t' := tk) (c' := c2) (ctv := ctv) I0) (ExtN.refl H) hT (I.hok.fresh hsz) (I.hok.fresh hsz) hco
end
end Lw
namespace Lw
open PySem PySem.Spec PyProof.Rows L2
open SX PySem.NumText TL LamX
abbrev sRW : Stmt := top 20
abbrev sRS : Stmt := top 25
/-! ### the sizes ahead of the first word that is none -/
def szO (w : List Nat) : Option Int := numV (.str (S w)) 1 (10 ^ 30)
def szI (w : List Nat) : Int := (szO w).getD 0
def lead (ws : List (List Nat)) : Nat := (ws.takeWhile fun w => (szO w).isSome).length
theorem lead_le (ws : List (List Nat)) : lead ws ≤ ws.length := (List.takeWhile_sublist _).length_le
theorem lead_lt : ∀ {ws : List (List Nat)} {i : Nat}, i < lead ws → ∃ w v, ws[i]? = some w ∧ szO w = some v
  | [], i, h => by unfold lead at h; simp at h
  | w :: r, i, h => by
    unfold lead at h
    rw [List.takeWhile_cons] at h
    split at h
    · rename_i hw
      cases i with
      | zero =>
        obtain ⟨v, hv⟩ := Option.isSome_iff_exists.mp hw
        exact ⟨w, v, rfl, hv⟩
      | succ i =>
        rw [List.length_cons] at h
        obtain ⟨w', v, h1, h2⟩ := lead_lt (ws := r) (i := i) (by unfold lead; omega)
        exact ⟨w', v, by simpa using h1, h2⟩
    · simp at h
theorem lead_at : ∀ {ws : List (List Nat)} {w : List Nat}, ws[lead ws]? = some w → szO w = none
  | [], w, h => by simp at h
  | x :: r, w, h => by
    unfold lead at h
    rw [List.takeWhile_cons] at h
    split at h
    · rename_i hx
      rw [List.length_cons, List.getElem?_cons_succ] at h
      exact lead_at (ws := r) h
    · rename_i hx
      simp at h
      subst h
      simpa using hx
def szV (ws : List (List Nat)) (i : Nat) : List V := (ws.take i).map fun w => V.int (szI w)
theorem szV_succ {ws : List (List Nat)} {i : Nat} {w : List Nat} {v : Int} (h : ws[i]? = some w) (e : szO w = some v) : szV ws (i + 1) = szV ws i ++ [.int v] := by
  unfold szV
  rw [List.take_add_one, h, List.map_append]
  show _ ++ [V.int (szI w)] = _
  unfold szI
  rw [e]; rfl
theorem sz47 : szO [47] = none := by decide +kernel
theorem sz59 : szO [59] = none := by decide +kernel
theorem via {tt : TT} {σ : L2.St} {H : Hp} {QQ : Bool → Hp → Prop} (Pj : Bool → Hp → Prop) (h1 : ∀ b H1, Pj b H1 → QQ b H1) (h2 : (∀ b H1, Pj b H1 → QQ b H1) → tt σ H QQ) : tt σ H QQ := h2 h1
/-- a refusal, the reader's record moved -/
def RfK (r : Addr) (D : Addr) (H : Hp) (E : XK) (n : Nat) : Prop := ∀ d fs H', Kp r H H' → H' d = none → fs.lookup ("line" : Str) = some (.int 0) → fs.lookup ("word" : Str) = some (.int n) → E (.ref D) (some d) (upd H' d (.xd fs))
def spL (K : PySem.W.Frag) : Sp := fun vs H Q _ => ∃ x, vs = [x] ∧ Anyv K H x ∧ TextOk x ∧ Q (optV (numV x 1 (10 ^ 30))) H
def WsOk (ws : List (List Nat)) : Prop := ws ≠ [] ∧ ws.length ≤ 20000 ∧ ∀ w ∈ ws, (∀ c ∈ w, c < 128) ∧ w.length ≤ 5000
def RwR (R D r l : Addr) (ws : List (List Nat)) (H : Hp) (Q : VK) (E : XK) : Prop :=
  (ws[0]? = some [45] → ∀ q H', Kp r H H' → H q = none → H' q = some (.lst []) → RdAt R H' r l ws 1 → Q (.ref q) H') ∧
  (ws[0]? ≠ some [45] → (∀ q H', Kp r H H' → H q = none → H' q = some (.lst (szV ws (lead ws))) → RdAt R H' r l ws (lead ws) → Q (.ref q) H') ∧ (lead ws < ws.length → RfK r D H E (lead ws)))
def spRW (P : Program) (w : World) (K : PySem.W.Frag) (mg : Str → Option Value) (base : Heap) (R D : Addr) : Sp := fun vs H Q E => ∃ r l ws f, vs = [.ref r, .ref f] ∧ RdAt R H r l ws 0 ∧ WsOk ws ∧ LamAt P w K mg base 4 ["word"] (spL K) H f ∧ RwR R D r l ws H Q E
theorem _root_.Lw.LamAt.butI {P : Program} {w : World} {K : PySem.W.Frag} {mg : Str → Option Value} {base : Heap} {k : Nat} {ps : List Str} {sp : Sp} {H H' : Hp} {f p C dx : Addr} {fs : List (Str × V)} (h : LamAt P w K mg base k ps sp H f) (hp : H p = some (.ins C dx fs)) (kp : Kp p H H') : LamAt P w K mg base k ps sp H' f := by
  obtain ⟨q, params, body, scope, c', h1, h2, a⟩ := h
  refine ⟨q, params, body, scope, c', kp _ _ (fun e => ?_) h1, kp _ _ (fun e => ?_) h2, a⟩
  · rw [e, hp] at h1
    unfold LamN at h1
    cases h1
  · rw [e, hp] at h2
    unfold CodeO at h2
    cases h2
theorem _root_.Lw.LamAt.butL {P : Program} {w : World} {K : PySem.W.Frag} {mg : Str → Option Value} {base : Heap} {k : Nat} {ps : List Str} {sp : Sp} {H H' : Hp} {f p : Addr} {xs : List V} (h : LamAt P w K mg base k ps sp H f) (hp : H p = some (.lst xs)) (kp : Kp p H H') : LamAt P w K mg base k ps sp H' f := by
  obtain ⟨q, params, body, scope, c', h1, h2, a⟩ := h
  refine ⟨q, params, body, scope, c', kp _ _ (fun e => ?_) h1, kp _ _ (fun e => ?_) h2, a⟩
  · rw [e, hp] at h1
    unfold LamN at h1
    cases h1
  · rw [e, hp] at h2
    unfold CodeO at h2
    cases h2
/-- the methods of the Reader, ready to be called -/
structure RdMs (P : Program) (w : World) (K : PySem.W.Frag) (mg : Str → Option Value) (base : Heap) (R D : Addr) : Prop where
  rc : RdC K R
  A : MetX P w K mg base 1 R "at_hand" (spRah R)
  T : MetX P w K mg base 5 R "take" (spRtk R D)
  X : MetX P w K mg base 7 R "expect" (spRex R)
  M : MetX P w K mg base 3 R "more" (spRmo R)
  F : MetX P w K mg base 5 R "finish" (spRfi R D)
section
variable {P : Program} {w : World} {K : PySem.W.Frag} {mg : Str → Option Value} {base : Heap}
theorem text_hand (ws : List (List Nat)) (n : Nat) (h : ∀ w ∈ ws, (∀ c ∈ w, c < 128) ∧ w.length ≤ 5000) : TextOk (handV ws n) := fun z e => by
  unfold handV at e
  cases hw : ws[n]? with
  | none => rw [hw] at e; cases e
  | some w =>
    rw [hw] at e
    cases e
    obtain ⟨h1, h2⟩ := h w (List.mem_of_getElem? hw)
    exact ⟨w, rfl, h1, h2⟩
theorem scRW : FnScope ["reader", "worth_of", "worths"] ["reader", "worth_of"] (C8.fnScope sRW) := C8.fnScope_by (by decide +kernel)
theorem fn_rw {R D f : Addr} {fd : FuncData} (F : C8.Def K mg "read_worths" sRW f fd) (T : Txt mg) (RM : RdMs P w K mg base R D) : FnOk P w K mg base (L2.CX P w) 9 f fd ["reader", "worth_of"] (spRW P w K mg base R D) := by
  obtain ⟨oc, od, dV, kV, doc, pm, an, cdv, ct, osl, rfl, lk, hcd⟩ := F.fn.ex
  refine fn_of lk hcd scRW (fun vs H Q E h => ?_) fun A outer s H vs Q E hr h => ?_
  · obtain ⟨r, l, ws, g, rfl, _⟩ := h
    rfl
  · obtain ⟨r, l, ws, g, rfl, at_, ⟨ne, hlen, wok⟩, lam, k1, k2⟩ := h
    refine ⟨_, (pss_cons (ps_set (i := 2) scRW.nd rfl (Or.inl rfl) (pe_lst pa_nil))
      (pss_cons (ps_if (pt_cmpR op_eq (pe_mx0 (E := C8.E0) (pv 0) RM.rc.cl RM.A hr (by decide) (passes_call takes0 (fun _ _ _ _ z => z))) pe_str (nomark _)) (pss_cons (ps_expr (pe_mx (E := C8.E0) (pv 0) RM.rc.cl RM.X hr (by decide) (passes_call takes0 (fun _ _ _ _ z => z)) (pa_cons pe_str pa_nil))) (pss_one (ps_ret (pv 2)))) pss_nil)
      (pss_cons (ps_while (passes_of rfl) (PW.pt (pw_or (pt_not (pt_truth (pv 2) (by intro _; rfl))) (pw_or1 (pt_val (pe_mx0 (E := C8.E0) (pv 0) RM.rc.cl RM.M hr (by decide) (passes_call takes0 (fun _ _ _ _ z => z))))))) 
        (pss_one (ps_expr (pe_bm PySem.F.plainAttrs_list PySem.F.slot_list_append PySem.F.type_list_append mt_append (pv 2) (pa_cons (pe_mx (pv 0) RM.rc.cl RM.T hr (by decide) (passes_call (takes_of rfl rfl rfl rfl) (fun _ _ _ _ z => z)) (pa_cons (pe_lamcallN (k := 4) (hr.mono (by decide)) (pv 1) (pa_cons (pe_mx0 (E := C8.E0) (pv 0) RM.rc.cl RM.A hr (by decide) (passes_call takes0 (fun _ _ _ _ z => z))) pa_nil)) pa_nil)) pa_nil)))))
      (pss_one (ps_ret (pv 2)))))), ?_⟩
    obtain ⟨w0, hw0⟩ : ∃ w0, ws[0]? = some w0 := by
      cases ws with
      | nil => exact absurd rfl ne
      | cons a b => exact ⟨a, rfl⟩
    refine ⟨(by show 0 ≤ sizeLine; decide), fun q fq => ?_⟩
    have s1 := same_new (o := HO.lst []) fq
    have at1 := at_.same s1
    have lam1 := lam.extn (ExtN.of s1)
    have hq1 : upd H q (.lst []) q = some (.lst []) := upd_same
    generalize upd H q (.lst []) = H1 at s1 at1 lam1 hq1 ⊢
    have kp1 : Kp r H H1 := Kp.of s1
    obtain ⟨⟨dx, hr1⟩, hl⟩ := id at1
    have e0 : handV ws 0 = .str (S w0) := by unfold handV; rw [hw0]
    have no : ∀ {n : Nat} {m : Str}, m ≠ "_words" → m ≠ "_row" → m ≠ "_at" → (rdF l n).lookup m = none := fun h1 h2 h3 => rdF_no l _ h1 h2 h3
    refine ⟨_, rfl, r, dx, _, rfl, hr1, no (by decide +kernel) (by decide +kernel) (by decide +kernel), r, l, ws, 0, rfl, at1, ?_⟩
    rw [e0]
    refine ⟨rfl, _, rfl, ite2 (fun c => ?_) (fun c => ?_)⟩
    · have e1 : w0 = [45] := S_inj (V.str.inj (of_decide_eq_true c))
      refine ⟨_, rfl, r, dx, _, rfl, hr1, no (by decide +kernel) (by decide +kernel) (by decide +kernel), r, l, ws, 0, _, rfl, at1, (by rw [e0, e1]; rfl), fun H2 k' a2 => ?_⟩
      have nq : q ≠ r := fun e => by rw [e, hr1] at hq1; cases hq1
      exact ⟨_, rfl, k1 (by rw [hw0, e1]) q H2 (kp1.trans k') fq (k' _ _ nq hq1) a2⟩
    · have n45 : ws[0]? ≠ some [45] := fun e => by
        rw [hw0] at e
        exact c (decide_eq_true (by rw [Option.some.inj e]; rfl))
      obtain ⟨kA, kB⟩ := k2 n45
      refine ⟨fun m σ' H' => ∃ i, m = lead ws + 1 - i ∧ i ≤ lead ws ∧ σ' = [some (.ref r), some (.ref g), some (.ref q)] ∧ Kp r H H' ∧ H' q = some (.lst (szV ws i)) ∧ RdAt R H' r l ws i ∧ LamAt P w K mg base 4 ["word"] (spL K) H' g, ⟨_, 0, rfl, Nat.zero_le _, rfl, kp1, hq1, at1, lam1⟩, ?_⟩
      rintro m σ' H' ⟨i, rfl, hi, rfl, kp', hq', at', lam'⟩
      obtain ⟨⟨dx', hr'⟩, hl'⟩ := id at'
      have lw := lead_le ws
      refine via (fun b H2 => Same H' H2 ∧ (b = true → i < ws.length) ∧ (b = false → i = lead ws)) ?_ (fun go => ?_)
      · rintro b H2 ⟨s2, h1, h2⟩
        have hq2 := s2 _ _ hq'
        have at2 := at'.same s2
        have kp2 := kp'.trans (Kp.of s2)
        have lam2 := lam'.extn (ExtN.of s2)
        have hr2 := s2 _ _ hr'
        cases b with
        | false =>
          refine iteF ?_
          have ei := h2 rfl
          subst ei
          exact ⟨_, rfl, kA q H2 kp2 fq hq2 at2⟩
        | true =>
          refine iteT ?_
          have il := h1 rfl
          refine ⟨fun σ' H3 => i < lead ws ∧ σ' = [some (.ref r), some (.ref g), some (.ref q)] ∧ Kp r H H3 ∧ H3 q = some (.lst (szV ws (i + 1))) ∧ RdAt R H3 r l ws (i + 1) ∧ LamAt P w K mg base 4 ["word"] (spL K) H3 g, ?_, ?_⟩
          · rintro σ' H3 ⟨z1, z2⟩
            exact ⟨_, by omega, i + 1, rfl, z1, z2⟩
          refine ⟨_, rfl, .inl ⟨rfl, _, SqL.of hq2⟩, _, rfl, r, dx', _, rfl, hr2, no (by decide +kernel) (by decide +kernel) (by decide +kernel), ?_⟩
          refine ⟨_, rfl, g, ["word"], spL K, rfl, lam2, ?_⟩
          refine ⟨_, rfl, r, dx', _, rfl, hr2, no (by decide +kernel) (by decide +kernel) (by decide +kernel), r, l, ws, i, rfl, at2, lam2, handV ws i, rfl, hand_any _ _ _ _, text_hand ws i wok, ?_⟩
          refine ⟨r, l, ws, i, _, rfl, at2, ?_⟩
          by_cases hlt : i < lead ws
          · obtain ⟨w', v, hw', hv⟩ := lead_lt hlt
            have eh : handV ws i = .str (S w') := by unfold handV; rw [hw']
            have ex : optV (numV (handV ws i) 1 (10 ^ 30)) = .int v := by
              rw [eh]
              show optV (szO w') = _
              rw [hv]; rfl
            rw [ex]
            refine ⟨fun e => (by cases e), fun _ H3 k3 a3 => ?_⟩
            have nq : q ≠ r := fun e => by rw [e, hr2] at hq2; cases hq2
            refine ⟨q, _, _, rfl, rfl, k3 _ _ nq hq2, ?_, ?_⟩
            · unfold szV
              rw [List.length_map]
              exact Nat.lt_of_le_of_lt (Nat.le_trans (List.length_take_le _ _) (show i ≤ 20000 by omega)) (by decide)
            · have nl : l ≠ q := ne_of_none at_.2 fq
              have hq3 := k3 _ _ nq hq2
              refine ⟨hlt, rfl, fun b o hb e => ?_, ?_, ⟨?_, ?_⟩, ?_⟩
              · rw [upd_ne (ne_of_none e fq)]
                exact k3 _ _ hb (kp2 _ _ hb e)
              · rw [upd_same, szV_succ hw' hv]
              · obtain ⟨⟨dy, y1⟩, _⟩ := a3
                exact ⟨dy, by rw [upd_ne nq.symm]; exact y1⟩
              · rw [upd_ne nl]
                exact a3.2
              · exact (lam2.butI hr2 k3).butL hq3 fun b o hb e => by rw [upd_ne hb]; exact e
          · have ei : i = lead ws := by omega
            have ex : optV (numV (handV ws i) 1 (10 ^ 30)) = .non := by
              have eh : handV ws i = .str (S ws[i]) := by unfold handV; rw [List.getElem?_eq_getElem il]
              rw [eh]
              have : szO ws[i] = none := lead_at (ws := ws) (by rw [← ei]; exact List.getElem?_eq_getElem il)
              show optV (szO ws[i]) = _
              rw [this]; rfl
            rw [ex]
            refine ⟨fun _ d fs H3 s3 hd f1 f2 => ?_, fun h => absurd rfl h⟩
            rw [ei] at f2
            exact kB (by omega) d fs H3 (kp2.trans (Kp.of s3)) hd f1 f2
      · refine ⟨_, rfl, _, .inl ⟨_, SqL.of hq', rfl⟩, ?_⟩
        by_cases i0 : i = 0
        · subst i0
          refine iteT (go _ _ ⟨Same.refl _, fun _ => ?_, fun e => (by cases e)⟩)
          cases ws with
          | nil => exact absurd rfl ne
          | cons a b => simp
        · have nz : (szV ws i).isEmpty = false := by
            have hlen : (szV ws i).length = i := by
              unfold szV
              rw [List.length_map, List.length_take]
              omega
            cases hz : szV ws i with
            | nil => rw [hz] at hlen; exact absurd hlen.symm i0
            | cons a b => rfl
          rw [nz]
          refine iteF ⟨_, rfl, r, dx', _, rfl, hr', no (by decide +kernel) (by decide +kernel) (by decide +kernel), r, l, ws, i, rfl, at', fun H2 s2 => ⟨_, rfl, go _ _ ⟨s2, fun e => ?_, fun e => ?_⟩⟩⟩
          · unfold moreB at e
            cases hw : ws[i]? with
            | none => rw [hw] at e; cases e
            | some w' => exact (List.getElem?_eq_some_iff.mp hw).1
          · refine Classical.byContradiction fun z => ?_
            obtain ⟨w', v, hw', hv⟩ := lead_lt (ws := ws) (i := i) (by omega)
            unfold moreB at e
            rw [hw'] at e
            dsimp only at e
            have n1 : w' ≠ [47] := fun z => by rw [z] at hv; exact absurd hv (by rw [sz47]; exact fun y => by cases y)
            have n2 : w' ≠ [59] := fun z => by rw [z] at hv; exact absurd hv (by rw [sz59]; exact fun y => by cases y)
            rw [decide_eq_false n1, decide_eq_false n2] at e
            cases e
end
end Lw
namespace Lw
open PySem PySem.Spec PyProof.Rows L2
open SX PySem.NumText TL LamX
structure DefC (K : PySem.W.Frag) (mg : Str → Option Value) (x : Str) (st : Stmt) (f : Addr) (fd : FuncData) (c : Addr) : Prop where
  ex : ∃ (oc : Value) (od : Option Addr) (dV kV doc pm : Value) (an : Option Addr) (ct : Value) (osl : Array (Option Value)),
    fd = PySem.W.fnOf x x (C8.fnArgs st) (C8.fnBody st) (C8.fnScope st) dV kV doc pm an (.ref c) ct ∧ K.lookup f = some ⟨oc, od, .func fd, osl⟩ ∧ PySem.W.codeIn K (.ref c) x = true
  mgf : mg x = some (.ref f)
  kp : PySem.W.keepIn K (.ref f) = true
theorem calGC {P : Program} {w : World} {K : PySem.W.Frag} {mg : Str → Option Value} {base : Heap} {x : Str} {st : Stmt} {f c : Addr} {fd : FuncData} {N ps : List Str} {ds : List Value} {dvs : List V} {k : Nat} {sp : Sp} (F : DefC K mg x st f fd c) (b : Binds K fd ps ds) (d : Vals dvs ds) (S : FnScope N ps (C8.fnScope st)) (len : ∀ vs H Q E, sp vs H Q E → vs.length = ps.length)
    (body : ∀ (A : Around) (outer : List Env) (s : Shared) (H : Hp) (vs : List V) (Q : VK) (E : XK), (A.deeper (envOfC x (C8.fnScope st) s.heap.objs.size f (.ref c))).guards = some [] → Room k (A.deeper (envOfC x (C8.fnScope st) s.heap.objs.size f (.ref c))) → sp vs H Q E →
      ∃ t, PSs (cxOf C8.CX0 P w K mg base N x (C8.fnScope st) f (.ref c) A outer s H E).nox (C8.fnBody st) t ∧ t { nx := fun _ H' => Q .non H', rt := Q } (start N vs) H) : CalG P w K mg base (k + 1) x sp dvs := by
  refine ⟨f, fd, ps, ds, ⟨len, ?_⟩, F.mgf, F.kp, b, d⟩
  intro A outer s H args us vs Q E hg hr e0 hb r hs
  obtain ⟨oc, od, dV, kV, doc, pm, an, ct, osl, rfl, lk, hcd⟩ := F.ex
  refine LamX.run_ofS lk hcd S hr e0 hb r (len _ _ _ _ hs) fun hr' => ?_
  obtain ⟨t, h1, h2⟩ := body A outer s H vs Q E hg hr' hs
  exact ⟨t, h1.nox, h2⟩
theorem Tabs.put {T : List (Addr × Str)} {H : Hp} {l : Addr} {o : HO} {xs : List V} (t : Tabs T H) (hl : H l = some (.lst xs)) : Tabs T (upd H l o) := by
  intro q hq
  obtain ⟨ps, h1, h2, h3⟩ := t q hq
  refine ⟨ps, ?_, h2, fun pos cv hc => ?_⟩
  · rw [upd_ne (fun e => by rw [e, hl] at h1; cases h1)]; exact h1
  · obtain ⟨c, e1, e2⟩ := h3 pos cv hc
    refine ⟨c, e1, ?_⟩
    rw [upd_ne (fun e => by rw [e, hl] at e2; unfold CodeO at e2; cases e2)]; exact e2
theorem Tabs.kp {T : List (Addr × Str)} {p pl : Addr} {n : Nat} {H H' : Hp} (t : Tabs T H) (hp : Pen H p pl n) (k : Kp p H H') : Tabs T H' := by
  intro q hq
  obtain ⟨ps, h1, h2, h3⟩ := t q hq
  obtain ⟨xs, a, g, hh, _⟩ := hp
  refine ⟨ps, k _ _ (fun e => ?_) h1, h2, fun pos cv hc => ?_⟩
  · rw [e, hh.at_] at h1; cases h1
  · obtain ⟨c, e1, e2⟩ := h3 pos cv hc
    refine ⟨c, e1, k _ _ (fun e => ?_) e2⟩
    rw [e, hh.at_] at e2
    unfold CodeO at e2
    cases e2
theorem Pen.extn {H H' : Hp} {p l : Addr} {n : Nat} (h : Pen H p l n) (e : ExtN H H') : Pen H' p l n := by
  obtain ⟨xs, a, g, ⟨h1, h2, h3, h4, h5⟩, h6⟩ := h
  have nl : ∀ (ys : List V) ps, HO.lst ys ≠ .tbl ps := fun ys ps z => by cases z
  exact ⟨xs, a, g, ⟨e _ _ h1 (nl _), e _ _ h2 (nl _), h3, h4, h5⟩, h6⟩
/-- the tables of lambdas: of read_sizes, of _law_right, of law -/
abbrev tabT (B0 B1 B2 : Addr) : List (Addr × Str) := [(B0, (("read_sizes" : Str) ++ (".<locals>." : Str)) ++ ("<lambda>" : Str)), (B1, (("_law_right" : Str) ++ (".<locals>." : Str)) ++ ("<lambda>" : Str)), (B2, (("law" : Str) ++ (".<locals>." : Str)) ++ ("<lambda>" : Str))]
structure Apart3 (B0 B1 B2 : Addr) : Prop where
  n01 : B1 ≠ B0
  n02 : B2 ≠ B0
  n12 : B2 ≠ B1
theorem tabT_0 {B0 B1 B2 : Addr} (n : Apart3 B0 B1 B2) (p : Addr × Str) (hp : p ∈ tabT B0 B1 B2) (e : p.1 = B0) : p.2 = (("read_sizes" : Str) ++ (".<locals>." : Str)) ++ ("<lambda>" : Str) := by
  simp only [List.mem_cons, List.not_mem_nil, or_false] at hp
  rcases hp with rfl | rfl | rfl
  · rfl
  · exact absurd e n.n01
  · exact absurd e n.n02
theorem tabT_1 {B0 B1 B2 : Addr} (n : Apart3 B0 B1 B2) (p : Addr × Str) (hp : p ∈ tabT B0 B1 B2) (e : p.1 = B1) : p.2 = (("_law_right" : Str) ++ (".<locals>." : Str)) ++ ("<lambda>" : Str) := by
  simp only [List.mem_cons, List.not_mem_nil, or_false] at hp
  rcases hp with rfl | rfl | rfl
  · exact absurd e.symm n.n01
  · rfl
  · exact absurd e n.n12
theorem tabT_2 {B0 B1 B2 : Addr} (n : Apart3 B0 B1 B2) (p : Addr × Str) (hp : p ∈ tabT B0 B1 B2) (e : p.1 = B2) : p.2 = (("law" : Str) ++ (".<locals>." : Str)) ++ ("<lambda>" : Str) := by
  simp only [List.mem_cons, List.not_mem_nil, or_false] at hp
  rcases hp with rfl | rfl | rfl
  · exact absurd e.symm n.n02
  · exact absurd e.symm n.n12
  · rfl
/-- all but what stands at r, and the tables, is as it was -/
def KpN (r : Addr) (H H' : Hp) : Prop := ∀ b o, b ≠ r → H b = some o → (∀ ps, o ≠ .tbl ps) → H' b = some o
def RsR (R D r l : Addr) (T : List (Addr × Str)) (ws : List (List Nat)) (H : Hp) (Q : VK) (E : XK) : Prop :=
  (ws[0]? = some [45] → ∀ q H', KpN r H H' → Tabs T H' → H' q = some (.lst []) → RdAt R H' r l ws 1 → Q (.ref q) H') ∧
  (ws[0]? ≠ some [45] → (∀ q H', KpN r H H' → Tabs T H' → H' q = some (.lst (szV ws (lead ws))) → RdAt R H' r l ws (lead ws) → Q (.ref q) H') ∧
    (lead ws < ws.length → ∀ d fs H', KpN r H H' → Tabs T H' → H' d = none → fs.lookup ("line" : Str) = some (.int 0) → fs.lookup ("word" : Str) = some (.int (lead ws)) → E (.ref D) (some d) (upd H' d (.xd fs))))
def spRS (R D : Addr) (T : List (Addr × Str)) : Sp := fun vs H Q E => ∃ r l ws, vs = [.ref r] ∧ RdAt R H r l ws 0 ∧ WsOk ws ∧ Tabs T H ∧ RsR R D r l T ws H Q E
theorem Tabs.kpI {T : List (Addr × Str)} {H H' : Hp} {r C dx : Addr} {fs : List (Str × V)} (t : Tabs T H) (hr : H r = some (.ins C dx fs)) (k : Kp r H H') : Tabs T H' := by
  intro q hq
  obtain ⟨ps, h1, h2, h3⟩ := t q hq
  refine ⟨ps, k _ _ (fun e => ?_) h1, h2, fun pos cv hc => ?_⟩
  · rw [e, hr] at h1; cases h1
  · obtain ⟨c, e1, e2⟩ := h3 pos cv hc
    refine ⟨c, e1, k _ _ (fun e => ?_) e2⟩
    rw [e, hr] at e2
    unfold CodeO at e2
    cases e2
theorem KpN.of {r : Addr} {H H1 H2 : Hp} (x : ExtN H H1) (k : Kp r H1 H2) : KpN r H H2 := fun b o hb e n => k b o hb (x b o e n)
section
variable {P : Program} {w : World} {K : PySem.W.Frag} {mg : Str → Option Value} {base : Heap}
theorem scRS : FnScope ["reader"] ["reader"] (C8.fnScope sRS) := C8.fnScope_by (by decide +kernel)
theorem fn_rs {R D f fW c B0 B1 B2 : Addr} {fd fdW : FuncData} (F : DefC K mg "read_sizes" sRS f fd c) (T : Txt mg) (TB : TabB base mg c B0) (n : Apart3 B0 B1 B2) (DN : C8.Cal P w K mg base 3 "number_of" (spNumOf K) []) (DW : C8.Def K mg "read_worths" sRW fW fdW) (bW : Binds K fdW ["reader", "worth_of"] []) (FW : FnOk P w K mg base (L2.CX P w) 9 fW fdW ["reader", "worth_of"] (spRW P w K mg base R D)) :
    FnOk P w K mg base (L2.CX P w) 11 f fd ["reader"] (spRS R D (tabT B0 B1 B2)) := by
  obtain ⟨oc, od, dV, kV, doc, pm, an, ct, osl, rfl, lk, hcd⟩ := F.ex
  obtain ⟨tg, hGS⟩ := T.c_GS
  refine fn_of lk hcd scRS (fun vs H Q E h => ?_) fun A outer s H vs Q E hr h => ?_
  · obtain ⟨r, l, ws, rfl, _⟩ := h
    rfl
  · obtain ⟨r, l, ws, rfl, at_, wo, ht, k1, k2⟩ := h
    refine ⟨_, (pss_one (ps_ret (pe_call FW (hr.mono (by decide)) (by rfl) DW.mgf DW.kp bW .nil (passes_call (takes_of rfl rfl rfl rfl) (fun _ _ _ _ z => z)) (pa_cons (pv 0) (pa_cons (pe_lamN (k := 4) (ps := ["word"]) (sp := spL K) (T := tabT B0 B1 B2) TB rfl (List.Mem.head _) (tabT_0 n) rfl (by decide) rfl
      (fun fl cl => ⟨C8.fnScope_by (by decide +kernel), fun pm cv ctv us hl => (match us, hl with | [_], _ => rfl), fun vs H Q E h => (by obtain ⟨x, rfl, _⟩ := h; rfl), fun A out s H vs Q hr2 h => ⟨_, C8.pe_c DN hr2 (by decide) (by rfl) (pa_cons (pv 0) (pa_cons pe_int (pa_cons (pe_glob (v := .int (10 ^ 30)) rfl hGS ⟨_, rfl⟩) pa_nil))), (by
        obtain ⟨x, rfl, av, tx, q⟩ := h
        exact ⟨_, rfl, x, 1, 10 ^ 30, rfl, av, tx, q⟩)⟩⟩)) pa_nil))))), ?_⟩
    obtain ⟨⟨dx, hr1⟩, hl⟩ := id at_
    refine ⟨_, rfl, ht, fun g H1 x1 t1 ng lam => ?_⟩
    have hrT : H1 r = some (.ins R dx (rdF l 0)) := x1 _ _ hr1 fun ps z => by cases z
    have at1 : RdAt R H1 r l ws 0 := ⟨⟨dx, hrT⟩, x1 _ _ hl fun ps z => by cases z⟩
    refine ⟨r, l, ws, g, rfl, at1, wo, lam, fun h q H2 kp fq hq a2 => ?_, fun h => ⟨fun q H2 kp fq hq a2 => ?_, fun hlt d fs H2 kp hd f1 f2 => ?_⟩⟩
    · exact k1 h q H2 (KpN.of x1 kp) (Lw.Tabs.kpI t1 hrT kp) hq a2
    · exact (k2 h).1 q H2 (KpN.of x1 kp) (Lw.Tabs.kpI t1 hrT kp) hq a2
    · exact (k2 h).2 hlt d fs H2 (KpN.of x1 kp) (Lw.Tabs.kpI t1 hrT kp) hd f1 f2
end
end Lw
namespace Lw
open PySem PySem.Spec PyProof.Rows L2
open SX PySem.NumText TL LamX ClX StX
abbrev sCI : Stmt := inClass (top 22) 1
abbrev sCM : Stmt := top 23
/-! ### Chunks, made -/
/-- its attributes -/
def chF (p : Addr) (t : Int) (e r : Addr) : List (Str × V) := putF "rests" (.ref r) (putF "ends" (.ref e) (putF "total" (.int t) (putF "sizes" (.ref p) [])))
theorem chF_sizes (p : Addr) (t : Int) (e r : Addr) : (chF p t e r).lookup ("sizes" : Str) = some (.ref p) := by
  unfold chF
  rw [lookup_putF, if_neg (by decide +kernel), lookup_putF, if_neg (by decide +kernel), lookup_putF, if_neg (by decide +kernel), lookup_putF, if_pos rfl]
/-- the class's constant, the error's class -/
structure ChC (P : Program) (w : World) (K : PySem.W.Frag) (mg : Str → Option Value) (base : Heap) (CC DM : Addr) (mc : Value) : Prop where
  r : CRead K CC mc
  m : ∃ u, CVal K CC mc "MOST" (.int 5000) u
  hm : mg "Chunks" = some (.ref CC)
  cl : Cls K CC
  n1 : NoAttr K CC "sizes"
  n2 : NoAttr K CC "total"
  n3 : NoAttr K CC "ends"
  n4 : NoAttr K CC "rests"
/-- too many chunks -/
def Mf (DM : Addr) (H : Hp) (E : XK) : Prop := ∀ d fs H', Same H H' → H' d = none → fs.lookup ("what" : Str) = some (.str (Str.ofString "chunks")) → fs.lookup ("most" : Str) = some (.int 5000) → E (.ref DM) (some d) (upd H' d (.xd fs))
def spCM (DM : Addr) : Sp := fun vs H Q E => ∃ m : Int, vs = [.int m] ∧ (m ≤ 5000 → Q .non H) ∧ (5000 < m → Mf DM H E)
def SzOk (ns : List Int) : Prop := (∀ v ∈ ns, 1 ≤ v ∧ v ≤ 10 ^ 30) ∧ ns.length ≤ 20000
def spCI (CC DM : Addr) : Sp := fun vs H Q E => ∃ (x dx p : Addr) (ns : List Int), vs = [.ref x, .ref p] ∧ H x = some (.ins CC dx []) ∧ H p = some (.tup (ns.map V.int)) ∧ SzOk ns ∧
  (ns.length ≤ 5000 → ∀ t e r H', Kp x H H' → H' x = some (.ins CC dx (chF p t e r)) → Q .non H') ∧ (5000 < ns.length → Mf DM H E)
section
variable {P : Program} {w : World} {K : PySem.W.Frag} {mg : Str → Option Value} {base : Heap}
theorem scCM : FnScope ["many"] ["many"] (C8.fnScope sCM) := C8.fnScope_by (by decide +kernel)
theorem fn_cm {CC DM fE f : Addr} {mc : Value} {fd fdE : FuncData} (F : C8.Def K mg "check_many" sCM f fd) (Z : ChC P w K mg base CC DM mc) (ER : Err2 "TooMany" "what" "most" P w K mg base DM fE fdE) : FnOk P w K mg base (L2.CX P w) 3 f fd ["many"] (spCM DM) := by
  obtain ⟨oc, od, dV, kV, doc, pm, an, cdv, ct, osl, rfl, lk, hcd⟩ := F.fn.ex
  obtain ⟨u, hu⟩ := Z.m
  refine fn_of lk hcd scCM (fun vs H Q E h => ?_) fun A outer s H vs Q E hr h => ?_
  · obtain ⟨m, rfl, _⟩ := h
    rfl
  · obtain ⟨m, rfl, k1, k2⟩ := h
    have tk : Takes (cxOf (L2.CX P w) P w K mg base ["many"] "check_many" (C8.fnScope sCM) f cdv A outer s H E) (fun cls d _ H' => E cls d H') := takes_of rfl rfl rfl rfl
    refine ⟨_, (pss_one (ps_if (pt_cmpR op_gt (pv 0) (pe_cval (pe_glob (v := .ref CC) (by rfl) Z.hm rfl)) (nomark _)) (pss_one (ps_bad2 (x := "TooMany") rfl tk ER.T ER.iC ER.tI ER.F hr ER.b (by rfl) ER.hm pe_str (pe_cval (pe_glob (v := .ref CC) (by rfl) Z.hm rfl)))) pss_nil)), ?_⟩
    refine ⟨_, rfl, CC, mc, _, u, rfl, Z.r, hu, _, _, rfl, rfl, _, rfl, ite2 (fun c => ?_) (fun c => ?_)⟩
    · refine ⟨CC, mc, _, u, rfl, Z.r, hu, ?_⟩
      exact bad_leaf2 fun d fs hd e1 e2 => k2 (of_decide_eq_true c) d fs H (Same.refl _) hd e1 e2
    · exact k1 (by have := of_decide_eq_false (Bool.eq_false_iff.mpr c); omega)
theorem scCI : FnScope ["self", "sizes", "size", "ends", "done", "end"] (([("self" : Str)] : List Str) ++ [("sizes" : Str)]) (C8.fnScope sCI) := C8.fnScope_by (by decide +kernel)
theorem fn_ci {CC DM fM f : Addr} {mc : Value} {fd fdM : FuncData} (F : C8.Fun K "__init__" "Chunks.__init__" sCI f fd) (df : fd.defaults = .none) (T : Txt mg) (hz : mg "zip" = none) (htu : mg "tuple" = none) (Z : ChC P w K mg base CC DM mc) (DS : C8.Cal P w K mg base 3 "is_size" (spSize K) []) (DM' : C8.Def K mg "check_many" sCM fM fdM) (bM : Binds K fdM ["many"] []) (FM : FnOk P w K mg base (L2.CX P w) 3 fM fdM ["many"] (spCM DM)) :
    FnR P w K mg base (L2.CX P w) 5 f (fun vs H Q E => ∃ ws rest, vs = ws ++ rest ∧ ws.length = ["self"].length ∧ rest.length ≤ sizeLine ∧ ∀ p, H p = none → spCI CC DM (ws ++ [V.ref p]) (upd H p (.tup rest)) Q E) := by
  obtain ⟨oc, od, dV, kV, doc, pm, an, cdv, ct, osl, rfl, lk, hcd⟩ := F.ex
  have e0 : dV = .none := df
  subst e0
  refine fn_star (ps := ["self"]) (pv := "sizes") lk hcd scCI cxUp (fun us rest hl => bind_star1 (p1 := "self") (pv := "sizes") (B := fun zs => bindArgs _ ⟨zs, []⟩) (fun a => rfl) (fun a r rs => rfl) us rest hl) fun A outer s H vs Q E hr h => ?_
  obtain ⟨x, dx, p, ns, rfl, hx, hp, ⟨so, sl⟩, k1, k2⟩ := h
  refine ⟨_, (pss_cons (ps_for (passes_of rfl) rfl (pi_tup (pv 1)) (pg_name (i := 2) scCI.nd rfl (Or.inl rfl)) (pss_one (ps_if (pt_not (pt_val (C8.pe_c DS hr (by decide) (by rfl) (pa_cons (pv 2) pa_nil)))) (pss_one ps_never) pss_nil)))
    (pss_cons (ps_expr (pe_call FM (hr.mono (by decide)) (by rfl) DM'.mgf DM'.kp bM .nil (passes_call (takes_of rfl rfl rfl rfl) (fun _ _ _ _ z => z)) (pa_cons (pe_callB call_len_seq (by rfl) T.n_len (by decide +kernel) (pa_cons (pv 1) pa_nil)) pa_nil)))
    (pss_cons (ps_set (i := 3) scCI.nd rfl (Or.inl rfl) (pe_lst pa_nil))
    (pss_cons (ps_set (i := 4) scCI.nd rfl (Or.inr rfl) pe_int)
    (pss_cons (ps_for (passes_of rfl) rfl (pi_tup (pv 1)) (pg_name (i := 2) scCI.nd rfl (Or.inl rfl)) (pss_cons (ps_set (i := 4) scCI.nd rfl (Or.inr rfl) (pe_op op_add (pv 4) (pv 2))) (pss_one (ps_expr (pe_bm PySem.F.plainAttrs_list PySem.F.slot_list_append PySem.F.type_list_append mt_append (pv 3) (pa_cons (pv 4) pa_nil))))))
    (pss_cons (ps_fld (pv 0) (pv 1) rfl)
    (pss_cons (ps_fld (pv 0) (pv 4) rfl)
    (pss_cons (ps_fld (pv 0) (pe_callTy call_tuple_of (by rfl) htu (by decide +kernel) (pa_cons (pv 3) pa_nil)) rfl)
    (pss_one (ps_fld (pv 0) (pe_callTy call_tuple_of (by rfl) htu (by decide +kernel) (pa_cons (pe_lc (own := [("end", 5), ("size", 2)]) (g := gTup K 2 (gCons (gName 5) (gCons (gName 2) (gNil)))) (tt := tYes) rfl scCI.nd (Zm.pi_zipM (by rfl) hz (pa_cons (pv 3) (pa_cons (pv 1) pa_nil))) (blkOk_by (own := [("end", 5), ("size", 2)]) (N := ["self", "sizes", "size", "ends", "done", "end"]) (sc := (C8.fnScope sCI)) (by decide +kernel)) (fun _ _ _ _ _ => pg_tup rfl (pgs_cons (pg_name (i := 5) scCI.nd rfl (Or.inl rfl)) (pgs_cons (pg_name (i := 2) scCI.nd rfl (Or.inl rfl)) pgs_nil))) (fun _ _ _ _ _ => pts_nil) (fun _ _ _ _ _ => (pe_op op_add (pe_op op_sub (pv 4) (pv 5)) (pv 2)))) pa_nil)) rfl)))))))))), ?_⟩
  have hlen : (ns.map V.int).length = ns.length := List.length_map _
  have xp : x ≠ p := fun e => by rw [e, hp] at hx; cases hx
  have gets : ∀ {i : Nat} {y : V}, (ns.map V.int)[i]? = some y → ∃ v, y = .int v ∧ 1 ≤ v ∧ v ≤ 10 ^ 30 := fun {i y} e => by
    obtain ⟨v, hv, rfl⟩ := List.mem_map.mp (List.mem_of_getElem? e)
    exact ⟨v, rfl, so v hv⟩
  refine ⟨_, rfl, p, rfl, ⟨_, SqT.of hp⟩, for_tup (xs := ns.map V.int) (fun i σ' H' => ∃ v, σ' = [some (.ref x), some (.ref p), v, none, none, none] ∧ H' = H) ⟨_, rfl, rfl⟩ (fun i σ' H' _ h => by obtain ⟨v, _, rfl⟩ := h; exact SqT.of hp) ?_ ?_⟩
  · rintro i y σ' H' hy ⟨v, rfl, rfl⟩
    obtain ⟨v0, rfl, b1, b2⟩ := gets hy
    exact ⟨_, rfl, .int v0, rfl, .int v0, _, rfl, iteF' (by show (!(decide (1 ≤ v0) && decide (v0 ≤ 10 ^ 30))) = false; rw [decide_eq_true b1, decide_eq_true b2]; rfl) ⟨_, rfl, rfl⟩⟩
  · rintro σ1 H1 ⟨v1, rfl, rfl⟩
    refine ⟨_, rfl, p, _, rfl, .inr (SqT.of hp), _, rfl, fun hm => ?_, fun hm => k2 (by rw [hlen] at hm; omega)⟩
    have lm : ns.length ≤ 5000 := by rw [hlen] at hm; omega
    refine ⟨(by show 0 ≤ sizeLine; decide), fun q fq => ?_⟩
    have s1 := same_new (o := HO.lst []) fq
    have hq1 : upd H1 q (.lst []) q = some (.lst []) := upd_same
    generalize upd H1 q (.lst []) = H2 at s1 hq1 ⊢
    dsimp only [gName, tSeq]
    refine ⟨_, rfl, p, rfl, ⟨_, SqT.of (s1 _ _ hp)⟩, for_tup (xs := ns.map V.int) (fun i σ' H' => ∃ (v : Option V) (t : Int) (es : List Int), σ' = [some (.ref x), some (.ref p), v, some (.ref q), some (.int t), none] ∧ Same H1 H' ∧ H' q = some (.lst (es.map V.int)) ∧ es.length = i) ⟨_, _, [], rfl, s1, hq1, rfl⟩ (fun i σ' H' _ h => by obtain ⟨v, t, es, _, s', _⟩ := h; exact SqT.of (s' _ _ hp)) ?_ ?_⟩
    · rintro i y σ' H' hy ⟨v, t, es, rfl, s', hq', el⟩
      obtain ⟨v0, rfl, _, _⟩ := gets hy
      have hi : i < 20000 := by
        have := (List.getElem?_eq_some_iff.mp hy).1
        rw [hlen] at this
        omega
      refine ⟨_, rfl, _, rfl, _, _, rfl, rfl, ?_⟩
      refine ⟨_, rfl, .inl ⟨rfl, _, SqL.of hq'⟩, _, rfl, q, _, _, rfl, rfl, hq', ?_, ?_⟩
      · rw [List.length_map, el]
        exact Nat.lt_of_lt_of_le hi (by decide)
      · refine ⟨_, _, es ++ [t + v0], rfl, fun b o e => ?_, ?_, ?_⟩
        · rw [upd_ne (ne_of_none e fq)]
          exact s' _ _ e
        · rw [upd_same, List.map_append]; rfl
        · rw [List.length_append, el]; rfl
    · rintro σ2 H3 ⟨v, t, es, rfl, s3, hq3, el⟩
      rw [hlen] at el
      have xq : x ≠ q := fun e => by rw [e, fq] at hx; cases hx
      have hx3 := s3 _ _ hx
      have hp3 := s3 _ _ hp
      refine ⟨_, rfl, _, rfl, x, CC, dx, [], rfl, hx3, Z.cl, Z.n1, (by show 0 < 1000; decide), ?_⟩
      refine ⟨_, rfl, _, rfl, x, CC, dx, _, rfl, upd_same, Z.cl, Z.n2, (by show 1 < 1000; decide), ?_⟩
      rw [upd_upd]
      have f2 : (putF "total" (.int t) (putF "sizes" (.ref p) [])).length < 900 := Nat.lt_of_le_of_lt (Nat.le_trans (putF_len _ _ _) (Nat.add_le_add_right (putF_len _ _ _) 1)) (by decide)
      have kp4 : Kp x H1 (upd H3 x (.ins CC dx (putF "total" (.int t) (putF "sizes" (.ref p) [])))) := fun b o hb e => by rw [upd_ne hb]; exact s3 _ _ e
      have hx4 : upd H3 x (.ins CC dx (putF "total" (.int t) (putF "sizes" (.ref p) []))) x = some (.ins CC dx (putF "total" (.int t) (putF "sizes" (.ref p) []))) := upd_same
      have hq4 : upd H3 x (.ins CC dx (putF "total" (.int t) (putF "sizes" (.ref p) []))) q = some (.lst (es.map V.int)) := by rw [upd_ne xq.symm]; exact hq3
      have hp4 : upd H3 x (.ins CC dx (putF "total" (.int t) (putF "sizes" (.ref p) []))) p = some (.tup (ns.map V.int)) := by rw [upd_ne xp.symm]; exact hp3
      generalize hg : putF "total" (.int t) (putF "sizes" (.ref p) []) = fs at *
      generalize upd H3 x (.ins CC dx fs) = H4 at *
      refine ⟨_, rfl, q, _, rfl, .inl ⟨SqL.of hq4, fun e1 fe => ?_⟩⟩
      have s5 := same_new (o := HO.tup (es.map V.int)) fe
      refine ⟨_, rfl, x, CC, dx, fs, rfl, s5 _ _ hx4, Z.cl, Z.n3, by omega, ?_⟩
      have hx6 : upd (upd H4 e1 (.tup (es.map V.int))) x (.ins CC dx (putF "ends" (.ref e1) fs)) x = some (.ins CC dx (putF "ends" (.ref e1) fs)) := upd_same
      have hq6 : upd (upd H4 e1 (.tup (es.map V.int))) x (.ins CC dx (putF "ends" (.ref e1) fs)) q = some (.lst (es.map V.int)) := by rw [upd_ne xq.symm]; exact s5 _ _ hq4
      have hp6 : upd (upd H4 e1 (.tup (es.map V.int))) x (.ins CC dx (putF "ends" (.ref e1) fs)) p = some (.tup (ns.map V.int)) := by rw [upd_ne xp.symm]; exact s5 _ _ hp4
      have kp6 : Kp x H1 (upd (upd H4 e1 (.tup (es.map V.int))) x (.ins CC dx (putF "ends" (.ref e1) fs))) := fun b o hb e => by rw [upd_ne hb]; exact s5 _ _ (kp4 _ _ hb e)
      generalize upd (upd H4 e1 (.tup (es.map V.int))) x (.ins CC dx (putF "ends" (.ref e1) fs)) = H6 at hx6 hq6 hp6 kp6 ⊢
      have ll : (es.map V.int).length = (ns.map V.int).length := by rw [List.length_map, List.length_map, el]
      refine ⟨_, rfl, _, rfl, q, p, _, _, rfl, ⟨SqL.of hq6, SqT.of hp6⟩, fun D hD => lc_it (Zm.walk (xs := es.map V.int) (ys := ns.map V.int) ll) (fun i H' => Same H6 H' ∧ ∃ rs : List Int, H' D = some (.lst (rs.map V.int)) ∧ rs.length = i) ⟨same_new hD, [], upd_same, rfl⟩ (fun i H' _ h => ⟨SqL.of (h.1 _ _ hq6), SqT.of (h.1 _ _ hp6)⟩) ?_ ?_⟩
      · rintro i y H' H'' hi ⟨s', rs, hd, rl⟩ ⟨T', y1, y2, ⟨rfl, fT, rfl⟩, g1, g2⟩
        obtain ⟨a1, _, rfl⟩ := List.mem_map.mp (List.mem_of_getElem? g1)
        obtain ⟨a2, _, rfl⟩ := List.mem_map.mp (List.mem_of_getElem? g2)
        have sT := same_new (o := HO.tup [V.int a1, V.int a2]) fT
        refine ⟨T', _, rfl, SqT.of upd_same, rfl, _, _, rfl, _, _, rfl, rfl, rfl, ?_⟩
        dsimp only [tYes]
        rw [if_pos rfl]
        refine ⟨_, rfl, _, rfl, _, _, rfl, rfl, _, rfl, _, _, rfl, rfl, _, sT _ _ hd, ?_, fun b o e => ?_, rs ++ [t - a1 + a2], ?_, ?_⟩
        · rw [List.length_map, rl]
          rw [ll, hlen] at hi
          exact Nat.lt_of_lt_of_le hi (Nat.le_trans lm (by decide))
        · rw [upd_ne (ne_of_none e hD)]
          exact sT _ _ (s' _ _ e)
        · rw [upd_same, List.map_append]; rfl
        · rw [List.length_append, rl]; rfl
      · rintro H7 ⟨s7, rs, hd, rl⟩
        refine ⟨D, _, rfl, .inl ⟨SqL.of hd, fun r1 fr => ?_⟩⟩
        have s8 := same_new (o := HO.tup (rs.map V.int)) fr
        refine ⟨_, rfl, x, CC, dx, _, rfl, s8 _ _ (s7 _ _ hx6), Z.cl, Z.n4, Nat.lt_of_le_of_lt (putF_len _ _ _) (by omega), ?_⟩
        refine k1 lm t e1 r1 _ (fun b o hb e => ?_) ?_
        · rw [upd_ne hb]
          exact s8 _ _ (s7 _ _ (kp6 _ _ hb e))
        · rw [upd_same, ← hg]
          rfl
end
end Lw
namespace Lw
open PySem PySem.Spec PyProof.Rows L2
/-! ### str(x) of an own class -/
section
variable {X : Cx} {C f : Addr} {k j : Nat} {sp : Sp} {E : XK} {pins : List (Addr × Obj)} {σ : L2.St} {H : Hp} {s : Shared}
/-- a method that runs one or two levels further in -/
theorem run_metA {A : Around} {m : Str} {us : List Value} {vs : List V} {Q : VK} (M : MetX X.prog X.w X.K X.mg X.base k C m sp) (hx : Passes (L2.CX X.prog X.w) X E) (hr : Room k A) (e0 : Env0 X.prog X.w X.K X.mg X.base A X.stack s H) (I : Inv X pins σ H s) (r : Vals vs us) (q : sp vs H Q E) :
    ∃ g : Addr, Meth X.K C m g ∧ wpAny (model X.prog X.w) A (call (.ref g) us) (EP X pins σ Q) X.xe s := by
  obtain ⟨g, fd, ps, hm, F, b⟩ := M.ex
  have l : us.length = ps.length := r.length.symm.trans (F.len _ _ _ _ q)
  have b' := b s us I.kIn (by rw [List.append_nil]; exact l)
  rw [List.append_nil] at b'
  refine ⟨g, hm, wpAny_call (codeAny_mono (F.run A X.stack s H ⟨us, []⟩ us vs Q E hr e0 b' r q) fun r s' hq => ?_)⟩
  cases r with
  | error e => exact hx pins σ H s e s' I hq
  | ok fl =>
    cases fl with
    | ret u => exact I.after hq
    | next => exact False.elim hq
    | brk => exact False.elim hq
    | cont => exact False.elim hq
/-- str(x) of an instance -/
def rStrOwn (C : Addr) (sp : Sp) (E : XK) : List V → Hp → VK → Prop := fun xs H Q => ∃ a dx fs, xs = [V.ref a] ∧ H a = some (.ins C dx fs) ∧ sp [.ref a] H (fun z H' => ∃ y, z = .str y ∧ Q z H') E
theorem call_strOwn (M : MetX X.prog X.w X.K X.mg X.base k C "__str__" sp) (hx : Passes (L2.CX X.prog X.w) X E) (hr : Room j X.A) (hk : k + 2 ≤ j) : CallR X (.type "str") (rStrOwn C sp E) := by
  intro pins s σ H xs us Q I r h
  obtain ⟨a, dx, fs, rfl, ha, q⟩ := h
  obtain ⟨u, rfl, ru⟩ := r.one
  cases (show u = Value.ref a from ru)
  obtain ⟨_, _, J⟩ := ins_at I ha
  have hr2 : Room k X.A.in1.in1 := (show Room (k + 1) X.A.in1 from Room.in1 (hr.mono hk)).in1
  obtain ⟨g, hm, w⟩ := run_metA (us := [.ref a]) (vs := [.ref a]) M hx hr2 I.env0.in1.in1 I (.cons rfl .nil) q
  refine PySem.W.kso_call hr2.units0 I.kIn J hm.at_ hm.fn (wpAny_mono w (fun v s' z => ?_) fun _ _ x => x)
  obtain ⟨z', H', I', rz, y, rfl, qz⟩ := z
  obtain ⟨t, rfl⟩ := rz
  exact ⟨.str y, H', I', ⟨t, rfl⟩, qz⟩
end
end Lw
namespace Lw.Ow
open PySem PySem.Spec PyProof.Rows PySem.W PySem.Calls
/-! ### != by the own == -/
theorem sl_obj_ne : Slot "object" "__ne__" "object.__ne__" :=
  .of (owner := "object") (n := "__ne__") (by rw [typeLookup_type, builtinLookup_eq_fast]; kernel_rfl) (by decide +kernel) (by decide +kernel) (by decide +kernel)
    (by first | exact .inl (by decide +kernel) | exact .inr (by decide +kernel)) (by rw [isSubtype_type]; kernel_rfl)
section
variable {prog : Program} {w : World} {A : Around} {E : Value → Shared → Prop} {s : Shared} {K : Frag} {x C f : Addr} {ox : Obj} {od : Option Obj}
theorem ifBound_S {M : Model} {name : Str} {id : String} {args : List Value} {Q : Option Value → Shared → Prop} (X : K.In s.heap) (I : InstAt s.heap x ox C od) (hs : findIn K (.ref C) name = some (some (.builtin id))) (hb : ∀ self, bindSpecial (.builtin id) self = pure (.builtin id, [self]))
    (h : wpAny M A (call (.builtin id) (.ref x :: args)) (fun v => Q (some v)) E s) : wpAny M A (callSpecialIfBound? (.ref x) name args) Q E s := by
  simp only [callSpecialIfBound?, bindSpecialIfBound?]
  refine wpAny_holding (wpAny_bind (wpAny_bind (wpAny_bind (I.type.here ((looks_findIn X hs).here ?_)))))
  refine wpAny_bind (wpAny_askSetting (wpAny_ite ?_))
  have fin : wpAny M A (call (.builtin id) ([.ref x] ++ args) >>= fun v => pure (some v)) Q E s := wpAny_bind (wpAny_mono h (fun v s' h' => wpAny_pure h') fun _ _ h' => h')
  split
  · exact wpAny_bind ((Looks.of_pure (hb _)).here (wpAny_pure (by exact fin)))
  · exact wpAny_tryCatch (wpAny_bind ((Looks.of_pure (hb _)).here (wpAny_pure (by exact fin))))
theorem try_ne {b : Value} {Q : Value → Shared → Prop} (hu : A.in1.units < cLine) (X : K.In s.heap) (I : InstAt s.heap x ox C od) (hm : mroIn K C (.type "object") = some true) (hn : findIn K (.ref C) "__ne__" = some (some (.builtin "object.__ne__"))) (he : findIn K (.ref C) "__eq__" = some (some (.ref f))) (hf : isFn K (.ref f) = true)
    (h : wpAny (model prog w) A.in1 (call (.ref f) [.ref x, b]) (fun v s' => ∃ c, v = .bool c ∧ Q (.bool (!c)) s') E s) : wpAny (model prog w) A (tryCompare (.ref x) "__ne__" b) (fun r s' => ∃ v, r = some v ∧ Q v s') E s := by
  unfold tryCompare
  refine wpAny_bind (ifBound_S X I hn sl_obj_ne.bind (wpAny_call (codeAny_call_builtin sl_obj_ne.plain F.cmpEntry_ne (check_slot (i := "object.__ne__") (owner := "object") (n := "__ne__") F.cmpKind_ne F.cmpSplit_ne (I.type.andThen (looks_mroIn X hm)) (F.cmpArgs_ne _ _) ?_))))
  unfold Builtin.«object.__ne__»
  refine wpAny_bind (wpAny_of_eq (a := (Value.ref x, [b])) rfl ?_)
  refine wpAny_bind (m := cRoomFor _ _) (wpAny_cRoomFor hu ?_)
  refine wpAny_bind (m := callSpecialIfBound? (.ref x) (Str.ofString "__eq__") _) (ifBound_K X I he hf (wpAny_mono h (fun r s' hq => ?_) fun _ _ y => y))
  obtain ⟨c, rfl, q⟩ := hq
  refine wpAny_bind (m := truthy (.bool c)) (wpAny_truthy_bool ?_)
  first | exact wpAny_pure (wpAny_pure ⟨_, rfl, q⟩) | exact wpAny_pure ⟨_, rfl, q⟩ | exact ⟨_, rfl, wpAny_pure ⟨_, rfl, q⟩⟩
theorem cmp_ne {b tb : Value} {Q : Value → Shared → Prop} (hu : A.units < cLine) (X : K.In s.heap) (I : InstAt s.heap x ox C od) (hb : Looks (model prog w) s.heap (typeOf b) tb) (hn : notFirst K C tb = true)
    (one : wpAny (model prog w) A (tryCompare (.ref x) "__ne__" b) (fun r s' => ∃ v, r = some v ∧ Q v s') E s) : wpAny (model prog w) A (richCompare .NotEq (.ref x) b) Q E s := by
  unfold richCompare
  simp only [oneThing_ref]
  refine wpAny_holding (wpAny_bind (wpAny_cRoomFor hu ?_))
  refine wpAny_bind (I.type.here (wpAny_bind (hb.here ?_)))
  split
  · rename_i q
    have e : subIn K tb (.ref C) = some false := by
      rcases Bool.or_eq_true_iff.mp hn with e | e
      · rw [beq_iff_eq.mp e] at q; simp at q
      · exact beq_iff_eq.mp e
    refine wpAny_bind ((looks_subIn X e).here ?_)
    simp only [Bool.false_eq_true, if_false]
    refine wpAny_bind (wpAny_mono one (fun r s' z => ?_) fun _ _ e => e)
    obtain ⟨v, rfl, hq⟩ := z
    exact wpAny_pure hq
  · refine wpAny_bind (wpAny_pure ?_)
    simp only [Bool.false_eq_true, if_false]
    refine wpAny_bind (wpAny_mono one (fun r s' z => ?_) fun _ _ e => e)
    obtain ⟨v, rfl, hq⟩ := z
    exact wpAny_pure hq
end
end Lw.Ow
namespace Lw
open PySem PySem.Spec PyProof.Rows L2 LamX
section
variable {X : Cx} {C f : Addr} {k j : Nat} {sp : Sp} {E : XK} {pins : List (Addr × Obj)} {σ : L2.St} {H : Hp} {s : Shared}
structure NeC (K : PySem.W.Frag) (C : Addr) : Prop where
  m : PySem.W.mroIn K C (.type "object") = some true
  n : PySem.W.findIn K (.ref C) "__ne__" = some (some (.builtin "object.__ne__"))
def Nb (Q : VK) : VK := fun v H => ∃ c, v = .bl c ∧ Q (.bl (!c)) H
def rNR (C : Addr) (sp : Sp) (E : XK) : R2 := fun x y H Q => ∃ a dx fs b dy gs, x = .ref a ∧ H a = some (.ins C dx fs) ∧ y = .ref b ∧ H b = some (.ins C dy gs) ∧ sp [x, y] H (Nb Q) E
theorem op_neR (nc : NeC X.K C) (M : MetX X.prog X.w X.K X.mg X.base k C "__eq__" sp) (hx : Passes (L2.CX X.prog X.w) X E) (hr : Room j X.A) (hk : k + 1 ≤ j) : OpR X (compareOp .NotEq) (rNR C sp E) := by
  intro pins s σ H x y v u Q I rx ry h
  obtain ⟨a, dx, fs, b, dy, gs, rfl, ha, rfl, hb, q⟩ := h
  cases (show v = Value.ref a from rx)
  cases (show u = Value.ref b from ry)
  obtain ⟨_, _, J⟩ := ins_at I ha
  obtain ⟨_, _, J'⟩ := ins_at I hb
  have hr1 : Room k X.A.in1 := Room.in1 (hr.mono hk)
  obtain ⟨g, hm, w⟩ := run_metA (us := [.ref a, .ref b]) (vs := [.ref a, .ref b]) M hx hr1 I.env0.in1 I (.cons rfl (.cons rfl .nil)) q
  refine Ow.cmp_ne hr.units0 I.kIn J J'.type (by simp [PySem.W.notFirst]) (Ow.try_ne hr1.units0 I.kIn J nc.m nc.n hm.at_ hm.fn (wpAny_mono w (fun v s' z => ?_) fun _ _ x => x))
  obtain ⟨z', H', I', rz, c, rfl, qz⟩ := z
  cases (show v = Value.bool c from rz)
  exact ⟨c, rfl, .bl (!c), H', I', rfl, qz⟩
end
theorem TyX.same {K : PySem.W.Frag} {H H' : Hp} {v : V} {t : Value} (s : Same H H') (h : TyX K H v t) : TyX K H' v t := by
  cases h with
  | base h =>
    refine .base ?_
    cases h with
    | non => exact .non
    | bl x => exact .bl x
    | int i => exact .int i
    | str x => exact .str x
    | flt x => exact .flt x
    | lst e => exact .lst (s _ _ e)
    | frz e => exact .frz (s _ _ e)
    | tup e => exact .tup (s _ _ e)
    | dK e => exact .dK (s _ _ e)
    | dT e => exact .dT (s _ _ e)
    | ins e cl ha hn htk hm => exact .ins (s _ _ e) cl ha hn htk hm
  | byt b => exact .byt b
  | set e => exact .set (s _ _ e)
  | kList e c => exact .kList e c
  | kTuple e c => exact .kTuple e c
  | kDict e c => exact .kDict e c
  | fTuple e => exact .fTuple (s _ _ e)
  | fDict e => exact .fDict (s _ _ e)
theorem TyZ.same {K : PySem.W.Frag} {H H' : Hp} {v : V} {t : Value} (s : Same H H') (h : TyZ K H v t) : TyZ K H' v t := by
  cases h with
  | x h => exact .x (Lw.TyX.same s h)
  | fn e => exact .fn (s _ _ e)
theorem Anyv.same {K : PySem.W.Frag} {H H' : Hp} {v : V} (s : Same H H') (h : Anyv K H v) : Anyv K H' v := by
  cases h with
  | int i => exact .int i
  | non => exact .non
  | bl b => exact .bl b
  | str z => exact .str z
  | obj h h1 h2 h3 => exact .obj (Lw.TyZ.same s h) h1 h2 h3
open SX PySem.NumText TL
theorem tl_neg {n : Nat} (h : 0 < n) : (Str.ofString (toString (-((n : Nat) : Int)))).cps.toList = 45 :: numL n := by
  obtain ⟨m, rfl⟩ : ∃ m, n = m + 1 := ⟨n - 1, by omega⟩
  rw [PyProof.Rows.signs_ofString]
  have e : toString (-(((m + 1 : Nat) : Int))) = "-" ++ Nat.repr (m + 1) := rfl
  rw [e, String.toList_append, List.map_append, Nat.toList_repr]
  rfl
theorem str_neg {n : Nat} (h : 0 < n) : Str.ofString (toString (-((n : Nat) : Int))) = S (45 :: numL n) := TL.ext_tl (tl_neg h)
/-- the figures of an integer, its sign ahead -/
def intL (i : Int) : List Nat := if i < 0 then 45 :: numL i.natAbs else numL i.natAbs
theorem str_int (i : Int) : Str.ofString (toString i) = S (intL i) := by
  unfold intL
  by_cases h : i < 0
  · rw [if_pos h]
    obtain ⟨n, rfl⟩ : ∃ n : Nat, i = -((n : Nat) : Int) := ⟨i.natAbs, by omega⟩
    rw [show (-((n : Nat) : Int)).natAbs = n by omega]
    exact str_neg (by omega)
  · rw [if_neg h]
    obtain ⟨n, rfl⟩ : ∃ n : Nat, i = ((n : Nat) : Int) := ⟨i.natAbs, by omega⟩
    rw [Int.natAbs_natCast]
    exact num_S n
open SX PySem.NumText TL LamX ClX StX
abbrev sCof : Stmt := inClass (top 22) 2
abbrev sCst : Stmt := inClass (top 22) 20
abbrev sCeq : Stmt := inClass (top 22) 19
/-! ### C(*xs) -/
section
variable {X : Cx} {CX : CXT} {k : Nat} {f C : Addr} {sp : Sp} {E : XK} {x : Str} {e : Expr} {te : TE} {p sp_ pos : Pos}
def tMakeS (K : PySem.W.Frag) (C : Addr) (sp : Sp) (E : XK) (te : TE) : TE := fun σ H Q => te σ H fun y H1 => ∃ a xs, y = V.ref a ∧ (SqT K H1 a xs ∨ SqL K H1 a xs) ∧ ∀ x dx, H1 x = Option.none → H1 dx = Option.none → dx ≠ x →
  sp (V.ref x :: xs) (upd (upd H1 dx (.own x)) x (.ins C dx [])) (fun v H2 => v = .non ∧ Q (.ref x) H2) E
theorem pe_makeS1 (M : Mk X.K C f) (F : FnR X.prog X.w X.K X.mg X.base CX k f sp) (hr : Room (k + 1) X.A) (hg : Gl X x) (hm : X.mg x = some (.ref C)) (hx : Passes CX X E) (he : PE X e te) (hd : (x == ("__debug__" : Str)) = false := by decide)
    (hst : starEach [.Starred e sp_] X.env = [(true, eval e X.env)] := by rfl) :
    PE X (.Call (.Name x p) [.Starred e sp_] [] pos) (tMakeS X.K C sp E te) := by
  refine ⟨fun pins s σ H Q I h => ?_⟩
  refine wpAny_Call_Name_kw (ld_glob I hg hm ?_ hd)
  refine PySem.W.callWith_S (h₀ := X.base) I.ok.mod.kin M.kp (thn (he.run pins s σ H _ I h) fun v s1 ⟨y, H1, I1, ry, a, xs, ey, hxs, q⟩ => ?_) hst
  subst ey
  obtain rfl : v = Value.ref a := ry
  exact star_any I1 hxs fun us s2 I2 rv => ⟨I2.kIn, run_makeR M F hr hx I2 rv q⟩
end
theorem seq_cls {K : PySem.W.Frag} {H : Hp} {a : Addr} {xs : List V} (h : H a = some (.lst xs) ∨ H a = some (.tup xs)) : ∃ t, TyX K H (.ref a) t ∧ PySem.W.kitAny K t [.type "list", .type "tuple"] = some true := by
  rcases h with h | h
  · exact ⟨.type "list", .base (.lst h), kitAny_cons (kit_ty (r := true) (by decide +kernel)) (fun z => by cases z) (fun _ => rfl)⟩
  · exact ⟨.type "tuple", .base (.tup h), kitAny_cons (kit_ty (r := false) (by decide +kernel)) (fun _ => kitAny_cons (kit_ty (r := true) (by decide +kernel)) (fun z => by cases z) (fun _ => rfl)) (fun z => by cases z)⟩
/-! ### Chunks -/
/-- Chunks of these sizes -/
def ChAt (CC : Addr) (H : Hp) (c : Addr) (ns : List Int) : Prop := ∃ dx p t e r, H c = some (.ins CC dx (chF p t e r)) ∧ H p = some (.tup (ns.map V.int))
theorem ChAt.same {CC : Addr} {H H' : Hp} {c : Addr} {ns : List Int} (h : ChAt CC H c ns) (s : Same H H') : ChAt CC H' c ns := by
  obtain ⟨dx, p, t, e, r, h1, h2⟩ := h
  exact ⟨dx, p, t, e, r, s _ _ h1, s _ _ h2⟩
theorem ChAt.extn {CC : Addr} {H H' : Hp} {c : Addr} {ns : List Int} (h : ChAt CC H c ns) (s : ExtN H H') : ChAt CC H' c ns := by
  obtain ⟨dx, p, t, e, r, h1, h2⟩ := h
  exact ⟨dx, p, t, e, r, s _ _ h1 (fun ps z => by cases z), s _ _ h2 (fun ps z => by cases z)⟩
theorem Mf.of {DM : Addr} {H H' : Hp} {E : XK} (h : Mf DM H E) (s : Same H H') : Mf DM H' E := fun d fs H2 s2 hd f1 f2 => h d fs H2 (s.trans s2) hd f1 f2
def spCof (CC DM : Addr) : Sp := fun vs H Q E => ∃ (l : Addr) (ns : List Int), vs = [.ref l] ∧ (H l = some (.lst (ns.map V.int)) ∨ H l = some (.tup (ns.map V.int))) ∧ SzOk ns ∧
  (ns.length ≤ 5000 → ∀ c H', Same H H' → H c = none → ChAt CC H' c ns → Q (.ref c) H') ∧ (5000 < ns.length → Mf DM H E)
/-- Chunks.__init__, ready to be called with a star -/
structure ChM (P : Program) (w : World) (K : PySem.W.Frag) (mg : Str → Option Value) (base : Heap) (CC DM fI : Addr) (mc : Value) : Prop where
  Z : ChC P w K mg base CC DM mc
  M : Mk K CC fI
  F : FnR P w K mg base (L2.CX P w) 5 fI (fun vs H Q E => ∃ ws rest, vs = ws ++ rest ∧ ws.length = ["self"].length ∧ rest.length ≤ sizeLine ∧ ∀ p, H p = none → spCI CC DM (ws ++ [V.ref p]) (upd H p (.tup rest)) Q E)
/-- the text of these sizes -/
def chTx : List Int → List Nat
  | [] => [45]
  | n :: r => joinL [32] ((n :: r).map intL)
def spCst (CC : Addr) : Sp := fun vs H Q _ => ∃ c ns, vs = [.ref c] ∧ ChAt CC H c ns ∧ SzOk ns ∧ ns.length ≤ 5000 ∧ ∀ H', Same H H' → Q (.str (S (chTx ns))) H'
def spCeq (CC : Addr) : Sp := fun vs H Q _ => ∃ (a b : Addr) (ns ms : List Int), vs = [.ref a, .ref b] ∧ ChAt CC H a ns ∧ ChAt CC H b ms ∧ Q (.bl (decide (ns = ms))) H
theorem eqvs_ints : ∀ ns ms : List Int, PyData.eqvAll (ns.map PyData.int) (ms.map PyData.int) = decide (ns = ms)
  | [], [] => rfl
  | [], _ :: _ => rfl
  | _ :: _, [] => rfl
  | n :: r, m :: q => by
    show ((n == m) && PyData.eqvAll (r.map PyData.int) (q.map PyData.int)) = _
    rw [eqvs_ints r q]
    by_cases h : n = m
    · subst h; simp
    · simp [h]
theorem lays_ints : ∀ ns : List Int, PyData.canLayAll0 (ns.map PyData.int) = true
  | [] => rfl
  | n :: r => by show (true && PyData.canLayAll0 (r.map PyData.int)) = true; rw [lays_ints r]; rfl
theorem depths_ints : ∀ ns : List Int, PyData.depthAll (ns.map PyData.int) = 0
  | [] => rfl
  | n :: r => by show max 0 (PyData.depthAll (r.map PyData.int)) = 0; rw [depths_ints r]; rfl
theorem shaped_tints (ns : List Int) : SeqAt.shaped (.tuple (ns.map PyData.int)) = true := by
  unfold SeqAt.shaped
  have h1 : PyData.canLay0 (.tuple (ns.map PyData.int)) = true := lays_ints ns
  have h2 : PyData.depth (.tuple (ns.map PyData.int)) = 1 := by
    show PyData.depthAll (ns.map PyData.int) + 1 = 1
    rw [depths_ints]
  rw [h1, h2]; rfl
theorem intL_len2 {i : Int} (h : i.natAbs ≤ 10 ^ 30) : (intL i).length ≤ 32 := by
  have l : (numL i.natAbs).length ≤ 31 := numL_len (k := 31) (by decide) (Nat.lt_of_le_of_lt h (by decide +kernel))
  unfold intL
  split
  · rw [List.length_cons]; omega
  · omega
theorem sum_le {xs : List (List Nat)} {m : Nat} (h : ∀ x ∈ xs, x.length ≤ m) : ((xs.map S).map (·.length)).sum ≤ xs.length * m := by
  induction xs with
  | nil => simp
  | cons x r ih =>
    rw [List.map_cons, List.map_cons, List.sum_cons, List.length_cons, S_len]
    have h1 := h x List.mem_cons_self
    have h2 := ih fun y hy => h y (List.mem_cons_of_mem _ hy)
    rw [Nat.add_mul]
    omega
section
variable {P : Program} {w : World} {K : PySem.W.Frag} {mg : Str → Option Value} {base : Heap}
theorem scCof : FnScope ["sizes"] ["sizes"] (C8.fnScope sCof) := C8.fnScope_by (by decide +kernel)
theorem fn_cof {CC DM fI f : Addr} {mc : Value} {fd : FuncData} (F : C8.Fun K "of" "Chunks.of" sCof f fd) (T : Txt mg) (htu : mg "tuple" = none) (CM : ChM P w K mg base CC DM fI mc) : FnOk P w K mg base (L2.CX P w) 7 f fd ["sizes"] (spCof CC DM) := by
  obtain ⟨oc, od, dV, kV, doc, pm, an, cdv, ct, osl, rfl, lk, hcd⟩ := F.ex
  refine fn_of lk hcd scCof (fun vs H Q E h => ?_) fun A outer s H vs Q E hr h => ?_
  · obtain ⟨l, ns, rfl, _⟩ := h
    rfl
  · obtain ⟨l, ns, rfl, hl, ok, k1, k2⟩ := h
    refine ⟨_, (pss_cons (ps_if (pt_not (pt_val (pe_callB call_isiT (by rfl) T.n_isinstance (by decide +kernel) (pa_cons (pv 0) (pa_cons (pe_tup (pa_cons (pe_bltn (v := .ty "list") (by rfl) T.n_list (by decide +kernel) rfl) (pa_cons (pe_bltn (v := .ty "tuple") (by rfl) htu (by decide +kernel) rfl) pa_nil))) pa_nil))))) (pss_one ps_never) pss_nil)
      (pss_one (ps_ret (pe_makeS1 CM.M CM.F (hr.mono (by decide)) (by rfl) CM.Z.hm (passes_call (takes_of rfl rfl rfl rfl) (fun _ _ _ _ z => z)) (pv 0))))), ?_⟩
    refine ⟨_, rfl, (by show 2 ≤ sizeLine; decide), fun t ft => ?_⟩
    have s1 := same_new (o := HO.tup [V.ty "list", V.ty "tuple"]) ft
    have et : upd H t (HO.tup [V.ty "list", V.ty "tuple"]) t = some (.tup [V.ty "list", V.ty "tuple"]) := upd_same
    generalize upd H t _ = H1 at s1 et ⊢
    obtain ⟨ty, hty, hk⟩ := seq_cls (K := K) hl
    refine ⟨_, t, _, ty, _, true, rfl, et, .cons (.ty _) (.cons (.ty _) .nil), Lw.TyX.same s1 hty, hk, ?_⟩
    refine ⟨_, rfl, iteF ?_⟩
    have hl1 : SqT K H1 l (ns.map V.int) ∨ SqL K H1 l (ns.map V.int) := hl.elim (fun z => .inr (SqL.of (s1 _ _ z))) (fun z => .inl (SqT.of (s1 _ _ z)))
    refine ⟨_, rfl, l, _, rfl, hl1, fun x dx hx hdx ne => ?_⟩
    have hlen : (ns.map V.int).length = ns.length := List.length_map _
    refine ⟨[V.ref x], ns.map V.int, rfl, rfl, (by rw [hlen]; exact Nat.le_trans ok.2 (by decide)), fun p hp => ?_⟩
    have s2 : Same H1 (upd (upd H1 dx (.own x)) x (.ins CC dx [])) := (same_new hdx).trans (same_new (by rw [upd_ne ne.symm]; exact hx))
    have s3 := s2.trans (same_new (o := HO.tup (ns.map V.int)) hp)
    have xp : x ≠ p := fun e => by rw [← e, upd_same] at hp; cases hp
    refine ⟨x, dx, p, ns, rfl, (by rw [upd_ne xp]; exact upd_same), upd_same, ok, fun h5 t e r H' kp hx' => ⟨rfl, ?_⟩, fun h5 => (k2 h5).of (s1.trans s3)⟩
    refine k1 h5 x H' (fun b o e' => kp b o (fun q => ?_) (s3 _ _ (s1 _ _ e'))) (s1.free hx) ⟨dx, p, t, e, r, hx', kp p _ xp.symm upd_same⟩
    rw [q] at e'
    rw [s1 _ _ e'] at hx
    cases hx
theorem scCst : FnScope ["self", "size"] ["self"] (C8.fnScope sCst) := C8.fnScope_by (by decide +kernel)
theorem fn_cst {CC DM f : Addr} {mc : Value} {fd : FuncData} (F : C8.Fun K "__str__" "Chunks.__str__" sCst f fd) (T : Txt mg) (Z : ChC P w K mg base CC DM mc) : FnOk P w K mg base (L2.CX P w) 2 f fd ["self"] (spCst CC) := by
  obtain ⟨oc, od, dV, kV, doc, pm, an, cdv, ct, osl, rfl, lk, hcd⟩ := F.ex
  refine fn_of lk hcd scCst (fun vs H Q E h => ?_) fun A outer s H vs Q E hr h => ?_
  · obtain ⟨c, ns, rfl, _⟩ := h
    rfl
  · obtain ⟨c, ns, rfl, ⟨dx, p, t, e, r, hc, hp⟩, ⟨so, _⟩, lm, k⟩ := h
    refine ⟨_, (pss_cons (ps_if (pt_not (pt_truth (pe_fld (pv 0) rfl) (by intro _; rfl))) (pss_one (ps_ret pe_str)) pss_nil)
      (pss_one (ps_ret (pe_join pe_str (pe_lc (own := [("size", 1)]) (g := gName 1) (tt := tYes) rfl scCst.nd (pi_tup (pe_fld (pv 0) rfl)) (blkOk_by (own := [("size", 1)]) (N := ["self", "size"]) (sc := (C8.fnScope sCst)) (by decide +kernel)) (fun _ _ _ _ _ => pg_name (i := 1) scCst.nd rfl (Or.inl rfl)) (fun _ _ _ _ _ => pts_nil) (fun _ _ _ _ _ => (pe_callTy call_str_int (by rfl) T.n_str (by decide +kernel) (pa_cons (pv 1) pa_nil)))))))), ?_⟩
    have lmem : ∀ v ∈ ns, v.natAbs ≤ 10 ^ 30 := fun v hv => by
      obtain ⟨h1, h2⟩ := so v hv
      have e : ((10 : Int) ^ 30) = ((10 ^ 30 : Nat) : Int) := by decide +kernel
      rw [e] at h2
      omega
    refine ⟨_, rfl, c, CC, dx, _, _, rfl, hc, Z.cl, Z.n1, chF_sizes p t e r, _, .inr (.inl ⟨_, SqT.of hp, rfl⟩), ?_⟩
    cases ns with
    | nil => exact iteT (k H (Same.refl _))
    | cons n0 r0 =>
      refine iteF ?_
      generalize hns : n0 :: r0 = ns at *
      have hlen : (ns.map V.int).length = ns.length := List.length_map _
      refine ⟨⟨_, rfl⟩, _, rfl, c, CC, dx, _, _, rfl, hc, Z.cl, Z.n1, chF_sizes p t e r, p, rfl, ⟨_, SqT.of hp⟩, fun D hD => ?_⟩
      refine lc_tup (xs := ns.map V.int) (fun i H' => Same H H' ∧ H' D = some (.lst ((((ns.take i).map intL).map S).map V.str))) ⟨same_new hD, upd_same⟩ (fun i H' _ h => SqT.of (h.1 _ _ hp)) ?_ ?_
      · rintro i y H' hy ⟨s', hd⟩
        obtain ⟨v, hv, rfl⟩ : ∃ v, ns[i]? = some v ∧ y = .int v := by
          rw [List.getElem?_map] at hy
          cases hq : ns[i]? with
          | none => rw [hq] at hy; cases hy
          | some v => rw [hq] at hy; cases hy; exact ⟨v, rfl, rfl⟩
        have hi : i < ns.length := (List.getElem?_eq_some_iff.mp hv).1
        refine ⟨rfl, ?_⟩
        dsimp only [tYes]
        rw [if_pos rfl]
        refine ⟨_, rfl, v, rfl, ?_, _, hd, ?_, fun b o e => ?_, ?_⟩
        · have := lmem v (List.mem_of_getElem? hv)
          by_cases z : v.natAbs = 0
          · rw [z]; decide
          · exact (Nat.log2_lt z).mpr (Nat.lt_of_le_of_lt this (by decide +kernel))
        · rw [List.length_map, List.length_map, List.length_map]
          exact Nat.lt_of_le_of_lt (Nat.le_trans (List.length_take_le _ _) (Nat.le_trans (Nat.le_of_lt hi) lm)) (by decide)
        · rw [upd_ne (ne_of_none e hD)]
          exact s' _ _ e
        · rw [upd_same, List.take_add_one, hv, str_int]
          simp
      · rintro H2 ⟨s2, hd⟩
        rw [List.take_of_length_le (by rw [hlen]; exact Nat.le_refl _)] at hd
        refine ⟨_, D, (ns.map intL).map S, rfl, rfl, .inl (SqL.of hd), ?_, ?_⟩
        · have h1 := sum_le (xs := ns.map intL) (m := 32) fun x hx => by
            obtain ⟨v, hv, rfl⟩ := List.mem_map.mp hx
            exact intL_len2 (lmem v hv)
          rw [List.length_map] at h1
          rw [List.length_map, List.length_map, show (Str.ofString " ").length = 1 from rfl]
          omega
        · have e1 : chTx ns = joinL [32] (ns.map intL) := by rw [← hns]; rfl
          rw [show (Str.ofString " ") = S [32] from rfl, join_S, ← e1]
          exact k H2 s2
theorem scCeq : FnScope ["self", "other"] ["self", "other"] (C8.fnScope sCeq) := C8.fnScope_by (by decide +kernel)
theorem fn_ceq {CC DM f : Addr} {mc : Value} {fd : FuncData} (F : C8.Fun K "__eq__" "Chunks.__eq__" sCeq f fd) (T : Txt mg) (Z : ChC P w K mg base CC DM mc) (I : C8.InsC K CC) : FnOk P w K mg base (L2.CX P w) 2 f fd ["self", "other"] (spCeq CC) := by
  obtain ⟨oc, od, dV, kV, doc, pm, an, cdv, ct, osl, rfl, lk, hcd⟩ := F.ex
  refine fn_of lk hcd scCeq (fun vs H Q E h => ?_) fun A outer s H vs Q E hr h => ?_
  · obtain ⟨a, b, ns, ms, rfl, _⟩ := h
    rfl
  · obtain ⟨a, b, ns, ms, rfl, ⟨dxa, pa, ta, ea, ra, ha, hpa⟩, ⟨dxb, pb, tb, eb, rb, hb, hpb⟩, go⟩ := h
    refine ⟨_, (pss_one (ps_ret (pe_and (pe_callB call_isz (by rfl) T.n_isinstance (by decide +kernel) (pa_cons (pv 1) (pa_cons (pe_glob (v := .ref CC) (by rfl) Z.hm rfl) pa_nil))) (pe_one (pe_cmpR (op_eqD hr.units) (pe_fld (pv 0) rfl) (pe_fld (pv 1) rfl) (nomark _)))))), ?_⟩
    have ty : TyZ K H (.ref b) (.ref CC) := .x (.base (.ins hb I.cl I.ha I.hn I.htk I.hm))
    refine ⟨_, rfl, _, .ref CC, .ref CC, .ref CC, true, rfl, .own CC, ty, I.me, _, rfl, iteT ?_⟩
    refine ⟨_, rfl, a, CC, dxa, _, _, rfl, ha, Z.cl, Z.n1, chF_sizes _ _ _ _, _, rfl, b, CC, dxb, _, _, rfl, hb, Z.cl, Z.n1, chF_sizes _ _ _ _, .tuple (ns.map PyData.int), .tuple (ms.map PyData.int), .tup (SqT.of hpa) (dp_ints ns), .tup (SqT.of hpb) (dp_ints ms), shaped_tints ns, shaped_tints ms, ?_⟩
    rw [show PyData.eqv (.tuple (ns.map PyData.int)) (.tuple (ms.map PyData.int)) = decide (ns = ms) from eqvs_ints ns ms]
    exact go
end
end Lw
namespace Lw
open PySem PySem.Spec PyProof.Rows L2
open LamX
/-! ### repr of any value of the drawn ones -/
theorem SqL.sames {K : PySem.W.Frag} {a : Addr} {H H' : Hp} {ys : List V} (s : Same H H') (h : SqL K H a ys) : SqL K H' a ys := by
  rcases h with (h | ⟨o, h⟩) | h
  · exact .inl (.inl (s _ _ h))
  · exact .inl (.inr ⟨o, s _ _ h⟩)
  · exact .inr h
theorem SqT.sames {K : PySem.W.Frag} {a : Addr} {H H' : Hp} {ys : List V} (s : Same H H') (h : SqT K H a ys) : SqT K H' a ys := by
  rcases h with (h | ⟨o, h⟩) | h
  · exact .inl (.inl (s _ _ h))
  · exact .inl (.inr ⟨o, s _ _ h⟩)
  · exact .inr h
mutual
theorem Dp.sames {K : PySem.W.Frag} {H H' : Hp} (s : Same H H') : ∀ {v : V} {d : PyData}, Dp K H v d → Dp K H' v d
  | _, _, .non => .non
  | _, _, .bl b => .bl b
  | _, _, .int i => .int i
  | _, _, .str x => .str x
  | _, _, .lst h hs => .lst (SqL.sames s h) (DpAll.sames s hs)
  | _, _, .tup h hs => .tup (SqT.sames s h) (DpAll.sames s hs)
theorem DpAll.sames {K : PySem.W.Frag} {H H' : Hp} (s : Same H H') : ∀ {vs : List V} {ds : List PyData}, DpAll K H vs ds → DpAll K H' vs ds
  | _, _, .nil => .nil
  | _, _, .cons h hs => .cons (Dp.sames s h) (DpAll.sames s hs)
end
inductive Rp (K : PySem.W.Frag) (H : Hp) : V → Str → Prop where
  | non : Rp K H .non "None"
  | bl (b : Bool) : Rp K H (.bl b) (if b then "True" else "False")
  | str (z : Str) (h : (reprText z).length ≤ sizeLine) : Rp K H (.str z) (reprText z)
  | int (i : Int) (h : i.natAbs.log2 < 1920) : Rp K H (.int i) (toString i)
  | data {a : Addr} {d : PyData} (h : Dp K H (.ref a) d) (h1 : d.showable = true) (h2 : d.hasDict = false) (h3 : d.depth ≤ 100) (h4 : d.shown.length ≤ sizeLine) : Rp K H (.ref a) d.shown
  | dnil {a : Addr} (h : H a = some (.dK [])) : Rp K H (.ref a) (PyData.dict []).shown
theorem Rp.same {K : PySem.W.Frag} {H H' : Hp} {v : V} {r : Str} (s : Same H H') (h : Rp K H v r) : Rp K H' v r := by
  cases h with
  | non => exact .non
  | bl b => exact .bl b
  | str z h => exact .str z h
  | int i h => exact .int i h
  | data h h1 h2 h3 h4 => exact .data (Lw.Dp.sames s h) h1 h2 h3 h4
  | dnil h => exact .dnil (s _ _ h)
def rRpx (K : PySem.W.Frag) : List V → Hp → VK → Prop := fun xs H Q => ∃ (v : V) (r : Str), xs = [v] ∧ Rp K H v r ∧ Q (.str r) H
section
variable {X : Cx}
theorem call_reprX (hG : X.A.guards = some []) (hr : Room 0 X.A) : CallR X (.builtin "repr") (rRpx X.K) := by
  intro pins s σ H xs us Q I r h
  obtain ⟨v, z, rfl, hv, q⟩ := h
  obtain ⟨u, rfl, ru⟩ := vals1 r
  have hun := hr.un
  cases hv with
  | non =>
    cases (show u = Value.none from ru)
    exact PySem.P.repr_of_none ⟨.str "None", H, I.tok _, ⟨_, rfl⟩, q⟩
  | int i h =>
    obtain ⟨t, rfl⟩ := (show ∃ t, u = Value.int i t from ru)
    exact PySem.P.repr_of_int h ⟨.str (toString i), H, I.tok _, ⟨_, rfl⟩, q⟩
  | bl b =>
    cases (show u = Value.bool b from ru)
    refine PySem.P.repr_of_bool ⟨.str (if b then "True" else "False"), H, I.tok _, ⟨_, rfl⟩, ?_⟩
    cases b <;> exact q
  | str z h =>
    obtain ⟨t, rfl⟩ := (show ∃ t, u = Value.str z t from ru)
    exact PySem.P.repr_of_str ⟨.str (reprText z), H, I.tok _, ⟨_, rfl⟩, q⟩ h
  | @data a d h h1 h2 h3 h4 =>
    cases (show u = Value.ref a from ru)
    obtain ⟨as, rd⟩ := Dp.reads I d _ _ h rfl
    exact repr_of_reads' rd h1 (fun z => by rw [h2] at z; cases z) hG (by omega) (fun _ _ e => e) (fun h' u' tk kp => ⟨.str d.shown, H, I.kept kp, ⟨u', rfl⟩, q⟩) h4
  | @dnil a h =>
    cases (show u = Value.ref a from ru)
    obtain ⟨_, hm, vs, kv, o, es, ep, ho, hx, hd, _, pr, _⟩ := dk_of I.hok h
    have e0 : vs = [] := by cases kv; rfl
    subst e0
    have e1 : es.toList = [] := by
      generalize es.toList = l at pr
      cases pr
      rfl
    have rd : Reads s.heap (.ref a) (.dict []) [a] := Reads.dict (as := []) (bs := []) ho hx.1 hd (by rw [e1]; exact .nil) (by rw [e1]; exact .nil)
    refine repr_of_reads' rd rfl (fun _ z => ?_) hG (by show _ + ((PyData.dict []).depth + 1) < cLine; have : (PyData.dict []).depth ≤ 1 := by decide
                                                        omega) (fun _ _ e => e) (fun h' u' tk kp => ⟨.str _, H, I.kept kp, ⟨u', rfl⟩, q⟩) (by decide)
    rw [List.mem_singleton] at z
    rw [← z] at hm
    simp at hm
end
end Lw
namespace Lw
open PySem PySem.Spec PyProof.Rows L2
open SX PySem.NumText TL LamX ClX
abbrev sHea : Stmt := top 31
/-- a caught error's class -/
structure HrdC (K : PySem.W.Frag) (D L : Addr) : Prop where
  xf : XfC K D
  xc : Hx.XCls K D
  me : PySem.W.kitOne K (.ref D) (.ref D) = some true
  va : PySem.W.kitOne K (.ref D) (.type "ValueError") = some true
  ex : PySem.W.exmOne K (.ref D) (.ref L) = some true
structure Hrd (K : PySem.W.Frag) (mg : Str → Option Value) (DC DS DT DN DM L : Addr) : Prop where
  ml : mg "LateError" = some (.ref L)
  mv : mg "ValueError" = none
  cDC : HrdC K DC L
  mDC : mg "BadChunks" = some (.ref DC)
  nDC_part : PySem.W.findIn K (.ref DC) "part" = some none
  kDC_DS : PySem.W.kitOne K (.ref DC) (.ref DS) = some false
  kDC_DT : PySem.W.kitOne K (.ref DC) (.ref DT) = some false
  kDC_DN : PySem.W.kitOne K (.ref DC) (.ref DN) = some false
  kDC_DM : PySem.W.kitOne K (.ref DC) (.ref DM) = some false
  cDS : HrdC K DS L
  mDS : mg "BadSize" = some (.ref DS)
  nDS_value : PySem.W.findIn K (.ref DS) "value" = some none
  kDS_DC : PySem.W.kitOne K (.ref DS) (.ref DC) = some false
  kDS_DT : PySem.W.kitOne K (.ref DS) (.ref DT) = some false
  kDS_DN : PySem.W.kitOne K (.ref DS) (.ref DN) = some false
  kDS_DM : PySem.W.kitOne K (.ref DS) (.ref DM) = some false
  cDT : HrdC K DT L
  mDT : mg "BadTotal" = some (.ref DT)
  nDT_value : PySem.W.findIn K (.ref DT) "value" = some none
  kDT_DC : PySem.W.kitOne K (.ref DT) (.ref DC) = some false
  kDT_DS : PySem.W.kitOne K (.ref DT) (.ref DS) = some false
  kDT_DN : PySem.W.kitOne K (.ref DT) (.ref DN) = some false
  kDT_DM : PySem.W.kitOne K (.ref DT) (.ref DM) = some false
  cDN : HrdC K DN L
  mDN : mg "NoChunk" = some (.ref DN)
  nDN_at : PySem.W.findIn K (.ref DN) "at" = some none
  kDN_DC : PySem.W.kitOne K (.ref DN) (.ref DC) = some false
  kDN_DS : PySem.W.kitOne K (.ref DN) (.ref DS) = some false
  kDN_DT : PySem.W.kitOne K (.ref DN) (.ref DT) = some false
  kDN_DM : PySem.W.kitOne K (.ref DN) (.ref DM) = some false
  cDM : HrdC K DM L
  mDM : mg "TooMany" = some (.ref DM)
  nDM_what : PySem.W.findIn K (.ref DM) "what" = some none
  nDM_most : PySem.W.findIn K (.ref DM) "most" = some none
  kDM_DC : PySem.W.kitOne K (.ref DM) (.ref DC) = some false
  kDM_DS : PySem.W.kitOne K (.ref DM) (.ref DS) = some false
  kDM_DT : PySem.W.kitOne K (.ref DM) (.ref DT) = some false
  kDM_DN : PySem.W.kitOne K (.ref DM) (.ref DN) = some false
/-- what is heard of an exception -/
def HeardX (K : PySem.W.Frag) (DC DS DT DN DM : Addr) (Q : VK) (cls : Value) (d : Option Addr) (H1 : Hp) : Prop :=
  (cls = .ref DC ∧ ∃ (dd : Addr) (fs : List (Str × V)) (v0 : V) , d = some dd ∧ H1 dd = some (.xd fs) ∧ fs.lookup ("part" : Str) = some v0 ∧ ∀ t H3, Same H1 H3 → H1 t = none → H3 t = some (.tup [.str (Str.ofString "chunks"), v0]) → Q (.ref t) H3) ∨
  (cls = .ref DS ∧ ∃ (dd : Addr) (fs : List (Str × V)) (v0 : V) (z0 : Str), d = some dd ∧ H1 dd = some (.xd fs) ∧ fs.lookup ("value" : Str) = some v0 ∧ Rp K H1 v0 z0 ∧ ∀ t H3, Same H1 H3 → H1 t = none → H3 t = some (.tup [.str (Str.ofString "size"), .str z0]) → Q (.ref t) H3) ∨
  (cls = .ref DT ∧ ∃ (dd : Addr) (fs : List (Str × V)) (v0 : V) (z0 : Str), d = some dd ∧ H1 dd = some (.xd fs) ∧ fs.lookup ("value" : Str) = some v0 ∧ Rp K H1 v0 z0 ∧ ∀ t H3, Same H1 H3 → H1 t = none → H3 t = some (.tup [.str (Str.ofString "total"), .str z0]) → Q (.ref t) H3) ∨
  (cls = .ref DN ∧ ∃ (dd : Addr) (fs : List (Str × V)) (v0 : V) (z0 : Str), d = some dd ∧ H1 dd = some (.xd fs) ∧ fs.lookup ("at" : Str) = some v0 ∧ Rp K H1 v0 z0 ∧ ∀ t H3, Same H1 H3 → H1 t = none → H3 t = some (.tup [.str (Str.ofString "chunk"), .str z0]) → Q (.ref t) H3) ∨
  (cls = .ref DM ∧ ∃ (dd : Addr) (fs : List (Str × V)) (v0 : V) (v1 : V) , d = some dd ∧ H1 dd = some (.xd fs) ∧ fs.lookup ("what" : Str) = some v0 ∧ fs.lookup ("most" : Str) = some v1 ∧ ∀ t H3, Same H1 H3 → H1 t = none → H3 t = some (.tup [.str (Str.ofString "many"), v0, v1]) → Q (.ref t) H3)
def HeardV (Q : VK) (x : V) (H1 : Hp) : Prop := ∀ t H3, Same H1 H3 → H1 t = none → H3 t = some (.lst [x]) → Q (.ref t) H3
def TTheard (K : PySem.W.Frag) (DC DS DT DN DM : Addr) : (XK → Hp → VK → Prop) → Hp → VK → Prop := fun tl H Q => ∀ H2, Same H H2 → tl (HeardX K DC DS DT DN DM Q) H2 (HeardV Q)
abbrev NHea : List Str := ["_law_ask", "_law_some", "_law_caught", "_law_found", "error"]
theorem scHea : FnScope NHea ["_law_ask"] (C8.fnScope sHea) := C8.fnScope_by (by decide +kernel)
theorem pe_weak {X : Cx} {e : Expr} {te : TE} (he : PE X e te) : PE X e (fun σ H Q => ∃ Qx : VK, te σ H Qx ∧ ∀ x H1, Qx x H1 → Q x H1) :=
  ⟨fun pins s σ H Q I ⟨Qx, h, m⟩ => wpAny_mono (he.run pins s σ H Qx I h) (fun v s' ⟨x, H', I', r, q⟩ => ⟨x, H', I', r, m _ _ q⟩) (fun _ _ e => e)⟩
theorem heard_gives {X : Cx} {q : Str} {g DC DS DT DN DM L : Addr} {cdg : Value} (R : Hrd X.K X.mg DC DS DT DN DM L) (T : Txt X.mg) (hG : X.A.guards = some []) (hr0 : Room 1 X.A) :
    GivesTo X NHea "_law_heard" (C8.fnScope sHea) g cdg (C8.fnBody sHea) "_law_ask" q (TTheard X.K DC DS DT DN DM) := by
  intro f c' s H Q tl act hc h
  have hr : Room 0 (cxOf C8.CX0 X.prog X.w X.K X.mg X.base NHea "_law_heard" (C8.fnScope sHea) g cdg X.A X.stack s H C8.E0).nox.A := hr0.deeper _
  have hG' : (cxOf C8.CX0 X.prog X.w X.K X.mg X.base NHea "_law_heard" (C8.fnScope sHea) g cdg X.A X.stack s H C8.E0).nox.A.guards = some [] := hG
  refine ⟨_, pss_cons (ps_asg (pe_tup (pa_cons pe_non (pa_cons pe_non pa_nil))) (pg_tup rfl (pgs_cons (pg_name (i := 2) scHea.nd rfl (Or.inl rfl)) (pgs_cons (pg_name (i := 3) scHea.nd rfl (Or.inl rfl)) pgs_nil))))
    (pss_cons (ps_try_held (X := (cxOf C8.CX0 X.prog X.w X.K X.mg X.base NHea "_law_heard" (C8.fnScope sHea) g cdg X.A X.stack s H C8.E0).nox) (c := .ref L) (i := 4)
      (tb := fun W Dn σ H => ∃ Ech : XK, (∀ cls d σ' H', Ech cls d H' → W cls d σ' H') ∧ σ[0]? = some (some (.ref f)) ∧ H c' = some (CodeO c' q) ∧ ∃ Qx : VK, tl Ech H Qx ∧ ∀ x H1, Qx x H1 → Dn.nx (σ.set 3 (some x)) H1)
      rfl rfl scHea.nd rfl (by rfl) ⟨by rfl, by decide, .inl R.ml⟩ rfl (fun W pn xe tk _ => ?_) (fun a oe cls d pn _ _ => pss_one (ps_set (i := 2) scHea.nd rfl (Or.inl rfl) (pv 4))))
    (pss_cons (ps_if (pt_cmpR op_isN (pv 2) pe_non (nomark _)) (pss_one (ps_ret (pe_lst (pa_cons (pv 3) pa_nil)))) pss_nil)
    (pss_cons (ps_set (i := 1) scHea.nd rfl (Or.inl rfl) (pe_lst pa_nil))
    (pss_cons (ps_if (pt_val (pe_callB call_isw (by rfl) T.n_isinstance (by decide +kernel) (pa_cons (pv 2) (pa_cons (pe_glob (v := .ref DC) (by rfl) R.mDC rfl) pa_nil)))) (pss_one (ps_expr (pe_bm PySem.F.plainAttrs_list PySem.F.slot_list_append PySem.F.type_list_append mt_append (pv 1) (pa_cons (pe_tup (pa_cons pe_str (pa_cons (pe_held R.cDC.xf R.nDC_part (pv 2)) pa_nil))) pa_nil)))) pss_nil)
    (pss_cons (ps_if (pt_val (pe_callB call_isw (by rfl) T.n_isinstance (by decide +kernel) (pa_cons (pv 2) (pa_cons (pe_glob (v := .ref DS) (by rfl) R.mDS rfl) pa_nil)))) (pss_one (ps_expr (pe_bm PySem.F.plainAttrs_list PySem.F.slot_list_append PySem.F.type_list_append mt_append (pv 1) (pa_cons (pe_tup (pa_cons pe_str (pa_cons (pe_callB (call_reprX hG' hr) (by rfl) T.n_repr (by decide +kernel) (pa_cons (pe_held R.cDS.xf R.nDS_value (pv 2)) pa_nil)) pa_nil))) pa_nil)))) pss_nil)
    (pss_cons (ps_if (pt_val (pe_callB call_isw (by rfl) T.n_isinstance (by decide +kernel) (pa_cons (pv 2) (pa_cons (pe_glob (v := .ref DT) (by rfl) R.mDT rfl) pa_nil)))) (pss_one (ps_expr (pe_bm PySem.F.plainAttrs_list PySem.F.slot_list_append PySem.F.type_list_append mt_append (pv 1) (pa_cons (pe_tup (pa_cons pe_str (pa_cons (pe_callB (call_reprX hG' hr) (by rfl) T.n_repr (by decide +kernel) (pa_cons (pe_held R.cDT.xf R.nDT_value (pv 2)) pa_nil)) pa_nil))) pa_nil)))) pss_nil)
    (pss_cons (ps_if (pt_val (pe_callB call_isw (by rfl) T.n_isinstance (by decide +kernel) (pa_cons (pv 2) (pa_cons (pe_glob (v := .ref DN) (by rfl) R.mDN rfl) pa_nil)))) (pss_one (ps_expr (pe_bm PySem.F.plainAttrs_list PySem.F.slot_list_append PySem.F.type_list_append mt_append (pv 1) (pa_cons (pe_tup (pa_cons pe_str (pa_cons (pe_callB (call_reprX hG' hr) (by rfl) T.n_repr (by decide +kernel) (pa_cons (pe_held R.cDN.xf R.nDN_at (pv 2)) pa_nil)) pa_nil))) pa_nil)))) pss_nil)
    (pss_cons (ps_if (pt_val (pe_callB call_isw (by rfl) T.n_isinstance (by decide +kernel) (pa_cons (pv 2) (pa_cons (pe_glob (v := .ref DM) (by rfl) R.mDM rfl) pa_nil)))) (pss_one (ps_expr (pe_bm PySem.F.plainAttrs_list PySem.F.slot_list_append PySem.F.type_list_append mt_append (pv 1) (pa_cons (pe_tup (pa_cons pe_str (pa_cons (pe_held R.cDM.xf R.nDM_what (pv 2)) (pa_cons (pe_held R.cDM.xf R.nDM_most (pv 2)) pa_nil)))) pa_nil)))) pss_nil)
    (pss_one (ps_ret (pe_ifExp (PW.pt (pw_and (pt_cmpR op_eq (pe_callB call_len_seq (by rfl) T.n_len (by decide +kernel) (pa_cons (pv 1) pa_nil)) pe_int (nomark _)) (pw_and1 (pt_val (pe_callB call_isw (by rfl) T.n_isinstance (by decide +kernel) (pa_cons (pv 2) (pa_cons (pe_bltn (v := .ty "ValueError") (by rfl) R.mv (by decide +kernel) rfl) pa_nil))))))) (pe_ix ix_list (pv 1) pe_int (fun _ _ => rfl)) (pe_tup (pa_cons pe_str pa_nil))))))))))))), ?_⟩
  · refine ⟨fun pins s' σ H' Dn I h' => ?_⟩
    obtain ⟨Ech, hW, h1, h2, h3⟩ := h'
    obtain ⟨Qx, h3, h4⟩ := h3
    refine PSs.run (t := tAsg (fun σ H Q => ∃ Qx : VK, (fun σZ HZ Q => σZ[0]? = some (some (V.ref f)) ∧ HZ c' = some (CodeO c' q) ∧ tl Ech HZ Q) σ H Qx ∧ ∀ x H1, Qx x H1 → Q x H1) (gName 3)) ?hp pins s' σ H' Dn I ⟨Qx, ⟨h1, h2, h3⟩, h4⟩
    case hp => exact pss_one (ps_set (i := 3) scHea.nd rfl (Or.inl rfl) (pe_weak (act W pn xe Ech _ _ tk hW)))
  · refine ⟨(by show 2 ≤ sizeLine; decide), fun tt ft0 => ⟨tt, _, rfl, SqT.of upd_same, rfl, _, _, rfl, _, _, rfl, rfl, ?_⟩⟩
    have s0 := same_new (o := HO.tup [V.non, V.non]) ft0
    have hc0 := s0 _ _ hc
    have h0 := h _ s0
    refine ⟨HeardX X.K DC DS DT DN DM Q, fun cls d σ' H' z => ?_, rfl, hc0, ?_⟩
    · intro hl
      obtain ⟨x0, x1, x2, x3, x4, rfl⟩ : ∃ x0 x1 x2 x3 x4, σ' = [x0, x1, x2, x3, x4] := by
        match σ', hl with
        | [x0, x1, x2, x3, x4], _ => exact ⟨x0, x1, x2, x3, x4, rfl⟩
      rcases z with ⟨rfl, dd, fs, v0, rfl, e1, f0, go⟩ | ⟨rfl, dd, fs, v0, z0, rfl, e1, f0, p0, go⟩ | ⟨rfl, dd, fs, v0, z0, rfl, e1, f0, p0, go⟩ | ⟨rfl, dd, fs, v0, z0, rfl, e1, f0, p0, go⟩ | ⟨rfl, dd, fs, v0, v1, rfl, e1, f0, f1, go⟩
      · refine ⟨R.cDC.ex, fun a na => ⟨_, rfl, fun na' => ?_⟩⟩
        have s1 : Same H' (upd H' a (ExO a (.ref DC) (some dd))) := same_new na
        have ea : upd H' a (ExO a (.ref DC) (some dd)) a = some (ExO a (.ref DC) (some dd)) := upd_same
        have ed := s1 _ _ e1
        generalize upd H' a (ExO a (.ref DC) (some dd)) = H1 at s1 ea ed ⊢
        refine ⟨_, rfl, rfl, _, rfl, iteF ⟨(by show 0 ≤ sizeLine; decide), fun p np => ?_⟩⟩
        have s2 := same_new (o := HO.lst []) np
        have ep : upd H1 p (.lst []) p = some (.lst []) := upd_same
        have ea2 := s2 _ _ ea
        have ed2 := s2 _ _ ed
        have np' : H' p = none := s1.free np
        generalize upd H1 p (.lst []) = H2 at s2 ep ea2 ed2 ⊢
        refine ⟨_, rfl, _, .ref DC, .ref DC, .ref DC, true, rfl, .own DC, .held ea2 ed2 R.cDC.xc, R.cDC.me, _, rfl, iteT ⟨_, rfl, .inl ⟨rfl, _, SqL.of ep⟩, _, rfl, a, dd, _, _, rfl, ea2, ed2, f0, (by show 2 ≤ sizeLine; decide), fun t ft => ?_⟩⟩
        have s3 := same_new (o := HO.tup [V.str (Str.ofString "chunks"), v0]) ft
        refine ⟨p, _, _, rfl, rfl, s3 _ _ ep, (by show 0 < sizeLine; decide), ?_⟩
        have tp : t ≠ p := fun e => by rw [e, ep] at ft; cases ft
        have ap : a ≠ p := fun e => by rw [e, ep] at ea2; cases ea2
        have dp : dd ≠ p := fun e => by rw [e, ep] at ed2; cases ed2
        have s4 : Same H' (upd (upd H2 t (.tup [V.str (Str.ofString "chunks"), v0])) p (.lst ([] ++ [V.ref t]))) := fun b o e => by
          rw [upd_ne (ne_of_none e np')]
          exact s3 _ _ (s2 _ _ (s1 _ _ e))
        have ft' : H' t = none := (s1.trans s2).free ft
        have et : upd (upd H2 t (.tup [V.str (Str.ofString "chunks"), v0])) p (.lst ([] ++ [V.ref t])) t = some (.tup [V.str (Str.ofString "chunks"), v0]) := by rw [upd_ne tp]; exact upd_same
        have ea3 : upd (upd H2 t (.tup [V.str (Str.ofString "chunks"), v0])) p (.lst ([] ++ [V.ref t])) a = some (ExO a (.ref DC) (some dd)) := by rw [upd_ne ap]; exact s3 _ _ ea2
        have ed3 : upd (upd H2 t (.tup [V.str (Str.ofString "chunks"), v0])) p (.lst ([] ++ [V.ref t])) dd = some (.xd fs) := by rw [upd_ne dp]; exact s3 _ _ ed2
        have ep3 : upd (upd H2 t (.tup [V.str (Str.ofString "chunks"), v0])) p (.lst ([] ++ [V.ref t])) p = some (.lst [V.ref t]) := upd_same
        generalize upd (upd H2 t (.tup [V.str (Str.ofString "chunks"), v0])) p (.lst ([] ++ [V.ref t])) = H3 at s4 et ea3 ed3 ep3 ⊢
        refine ⟨_, rfl, _, .ref DS, .ref DC, .ref DS, false, rfl, .own DS, .held ea3 ed3 R.cDC.xc, R.kDC_DS, _, rfl, iteF ?_⟩
        refine ⟨_, rfl, _, .ref DT, .ref DC, .ref DT, false, rfl, .own DT, .held ea3 ed3 R.cDC.xc, R.kDC_DT, _, rfl, iteF ?_⟩
        refine ⟨_, rfl, _, .ref DN, .ref DC, .ref DN, false, rfl, .own DN, .held ea3 ed3 R.cDC.xc, R.kDC_DN, _, rfl, iteF ?_⟩
        refine ⟨_, rfl, _, .ref DM, .ref DC, .ref DM, false, rfl, .own DM, .held ea3 ed3 R.cDC.xc, R.kDC_DM, _, rfl, iteF ?_⟩
        refine ⟨_, rfl, p, _, rfl, .inl (SqL.of ep3), rfl, _, rfl, iteT ⟨_, rfl, _, .ty "ValueError", .ref DC, .type "ValueError", true, rfl, .ty _, .held ea3 ed3 R.cDC.xc, R.cDC.va, _, rfl, iteT ⟨_, rfl, p, _, 0, _, rfl, rfl, SqL.of ep3, atI_nat (j := 0) rfl, ?_⟩⟩⟩
        exact go t H3 s4 ft' et
      · refine ⟨R.cDS.ex, fun a na => ⟨_, rfl, fun na' => ?_⟩⟩
        have s1 : Same H' (upd H' a (ExO a (.ref DS) (some dd))) := same_new na
        have ea : upd H' a (ExO a (.ref DS) (some dd)) a = some (ExO a (.ref DS) (some dd)) := upd_same
        have ed := s1 _ _ e1
        generalize upd H' a (ExO a (.ref DS) (some dd)) = H1 at s1 ea ed ⊢
        refine ⟨_, rfl, rfl, _, rfl, iteF ⟨(by show 0 ≤ sizeLine; decide), fun p np => ?_⟩⟩
        have s2 := same_new (o := HO.lst []) np
        have ep : upd H1 p (.lst []) p = some (.lst []) := upd_same
        have ea2 := s2 _ _ ea
        have ed2 := s2 _ _ ed
        have np' : H' p = none := s1.free np
        generalize upd H1 p (.lst []) = H2 at s2 ep ea2 ed2 ⊢
        refine ⟨_, rfl, _, .ref DC, .ref DS, .ref DC, false, rfl, .own DC, .held ea2 ed2 R.cDS.xc, R.kDS_DC, _, rfl, iteF ?_⟩
        refine ⟨_, rfl, _, .ref DS, .ref DS, .ref DS, true, rfl, .own DS, .held ea2 ed2 R.cDS.xc, R.cDS.me, _, rfl, iteT ⟨_, rfl, .inl ⟨rfl, _, SqL.of ep⟩, _, rfl, a, dd, _, _, rfl, ea2, ed2, f0, v0, z0, rfl, Rp.same (s1.trans s2) p0, (by show 2 ≤ sizeLine; decide), fun t ft => ?_⟩⟩
        have s3 := same_new (o := HO.tup [V.str (Str.ofString "size"), V.str z0]) ft
        refine ⟨p, _, _, rfl, rfl, s3 _ _ ep, (by show 0 < sizeLine; decide), ?_⟩
        have tp : t ≠ p := fun e => by rw [e, ep] at ft; cases ft
        have ap : a ≠ p := fun e => by rw [e, ep] at ea2; cases ea2
        have dp : dd ≠ p := fun e => by rw [e, ep] at ed2; cases ed2
        have s4 : Same H' (upd (upd H2 t (.tup [V.str (Str.ofString "size"), V.str z0])) p (.lst ([] ++ [V.ref t]))) := fun b o e => by
          rw [upd_ne (ne_of_none e np')]
          exact s3 _ _ (s2 _ _ (s1 _ _ e))
        have ft' : H' t = none := (s1.trans s2).free ft
        have et : upd (upd H2 t (.tup [V.str (Str.ofString "size"), V.str z0])) p (.lst ([] ++ [V.ref t])) t = some (.tup [V.str (Str.ofString "size"), V.str z0]) := by rw [upd_ne tp]; exact upd_same
        have ea3 : upd (upd H2 t (.tup [V.str (Str.ofString "size"), V.str z0])) p (.lst ([] ++ [V.ref t])) a = some (ExO a (.ref DS) (some dd)) := by rw [upd_ne ap]; exact s3 _ _ ea2
        have ed3 : upd (upd H2 t (.tup [V.str (Str.ofString "size"), V.str z0])) p (.lst ([] ++ [V.ref t])) dd = some (.xd fs) := by rw [upd_ne dp]; exact s3 _ _ ed2
        have ep3 : upd (upd H2 t (.tup [V.str (Str.ofString "size"), V.str z0])) p (.lst ([] ++ [V.ref t])) p = some (.lst [V.ref t]) := upd_same
        generalize upd (upd H2 t (.tup [V.str (Str.ofString "size"), V.str z0])) p (.lst ([] ++ [V.ref t])) = H3 at s4 et ea3 ed3 ep3 ⊢
        refine ⟨_, rfl, _, .ref DT, .ref DS, .ref DT, false, rfl, .own DT, .held ea3 ed3 R.cDS.xc, R.kDS_DT, _, rfl, iteF ?_⟩
        refine ⟨_, rfl, _, .ref DN, .ref DS, .ref DN, false, rfl, .own DN, .held ea3 ed3 R.cDS.xc, R.kDS_DN, _, rfl, iteF ?_⟩
        refine ⟨_, rfl, _, .ref DM, .ref DS, .ref DM, false, rfl, .own DM, .held ea3 ed3 R.cDS.xc, R.kDS_DM, _, rfl, iteF ?_⟩
        refine ⟨_, rfl, p, _, rfl, .inl (SqL.of ep3), rfl, _, rfl, iteT ⟨_, rfl, _, .ty "ValueError", .ref DS, .type "ValueError", true, rfl, .ty _, .held ea3 ed3 R.cDS.xc, R.cDS.va, _, rfl, iteT ⟨_, rfl, p, _, 0, _, rfl, rfl, SqL.of ep3, atI_nat (j := 0) rfl, ?_⟩⟩⟩
        exact go t H3 s4 ft' et
      · refine ⟨R.cDT.ex, fun a na => ⟨_, rfl, fun na' => ?_⟩⟩
        have s1 : Same H' (upd H' a (ExO a (.ref DT) (some dd))) := same_new na
        have ea : upd H' a (ExO a (.ref DT) (some dd)) a = some (ExO a (.ref DT) (some dd)) := upd_same
        have ed := s1 _ _ e1
        generalize upd H' a (ExO a (.ref DT) (some dd)) = H1 at s1 ea ed ⊢
        refine ⟨_, rfl, rfl, _, rfl, iteF ⟨(by show 0 ≤ sizeLine; decide), fun p np => ?_⟩⟩
        have s2 := same_new (o := HO.lst []) np
        have ep : upd H1 p (.lst []) p = some (.lst []) := upd_same
        have ea2 := s2 _ _ ea
        have ed2 := s2 _ _ ed
        have np' : H' p = none := s1.free np
        generalize upd H1 p (.lst []) = H2 at s2 ep ea2 ed2 ⊢
        refine ⟨_, rfl, _, .ref DC, .ref DT, .ref DC, false, rfl, .own DC, .held ea2 ed2 R.cDT.xc, R.kDT_DC, _, rfl, iteF ?_⟩
        refine ⟨_, rfl, _, .ref DS, .ref DT, .ref DS, false, rfl, .own DS, .held ea2 ed2 R.cDT.xc, R.kDT_DS, _, rfl, iteF ?_⟩
        refine ⟨_, rfl, _, .ref DT, .ref DT, .ref DT, true, rfl, .own DT, .held ea2 ed2 R.cDT.xc, R.cDT.me, _, rfl, iteT ⟨_, rfl, .inl ⟨rfl, _, SqL.of ep⟩, _, rfl, a, dd, _, _, rfl, ea2, ed2, f0, v0, z0, rfl, Rp.same (s1.trans s2) p0, (by show 2 ≤ sizeLine; decide), fun t ft => ?_⟩⟩
        have s3 := same_new (o := HO.tup [V.str (Str.ofString "total"), V.str z0]) ft
        refine ⟨p, _, _, rfl, rfl, s3 _ _ ep, (by show 0 < sizeLine; decide), ?_⟩
        have tp : t ≠ p := fun e => by rw [e, ep] at ft; cases ft
        have ap : a ≠ p := fun e => by rw [e, ep] at ea2; cases ea2
        have dp : dd ≠ p := fun e => by rw [e, ep] at ed2; cases ed2
        have s4 : Same H' (upd (upd H2 t (.tup [V.str (Str.ofString "total"), V.str z0])) p (.lst ([] ++ [V.ref t]))) := fun b o e => by
          rw [upd_ne (ne_of_none e np')]
          exact s3 _ _ (s2 _ _ (s1 _ _ e))
        have ft' : H' t = none := (s1.trans s2).free ft
        have et : upd (upd H2 t (.tup [V.str (Str.ofString "total"), V.str z0])) p (.lst ([] ++ [V.ref t])) t = some (.tup [V.str (Str.ofString "total"), V.str z0]) := by rw [upd_ne tp]; exact upd_same
        have ea3 : upd (upd H2 t (.tup [V.str (Str.ofString "total"), V.str z0])) p (.lst ([] ++ [V.ref t])) a = some (ExO a (.ref DT) (some dd)) := by rw [upd_ne ap]; exact s3 _ _ ea2
        have ed3 : upd (upd H2 t (.tup [V.str (Str.ofString "total"), V.str z0])) p (.lst ([] ++ [V.ref t])) dd = some (.xd fs) := by rw [upd_ne dp]; exact s3 _ _ ed2
        have ep3 : upd (upd H2 t (.tup [V.str (Str.ofString "total"), V.str z0])) p (.lst ([] ++ [V.ref t])) p = some (.lst [V.ref t]) := upd_same
        generalize upd (upd H2 t (.tup [V.str (Str.ofString "total"), V.str z0])) p (.lst ([] ++ [V.ref t])) = H3 at s4 et ea3 ed3 ep3 ⊢
        refine ⟨_, rfl, _, .ref DN, .ref DT, .ref DN, false, rfl, .own DN, .held ea3 ed3 R.cDT.xc, R.kDT_DN, _, rfl, iteF ?_⟩
        refine ⟨_, rfl, _, .ref DM, .ref DT, .ref DM, false, rfl, .own DM, .held ea3 ed3 R.cDT.xc, R.kDT_DM, _, rfl, iteF ?_⟩
        refine ⟨_, rfl, p, _, rfl, .inl (SqL.of ep3), rfl, _, rfl, iteT ⟨_, rfl, _, .ty "ValueError", .ref DT, .type "ValueError", true, rfl, .ty _, .held ea3 ed3 R.cDT.xc, R.cDT.va, _, rfl, iteT ⟨_, rfl, p, _, 0, _, rfl, rfl, SqL.of ep3, atI_nat (j := 0) rfl, ?_⟩⟩⟩
        exact go t H3 s4 ft' et
      · refine ⟨R.cDN.ex, fun a na => ⟨_, rfl, fun na' => ?_⟩⟩
        have s1 : Same H' (upd H' a (ExO a (.ref DN) (some dd))) := same_new na
        have ea : upd H' a (ExO a (.ref DN) (some dd)) a = some (ExO a (.ref DN) (some dd)) := upd_same
        have ed := s1 _ _ e1
        generalize upd H' a (ExO a (.ref DN) (some dd)) = H1 at s1 ea ed ⊢
        refine ⟨_, rfl, rfl, _, rfl, iteF ⟨(by show 0 ≤ sizeLine; decide), fun p np => ?_⟩⟩
        have s2 := same_new (o := HO.lst []) np
        have ep : upd H1 p (.lst []) p = some (.lst []) := upd_same
        have ea2 := s2 _ _ ea
        have ed2 := s2 _ _ ed
        have np' : H' p = none := s1.free np
        generalize upd H1 p (.lst []) = H2 at s2 ep ea2 ed2 ⊢
        refine ⟨_, rfl, _, .ref DC, .ref DN, .ref DC, false, rfl, .own DC, .held ea2 ed2 R.cDN.xc, R.kDN_DC, _, rfl, iteF ?_⟩
        refine ⟨_, rfl, _, .ref DS, .ref DN, .ref DS, false, rfl, .own DS, .held ea2 ed2 R.cDN.xc, R.kDN_DS, _, rfl, iteF ?_⟩
        refine ⟨_, rfl, _, .ref DT, .ref DN, .ref DT, false, rfl, .own DT, .held ea2 ed2 R.cDN.xc, R.kDN_DT, _, rfl, iteF ?_⟩
        refine ⟨_, rfl, _, .ref DN, .ref DN, .ref DN, true, rfl, .own DN, .held ea2 ed2 R.cDN.xc, R.cDN.me, _, rfl, iteT ⟨_, rfl, .inl ⟨rfl, _, SqL.of ep⟩, _, rfl, a, dd, _, _, rfl, ea2, ed2, f0, v0, z0, rfl, Rp.same (s1.trans s2) p0, (by show 2 ≤ sizeLine; decide), fun t ft => ?_⟩⟩
        have s3 := same_new (o := HO.tup [V.str (Str.ofString "chunk"), V.str z0]) ft
        refine ⟨p, _, _, rfl, rfl, s3 _ _ ep, (by show 0 < sizeLine; decide), ?_⟩
        have tp : t ≠ p := fun e => by rw [e, ep] at ft; cases ft
        have ap : a ≠ p := fun e => by rw [e, ep] at ea2; cases ea2
        have dp : dd ≠ p := fun e => by rw [e, ep] at ed2; cases ed2
        have s4 : Same H' (upd (upd H2 t (.tup [V.str (Str.ofString "chunk"), V.str z0])) p (.lst ([] ++ [V.ref t]))) := fun b o e => by
          rw [upd_ne (ne_of_none e np')]
          exact s3 _ _ (s2 _ _ (s1 _ _ e))
        have ft' : H' t = none := (s1.trans s2).free ft
        have et : upd (upd H2 t (.tup [V.str (Str.ofString "chunk"), V.str z0])) p (.lst ([] ++ [V.ref t])) t = some (.tup [V.str (Str.ofString "chunk"), V.str z0]) := by rw [upd_ne tp]; exact upd_same
        have ea3 : upd (upd H2 t (.tup [V.str (Str.ofString "chunk"), V.str z0])) p (.lst ([] ++ [V.ref t])) a = some (ExO a (.ref DN) (some dd)) := by rw [upd_ne ap]; exact s3 _ _ ea2
        have ed3 : upd (upd H2 t (.tup [V.str (Str.ofString "chunk"), V.str z0])) p (.lst ([] ++ [V.ref t])) dd = some (.xd fs) := by rw [upd_ne dp]; exact s3 _ _ ed2
        have ep3 : upd (upd H2 t (.tup [V.str (Str.ofString "chunk"), V.str z0])) p (.lst ([] ++ [V.ref t])) p = some (.lst [V.ref t]) := upd_same
        generalize upd (upd H2 t (.tup [V.str (Str.ofString "chunk"), V.str z0])) p (.lst ([] ++ [V.ref t])) = H3 at s4 et ea3 ed3 ep3 ⊢
        refine ⟨_, rfl, _, .ref DM, .ref DN, .ref DM, false, rfl, .own DM, .held ea3 ed3 R.cDN.xc, R.kDN_DM, _, rfl, iteF ?_⟩
        refine ⟨_, rfl, p, _, rfl, .inl (SqL.of ep3), rfl, _, rfl, iteT ⟨_, rfl, _, .ty "ValueError", .ref DN, .type "ValueError", true, rfl, .ty _, .held ea3 ed3 R.cDN.xc, R.cDN.va, _, rfl, iteT ⟨_, rfl, p, _, 0, _, rfl, rfl, SqL.of ep3, atI_nat (j := 0) rfl, ?_⟩⟩⟩
        exact go t H3 s4 ft' et
      · refine ⟨R.cDM.ex, fun a na => ⟨_, rfl, fun na' => ?_⟩⟩
        have s1 : Same H' (upd H' a (ExO a (.ref DM) (some dd))) := same_new na
        have ea : upd H' a (ExO a (.ref DM) (some dd)) a = some (ExO a (.ref DM) (some dd)) := upd_same
        have ed := s1 _ _ e1
        generalize upd H' a (ExO a (.ref DM) (some dd)) = H1 at s1 ea ed ⊢
        refine ⟨_, rfl, rfl, _, rfl, iteF ⟨(by show 0 ≤ sizeLine; decide), fun p np => ?_⟩⟩
        have s2 := same_new (o := HO.lst []) np
        have ep : upd H1 p (.lst []) p = some (.lst []) := upd_same
        have ea2 := s2 _ _ ea
        have ed2 := s2 _ _ ed
        have np' : H' p = none := s1.free np
        generalize upd H1 p (.lst []) = H2 at s2 ep ea2 ed2 ⊢
        refine ⟨_, rfl, _, .ref DC, .ref DM, .ref DC, false, rfl, .own DC, .held ea2 ed2 R.cDM.xc, R.kDM_DC, _, rfl, iteF ?_⟩
        refine ⟨_, rfl, _, .ref DS, .ref DM, .ref DS, false, rfl, .own DS, .held ea2 ed2 R.cDM.xc, R.kDM_DS, _, rfl, iteF ?_⟩
        refine ⟨_, rfl, _, .ref DT, .ref DM, .ref DT, false, rfl, .own DT, .held ea2 ed2 R.cDM.xc, R.kDM_DT, _, rfl, iteF ?_⟩
        refine ⟨_, rfl, _, .ref DN, .ref DM, .ref DN, false, rfl, .own DN, .held ea2 ed2 R.cDM.xc, R.kDM_DN, _, rfl, iteF ?_⟩
        refine ⟨_, rfl, _, .ref DM, .ref DM, .ref DM, true, rfl, .own DM, .held ea2 ed2 R.cDM.xc, R.cDM.me, _, rfl, iteT ⟨_, rfl, .inl ⟨rfl, _, SqL.of ep⟩, _, rfl, a, dd, _, _, rfl, ea2, ed2, f0, _, rfl, a, dd, _, _, rfl, ea2, ed2, f1, (by show 3 ≤ sizeLine; decide), fun t ft => ?_⟩⟩
        have s3 := same_new (o := HO.tup [V.str (Str.ofString "many"), v0, v1]) ft
        refine ⟨p, _, _, rfl, rfl, s3 _ _ ep, (by show 0 < sizeLine; decide), ?_⟩
        have tp : t ≠ p := fun e => by rw [e, ep] at ft; cases ft
        have ap : a ≠ p := fun e => by rw [e, ep] at ea2; cases ea2
        have dp : dd ≠ p := fun e => by rw [e, ep] at ed2; cases ed2
        have s4 : Same H' (upd (upd H2 t (.tup [V.str (Str.ofString "many"), v0, v1])) p (.lst ([] ++ [V.ref t]))) := fun b o e => by
          rw [upd_ne (ne_of_none e np')]
          exact s3 _ _ (s2 _ _ (s1 _ _ e))
        have ft' : H' t = none := (s1.trans s2).free ft
        have et : upd (upd H2 t (.tup [V.str (Str.ofString "many"), v0, v1])) p (.lst ([] ++ [V.ref t])) t = some (.tup [V.str (Str.ofString "many"), v0, v1]) := by rw [upd_ne tp]; exact upd_same
        have ea3 : upd (upd H2 t (.tup [V.str (Str.ofString "many"), v0, v1])) p (.lst ([] ++ [V.ref t])) a = some (ExO a (.ref DM) (some dd)) := by rw [upd_ne ap]; exact s3 _ _ ea2
        have ed3 : upd (upd H2 t (.tup [V.str (Str.ofString "many"), v0, v1])) p (.lst ([] ++ [V.ref t])) dd = some (.xd fs) := by rw [upd_ne dp]; exact s3 _ _ ed2
        have ep3 : upd (upd H2 t (.tup [V.str (Str.ofString "many"), v0, v1])) p (.lst ([] ++ [V.ref t])) p = some (.lst [V.ref t]) := upd_same
        generalize upd (upd H2 t (.tup [V.str (Str.ofString "many"), v0, v1])) p (.lst ([] ++ [V.ref t])) = H3 at s4 et ea3 ed3 ep3 ⊢
        refine ⟨_, rfl, p, _, rfl, .inl (SqL.of ep3), rfl, _, rfl, iteT ⟨_, rfl, _, .ty "ValueError", .ref DM, .type "ValueError", true, rfl, .ty _, .held ea3 ed3 R.cDM.xc, R.cDM.va, _, rfl, iteT ⟨_, rfl, p, _, 0, _, rfl, rfl, SqL.of ep3, atI_nat (j := 0) rfl, ?_⟩⟩⟩
        exact go t H3 s4 ft' et
    · refine ⟨_, h0, ?_⟩
      rintro x H1 go
      refine ⟨_, rfl, rfl, _, rfl, iteT ?_⟩
      refine ⟨_, rfl, (by show 1 ≤ sizeLine; decide), fun t ft => ?_⟩
      exact go t _ (same_new ft) ft upd_same
end Lw
namespace Lw
open PySem PySem.Spec PyProof.Rows L2
open SX PySem.NumText TL LamX ClX StX
/-! ### errors of one field, raised -/
def spE1 (C : Addr) (f1 : Str) : Sp := fun vs H Q _ => ∃ (a : Addr) (v1 : V), vs = [.ref a, v1] ∧ H a = some (exo a C none) ∧ ∀ dx, H dx = none → dx ≠ a → ∀ fs, fs.lookup f1 = some v1 → Q .non (upd (upd H dx (exd dx fs)) a (exo a C (some dx)))
/-- the error's class, ready to be raised -/
structure Err1 (nm f1 : Str) (P : Program) (w : World) (K : PySem.W.Frag) (mg : Str → Option Value) (base : Heap) (D fE : Addr) (fdE : FuncData) : Prop where
  T : OexC K D
  iC : PySem.W.findIn K (.ref D) "__init__" = some (some (.ref fE))
  tI : PySem.W.typeIn K (.ref fE) = some (.type "function")
  F : FnOk P w K mg base C8.CX0 1 fE fdE ["self", f1] (spE1 D f1)
  b : Binds K fdE ["self", f1] []
  hm : mg nm = some (.ref D)
section
variable {X : Cx} {f1 : Str} {C fI : Addr} {fd : FuncData} {W : WX} {j : Nat} {e1 : Expr} {te1 : TE} {p pos pos2 : Pos}
/-- raise X(e1), X such a class -/
def tBad1 (f1 : Str) (C : Addr) (W : WX) (te1 : TE) : TS := fun _ σ H => tMkO C (spE1 C f1) [] (tCons te1 tNil) σ H fun cls d H' => W cls d σ H'
theorem ps_bad1 {x : Str} (hc : X.calm = true) (tk : Takes X W) (T : OexC X.K C) (iC : PySem.W.findIn X.K (.ref C) "__init__" = some (some (.ref fI))) (tI : PySem.W.typeIn X.K (.ref fI) = some (.type "function")) (F : FnOk X.prog X.w X.K X.mg X.base C8.CX0 1 fI fd ["self", f1] (spE1 C f1)) (hr : Room (j + 2) X.A) (hb : Binds X.K fd ["self", f1] [])
    (hg : Gl X x) (hm : X.mg x = some (.ref C)) (he1 : PE X e1 te1) (hst : starEach [e1] X.env = (false, eval e1 X.env) :: starEach [] X.env := by rfl) (hdb : (x == ("__debug__" : Str)) = false := by decide) (hpl : (backTo pos (starEach [] X.env)).any (·.1) = false := by rfl) :
    PS X (.Raise (some (.Call (.Name x p) [e1] [] pos)) none pos2) (tBad1 f1 C W te1) :=
  ps_raise hc tk (pmk_oex T iC tI F (hr.mono (by omega)) hb .nil C8.pass0 hg hm (pa_cons he1 pa_nil hst) hdb hst hpl)
theorem bad_leaf1 {H1 : Hp} {v1 : V} {Q : XK} (k : ∀ d fs, H1 d = none → fs.lookup f1 = some v1 → Q (.ref C) (some d) (upd H1 d (.xd fs))) :
    ([v1] : List V).length ≤ 1000 ∧ ∀ a, H1 a = none → spE1 C f1 (.ref a :: ([v1] ++ [])) (upd H1 a (exo a C none)) (fun z H2 => z = .non ∧ ∃ (d : Addr) (fs : List (Str × V)), H2 a = some (exo a C (some d)) ∧ H2 d = some (exd d fs) ∧ H1 d = none ∧ Q (.ref C) (some d) (upd (del H2 a) d (.xd fs))) (fun _ _ _ => False) := by
  refine ⟨(by show 1 ≤ 1000; decide), fun a ha => ⟨a, v1, rfl, upd_same, fun dx h1 h2 fs e1 => ?_⟩⟩
  rw [upd_ne h2] at h1
  refine ⟨rfl, dx, fs, upd_same, by rw [upd_ne h2]; exact upd_same, h1, ?_⟩
  have e : upd (del (upd (upd (upd H1 a (exo a C none)) dx (exd dx fs)) a (exo a C (some dx))) a) dx (.xd fs) = upd H1 dx (.xd fs) := by
    funext b
    by_cases q : b = dx
    · rw [q, upd_same, upd_same]
    · rw [upd_ne q, upd_ne q]
      by_cases q2 : b = a
      · rw [q2, del_same, ha]
      · rw [del_ne q2, upd_ne q2, upd_ne q, upd_ne q2]
  rw [e]
  exact k dx fs h1 e1
end
/-- refused: the error keeps the value -/
def Bf (D : Addr) (f : Str) (x : V) (H : Hp) (E : XK) : Prop := ∀ d fs H', Same H H' → H' d = none → fs.lookup f = some x → E (.ref D) (some d) (upd H' d (.xd fs))
theorem Bf.of {D : Addr} {f : Str} {x : V} {H H' : Hp} {E : XK} (h : Bf D f x H E) (s : Same H H') : Bf D f x H' E := fun d fs H2 s2 hd f1 => h d fs H2 (s.trans s2) hd f1
abbrev sBszE : Stmt := inClass (top 8) 0
theorem scBszE : FnScope ["self", "value"] ["self", "value"] (C8.fnScope sBszE) := C8.fnScope_by (by decide +kernel)
theorem fn_BszE {P : Program} {w : World} {K : PySem.W.Frag} {mg : Str → Option Value} {base : Heap} {C f : Addr} {fd : FuncData} (F : C8.Fun K "__init__" "BadSize.__init__" sBszE f fd) (T : OexC K C) (no1 : PySem.W.findIn K (.ref C) "value" = some none) : FnOk P w K mg base C8.CX0 1 f fd ["self", "value"] (spE1 C "value") := by
  refine C8.fn0 F scBszE (fun vs H Q E h => ?_) (fun cdv A outer st H vs Q E hr h => ?_)
  · obtain ⟨a, v1, rfl, _⟩ := h
    rfl
  · obtain ⟨a, v1, rfl, ha, k⟩ := h
    refine ⟨_, (pss_one (ps_ost (pv 0) (pv 1))), ?_⟩
    exact ⟨_, rfl, _, rfl, a, C, rfl, T, no1, .inl ⟨ha, fun dx h1 h2 => k dx h1 h2 _ (by rw [lookup_put, if_pos rfl])⟩⟩
abbrev sBchE : Stmt := inClass (top 10) 0
theorem scBchE : FnScope ["self", "part"] ["self", "part"] (C8.fnScope sBchE) := C8.fnScope_by (by decide +kernel)
theorem fn_BchE {P : Program} {w : World} {K : PySem.W.Frag} {mg : Str → Option Value} {base : Heap} {C f : Addr} {fd : FuncData} (F : C8.Fun K "__init__" "BadChunks.__init__" sBchE f fd) (T : OexC K C) (no1 : PySem.W.findIn K (.ref C) "part" = some none) : FnOk P w K mg base C8.CX0 1 f fd ["self", "part"] (spE1 C "part") := by
  refine C8.fn0 F scBchE (fun vs H Q E h => ?_) (fun cdv A outer st H vs Q E hr h => ?_)
  · obtain ⟨a, v1, rfl, _⟩ := h
    rfl
  · obtain ⟨a, v1, rfl, ha, k⟩ := h
    refine ⟨_, (pss_one (ps_ost (pv 0) (pv 1))), ?_⟩
    exact ⟨_, rfl, _, rfl, a, C, rfl, T, no1, .inl ⟨ha, fun dx h1 h2 => k dx h1 h2 _ (by rw [lookup_put, if_pos rfl])⟩⟩
abbrev sBtoE : Stmt := inClass (top 9) 0
theorem scBtoE : FnScope ["self", "value"] ["self", "value"] (C8.fnScope sBtoE) := C8.fnScope_by (by decide +kernel)
theorem fn_BtoE {P : Program} {w : World} {K : PySem.W.Frag} {mg : Str → Option Value} {base : Heap} {C f : Addr} {fd : FuncData} (F : C8.Fun K "__init__" "BadTotal.__init__" sBtoE f fd) (T : OexC K C) (no1 : PySem.W.findIn K (.ref C) "value" = some none) : FnOk P w K mg base C8.CX0 1 f fd ["self", "value"] (spE1 C "value") := by
  refine C8.fn0 F scBtoE (fun vs H Q E h => ?_) (fun cdv A outer st H vs Q E hr h => ?_)
  · obtain ⟨a, v1, rfl, _⟩ := h
    rfl
  · obtain ⟨a, v1, rfl, ha, k⟩ := h
    refine ⟨_, (pss_one (ps_ost (pv 0) (pv 1))), ?_⟩
    exact ⟨_, rfl, _, rfl, a, C, rfl, T, no1, .inl ⟨ha, fun dx h1 h2 => k dx h1 h2 _ (by rw [lookup_put, if_pos rfl])⟩⟩
abbrev sNchE : Stmt := inClass (top 12) 0
theorem scNchE : FnScope ["self", "at"] ["self", "at"] (C8.fnScope sNchE) := C8.fnScope_by (by decide +kernel)
theorem fn_NchE {P : Program} {w : World} {K : PySem.W.Frag} {mg : Str → Option Value} {base : Heap} {C f : Addr} {fd : FuncData} (F : C8.Fun K "__init__" "NoChunk.__init__" sNchE f fd) (T : OexC K C) (no1 : PySem.W.findIn K (.ref C) "at" = some none) : FnOk P w K mg base C8.CX0 1 f fd ["self", "at"] (spE1 C "at") := by
  refine C8.fn0 F scNchE (fun vs H Q E h => ?_) (fun cdv A outer st H vs Q E hr h => ?_)
  · obtain ⟨a, v1, rfl, _⟩ := h
    rfl
  · obtain ⟨a, v1, rfl, ha, k⟩ := h
    refine ⟨_, (pss_one (ps_ost (pv 0) (pv 1))), ?_⟩
    exact ⟨_, rfl, _, rfl, a, C, rfl, T, no1, .inl ⟨ha, fun dx h1 h2 => k dx h1 h2 _ (by rw [lookup_put, if_pos rfl])⟩⟩

/-! ### Chunks, made of any values -/
def isZ (y : V) : Bool := inB y 1 (10 ^ 30)
theorem isZ_int {y : V} (h : isZ y = true) : ∃ v, y = .int v ∧ 1 ≤ v ∧ v ≤ 10 ^ 30 := by
  unfold isZ inB at h
  split at h
  · rename_i v
    rw [Bool.and_eq_true, decide_eq_true_eq, decide_eq_true_eq] at h
    exact ⟨v, rfl, h.1, h.2⟩
  · cases h
theorem isZ_of {v : Int} (h1 : 1 ≤ v) (h2 : v ≤ 10 ^ 30) : isZ (.int v) = true := by
  show (decide (1 ≤ v) && decide (v ≤ 10 ^ 30)) = true
  rw [decide_eq_true h1, decide_eq_true h2]; rfl
def SzB (ns : List Int) : Prop := ∀ v ∈ ns, 1 ≤ v ∧ v ≤ 10 ^ 30
theorem all_int {xs : List V} (h : ∀ y ∈ xs, isZ y = true) : ∃ ns, xs = ns.map V.int ∧ SzB ns := by
  induction xs with
  | nil => exact ⟨[], rfl, fun v hv => by cases hv⟩
  | cons y r ih =>
    obtain ⟨ns, e, sb⟩ := ih fun z hz => h z (List.mem_cons_of_mem _ hz)
    obtain ⟨v, rfl, h1, h2⟩ := isZ_int (h y List.mem_cons_self)
    exact ⟨v :: ns, by rw [List.map_cons, e], fun u hu => by
      rcases List.mem_cons.mp hu with rfl | hu
      · exact ⟨h1, h2⟩
      · exact sb u hu⟩
/-- the ends, from a on -/
def endsL : Int → List Int → List Int
  | _, [] => []
  | a, n :: r => (a + n) :: endsL (a + n) r
theorem endsL_len : ∀ (a : Int) (ns : List Int), (endsL a ns).length = ns.length
  | _, [] => rfl
  | a, n :: r => by show (endsL (a + n) r).length + 1 = r.length + 1; rw [endsL_len]
theorem endsL_snoc : ∀ (a n : Int) (ns : List Int), endsL a (ns ++ [n]) = endsL a ns ++ [a + ns.sum + n]
  | a, n, [] => by show [a + n] = [a + 0 + n]; rw [Int.add_zero]
  | a, n, m :: r => by
    show (a + m) :: endsL (a + m) (r ++ [n]) = (a + m) :: (endsL (a + m) r ++ [a + (m :: r).sum + n])
    rw [endsL_snoc (a + m) n r, List.sum_cons, Int.add_assoc a m r.sum]
def restsL (ns : List Int) : List Int := List.zipWith (fun e s => ns.sum - e + s) (endsL 0 ns) ns
def MkR (CC DM DS x dx p : Addr) (xs : List V) (H : Hp) (Q : VK) (E : XK) : Prop :=
  (∀ (i : Nat) y, xs[i]? = some y → (∀ (j : Nat) z, j < i → xs[j]? = some z → isZ z = true) → isZ y = false → Bf DS "value" y H E) ∧
  (∀ ns, xs = ns.map V.int → SzB ns → (ns.length ≤ 5000 → ∀ e r H', Kp x H H' → H' x = some (.ins CC dx (chF p ns.sum e r)) → H' e = some (.tup ((endsL 0 ns).map V.int)) → H' r = some (.tup ((restsL ns).map V.int)) → Q .non H') ∧ (5000 < ns.length → Mf DM H E))
def spCI2 (K : PySem.W.Frag) (CC DM DS : Addr) : Sp := fun vs H Q E => ∃ (x dx p : Addr) (xs : List V), vs = [.ref x, .ref p] ∧ H x = some (.ins CC dx []) ∧ H p = some (.tup xs) ∧ xs.length ≤ 20000 ∧ (∀ y ∈ xs, Anyv K H y) ∧ MkR CC DM DS x dx p xs H Q E
theorem chF_total (p : Addr) (t : Int) (e r : Addr) : (chF p t e r).lookup ("total" : Str) = some (.int t) := by
  unfold chF
  rw [lookup_putF, if_neg (by decide +kernel), lookup_putF, if_neg (by decide +kernel), lookup_putF, if_pos rfl]
theorem chF_ends (p : Addr) (t : Int) (e r : Addr) : (chF p t e r).lookup ("ends" : Str) = some (.ref e) := by
  unfold chF
  rw [lookup_putF, if_neg (by decide +kernel), lookup_putF, if_pos rfl]
theorem chF_rests (p : Addr) (t : Int) (e r : Addr) : (chF p t e r).lookup ("rests" : Str) = some (.ref r) := by
  unfold chF
  rw [lookup_putF, if_pos rfl]
section
variable {P : Program} {w : World} {K : PySem.W.Frag} {mg : Str → Option Value} {base : Heap}
theorem fn_ci2 {CC DM DS fM fE f : Addr} {mc : Value} {fd fdM fdE : FuncData} (F : C8.Fun K "__init__" "Chunks.__init__" sCI f fd) (df : fd.defaults = .none) (T : Txt mg) (hz : mg "zip" = none) (htu : mg "tuple" = none) (Z : ChC P w K mg base CC DM mc) (ES : Err1 "BadSize" "value" P w K mg base DS fE fdE) (DSz : C8.Cal P w K mg base 3 "is_size" (spSize K) []) (DM' : C8.Def K mg "check_many" sCM fM fdM) (bM : Binds K fdM ["many"] []) (FM : FnOk P w K mg base (L2.CX P w) 3 fM fdM ["many"] (spCM DM)) :
    FnR P w K mg base (L2.CX P w) 5 f (fun vs H Q E => ∃ ws rest, vs = ws ++ rest ∧ ws.length = ["self"].length ∧ rest.length ≤ sizeLine ∧ ∀ p, H p = none → spCI2 K CC DM DS (ws ++ [V.ref p]) (upd H p (.tup rest)) Q E) := by
  obtain ⟨oc, od, dV, kV, doc, pm, an, cdv, ct, osl, rfl, lk, hcd⟩ := F.ex
  have e0 : dV = .none := df
  subst e0
  refine fn_star (ps := ["self"]) (pv := "sizes") lk hcd scCI cxUp (fun us rest hl => bind_star1 (p1 := "self") (pv := "sizes") (B := fun zs => bindArgs _ ⟨zs, []⟩) (fun a => rfl) (fun a r rs => rfl) us rest hl) fun A outer s H vs Q E hr h => ?_
  obtain ⟨x, dx, p, xs, rfl, hx, hp, sl, av, k0, k1⟩ := h
  have tk : Takes (cxOf (L2.CX P w) P w K mg base ["self", "sizes", "size", "ends", "done", "end"] "Chunks.__init__" (C8.fnScope sCI) f cdv A outer s H E) (fun cls d _ H' => E cls d H') := takes_of rfl rfl rfl rfl
  refine ⟨_, (pss_cons (ps_for (passes_of rfl) rfl (pi_tup (pv 1)) (pg_name (i := 2) scCI.nd rfl (Or.inl rfl)) (pss_one (ps_if (pt_not (pt_val (C8.pe_c DSz hr (by decide) (by rfl) (pa_cons (pv 2) pa_nil)))) (pss_one (ps_bad1 (x := "BadSize") rfl tk ES.T ES.iC ES.tI ES.F hr ES.b (by rfl) ES.hm (pv 2))) pss_nil)))
    (pss_cons (ps_expr (pe_call FM (hr.mono (by decide)) (by rfl) DM'.mgf DM'.kp bM .nil (passes_call (takes_of rfl rfl rfl rfl) (fun _ _ _ _ z => z)) (pa_cons (pe_callB call_len_seq (by rfl) T.n_len (by decide +kernel) (pa_cons (pv 1) pa_nil)) pa_nil)))
    (pss_cons (ps_set (i := 3) scCI.nd rfl (Or.inl rfl) (pe_lst pa_nil))
    (pss_cons (ps_set (i := 4) scCI.nd rfl (Or.inr rfl) pe_int)
    (pss_cons (ps_for (passes_of rfl) rfl (pi_tup (pv 1)) (pg_name (i := 2) scCI.nd rfl (Or.inl rfl)) (pss_cons (ps_set (i := 4) scCI.nd rfl (Or.inr rfl) (pe_op op_add (pv 4) (pv 2))) (pss_one (ps_expr (pe_bm PySem.F.plainAttrs_list PySem.F.slot_list_append PySem.F.type_list_append mt_append (pv 3) (pa_cons (pv 4) pa_nil))))))
    (pss_cons (ps_fld (pv 0) (pv 1) rfl)
    (pss_cons (ps_fld (pv 0) (pv 4) rfl)
    (pss_cons (ps_fld (pv 0) (pe_callTy call_tuple_of (by rfl) htu (by decide +kernel) (pa_cons (pv 3) pa_nil)) rfl)
    (pss_one (ps_fld (pv 0) (pe_callTy call_tuple_of (by rfl) htu (by decide +kernel) (pa_cons (pe_lc (own := [("end", 5), ("size", 2)]) (g := gTup K 2 (gCons (gName 5) (gCons (gName 2) (gNil)))) (tt := tYes) rfl scCI.nd (Zm.pi_zipM (by rfl) hz (pa_cons (pv 3) (pa_cons (pv 1) pa_nil))) (blkOk_by (own := [("end", 5), ("size", 2)]) (N := ["self", "sizes", "size", "ends", "done", "end"]) (sc := (C8.fnScope sCI)) (by decide +kernel)) (fun _ _ _ _ _ => pg_tup rfl (pgs_cons (pg_name (i := 5) scCI.nd rfl (Or.inl rfl)) (pgs_cons (pg_name (i := 2) scCI.nd rfl (Or.inl rfl)) pgs_nil))) (fun _ _ _ _ _ => pts_nil) (fun _ _ _ _ _ => (pe_op op_add (pe_op op_sub (pv 4) (pv 5)) (pv 2)))) pa_nil)) rfl)))))))))), ?_⟩
  have xp : x ≠ p := fun e => by rw [e, hp] at hx; cases hx
  refine ⟨_, rfl, p, rfl, ⟨_, SqT.of hp⟩, for_tup (xs := xs) (fun i σ' H' => ∃ v, σ' = [some (.ref x), some (.ref p), v, none, none, none] ∧ H' = H ∧ ∀ j z, j < i → xs[j]? = some z → isZ z = true) ⟨_, rfl, rfl, fun j z h => absurd h (Nat.not_lt_zero _)⟩ (fun i σ' H' _ h => by obtain ⟨v, _, rfl, _⟩ := h; exact SqT.of hp) ?_ ?_⟩
  · rintro i y σ' H' hy ⟨v, rfl, rfl, good⟩
    refine ⟨_, rfl, y, rfl, av y (List.mem_of_getElem? hy), _, rfl, ?_⟩
    show if (!isZ y) = true then _ else _
    cases hzy : isZ y with
    | false => exact iteT ⟨_, rfl, bad_leaf1 fun d fs hd e1 => k0 i y hy good hzy d fs H' (Same.refl _) hd e1⟩
    | true =>
      refine iteF ⟨_, rfl, rfl, fun j z hj hz' => ?_⟩
      by_cases e : j = i
      · subst e
        rw [hy] at hz'
        cases hz'
        exact hzy
      · exact good j z (by omega) hz'
  · rintro σ1 H1 ⟨v1, rfl, rfl, good⟩
    obtain ⟨ns, rfl, sb⟩ := all_int (xs := xs) fun y hy => by
      obtain ⟨i, hi, e⟩ := List.mem_iff_getElem.mp hy
      exact good i y hi (by rw [← e]; exact List.getElem?_eq_getElem hi)
    obtain ⟨k1, k2⟩ := k1 ns rfl sb
    clear good k0 av tk
    have hlen : (ns.map V.int).length = ns.length := List.length_map _
    have gets : ∀ {i : Nat} {y : V}, (ns.map V.int)[i]? = some y → ∃ v, y = .int v ∧ ns[i]? = some v := fun {i y} e => by
      rw [List.getElem?_map] at e
      cases hq : ns[i]? with
      | none => rw [hq] at e; cases e
      | some v => rw [hq] at e; cases e; exact ⟨v, rfl, rfl⟩
    refine ⟨_, rfl, p, _, rfl, .inr (SqT.of hp), _, rfl, fun hm => ?_, fun hm => k2 (by rw [hlen] at hm; omega)⟩
    have lm : ns.length ≤ 5000 := by rw [hlen] at hm; omega
    have k1 := k1 lm
    refine ⟨(by show 0 ≤ sizeLine; decide), fun q fq => ?_⟩
    have s1 := same_new (o := HO.lst []) fq
    have hq1 : upd H1 q (.lst []) q = some (.lst []) := upd_same
    generalize upd H1 q (.lst []) = H2 at s1 hq1 ⊢
    dsimp only [gName, tSeq]
    refine ⟨_, rfl, p, rfl, ⟨_, SqT.of (s1 _ _ hp)⟩, for_tup (xs := ns.map V.int) (fun i σ' H' => ∃ (v : Option V), σ' = [some (.ref x), some (.ref p), v, some (.ref q), some (.int (ns.take i).sum), none] ∧ Same H1 H' ∧ H' q = some (.lst ((endsL 0 (ns.take i)).map V.int))) ⟨_, rfl, s1, hq1⟩ (fun i σ' H' _ h => by obtain ⟨v, _, s', _⟩ := h; exact SqT.of (s' _ _ hp)) ?_ ?_⟩
    · rintro i y σ' H' hy ⟨v, rfl, s', hq'⟩
      obtain ⟨v0, rfl, hv0⟩ := gets hy
      have hi : i < ns.length := (List.getElem?_eq_some_iff.mp hv0).1
      have et : ns.take (i + 1) = ns.take i ++ [v0] := by rw [List.take_add_one, hv0]; rfl
      refine ⟨_, rfl, _, rfl, _, _, rfl, rfl, ?_⟩
      refine ⟨_, rfl, .inl ⟨rfl, _, SqL.of hq'⟩, _, rfl, q, _, _, rfl, rfl, hq', ?_, ?_⟩
      · rw [List.length_map, endsL_len]
        exact Nat.lt_of_le_of_lt (Nat.le_trans (List.length_take_le _ _) (show i ≤ 5000 by omega)) (by decide)
      · refine ⟨some (.int v0), ?_, fun b o e => ?_, ?_⟩
        · rw [et, List.sum_append, List.sum_singleton]; rfl
        · rw [upd_ne (ne_of_none e fq)]
          exact s' _ _ e
        · rw [upd_same, et, endsL_snoc, List.map_append, Int.zero_add]; rfl
    · rintro σ2 H3 ⟨v, rfl, s3, hq3⟩
      rw [hlen, List.take_of_length_le (Nat.le_refl _)] at hq3
      have xq : x ≠ q := fun e => by rw [e, fq] at hx; cases hx
      have hx3 := s3 _ _ hx
      have hp3 := s3 _ _ hp
      rw [hlen, List.take_of_length_le (Nat.le_refl _)]
      refine ⟨_, rfl, _, rfl, x, CC, dx, [], rfl, hx3, Z.cl, Z.n1, (by show 0 < 1000; decide), ?_⟩
      refine ⟨_, rfl, _, rfl, x, CC, dx, _, rfl, upd_same, Z.cl, Z.n2, (by show 1 < 1000; decide), ?_⟩
      rw [upd_upd]
      have f2 : (putF "total" (.int ns.sum) (putF "sizes" (.ref p) [])).length < 900 := Nat.lt_of_le_of_lt (Nat.le_trans (putF_len _ _ _) (Nat.add_le_add_right (putF_len _ _ _) 1)) (by decide)
      have kp4 : Kp x H1 (upd H3 x (.ins CC dx (putF "total" (.int ns.sum) (putF "sizes" (.ref p) [])))) := fun b o hb e => by rw [upd_ne hb]; exact s3 _ _ e
      have hx4 : upd H3 x (.ins CC dx (putF "total" (.int ns.sum) (putF "sizes" (.ref p) []))) x = some (.ins CC dx (putF "total" (.int ns.sum) (putF "sizes" (.ref p) []))) := upd_same
      have hq4 : upd H3 x (.ins CC dx (putF "total" (.int ns.sum) (putF "sizes" (.ref p) []))) q = some (.lst ((endsL 0 ns).map V.int)) := by rw [upd_ne xq.symm]; exact hq3
      have hp4 : upd H3 x (.ins CC dx (putF "total" (.int ns.sum) (putF "sizes" (.ref p) []))) p = some (.tup (ns.map V.int)) := by rw [upd_ne xp.symm]; exact hp3
      generalize hg : putF "total" (.int ns.sum) (putF "sizes" (.ref p) []) = fs at *
      generalize upd H3 x (.ins CC dx fs) = H4 at *
      refine ⟨_, rfl, q, _, rfl, .inl ⟨SqL.of hq4, fun e1 fe => ?_⟩⟩
      have s5 := same_new (o := HO.tup ((endsL 0 ns).map V.int)) fe
      refine ⟨_, rfl, x, CC, dx, fs, rfl, s5 _ _ hx4, Z.cl, Z.n3, by omega, ?_⟩
      have xe : x ≠ e1 := fun e => by rw [e, fe] at hx4; cases hx4
      have hx6 : upd (upd H4 e1 (.tup ((endsL 0 ns).map V.int))) x (.ins CC dx (putF "ends" (.ref e1) fs)) x = some (.ins CC dx (putF "ends" (.ref e1) fs)) := upd_same
      have hq6 : upd (upd H4 e1 (.tup ((endsL 0 ns).map V.int))) x (.ins CC dx (putF "ends" (.ref e1) fs)) q = some (.lst ((endsL 0 ns).map V.int)) := by rw [upd_ne xq.symm]; exact s5 _ _ hq4
      have hp6 : upd (upd H4 e1 (.tup ((endsL 0 ns).map V.int))) x (.ins CC dx (putF "ends" (.ref e1) fs)) p = some (.tup (ns.map V.int)) := by rw [upd_ne xp.symm]; exact s5 _ _ hp4
      have he6 : upd (upd H4 e1 (.tup ((endsL 0 ns).map V.int))) x (.ins CC dx (putF "ends" (.ref e1) fs)) e1 = some (.tup ((endsL 0 ns).map V.int)) := by rw [upd_ne xe.symm]; exact upd_same
      have kp6 : Kp x H1 (upd (upd H4 e1 (.tup ((endsL 0 ns).map V.int))) x (.ins CC dx (putF "ends" (.ref e1) fs))) := fun b o hb e => by rw [upd_ne hb]; exact s5 _ _ (kp4 _ _ hb e)
      generalize upd (upd H4 e1 (.tup ((endsL 0 ns).map V.int))) x (.ins CC dx (putF "ends" (.ref e1) fs)) = H6 at hx6 hq6 hp6 kp6 he6 ⊢
      have ll : ((endsL 0 ns).map V.int).length = (ns.map V.int).length := by rw [List.length_map, List.length_map, endsL_len]
      have rl0 : (restsL ns).length = ns.length := by unfold restsL; rw [List.length_zipWith, endsL_len, Nat.min_self]
      refine ⟨_, rfl, _, rfl, q, p, _, _, rfl, ⟨SqL.of hq6, SqT.of hp6⟩, fun D hD => lc_it (Zm.walk (xs := (endsL 0 ns).map V.int) (ys := ns.map V.int) ll) (fun i H' => Same H6 H' ∧ H' D = some (.lst (((restsL ns).take i).map V.int))) ⟨same_new hD, upd_same⟩ (fun i H' _ h => ⟨SqL.of (h.1 _ _ hq6), SqT.of (h.1 _ _ hp6)⟩) ?_ ?_⟩
      · rintro i y H' H'' hi ⟨s', hd⟩ ⟨T', y1, y2, ⟨rfl, fT, rfl⟩, g1, g2⟩
        obtain ⟨a1, rfl, ga1⟩ : ∃ a1, y1 = .int a1 ∧ (endsL 0 ns)[i]? = some a1 := by
          rw [List.getElem?_map] at g1
          cases hq : (endsL 0 ns)[i]? with
          | none => rw [hq] at g1; cases g1
          | some v => rw [hq] at g1; cases g1; exact ⟨v, rfl, rfl⟩
        obtain ⟨a2, rfl, ga2⟩ := gets g2
        have sT := same_new (o := HO.tup [V.int a1, V.int a2]) fT
        refine ⟨T', _, rfl, SqT.of upd_same, rfl, _, _, rfl, _, _, rfl, rfl, rfl, ?_⟩
        dsimp only [tYes]
        rw [if_pos rfl]
        have hin : i < ns.length := (List.getElem?_eq_some_iff.mp ga2).1
        have gr : (restsL ns)[i]? = some (ns.sum - a1 + a2) := by unfold restsL; rw [List.getElem?_zipWith, ga1, ga2]
        refine ⟨_, rfl, _, rfl, _, _, rfl, rfl, _, rfl, _, _, rfl, rfl, _, sT _ _ hd, ?_, fun b o e => ?_, ?_⟩
        · rw [List.length_map]
          exact Nat.lt_of_le_of_lt (Nat.le_trans (List.length_take_le _ _) (show i ≤ 5000 by omega)) (by decide)
        · rw [upd_ne (ne_of_none e hD)]
          exact sT _ _ (s' _ _ e)
        · rw [upd_same, List.take_add_one, gr, List.map_append]; rfl
      · rintro H7 ⟨s7, hd⟩
        rw [List.take_of_length_le (by rw [rl0, ll, hlen]; exact Nat.le_refl _)] at hd
        refine ⟨D, _, rfl, .inl ⟨SqL.of hd, fun r1 fr => ?_⟩⟩
        have s8 := same_new (o := HO.tup ((restsL ns).map V.int)) fr
        have hx7 := s7 _ _ hx6
        have xr : x ≠ r1 := fun e => by rw [e, fr] at hx7; cases hx7
        have er : e1 ≠ r1 := fun e => by rw [← e, s7 _ _ he6] at fr; cases fr
        refine ⟨_, rfl, x, CC, dx, _, rfl, s8 _ _ (s7 _ _ hx6), Z.cl, Z.n4, Nat.lt_of_le_of_lt (putF_len _ _ _) (by omega), ?_⟩
        refine k1 e1 r1 _ (fun b o hb e => ?_) ?_ ?_ ?_
        · rw [upd_ne hb]
          exact s8 _ _ (s7 _ _ (kp6 _ _ hb e))
        · rw [upd_same, ← hg]
          rfl
        · rw [upd_ne xe.symm, upd_ne er]
          exact s7 _ _ he6
        · rw [upd_ne xr.symm, upd_same]
end
end Lw
namespace Lw
open PySem PySem.Spec PyProof.Rows L2
open SX PySem.NumText TL LamX ClX StX
abbrev sCln : Stmt := inClass (top 22) 7
section
variable {X : Cx} {CX : CXT} {k : Nat} {f C : Addr} {sp : Sp} {E : XK} {x : Str} {p pos : Pos}
theorem pe_makeR0 (M : Mk X.K C f) (F : FnR X.prog X.w X.K X.mg X.base CX k f sp) (hr : Room (k + 1) X.A) (hg : Gl X x) (hm : X.mg x = some (.ref C)) (hx : Passes CX X E) (hdb : (x == ("__debug__" : Str)) = false := by decide) : PE X (.Call (.Name x p) [] [] pos) (tMakeR C sp E tNil) := by
  refine ⟨fun pins s σ H Q I h => ?_⟩
  refine wpAny_Call_Name_kw (ld_glob I hg hm ?_ hdb)
  exact PySem.W.callWith_K0 I.kIn M.kp (run_makeR M F hr hx I .nil h)
end
/-- Chunks of these sizes, with all that it keeps -/
def ChA (CC : Addr) (H : Hp) (c : Addr) (ns : List Int) : Prop := ∃ dx p e r, H c = some (.ins CC dx (chF p ns.sum e r)) ∧ H p = some (.tup (ns.map V.int)) ∧ H e = some (.tup ((endsL 0 ns).map V.int)) ∧ H r = some (.tup ((restsL ns).map V.int))
theorem ChA.weak {CC : Addr} {H : Hp} {c : Addr} {ns : List Int} (h : ChA CC H c ns) : ChAt CC H c ns := by
  obtain ⟨dx, p, e, r, h1, h2, _⟩ := h
  exact ⟨dx, p, _, e, r, h1, h2⟩
theorem ChA.move {CC : Addr} {H H' : Hp} {c : Addr} {ns : List Int} (h : ChA CC H c ns) (k : ∀ b o, H b = some o → (∀ xs, o ≠ .lst xs) → (∀ ps, o ≠ .tbl ps) → H' b = some o) : ChA CC H' c ns := by
  obtain ⟨dx, p, e, r, h1, h2, h3, h4⟩ := h
  exact ⟨dx, p, e, r, k _ _ h1 (fun ps z => by cases z) (fun ps z => by cases z), k _ _ h2 (fun ps z => by cases z) (fun ps z => by cases z), k _ _ h3 (fun ps z => by cases z) (fun ps z => by cases z), k _ _ h4 (fun ps z => by cases z) (fun ps z => by cases z)⟩
theorem ChA.same {CC : Addr} {H H' : Hp} {c : Addr} {ns : List Int} (h : ChA CC H c ns) (s : Same H H') : ChA CC H' c ns := h.move fun b o e _ _ => s b o e
theorem ChA.extn {CC : Addr} {H H' : Hp} {c : Addr} {ns : List Int} (h : ChA CC H c ns) (s : ExtN H H') : ChA CC H' c ns := h.move fun b o e _ n => s b o e n
theorem ChA.kp {CC : Addr} {H H' : Hp} {c p pl : Addr} {n : Nat} {ns : List Int} (h : ChA CC H c ns) (hp : Pen H p pl n) (k : Kp p H H') : ChA CC H' c ns := by
  obtain ⟨xs, a, g, hh, _⟩ := hp
  exact h.move fun b o e nl _ => k b o (fun z => by rw [z, hh.at_] at e; exact nl _ (Option.some.inj e).symm) e
/-- what making Chunks of these values comes to -/
def MkO (CC DM DS : Addr) (xs : List V) (H : Hp) (Q : VK) (E : XK) : Prop :=
  (∀ (i : Nat) y, xs[i]? = some y → (∀ (j : Nat) z, j < i → xs[j]? = some z → isZ z = true) → isZ y = false → Bf DS "value" y H E) ∧
  (∀ ns, xs = ns.map V.int → SzB ns → (ns.length ≤ 5000 → ∀ c H', Same H H' → H c = none → ChA CC H' c ns → Q (.ref c) H') ∧ (5000 < ns.length → Mf DM H E))
theorem MkO.of {CC DM DS : Addr} {xs : List V} {H H' : Hp} {Q : VK} {E : XK} (h : MkO CC DM DS xs H Q E) (s : Same H H') : MkO CC DM DS xs H' Q E :=
  ⟨fun i y e g z => (h.1 i y e g z).of s, fun ns e sb => ⟨fun l c H2 s2 fc hc => (h.2 ns e sb).1 l c H2 (s.trans s2) (s.free fc) hc, fun l => ((h.2 ns e sb).2 l).of s⟩⟩
theorem map_int_inj : ∀ {ns ms : List Int}, ns.map V.int = ms.map V.int → ns = ms
  | [], [], _ => rfl
  | [], _ :: _, h => by cases h
  | _ :: _, [], h => by cases h
  | n :: r, m :: q, h => by
    rw [List.map_cons, List.map_cons] at h
    obtain ⟨h1, h2⟩ := List.cons.inj h
    rw [V.int.inj h1, map_int_inj h2]
/-- good sizes alone -/
theorem MkO.good {CC DM DS : Addr} {ns : List Int} {H : Hp} {Q : VK} {E : XK} (sb : SzB ns) (h1 : ns.length ≤ 5000 → ∀ c H', Same H H' → H c = none → ChA CC H' c ns → Q (.ref c) H') (h2 : 5000 < ns.length → Mf DM H E) : MkO CC DM DS (ns.map V.int) H Q E := by
  refine ⟨fun i y e _ z => ?_, fun ms e _ => ?_⟩
  · obtain ⟨v, hv, rfl⟩ := List.mem_map.mp (List.mem_of_getElem? e)
    obtain ⟨b1, b2⟩ := sb v hv
    rw [isZ_of b1 b2] at z
    cases z
  · have := map_int_inj e
    subst this
    exact ⟨h1, h2⟩
theorem any_ints (K : PySem.W.Frag) (H : Hp) (ns : List Int) : ∀ y ∈ ns.map V.int, Anyv K H y := fun y hy => by
  obtain ⟨v, _, rfl⟩ := List.mem_map.mp hy
  exact .int v
abbrev spSt (K : PySem.W.Frag) (CC DM DS : Addr) : Sp := fun vs H Q E => ∃ ws rest, vs = ws ++ rest ∧ ws.length = ["self"].length ∧ rest.length ≤ sizeLine ∧ ∀ p, H p = none → spCI2 K CC DM DS (ws ++ [V.ref p]) (upd H p (.tup rest)) Q E
theorem ci_made {K : PySem.W.Frag} {CC DM DS : Addr} {xs : List V} {H : Hp} {Q : VK} {E : XK} (h : MkO CC DM DS xs H Q E) (av : ∀ y ∈ xs, Anyv K H y) (l : xs.length ≤ 20000) (x dx : Addr) (hx : H x = none) (hdx : H dx = none) (ne : dx ≠ x) :
    spSt K CC DM DS (V.ref x :: xs) (upd (upd H dx (.own x)) x (.ins CC dx [])) (fun v H2 => v = .non ∧ Q (.ref x) H2) E := by
  refine ⟨[V.ref x], xs, rfl, rfl, Nat.le_trans l (by decide), fun p hp => ?_⟩
  have s2 : Same H (upd (upd H dx (.own x)) x (.ins CC dx [])) := (same_new hdx).trans (same_new (by rw [upd_ne ne.symm]; exact hx))
  have s3 := s2.trans (same_new (o := HO.tup xs) hp)
  have xp : x ≠ p := fun e => by rw [← e, upd_same] at hp; cases hp
  refine ⟨x, dx, p, xs, rfl, (by rw [upd_ne xp]; exact upd_same), upd_same, l, fun y hy => Lw.Anyv.same s3 (av y hy), fun i y e g z => (h.1 i y e g z).of s3, fun ns e sb => ⟨fun h5 e1 r1 H' kp hx' he hr => ⟨rfl, ?_⟩, fun h5 => ((h.2 ns e sb).2 h5).of s3⟩⟩
  subst e
  refine (h.2 ns rfl sb).1 h5 x H' (fun b o e' => kp b o (fun q => ?_) (s3 _ _ e')) hx ⟨dx, p, e1, r1, hx', kp p _ xp.symm upd_same, he, hr⟩
  rw [q, hx] at e'
  cases e'
/-- Chunks.__init__, ready to be called with a star -/
structure ChM2 (P : Program) (w : World) (K : PySem.W.Frag) (mg : Str → Option Value) (base : Heap) (CC DM DS fI : Addr) (mc : Value) : Prop where
  Z : ChC P w K mg base CC DM mc
  M : Mk K CC fI
  F : FnR P w K mg base (L2.CX P w) 5 fI (spSt K CC DM DS)
/-- neither a list nor a tuple -/
def NoSeq (K : PySem.W.Frag) (H : Hp) (v : V) : Prop := ∃ t, TyX K H v t ∧ PySem.W.kitAny K t [.type "list", .type "tuple"] = some false
theorem NoSeq.same {K : PySem.W.Frag} {H H' : Hp} {v : V} (h : NoSeq K H v) (s : Same H H') : NoSeq K H' v := by
  obtain ⟨t, h1, h2⟩ := h
  exact ⟨t, Lw.TyX.same s h1, h2⟩
def spCof2 (K : PySem.W.Frag) (CC DM DS DC : Addr) : Sp := fun vs H Q E => ∃ v : V, vs = [v] ∧
  ((NoSeq K H v ∧ Bf DC "part" (.str (Str.ofString "sizes")) H E) ∨
   ∃ (l : Addr) (xs : List V), v = .ref l ∧ (H l = some (.lst xs) ∨ H l = some (.tup xs)) ∧ (∀ y ∈ xs, Anyv K H y) ∧ xs.length ≤ 20000 ∧ MkO CC DM DS xs H Q E)
def spCln (CC : Addr) : Sp := fun vs H Q _ => ∃ c ns, vs = [.ref c] ∧ ChA CC H c ns ∧ Q (.int (ns.length : Int)) H
section
variable {P : Program} {w : World} {K : PySem.W.Frag} {mg : Str → Option Value} {base : Heap}
theorem fn_cof2 {CC DM DS DC fI fE f : Addr} {mc : Value} {fd fdE : FuncData} (F : C8.Fun K "of" "Chunks.of" sCof f fd) (T : Txt mg) (htu : mg "tuple" = none) (EC : Err1 "BadChunks" "part" P w K mg base DC fE fdE) (CM : ChM2 P w K mg base CC DM DS fI mc) : FnOk P w K mg base (L2.CX P w) 7 f fd ["sizes"] (spCof2 K CC DM DS DC) := by
  obtain ⟨oc, od, dV, kV, doc, pm, an, cdv, ct, osl, rfl, lk, hcd⟩ := F.ex
  refine fn_of lk hcd scCof (fun vs H Q E h => ?_) fun A outer s H vs Q E hr h => ?_
  · obtain ⟨v, rfl, _⟩ := h
    rfl
  · obtain ⟨v, rfl, h⟩ := h
    have tk : Takes (cxOf (L2.CX P w) P w K mg base ["sizes"] "Chunks.of" (C8.fnScope sCof) f cdv A outer s H E) (fun cls d _ H' => E cls d H') := takes_of rfl rfl rfl rfl
    refine ⟨_, (pss_cons (ps_if (pt_not (pt_val (pe_callB call_isiT (by rfl) T.n_isinstance (by decide +kernel) (pa_cons (pv 0) (pa_cons (pe_tup (pa_cons (pe_bltn (v := .ty "list") (by rfl) T.n_list (by decide +kernel) rfl) (pa_cons (pe_bltn (v := .ty "tuple") (by rfl) htu (by decide +kernel) rfl) pa_nil))) pa_nil))))) (pss_one (ps_bad1 (x := "BadChunks") rfl tk EC.T EC.iC EC.tI EC.F hr EC.b (by rfl) EC.hm pe_str)) pss_nil)
      (pss_one (ps_ret (pe_makeS1 CM.M CM.F (hr.mono (by decide)) (by rfl) CM.Z.hm (passes_call (takes_of rfl rfl rfl rfl) (fun _ _ _ _ z => z)) (pv 0))))), ?_⟩
    refine ⟨_, rfl, (by show 2 ≤ sizeLine; decide), fun t ft => ?_⟩
    have s1 := same_new (o := HO.tup [V.ty "list", V.ty "tuple"]) ft
    have et : upd H t (HO.tup [V.ty "list", V.ty "tuple"]) t = some (.tup [V.ty "list", V.ty "tuple"]) := upd_same
    generalize upd H t _ = H1 at s1 et ⊢
    rcases h with ⟨nos, k⟩ | ⟨l, xs, rfl, hl, av, len, k⟩
    · obtain ⟨ty, hty, hk⟩ := nos.same s1
      refine ⟨_, t, _, ty, _, false, rfl, et, .cons (.ty _) (.cons (.ty _) .nil), hty, hk, ?_⟩
      exact ⟨_, rfl, iteT (bad_leaf1 fun d fs hd e1 => k d fs H1 s1 hd e1)⟩
    · obtain ⟨ty, hty, hk⟩ := seq_cls (K := K) hl
      refine ⟨_, t, _, ty, _, true, rfl, et, .cons (.ty _) (.cons (.ty _) .nil), Lw.TyX.same s1 hty, hk, ?_⟩
      refine ⟨_, rfl, iteF ?_⟩
      exact ⟨_, rfl, l, _, rfl, hl.elim (fun z => .inr (SqL.of (s1 _ _ z))) (fun z => .inl (SqT.of (s1 _ _ z))), fun x dx hx hdx ne => ci_made (k.of s1) (fun y hy => Lw.Anyv.same s1 (av y hy)) len x dx hx hdx ne⟩
theorem scCln : FnScope ["self"] ["self"] (C8.fnScope sCln) := C8.fnScope_by (by decide +kernel)
theorem fn_cln {CC DM f : Addr} {mc : Value} {fd : FuncData} (F : C8.Fun K "__len__" "Chunks.__len__" sCln f fd) (T : Txt mg) (Z : ChC P w K mg base CC DM mc) : FnOk P w K mg base (L2.CX P w) 1 f fd ["self"] (spCln CC) := by
  obtain ⟨oc, od, dV, kV, doc, pm, an, cdv, ct, osl, rfl, lk, hcd⟩ := F.ex
  refine fn_of lk hcd scCln (fun vs H Q E h => ?_) fun A outer s H vs Q E hr h => ?_
  · obtain ⟨c, ns, rfl, _⟩ := h
    rfl
  · obtain ⟨c, ns, rfl, ⟨dx, p, e, r, hc, hp, _⟩, k⟩ := h
    refine ⟨_, (pss_one (ps_ret (pe_callB call_len_seq (by rfl) T.n_len (by decide +kernel) (pa_cons (pe_fld (pv 0) rfl) pa_nil)))), ?_⟩
    refine ⟨_, rfl, c, CC, dx, _, _, rfl, hc, Z.cl, Z.n1, chF_sizes _ _ _ _, p, _, rfl, .inr (SqT.of hp), ?_⟩
    rw [List.length_map]
    exact k
end
end Lw
namespace Lw
open PySem PySem.Spec PyProof.Rows L2
end Lw
namespace Lw.Ow
open PySem PySem.Spec PyProof.Rows PySem.W PySem.Calls
section
variable {prog : Program} {w : World} {A : Around} {E : Value → Shared → Prop} {s : Shared} {K : Frag} {x C f : Addr} {ox : Obj} {od : Option Obj}
theorem len_own {Q : Value → Shared → Prop} (X : K.In s.heap) (I : InstAt s.heap x ox C od) (hs : findIn K (.ref C) "__len__" = some (some (.ref f))) (hf : isFn K (.ref f) = true)
    (h : wpAny (model prog w) A.in1 (call (.ref f) [.ref x]) (fun v s' => ∃ (n : Int) (t : Tok), v = .int n t ∧ 0 ≤ n ∧ n < 2 ^ 63 ∧ ∀ t' tk, Q (.int n t') { s' with toks := tk }) E s) : wpAny (model prog w) A (call (.builtin "len") [.ref x]) Q E s := by
  refine call_function_entry kind_len plain_len entry_len (args_len1 _) ?_
  unfold Builtin.«len»
  refine wpAny_bind (m := oneArg "len" _) (wpAny_pure ?_)
  refine wpAny_bind (m := callSpecial? (.ref x) (Str.ofString "__len__")) (special_fn X I hs (beq_iff_eq.mp hf) (wpAny_mono h (fun r s' hr => ?_) fun _ _ y => y))
  obtain ⟨n, t, rfl, h0, h1, q⟩ := hr
  refine wpAny_bind (wpAny_holding (wpAny_pure ?_))
  refine wpAny_bind (wpAny_letGo ?_)
  show wpAny _ _ (if n < 0 then _ else _) _ _ _
  rw [if_neg (by omega)]
  show wpAny _ _ (if n ≥ 2 ^ 63 then _ else _) _ _ _
  rw [if_neg (by omega)]
  exact wpAny_bind (wpAny_mkInt (wpAny_pure ⟨_, rfl, q _ _⟩))
theorem cmp_eq {b tb : Value} {Q : Value → Shared → Prop} (hu : A.units < cLine) (X : K.In s.heap) (I : InstAt s.heap x ox C od) (hb : Looks (model prog w) s.heap (typeOf b) tb) (hn : notFirst K C tb = true)
    (one : wpAny (model prog w) A (tryCompare (.ref x) "__eq__" b) (fun r s' => ∃ v, r = some v ∧ Q v s') E s) : wpAny (model prog w) A (richCompare .Eq (.ref x) b) Q E s := by
  unfold richCompare
  simp only [oneThing_ref]
  refine wpAny_holding (wpAny_bind (wpAny_cRoomFor hu ?_))
  refine wpAny_bind (I.type.here (wpAny_bind (hb.here ?_)))
  split
  · rename_i q
    have e : subIn K tb (.ref C) = some false := by
      rcases Bool.or_eq_true_iff.mp hn with e | e
      · rw [beq_iff_eq.mp e] at q; simp at q
      · exact beq_iff_eq.mp e
    refine wpAny_bind ((looks_subIn X e).here ?_)
    simp only [Bool.false_eq_true, if_false]
    refine wpAny_bind (wpAny_mono one (fun r s' z => ?_) fun _ _ e => e)
    obtain ⟨v, rfl, hq⟩ := z
    exact wpAny_pure hq
  · refine wpAny_bind (wpAny_pure ?_)
    simp only [Bool.false_eq_true, if_false]
    refine wpAny_bind (wpAny_mono one (fun r s' z => ?_) fun _ _ e => e)
    obtain ⟨v, rfl, hq⟩ := z
    exact wpAny_pure hq
theorem try_ownE {nm : Str} {b : Value} {Q : Value → Shared → Prop} (X : K.In s.heap) (I : InstAt s.heap x ox C od) (hs : findIn K (.ref C) nm = some (some (.ref f))) (hf : isFn K (.ref f) = true) (h : wpAny (model prog w) A (call (.ref f) [.ref x, b]) (PySem.W.CmpBack Q) E s) :
    wpAny (model prog w) A (tryCompare (.ref x) nm b) (fun r s' => ∃ v, r = some v ∧ Q v s') E s := by
  unfold tryCompare
  refine wpAny_bind (ifBound_K X I hs hf (wpAny_mono h (fun v s' hv => ?_) fun _ _ e => e))
  cases v <;> first | exact hv.elim | exact wpAny_pure ⟨_, rfl, hv⟩
end
end Lw.Ow
namespace Lw
open PySem PySem.Spec PyProof.Rows L2 LamX
section
variable {X : Cx} {C f : Addr} {k j : Nat} {sp : Sp} {E : XK} {pins : List (Addr × Obj)} {σ : L2.St} {H : Hp} {s : Shared}
/-- x == y by the own == of both -/
def rER (C : Addr) (sp : Sp) (E : XK) : R2 := fun x y H Q => ∃ a dx fs b dy gs, x = .ref a ∧ H a = some (.ins C dx fs) ∧ y = .ref b ∧ H b = some (.ins C dy gs) ∧ sp [x, y] H Q E
theorem op_eqR (M : MetX X.prog X.w X.K X.mg X.base k C "__eq__" sp) (hx : Passes (L2.CX X.prog X.w) X E) (hr : Room j X.A) (hk : k ≤ j) : OpR X (compareOp .Eq) (rER C sp E) := by
  intro pins s σ H x y v u Q I rx ry h
  obtain ⟨a, dx, fs, b, dy, gs, rfl, ha, rfl, hb, q⟩ := h
  cases (show v = Value.ref a from rx)
  cases (show u = Value.ref b from ry)
  obtain ⟨_, _, J⟩ := ins_at I ha
  obtain ⟨_, _, J'⟩ := ins_at I hb
  obtain ⟨g, hm, w, _⟩ := run_met (us := [.ref a, .ref b]) (vs := [.ref a, .ref b]) M hx hr hk I (.cons rfl (.cons rfl .nil)) q
  exact Ow.cmp_eq hr.units0 I.kIn J J'.type (by simp [PySem.W.notFirst]) (Ow.try_ownE I.kIn J hm.at_ hm.fn w)
/-- len(x) by the own __len__ -/
def rLenOwn (C : Addr) (sp : Sp) (E : XK) : List V → Hp → VK → Prop := fun xs H Q => ∃ a dx fs, xs = [V.ref a] ∧ H a = some (.ins C dx fs) ∧ sp [.ref a] H (fun z H' => ∃ n : Int, z = .int n ∧ 0 ≤ n ∧ n < 2 ^ 63 ∧ Q z H') E
theorem call_lenOwn (M : MetX X.prog X.w X.K X.mg X.base k C "__len__" sp) (hx : Passes (L2.CX X.prog X.w) X E) (hr : Room j X.A) (hk : k + 1 ≤ j) : CallR X (.builtin "len") (rLenOwn C sp E) := by
  intro pins s σ H xs us Q I r h
  obtain ⟨a, dx, fs, rfl, ha, q⟩ := h
  obtain ⟨u, rfl, ru⟩ := r.one
  cases (show u = Value.ref a from ru)
  obtain ⟨_, _, J⟩ := ins_at I ha
  have hr1 : Room k X.A.in1 := Room.in1 (hr.mono hk)
  obtain ⟨g, hm, w⟩ := run_metA (us := [.ref a]) (vs := [.ref a]) M hx hr1 I.env0.in1 I (.cons rfl .nil) q
  refine Ow.len_own I.kIn J hm.at_ hm.fn (wpAny_mono w (fun v s' z => ?_) fun _ _ x => x)
  obtain ⟨z', H', I', rz, n, rfl, h0, h1, qz⟩ := z
  obtain ⟨t, rfl⟩ := rz
  exact ⟨n, t, rfl, h0, h1, fun t' tk => ⟨.int n, H', I'.tok tk, ⟨t', rfl⟩, qz⟩⟩
end
/-! ### a static method by keywords -/
section
variable {X : Cx} {CX : CXT} {C p g : Addr} {k : Nat} {fd : FuncData} {ps ks : List Str} {sp : Sp} {E : XK} {o : Expr} {kws : List Keyword} {m : Str} {pos apos : Pos} {ta : TE} {tkw : TA} {gU : List Value → List Value → List Value} {gV : List V → List V → List V} {pl : Sem Bool}
theorem pe_staticK (he : PE X o ta) (c : SMet X.K C m p g) (F : FnOk X.prog X.w X.K X.mg X.base CX k g fd ps sp) (hr : Room k X.A) (hb : KBn X.K fd ps 0 ks gU gV) (hx : Passes CX X E) (hkw : PK X kws tkw)
    (hall : (backToKw pos (keywordEach kws X.env)).all (·.1.isSome) = true := by rfl) (hks : (backToKw pos (keywordEach kws X.env)).filterMap (·.1) = ks := by rfl)
    (hpl : ((backTo pos (starEach [] X.env)).any (·.1) || (backToKw pos (keywordEach kws X.env)).any (·.1.isNone)) = false := by rfl)
    (ht : eval (.Call (.Attribute o m apos) [] kws pos) X.env = (do
      let ov ← eval o X.env
      standAt apos.atName
      let (f, first) ← holding [ov] (getMethod ov m pl)
      callWith pos f first (backTo pos (starEach [] X.env)) (backToKw pos (keywordEach kws X.env))) := by rfl) :
    PE X (.Call (.Attribute o m apos) [] kws pos) (fun σ H Q => ta σ H fun x H1 => x = .ref C ∧ tkw σ H1 fun zs H2 => zs.length = ks.length ∧ sp (gV [] zs) H2 Q E) := by
  refine ⟨fun pins s σ H Q I h => ?_⟩
  refine PySem.W.methodCall_KW (pl := pl) (thn (he.run pins s σ H _ I h) fun u s1 ⟨x, H1, I1, rx, ex, q⟩ => ?_) ht
  subst ex
  obtain rfl : u = Value.ref C := rx
  obtain ⟨mc, h1, h2, h3⟩ := c.mc
  obtain ⟨rest, h4⟩ := c.rc
  obtain ⟨fm, hF⟩ := I1.fr
  refine PySem.W.method_cls I1.kIn c.ga (PySem.W.cls_sm hF I1.ok.mod.kin h1 h2 h3 h4 rfl ?_)
  have I2 : Inv X pins σ H1 { s1 with toks := s1.toks + 1 } := I1.tok _
  refine PySem.W.callWith_KW0 (h₀ := X.base) I2.ok.mod.kin c.kp hall ?_ hpl
  refine thn (hkw.run pos pins _ σ H1 _ I2 q) fun ws s2 ⟨zs, H2, I3, rz, l2, q2⟩ => ⟨I3.kIn, ?_⟩
  rw [hks]
  exact run_fnN (us := []) (vs := []) F hr hb hx I3 .nil rz rfl l2 q2
end

end Lw
namespace Lw
open PySem PySem.Spec PyProof.Rows L2

section
variable {X : Cx} {C f : Addr} {k j : Nat} {sp : Sp} {E : XK}
def rRightX (C : Addr) (P : V → Prop) (sp : Sp) (E : XK) : R2 := fun x y H Q => ∃ a dx fs, P x ∧ y = .ref a ∧ H a = some (.ins C dx fs) ∧ sp [y, x] H Q E
theorem op_rightIX {op : Operator} {id : String} (M : MetX X.prog X.w X.K X.mg X.base k C (dunderR op.info.2) sp) (hx : Passes (L2.CX X.prog X.w) X E) (hc : PySem.W.selfFirst X.K C = true) (hs : PySem.W.findIn X.K (.ref C) (PySem.dunder op.info.2) = some (some (.ref f))) (hL : fillsNumberSlot (.type "int") op.info.2 = pure true)
    (hsub : PySem.W.subIn X.K (.ref C) (.type "int") = some false) (sl : Slot "int" (PySem.dunder op.info.2) id) (hd : ∀ {A : Around} {E : Value → Shared → Prop} {s : Shared} {i : Int} {t : Tok} {x : Addr} {o : Obj} {Q' : Value → Shared → Prop}, s.heap.get? x = some o → o.data = .plain → Q' .notImplemented s → wpAny (model X.prog X.w) A (call (.builtin id) [.int i t, .ref x]) Q' E s)
    (hr : Room j X.A) (hk : k ≤ j) : OpR X (binaryOp op) (rRightX C (fun x => ∃ i, x = .int i) sp E) := by
  intro pins s σ H x y v u Q I rx ry h
  obtain ⟨a, dx, fs, ⟨i, rfl⟩, rfl, ha, q⟩ := h
  cases (show u = Value.ref a from ry)
  obtain ⟨t, rfl⟩ := (show ∃ t, v = Value.int i t from rx)
  obtain ⟨ox, od, J, h1, h2⟩ := ins_plain I ha
  obtain ⟨g, hm, w, _⟩ := run_met (us := [.ref a, .int i t]) (vs := [.ref a, .int i]) M hx hr hk I (.cons rfl (.cons ⟨t, rfl⟩ .nil)) q
  exact Ow.right_number I.kIn J rfl (typeIs_int s i t) hc hs hm.at_ hm.fn hL hsub sl (fun Q' z => hd h1 h2 z) w
theorem op_rightBX {op : Operator} {T : String} (M : MetX X.prog X.w X.K X.mg X.base k C (dunderR op.info.2) sp) (hx : Passes (L2.CX X.prog X.w) X E) (hc : PySem.W.selfFirst X.K C = true) (hs : PySem.W.findIn X.K (.ref C) (PySem.dunder op.info.2) = some (some (.ref f))) (hL : fillsNumberSlot (.type T) op.info.2 = pure false)
    (hr : Room j X.A) (hk : k ≤ j) : OpR X (binaryOp op) (rRightX C (fun x => Kind x T) sp E) := by
  intro pins s σ H x y v u Q I rx ry h
  obtain ⟨a, dx, fs, hT, rfl, ha, q⟩ := h
  cases (show u = Value.ref a from ry)
  obtain ⟨ox, od, J, h1, h2⟩ := ins_plain I ha
  obtain ⟨g, hm, w, _⟩ := run_met (us := [.ref a, v]) (vs := [.ref a, x]) M hx hr hk I (.cons rfl (.cons rx .nil)) q
  exact Ow.right_bare I.kIn J (PySem.W.Looks.of_pure (hT.type rx)) hc hs hm.at_ hm.fn hL w
theorem iop_sameX {op : Operator} (M : MetX X.prog X.w X.K X.mg X.base k C (PySem.dunder op.info.2) sp) (hx : Passes (L2.CX X.prog X.w) X E) (hc : PySem.W.selfFirst X.K C = true) (ni : NoInplace X.K C op) (hr : Room j X.A) (hk : k ≤ j) : OpR X (inplaceOp op) (rSameX C sp E) := by
  intro pins s σ H x y v u Q I rx ry h
  obtain ⟨a, dx, fs, b, dy, gs, rfl, rfl, ha, hb, q⟩ := h
  cases (show v = Value.ref a from rx)
  cases (show u = Value.ref b from ry)
  obtain ⟨_, _, J⟩ := ins_at I ha
  obtain ⟨_, _, J'⟩ := ins_at I hb
  obtain ⟨g, hm, w, _⟩ := run_met (us := [.ref a, .ref b]) (vs := [.ref a, .ref b]) M hx hr hk I (.cons rfl (.cons rfl .nil)) q
  obtain ⟨cd, h1, h2⟩ := ni.mro
  exact Ow.inplace_of I.kIn J h1 h2 ni.own ni.obj (Ow.half_same I.kIn J J'.type hc hm.at_ hm.fn w)
theorem iop_besideX {op : Operator} (M : MetX X.prog X.w X.K X.mg X.base k C (PySem.dunder op.info.2) sp) (hx : Passes (L2.CX X.prog X.w) X E) (ni : NoInplace X.K C op) (hr : Room j X.A) (hk : k ≤ j) : OpR X (inplaceOp op) (rBesideX X.K C op sp E) := by
  intro pins s σ H x y v u Q I rx ry h
  obtain ⟨a, dx, fs, T, rfl, ha, hT, hB, q⟩ := h
  cases (show v = Value.ref a from rx)
  obtain ⟨_, _, J⟩ := ins_at I ha
  obtain ⟨g, hm, w, _⟩ := run_met (us := [.ref a, u]) (vs := [.ref a, y]) M hx hr hk I (.cons rfl (.cons ry .nil)) q
  obtain ⟨cd, h1, h2⟩ := ni.mro
  obtain ⟨rc, r1, r2⟩ := hB.back
  obtain ⟨fo, f1⟩ := hB.ahead
  obtain ⟨ro, o1⟩ := hB.behind
  exact Ow.inplace_of I.kIn J h1 h2 ni.own ni.obj (Ow.half_left I.kIn J (PySem.W.Looks.of_pure (hT.type ry)) hB.first hm.at_ hm.fn r1 r2 f1 o1 hB.sub w)
end
end Lw
namespace Lw.Ow
open PySem PySem.Spec PyProof.Rows PySem.W PySem.Calls

/-! ### the two halves of an operator, any built-in type beside -/
section
variable {prog : Program} {w : World} {A : Around} {E : Value → Shared → Prop} {s : Shared} {K : Frag} {x C f g : Addr} {ox : Obj} {od : Option Obj}
theorem half_bare {nm : String} {a : Value} {T : String} {Q : Value → Shared → Prop} (X : K.In s.heap) (I : InstAt s.heap x ox C od) (ht : Looks (model prog w) s.heap (typeOf a) (.type T)) (hc : selfFirst K C = true) (hs : findIn K (.ref C) (PySem.dunder nm) = some (some (.ref f))) (hr : findIn K (.ref C) (dunderR nm) = some (some (.ref g)))
    (hg : isFn K (.ref g) = true) (hL : fillsNumberSlot (.type T) nm = pure false) (h : wpAny (model prog w) A (call (.ref g) [.ref x, a]) (PySem.W.CmpBack Q) E s) : wpAny (model prog w) A (binaryOp1 nm a (.ref x)) (Told Q) E s := by
  obtain ⟨cd, rest, hcd, hm⟩ := ksp_first hc
  have one := ksp_try X I hr hg h
  obtain ⟨hh, gg, d, tt, os⟩ := s
  have L2 : Looks (model prog w) hh (typeOf (.ref x)) (.ref C) := I.type
  have L3 : Looks (model prog w) hh (fillsNumberSlot (.ref C) nm) true := fills_K X hcd hm hs
  have hne : (Value.type T == Value.ref C) = false := Bool.eq_false_iff.mpr fun q => by cases beq_iff_eq.mp q
  unfold binaryOp1
  refine wpAny_bind (ht.at (wpAny_bind (L2.at (wpAny_bind (wpAny_of_eq hL ?_)))))
  simp only [hne, Bool.false_eq_true, if_false]
  refine wpAny_bind (L3.at ?_)
  simp only [Bool.false_and, Bool.false_eq_true, if_false, pure_bind, Bool.not_false, Bool.and_true, if_true]
  refine wpAny_bind (wpAny_mono one (fun r s' hr' => ?_) fun _ _ e => e)
  obtain ⟨v, rfl, hq⟩ := hr'
  exact wpAny_bind (wpAny_rule (wpAny_pure ⟨v, rfl, hq⟩))
theorem op_half {op : Operator} {a b : Value} {Q : Value → Shared → Prop} (h : wpAny (model prog w) A (binaryOp1 op.info.2 a b) (Told Q) E s) : wpAny (model prog w) A (binaryOp op a b) Q E s := by
  rcases hi : op.info with ⟨sym, nm⟩
  rw [hi] at h
  dsimp only at h
  simp only [binaryOp, hi]
  refine wpAny_holding (wpAny_bind (wpAny_mono h (fun r s' z => ?_) fun _ _ e => e))
  obtain ⟨v, rfl, hq⟩ := z
  exact wpAny_pure hq
theorem inplace_bare {op : Operator} {a b : Value} {T : String} {Q : Value → Shared → Prop} (ht : Looks (model prog w) s.heap (typeOf a) (.type T)) (hI : fillsInplaceSlot (.type T) op.info.2 (op == .Add) = pure false) (h : wpAny (model prog w) A (binaryOp1 op.info.2 a b) (Told Q) E s) : wpAny (model prog w) A (inplaceOp op a b) Q E s := by
  unfold inplaceOp
  refine wpAny_holding ?_
  refine wpAny_bind (ht.here (wpAny_bind (wpAny_of_eq hI ?_)))
  simp only [Bool.false_eq_true, if_false, pure_bind]
  refine wpAny_bind (wpAny_mono h (fun r s' z => ?_) fun _ _ e => e)
  obtain ⟨v, rfl, hq⟩ := z
  exact wpAny_pure hq
theorem binary_noB {nm : String} {f : Int → Int → Sem Fin} {b : Bool} {x : Addr} {o : Obj} {Q : Value → Shared → Prop} (ho : s.heap.get? x = some o) (hp : o.data = .plain) (h : Q .notImplemented s) :
    wpAny (model prog w) A (Builtin.Int.intBinary nm f false ⟨[.bool b, .ref x], []⟩) (fun fin s' => ∃ v, fin = .done (.ret v) ∧ Q v s') E s := by
  unfold Builtin.Int.intBinary
  refine wpAny_bind (wpAny_of_eq (a := (Value.bool b, [Value.ref x])) rfl ?_)
  refine wpAny_bind (wpAny_of_eq (a := (if b = true then (1 : Int) else 0)) (by cases b <;> rfl) ?_)
  refine wpAny_bind ?_
  show wpAny _ _ (load x >>= fun ob => match ob.data with | .prim (.int i _) => pure (some i) | _ => pure none) _ _ _
  refine wpAny_bind (wpAny_load ho ?_)
  rw [hp]
  exact wpAny_pure (wpAny_bind (wpAny_rule (wpAny_pure ⟨_, rfl, h⟩)))
theorem slot_bool_add : Slot "bool" (PySem.dunder "add") "int.__add__" :=
  .of (owner := "int") (n := "__add__") (by rw [typeLookup_type, builtinLookup_eq_fast]; kernel_rfl) (by decide +kernel) (by decide +kernel) (by decide +kernel)
    (by first | exact .inl (by decide +kernel) | exact .inr (by decide +kernel)) (by rw [isSubtype_type]; kernel_rfl)
theorem slot_bool_sub : Slot "bool" (PySem.dunder "sub") "int.__sub__" :=
  .of (owner := "int") (n := "__sub__") (by rw [typeLookup_type, builtinLookup_eq_fast]; kernel_rfl) (by decide +kernel) (by decide +kernel) (by decide +kernel)
    (by first | exact .inl (by decide +kernel) | exact .inr (by decide +kernel)) (by rw [isSubtype_type]; kernel_rfl)
theorem slot_bool_mul : Slot "bool" (PySem.dunder "mul") "int.__mul__" :=
  .of (owner := "int") (n := "__mul__") (by rw [typeLookup_type, builtinLookup_eq_fast]; kernel_rfl) (by decide +kernel) (by decide +kernel) (by decide +kernel)
    (by first | exact .inl (by decide +kernel) | exact .inr (by decide +kernel)) (by rw [isSubtype_type]; kernel_rfl)
theorem noB_add {b : Bool} {x : Addr} {o : Obj} {Q : Value → Shared → Prop} (ho : s.heap.get? x = some o) (hp : o.data = .plain) (h : Q .notImplemented s) : wpAny (model prog w) A (call (.builtin "int.__add__") [.bool b, .ref x]) Q E s :=
  wpAny_call_entry slot_bool_add rfl F.entry_int_add (binary_noB ho hp h) (F.args_int_add_2 _ _)
theorem noB_sub {b : Bool} {x : Addr} {o : Obj} {Q : Value → Shared → Prop} (ho : s.heap.get? x = some o) (hp : o.data = .plain) (h : Q .notImplemented s) : wpAny (model prog w) A (call (.builtin "int.__sub__") [.bool b, .ref x]) Q E s :=
  wpAny_call_entry slot_bool_sub rfl F.entry_int_sub (binary_noB ho hp h) (F.args_int_sub_2 _ _)
theorem noB_mul {b : Bool} {x : Addr} {o : Obj} {Q : Value → Shared → Prop} (ho : s.heap.get? x = some o) (hp : o.data = .plain) (h : Q .notImplemented s) : wpAny (model prog w) A (call (.builtin "int.__mul__") [.bool b, .ref x]) Q E s :=
  wpAny_call_entry slot_bool_mul rfl F.entry_int_mul (binary_noB ho hp h) (F.args_int_mul_2 _ _)
end
/-! ### what the table of built-in types tells -/
def BTs : List String := ["int", "bool", "NoneType", "str", "tuple", "list", "dict"]
def Bares : List String := ["NoneType", "str", "tuple", "list", "dict"]
def Nms : List String := ["add", "sub", "mul"]
theorem bt_find {T nm : String} (h : T ∈ BTs) (h2 : nm ∈ Nms) : (∃ fo, fastLookup T (PySem.dunder nm) = some fo) ∧ ∃ ro, fastLookup T (dunderR nm) = some ro := by
  have all : (BTs.all fun T => Nms.all fun nm => (fastLookup T (PySem.dunder nm)).isSome && (fastLookup T (dunderR nm)).isSome) = true := by decide +kernel
  have z := List.all_eq_true.mp (List.all_eq_true.mp all T h) nm h2
  rw [Bool.and_eq_true] at z
  exact ⟨Option.isSome_iff_exists.mp z.1, Option.isSome_iff_exists.mp z.2⟩
theorem bt_sub {K : Frag} {C : Addr} {T : String} (h : T ∈ BTs) : subIn K (.type T) (.ref C) = some false := by
  simp only [BTs, List.mem_cons, List.not_mem_nil, or_false] at h
  rcases h with rfl | rfl | rfl | rfl | rfl | rfl | rfl <;> kernel_rfl
theorem bt_bare {T nm : String} (h : T ∈ Bares) (h2 : nm ∈ Nms) : fillsNumberSlot (.type T) nm = pure false := by
  simp only [Bares, List.mem_cons, List.not_mem_nil, or_false] at h
  simp only [Nms, List.mem_cons, List.not_mem_nil, or_false] at h2
  rcases h with rfl | rfl | rfl | rfl | rfl <;> rcases h2 with rfl | rfl | rfl <;>
  · simp only [fillsNumberSlot, typeLookup_type, builtinLookup_eq_fast]
    kernel_rfl
theorem bt_number {T nm : String} (h : T = "int" ∨ T = "bool") (h2 : nm ∈ Nms) : fillsNumberSlot (.type T) nm = pure true := by
  simp only [Nms, List.mem_cons, List.not_mem_nil, or_false] at h2
  rcases h with rfl | rfl <;> rcases h2 with rfl | rfl | rfl <;>
  · simp only [fillsNumberSlot, typeLookup_type, builtinLookup_eq_fast]
    kernel_rfl
end Lw.Ow
namespace Lw
open PySem PySem.Spec PyProof.Rows L2
end Lw
namespace Lw
open PySem PySem.Spec PyProof.Rows L2

/-- half an operator's reading: what binaryOp1 tells -/
def HalfR (X : Cx) (nm : String) (r : R2) : Prop := ∀ (pins : List (Addr × Obj)) (s : Shared) (σ : L2.St) (H : Hp) (x y : V) (v u : Value) (Q : VK), Inv X pins σ H s → RelV x v → RelV y u → r x y H Q →
  wpAny (model X.prog X.w) X.A (binaryOp1 nm v u) (Ow.Told (EP X pins σ Q)) X.xe s
/-- a value of a built-in type that an own operator may stand beside -/
inductive Bt (K : PySem.W.Frag) (H : Hp) : V → String → Prop where
  | int (i : Int) : Bt K H (.int i) "int"
  | bl (b : Bool) : Bt K H (.bl b) "bool"
  | bare {x : V} {T : String} (h : TyX K H x (.type T)) (hT : T ∈ Ow.Bares) : Bt K H x T
theorem Bt.tyx {K : PySem.W.Frag} {H : Hp} {x : V} {T : String} (h : Bt K H x T) : TyX K H x (.type T) ∧ T ∈ Ow.BTs := by
  cases h with
  | int i => exact ⟨.base (.int i), by decide⟩
  | bl b => exact ⟨.base (.bl b), by decide⟩
  | bare h hT => exact ⟨h, by unfold Ow.Bares at hT; unfold Ow.BTs; simp only [List.mem_cons, List.not_mem_nil, or_false] at hT ⊢; rcases hT with h | h | h | h | h <;> simp [h]⟩
theorem Bt.same {K : PySem.W.Frag} {H H' : Hp} {x : V} {T : String} (s : Same H H') (h : Bt K H x T) : Bt K H' x T := by
  cases h with
  | int i => exact .int i
  | bl b => exact .bl b
  | bare h hT => exact .bare (Lw.TyX.same s h) hT
section
variable {X : Cx} {C f : Addr} {k j : Nat} {sp : Sp} {E : XK} {pins : List (Addr × Obj)} {σ : L2.St} {H : Hp} {s : Shared} {nm : String} {r r1 r2 : R2}
theorem Bt.looks {x : V} {T : String} {u : Value} (I : Inv X pins σ H s) (rx : RelV x u) (h : Bt X.K H x T) : PySem.W.Looks (model X.prog X.w) s.heap (typeOf u) (.type T) := by
  obtain ⟨W, Z, p, _⟩ := kit_of I rx h.tyx.1
  exact Z.ty _ _ I.kIn p
theorem half_or (h1 : HalfR X nm r1) (h2 : HalfR X nm r2) : HalfR X nm (fun x y H Q => r1 x y H Q ∨ r2 x y H Q) := fun pins s σ H x y v u Q I rx ry h => h.elim (h1 pins s σ H x y v u Q I rx ry) (h2 pins s σ H x y v u Q I rx ry)
theorem half_imp {r' : R2} (h : HalfR X nm r) (g : ∀ x y H Q, r' x y H Q → r x y H Q) : HalfR X nm r' := fun pins s σ H x y v u Q I rx ry z => h pins s σ H x y v u Q I rx ry (g _ _ _ _ z)
theorem op_of {op : Operator} (h : HalfR X op.info.2 r) : OpR X (binaryOp op) r := fun pins s σ H x y v u Q I rx ry z => Ow.op_half (h pins s σ H x y v u Q I rx ry z)
/-- what op= asks of the value on the left -/
inductive LeftNo (C : Addr) (H : Hp) : V → Prop where
  | own {a dx : Addr} {fs : List (Str × V)} (h : H a = some (.ins C dx fs)) : LeftNo C H (.ref a)
  | int (i : Int) : LeftNo C H (.int i)
theorem iop_of {op : Operator} (h : HalfR X op.info.2 r) (ni : NoInplace X.K C op) (hI : fillsInplaceSlot (.type "int") op.info.2 (op == .Add) = pure false) : OpR X (inplaceOp op) (fun x y H Q => LeftNo C H x ∧ r x y H Q) := by
  intro pins s σ H x y v u Q I rx ry z
  have w := h pins s σ H x y v u Q I rx ry z.2
  cases z.1 with
  | own ha =>
    cases (show v = Value.ref _ from rx)
    obtain ⟨_, _, J⟩ := ins_at I ha
    obtain ⟨cd, h1, h2⟩ := ni.mro
    exact Ow.inplace_of I.kIn J h1 h2 ni.own ni.obj w
  | int i =>
    obtain ⟨t, rfl⟩ := (show ∃ t, v = Value.int i t from rx)
    exact Ow.inplace_bare (PySem.W.Looks.of_pure rfl) hI w
def rOwn (C : Addr) (sp : Sp) (E : XK) : R2 := fun x y H Q => ∃ a dx fs b dy gs, x = .ref a ∧ y = .ref b ∧ H a = some (.ins C dx fs) ∧ H b = some (.ins C dy gs) ∧ sp [x, y] H Q E
theorem half_own (M : MetX X.prog X.w X.K X.mg X.base k C (PySem.dunder nm) sp) (hx : Passes (L2.CX X.prog X.w) X E) (hc : PySem.W.selfFirst X.K C = true) (hr : Room j X.A) (hk : k ≤ j) : HalfR X nm (rOwn C sp E) := by
  intro pins s σ H x y v u Q I rx ry h
  obtain ⟨a, dx, fs, b, dy, gs, rfl, rfl, ha, hb, q⟩ := h
  cases (show v = Value.ref a from rx)
  cases (show u = Value.ref b from ry)
  obtain ⟨_, _, J⟩ := ins_at I ha
  obtain ⟨_, _, J'⟩ := ins_at I hb
  obtain ⟨g, hm, w, _⟩ := run_met (us := [.ref a, .ref b]) (vs := [.ref a, .ref b]) M hx hr hk I (.cons rfl (.cons rfl .nil)) q
  exact Ow.half_same I.kIn J J'.type hc hm.at_ hm.fn w
def rLeft (K : PySem.W.Frag) (C : Addr) (sp : Sp) (E : XK) : R2 := fun x y H Q => ∃ a dx fs T, x = .ref a ∧ H a = some (.ins C dx fs) ∧ Bt K H y T ∧ sp [x, y] H Q E
theorem half_lft (M : MetX X.prog X.w X.K X.mg X.base k C (PySem.dunder nm) sp) (hx : Passes (L2.CX X.prog X.w) X E) (hc : PySem.W.selfFirst X.K C = true) (hb : ∃ g : Addr, PySem.W.findIn X.K (.ref C) (dunderR nm) = some (some (.ref g))) (hn : nm ∈ Ow.Nms) (hr : Room j X.A) (hk : k ≤ j) : HalfR X nm (rLeft X.K C sp E) := by
  intro pins s σ H x y v u Q I rx ry h
  obtain ⟨a, dx, fs, T, rfl, ha, hT, q⟩ := h
  cases (show v = Value.ref a from rx)
  obtain ⟨_, _, J⟩ := ins_at I ha
  obtain ⟨g, hm, w, _⟩ := run_met (us := [.ref a, u]) (vs := [.ref a, y]) M hx hr hk I (.cons rfl (.cons ry .nil)) q
  obtain ⟨g2, h2⟩ := hb
  have hB := hT.tyx.2
  obtain ⟨⟨fo, h3⟩, ⟨ro, h4⟩⟩ := Ow.bt_find hB hn
  exact Ow.half_left I.kIn J (hT.looks I ry) hc hm.at_ hm.fn h2 (.inr ⟨g2, rfl⟩) h3 h4 (Ow.bt_sub hB) w
def rRght (K : PySem.W.Frag) (C : Addr) (sp : Sp) (E : XK) : R2 := fun x y H Q => ∃ a dx fs T, y = .ref a ∧ H a = some (.ins C dx fs) ∧ Bt K H x T ∧ sp [y, x] H Q E
/-- the int's own methods have no answer -/
structure NoNum (nm : String) : Prop where
  i : ∃ id, Slot "int" (PySem.dunder nm) id ∧ ∀ {prog : Program} {w : World} {A : Around} {E : Value → Shared → Prop} {s : Shared} {i : Int} {t : Tok} {x : Addr} {o : Obj} {Q' : Value → Shared → Prop}, s.heap.get? x = some o → o.data = .plain → Q' .notImplemented s → wpAny (model prog w) A (call (.builtin id) [.int i t, .ref x]) Q' E s
  b : ∃ id, Slot "bool" (PySem.dunder nm) id ∧ ∀ {prog : Program} {w : World} {A : Around} {E : Value → Shared → Prop} {s : Shared} {i : Bool} {x : Addr} {o : Obj} {Q' : Value → Shared → Prop}, s.heap.get? x = some o → o.data = .plain → Q' .notImplemented s → wpAny (model prog w) A (call (.builtin id) [.bool i, .ref x]) Q' E s
theorem nn_add : NoNum "add" := ⟨⟨_, F.slot_int_add, fun h1 h2 q => Ow.no_add h1 h2 q⟩, ⟨_, Ow.slot_bool_add, fun h1 h2 q => Ow.noB_add h1 h2 q⟩⟩
theorem nn_sub : NoNum "sub" := ⟨⟨_, F.slot_int_sub, fun h1 h2 q => Ow.no_sub h1 h2 q⟩, ⟨_, Ow.slot_bool_sub, fun h1 h2 q => Ow.noB_sub h1 h2 q⟩⟩
theorem nn_mul : NoNum "mul" := ⟨⟨_, F.slot_int_mul, fun h1 h2 q => Ow.no_mul h1 h2 q⟩, ⟨_, Ow.slot_bool_mul, fun h1 h2 q => Ow.noB_mul h1 h2 q⟩⟩
theorem half_rgt (M : MetX X.prog X.w X.K X.mg X.base k C (dunderR nm) sp) (hx : Passes (L2.CX X.prog X.w) X E) (hc : PySem.W.selfFirst X.K C = true) (hf : ∃ g : Addr, PySem.W.findIn X.K (.ref C) (PySem.dunder nm) = some (some (.ref g))) (hn : nm ∈ Ow.Nms) (nn : NoNum nm) (hs1 : PySem.W.subIn X.K (.ref C) (.type "int") = some false) (hs2 : PySem.W.subIn X.K (.ref C) (.type "bool") = some false)
    (hr : Room j X.A) (hk : k ≤ j) : HalfR X nm (rRght X.K C sp E) := by
  intro pins s σ H x y v u Q I rx ry h
  obtain ⟨a, dx, fs, T, rfl, ha, hT, q⟩ := h
  cases (show u = Value.ref a from ry)
  obtain ⟨ox, od, J, h1, h2⟩ := ins_plain I ha
  obtain ⟨g, hm, w, _⟩ := run_met (us := [.ref a, v]) (vs := [.ref a, x]) M hx hr hk I (.cons rfl (.cons rx .nil)) q
  obtain ⟨g2, hs⟩ := hf
  have look := hT.looks I rx
  cases hT with
  | int i =>
    obtain ⟨t, rfl⟩ := (show ∃ t, v = Value.int i t from rx)
    obtain ⟨id, sl, hd⟩ := nn.i
    exact Ow.half_number I.kIn J rfl (typeIs_int s i t) hc hs hm.at_ hm.fn (Ow.bt_number (.inl rfl) hn) hs1 sl (fun Q' z => hd h1 h2 z) w
  | bl b =>
    cases (show v = Value.bool b from rx)
    obtain ⟨id, sl, hd⟩ := nn.b
    exact Ow.half_number I.kIn J rfl rfl hc hs hm.at_ hm.fn (Ow.bt_number (.inr rfl) hn) hs2 sl (fun Q' z => hd h1 h2 z) w
  | bare h hB => exact Ow.half_bare I.kIn J look hc hs hm.at_ hm.fn (Ow.bt_bare hB hn) w
end
end Lw
namespace Lw
open PySem PySem.Spec PyProof.Rows L2
end Lw
namespace HT
open PySem PyProof.Rows PySem.SeqAt
section
variable {prog : Program} {w : World} {A : Around} {E : Value → Shared → Prop} {s : Shared}
theorem adjust_rev (n : Nat) : Builtin.Slice.sliceAdjust none none (-1) (n : Int) = ((n : Int) - 1, -1) := rfl
theorem places_rev (n : Nat) : Builtin.Slice.slicePlaces ((n : Int) - 1) (-1) (-1) = n := by
  unfold Builtin.Slice.slicePlaces
  rw [if_neg (by omega)]
  by_cases h : (n : Int) - 1 > -1
  · rw [if_pos h]
    show (((n : Int) - 1 - -1 - 1) / 1 + 1).toNat = n
    rw [Int.ediv_one]; omega
  · rw [if_neg h]; omega
theorem sliceApplied_rev {sl : Addr} {vl vu vs : Value} {n : Nat} {Q : Int × Int × Nat → Shared → Prop} (hs : s.heap.IsSliceOf sl vl vu vs) (pl : IsPart vl none) (pu : IsPart vu none) (ps : IsPart vs (some (-1)))
    (h : Q ((n : Int) - 1, -1, n) s) : wpAny (model prog w) A (Builtin.Slice.sliceApplied (.ref sl) (pure (n : Int))) Q E s := by
  obtain ⟨os, hos, hcs, hds⟩ := id hs
  unfold Builtin.Slice.sliceApplied Builtin.Slice.sliceFields
  refine wpAny_bind (wpAny_bind (wpAny_field hos hds (x := vl) rfl (wpAny_bind (wpAny_field hos hds (x := vu) rfl (wpAny_bind (wpAny_field hos hds (x := vs) rfl (wpAny_pure ?_)))))))
  refine wpAny_bind (slicePart_ ps ?_)
  show wpAny _ _ (if ((-1 : Int) == 0) = true then _ else _) _ _ s
  rw [if_neg (by decide)]
  refine wpAny_bind (slicePart_ pl (wpAny_bind (slicePart_ pu (wpAny_bind (wpAny_pure ?_)))))
  show wpAny _ _ (match Builtin.Slice.sliceAdjust none none (-1) (n : Int) with | (lo, hi) => pure (lo, (-1 : Int), Builtin.Slice.slicePlaces lo hi (-1))) _ _ s
  rw [adjust_rev n]
  show wpAny _ _ (pure ((n : Int) - 1, (-1 : Int), Builtin.Slice.slicePlaces ((n : Int) - 1) (-1) (-1))) _ _ s
  rw [places_rev]
  exact wpAny_pure h
theorem fm_congr {α β : Type} {f g : α → Option β} : ∀ l : List α, (∀ m ∈ l, f m = g m) → l.filterMap f = l.filterMap g
  | [], _ => rfl
  | a :: r, h => by rw [List.filterMap_cons, List.filterMap_cons, h a List.mem_cons_self, fm_congr r fun m hm => h m (List.mem_cons_of_mem _ hm)]
theorem pick_rev (xs : Array Value) : ((List.range xs.size).filterMap fun (m : Nat) => xs[((xs.size : Int) - 1 + (m : Int) * -1).toNat]?).toArray = xs.toList.reverse.toArray := by
  have e : (List.range xs.size).filterMap (fun (m : Nat) => xs[((xs.size : Int) - 1 + (m : Int) * -1).toNat]?) = (List.range xs.size).filterMap (fun m => xs.toList.reverse.toArray[0 + m]?) := by
    refine fm_congr _ fun m hm => ?_
    have hm' := List.mem_range.mp hm
    rw [show ((xs.size : Int) - 1 + (m : Int) * -1).toNat = xs.size - 1 - m by omega, Nat.zero_add, show xs.toList.reverse.toArray[m]? = xs.toList.reverse[m]? by simp only [List.getElem?_toArray], List.getElem?_reverse (by rw [Array.length_toList]; exact hm'), Array.length_toList, Array.getElem?_toList]
  have p := pick_run xs.toList.reverse.toArray 0 xs.size
  rw [List.filterMap_map] at p
  rw [e, show (fun m => xs.toList.reverse.toArray[0 + m]?) = ((fun x => xs.toList.reverse.toArray[x]?) ∘ fun x => 0 + x) from rfl, p]
  simp
  exact List.take_of_length_le (by simp)
theorem getItem_tuple_rev {t sl : Addr} {items : Array Value} {vl vu vs : Value} {Q : Value → Shared → Prop} (ht : IsTup s.heap t items) (hs : s.heap.IsSliceOf sl vl vu vs) (pl : IsPart vl none) (pu : IsPart vu none) (ps : IsPart vs (some (-1)))
    (h : Q (.ref s.heap.objs.size) { s with heap := s.heap.push { cls := .type "tuple", data := .seq items.toList.reverse.toArray } })
    (hsz : items.size ≤ sizeLine) : wpAny (model prog w) A (getItem (.ref t) (.ref sl)) Q E s := by
  have htake : sizeOk (.seq items.toList.reverse.toArray) := by
    show items.toList.reverse.toArray.size ≤ sizeLine
    rw [List.size_toArray, List.length_reverse, Array.length_toList]
    exact hsz
  obtain ⟨os, hos, hcs, hds⟩ := id hs
  have hTs : s.TypeIs (.ref sl) "slice" := ⟨os, hos, hcs⟩
  unfold getItem
  try with_reducible refine wpAny_holding ?_
  first | refine wpAny_bind (wpAny_pure ?_) | skip
  refine wpAny_bind (wpAny_sequenceKey ht.typeIs (by decide) ?_)
  refine wpAny_bind (wpAny_callSpecial?_slot (name := Str.ofString "__getitem__") ht.typeIs PyProof.Rows.slot_tuple_getitem
    (wpAny_call_entry PyProof.Rows.slot_tuple_getitem ht.typeIs entry_tuple_getitem ?_ (args_tuple_getitem _ _)))
  show wpAny _ _ (Builtin.Tuple.tupleItemsOf (.ref t) >>= _) _ _ s
  refine wpAny_bind (tupleItemsOf_ ht ?_)
  refine wpAny_bind (wpAny_typeOf hTs ?_)
  rw [if_pos (by decide)]
  refine wpAny_bind (sliceApplied_rev hs pl pu ps ?_)
  have hno : ¬ ((((items.size : Int) - 1) == 0 && (-1 : Int) == 1 && items.size == items.size) = true) := by
    intro q
    rw [Bool.and_eq_true, Bool.and_eq_true] at q
    exact absurd q.1.2 (by decide)
  show wpAny _ _ (if (((items.size : Int) - 1) == 0 && (-1 : Int) == 1 && items.size == items.size) = true then _ else _) _ _ s
  rw [if_neg hno, pick_rev]
  first
    | exact wpAny_bind (m := Builtin.Tuple.tupleExact _) (wpAny_newObj_type (wpAny_pure ⟨_, rfl, wpAny_pure h⟩) htake)
    | exact wpAny_bind (m := Builtin.Tuple.tupleExact _) (wpAny_newObj_type (wpAny_bind (wpAny_pure (wpAny_pure ⟨_, rfl, wpAny_pure h⟩))) htake)
    | exact wpAny_bind (wpAny_bind (m := Builtin.Tuple.tupleExact _) (wpAny_newObj_type (wpAny_pure (wpAny_pure ⟨_, rfl, wpAny_pure h⟩)) htake))
    | exact wpAny_bind (wpAny_bind (m := Builtin.Tuple.tupleExact _) (wpAny_newObj_type (wpAny_pure ⟨_, rfl, wpAny_pure h⟩) htake))
end
end HT
namespace Lw.Tm
open PySem PySem.Spec PyProof.Rows L2
theorem tuple_mul1 (l : Addr) (items : Array Value) (n : Nat) (dd : Option Addr) (sl : Array (Option Value)) (u : Tok) :
    Meets (Builtin.«tuple.__mul__» ⟨[.ref l, .int 1 u], []⟩) (fun _ R s => s.heap.get? l = some { cls := .type "tuple", dict := dd, data := .seq items n, slots := sl } ∧ R (.ok (.ret (Value.ref l))) s) :=
  .of_wp fun prog w A R s h => by
    obtain ⟨hp, g, d, tk, os⟩ := s
    obtain ⟨hl, h⟩ := h
    have f1 := AutoSeq1.idx_int
    have c1 : (items.isEmpty || (1 : Int) == 1) = true := by simp
    wp_walk using wpAny_loadPart' hl
    repeat (first
      | (refine wpAny_ite_false (decide_eq_false (by decide)) ?_; wp_walk using wpAny_loadPart' hl)
      | (refine wpAny_ite_true (decide_eq_true (by rw [c1])) ?_; wp_walk using wpAny_loadPart' hl))
    exact ⟨_, rfl, h⟩
theorem tuple_mul0 (l : Addr) (items : Array Value) (n : Nat) (dd : Option Addr) (sl : Array (Option Value)) (u : Tok) (he : items.isEmpty = false) :
    Meets (Builtin.«tuple.__mul__» ⟨[.ref l, .int 0 u], []⟩) (fun _ R s => s.heap.get? l = some { cls := .type "tuple", dict := dd, data := .seq items n, slots := sl } ∧
      R (.ok (.ret (Value.ref s.heap.objs.size))) { s with heap := s.heap.push { cls := Value.type "tuple", data := Data.seq #[] }, toks := s.toks }) :=
  .of_wp fun prog w A R s h => by
    obtain ⟨hp, g, d, tk, os⟩ := s
    obtain ⟨hl, h⟩ := h
    have f1 := AutoSeq1.idx_int
    have c1 : (items.isEmpty || (0 : Int) == 1) = false := by rw [he]; rfl
    have c2 : (decide ((0 : Int) ≤ 0) || items.isEmpty) = true := by simp
    wp_walk using wpAny_loadPart' hl
    repeat (first
      | (refine wpAny_ite_false (decide_eq_false (by decide)) ?_; wp_walk using wpAny_loadPart' hl)
      | (refine wpAny_ite_false (decide_eq_false (by rw [c1]; exact Bool.false_ne_true)) ?_; wp_walk using wpAny_loadPart' hl)
      | (refine wpAny_ite_true (decide_eq_true (by rw [c2])) ?_; wp_walk using wpAny_loadPart' hl))
    exact ⟨_, rfl, h⟩
end Lw.Tm
namespace Lw
open PySem PySem.Spec PyProof.Rows L2
section
variable {X : Cx}
/-- t * k of a tuple that is not empty -/
def rRepA (K : PySem.W.Frag) : R2 := fun x y H Q => ∃ l k xs, x = .ref l ∧ y = .int k ∧ SqT K H l xs ∧ xs ≠ [] ∧ 0 ≤ k ∧ k ≤ 5000 ∧ xs.length ≤ 5000 ∧ (xs.length : Int) * k ≤ 5000 ∧ (k = 1 → Q (.ref l) H) ∧ (k ≠ 1 → ∀ p, H p = none → Q (.ref p) (upd H p (.tup (List.replicate k.toNat xs).flatten)))
theorem op_repA : OpR X (binaryOp .Mult) (rRepA X.K) := by
  intro pins s σ H x y v u Q I rx ry h
  obtain ⟨l, k, xs, rfl, rfl, hT, hne, h1, h2, hz, hzk, q1, q2⟩ := h
  cases rx
  obtain ⟨t, rfl⟩ := ry
  obtain ⟨its, r, ⟨⟨cls, dd, data, sl⟩, ho, hc, n, hd⟩, hs⟩ := I.tuple hT
  simp only at hc hd
  subst hc hd
  have hle : its.length = xs.length := r.length.symm
  have hn : its ≠ [] := fun e => hne (by
    rw [e] at hle
    exact List.eq_nil_of_length_eq_zero hle.symm)
  have hi : its.toArray.isEmpty = false := by
    cases its with
    | nil => exact absurd rfl hn
    | cons a b => rfl
  have hsz0 : its.toArray.size = xs.length := by rw [List.size_toArray, hle]
  have road : ∀ {Q' : Value → Shared → Prop}, wpAny (model X.prog X.w) X.A (call (.builtin "tuple.__mul__") [.ref l, .int k t]) Q' X.xe s → wpAny (model X.prog X.w) X.A (binaryOp .Mult (.ref l) (.int k t)) Q' X.xe s := fun w =>
    wpAny_binaryOp_repeat_ref (T := "tuple") (U := "int") (by decide) ⟨_, ho, rfl⟩ (fun s' => typeIs_int s' k t) noFill_tuple_mul F.fills_int_mul F.slot_int_rmul repeat_tuple F.slot_int_index.lookup
      (call_meets F.slot_int_rmul (typeIs_int s k t) F.entry_int_rmul (F.args_int_rmul_2 _ _) (int_rmul_tuple k t l its.toArray n dd sl)
        ⟨ho, rfl, ⟨_, ho, rfl⟩, w⟩)
  by_cases k1 : k = 1
  · subst k1
    exact road (call_meets F.slot_tuple_mul ⟨_, ho, rfl⟩ F.entry_tuple_mul (F.args_tuple_mul_2 _ _) (Tm.tuple_mul1 l its.toArray n dd sl t) ⟨ho, ⟨.ref l, H, I, rfl, q1 rfl⟩⟩)
  by_cases k0 : k = 0
  · subst k0
    refine road (call_meets F.slot_tuple_mul ⟨_, ho, rfl⟩ F.entry_tuple_mul (F.args_tuple_mul_2 _ _) (Tm.tuple_mul0 l its.toArray n dd sl t hi) ⟨ho, ?_⟩)
    refine ⟨.ref s.heap.objs.size, _, I.laid (t' := s.toks) (o := .tup []) (fun b ob q => Heap.get?_push_of_some _ q) (Nat.le_refl _) ?_, rfl, q2 k1 _ (I.hok.fresh (Nat.le_refl _))⟩
    exact ⟨by show 0 ≤ sizeLine; decide, [], .nil, IsTup.new _ _⟩
  have flen : (List.replicate k.toNat its).flatten.length ≤ sizeLine := by
    rw [PyProof.Rows.lm_len_rep_flat, hle, sizeLine_eq]
    have a1 : ((k.toNat * xs.length : Nat) : Int) = (xs.length : Int) * k := by rw [Int.natCast_mul, Int.mul_comm, show ((k.toNat : Nat) : Int) = k by omega]
    omega
  have c0 : (decide (k < -(2 ^ 63)) || decide (k ≥ 2 ^ 63)) = false := by
    rw [decide_eq_false (by omega), decide_eq_false (by omega)] <;> rfl
  have c1 : (its.toArray.isEmpty || k == 1) = false := by
    rw [hi, Bool.false_or]
    exact beq_eq_false_iff_ne.mpr (by omega)
  have c2 : (decide (k ≤ 0) || its.toArray.isEmpty) = false := by
    rw [hi, Bool.or_false]
    exact decide_eq_false (by omega)
  have c4 : Builtin.Tuple.tupleTooMany (((its.toArray.size : Nat) : Int) * k) = false := by
    unfold Builtin.Tuple.tupleTooMany
    rw [sizeLine_eq, hsz0]
    exact decide_eq_false (by omega)
  refine road (call_meets F.slot_tuple_mul ⟨_, ho, rfl⟩ F.entry_tuple_mul (F.args_tuple_mul_2 _ _) (tuple_mulW l its.toArray n dd sl k t c0 c1 c2 (by rw [hsz0]; omega) c4 (by rw [size_rep, List.size_toArray]; exact flen)) ⟨ho, ?_⟩)
  rw [size_rep]
  refine ⟨.ref s.heap.objs.size, _, I.laid (t' := s.toks) (o := .tup (List.replicate k.toNat xs).flatten) (fun b ob q => Heap.get?_push_of_some _ q) (Nat.le_refl _) ?_, rfl, q2 k1 _ (I.hok.fresh (Nat.le_refl _))⟩
  exact ⟨by rw [PyProof.Rows.lm_len_rep_flat, ← hle, ← PyProof.Rows.lm_len_rep_flat]; exact flen, _, r.rep k.toNat, IsTup.new _ _⟩
/-- t[::-1] of a tuple -/
def tRevT (K : PySem.W.Frag) (te : TE) : TE := fun σ H Q => te σ H fun x H1 => ∃ a xs, x = .ref a ∧ SqT K H1 a xs ∧ ∀ p, H1 p = none → Q (.ref p) (upd H1 p (.tup xs.reverse))
theorem pe_revT {e : Expr} {te : TE} {k : Nat} {p1 p2 p3 pos : Pos} (he : PE X e te) : PE X (.Subscript e (.Slice none none (some (.UnaryOp .USub (.Constant (.int 1) k p1) p2)) p3) pos) (tRevT X.K te) := by
  refine ⟨fun pins s σ H Q I h => ?_⟩
  refine Subscript_ (thn (he.run pins s σ H _ I h) fun v s1 ⟨x, H1, I1, r1, q1⟩ => ?_)
  obtain ⟨a, xs, ex, hx, q⟩ := q1
  subst ex
  cases r1
  have hst : PO X (some (.UnaryOp .USub (.Constant (.int 1) k p1) p2)) (tPart (tUn (rU fun i => .int (-i)) (tC (.int 1)))) := po_some (pe_un un_neg pe_int)
  refine wpAny_Slice (thn (po_none.run pins s1 σ H1 (fun o H2 => o = none ∧ H2 = H1) I1 ⟨rfl, rfl⟩) fun vl s2 ⟨l, H2, I2, pl, el, e2⟩ => ?_)
  subst el e2
  refine thn (po_none.run pins s2 σ H2 (fun o H3 => o = none ∧ H3 = H2) I2 ⟨rfl, rfl⟩) fun vu s3 ⟨u, H3, I3, pu, eu, e3⟩ => ?_
  subst eu e3
  refine thn (hst.run pins s3 σ H3 (fun o H4 => o = some (-1) ∧ H4 = H3) I3 ⟨1, rfl, -1, rfl, rfl, rfl⟩) fun vs s4 ⟨o, H4, I4, ps, eo, e4⟩ => ?_
  subst eo e4
  have I5 : Inv X pins σ H4 { s4 with heap := s4.heap.push { cls := .type "slice", data := .fields #[vl, vu, vs] } } := I4.kept (t' := s4.toks) fun b ob q => Heap.get?_push_of_some _ q
  obtain ⟨its, r, ht, hz⟩ := I5.tuple hx
  have hlen := r.length
  show wpAny (model X.prog X.w) X.A (subscriptTail e (.Slice none none (some (.UnaryOp .USub (.Constant (.int 1) k p1) p2)) p3) (.ref a) (.ref s4.heap.objs.size)) (EP X pins σ Q) X.xe { s4 with heap := s4.heap.push { cls := .type "slice", data := .fields #[vl, vu, vs] } }
  refine tail_any (ops := [.ref a, .ref s4.heap.objs.size]) ht.typeIs (PyProof.Rows.slot_tuple_getitem.lookup) ?_ (by with_unfolding_all rfl)
  refine HT.getItem_tuple_rev ht (Heap.IsSliceOf.new _ vl vu vs) pl pu ps ?_ (by rw [List.size_toArray]; omega)
  refine ⟨.ref _, _, I5.laid (t' := s4.toks) (o := .tup xs.reverse) (fun b ob q => Heap.get?_push_of_some _ q) (Nat.le_refl _) ?_, rfl, q _ (I5.hok.fresh (Nat.le_refl _))⟩
  exact ⟨by rw [List.length_reverse]; omega, _, r.reverse, IsTup.new _ _⟩
end
end Lw
namespace Lw
open PySem PySem.Spec PyProof.Rows L2
open SX PySem.NumText TL LamX ClX StX
abbrev sCot : Stmt := top 24
abbrev sAd : Stmt := inClass (top 22) 11
abbrev sMu : Stmt := inClass (top 22) 12
abbrev sRm : Stmt := inClass (top 22) 13
abbrev sIv : Stmt := inClass (top 22) 14
theorem ten30 : ((10 : Int) ^ 30) = ((10 ^ 30 : Nat) : Int) := by decide +kernel
theorem log30 {i : Int} (h : i.natAbs ≤ 10 ^ 31) : i.natAbs.log2 < 200 := by
  by_cases z : i.natAbs = 0
  · rw [z]; decide
  · exact (Nat.log2_lt z).mpr (Nat.lt_of_le_of_lt h (by decide +kernel))
/-! ### own operators more -/
section
variable {X : Cx} {C f : Addr} {k j : Nat} {sp : Sp} {E : XK} {pins : List (Addr × Obj)} {σ : L2.St} {H : Hp} {s : Shared} {nm : String}
theorem half_lftN (M : MetX X.prog X.w X.K X.mg X.base k C (PySem.dunder nm) sp) (hx : Passes (L2.CX X.prog X.w) X E) (hc : PySem.W.selfFirst X.K C = true) (hb : PySem.W.findIn X.K (.ref C) (dunderR nm) = some none) (hn : nm ∈ Ow.Nms) (hr : Room j X.A) (hk : k ≤ j) : HalfR X nm (rLeft X.K C sp E) := by
  intro pins s σ H x y v u Q I rx ry h
  obtain ⟨a, dx, fs, T, rfl, ha, hT, q⟩ := h
  cases (show v = Value.ref a from rx)
  obtain ⟨_, _, J⟩ := ins_at I ha
  obtain ⟨g, hm, w, _⟩ := run_met (us := [.ref a, u]) (vs := [.ref a, y]) M hx hr hk I (.cons rfl (.cons ry .nil)) q
  have hB := hT.tyx.2
  obtain ⟨⟨fo, h3⟩, ⟨ro, h4⟩⟩ := Ow.bt_find hB hn
  exact Ow.half_left I.kIn J (hT.looks I ry) hc hm.at_ hm.fn hb (.inl rfl) h3 h4 (Ow.bt_sub hB) w
theorem un_invX (M : MetX X.prog X.w X.K X.mg X.base k C "__invert__" sp) (hx : Passes (L2.CX X.prog X.w) X E) (hr : Room j X.A) (hk : k ≤ j) : UnR X (unaryOp .Invert) (rSignX C sp E) := by
  intro pins s σ H x v Q I rx h
  obtain ⟨a, dx, fs, rfl, ha, q⟩ := h
  cases (show v = Value.ref a from rx)
  obtain ⟨_, _, J⟩ := ins_at I ha
  obtain ⟨g, hm, _, w⟩ := run_met (us := [.ref a]) (vs := [.ref a]) M hx hr hk I (.cons rfl .nil) q
  obtain ⟨m, hF⟩ := I.fr
  exact PySem.W.ksp_inv hF I.ok.mod.kin J hm.at_ hm.fn w
end
/-- what a list of good sizes comes to -/
def OutC (CC DM : Addr) (ns : List Int) (H : Hp) (Q : VK) (E : XK) : Prop := (ns.length ≤ 5000 → ∀ c H', Same H H' → H c = none → ChA CC H' c ns → Q (.ref c) H') ∧ (5000 < ns.length → Mf DM H E)
theorem OutC.of {CC DM : Addr} {ns : List Int} {H H' : Hp} {Q : VK} {E : XK} (h : OutC CC DM ns H Q E) (s : Same H H') : OutC CC DM ns H' Q E := ⟨fun l c H2 s2 fc hc => h.1 l c H2 (s.trans s2) (s.free fc) hc, fun l => (h.2 l).of s⟩
/-- Chunks.of, ready to be called in the module -/
structure OfK (P : Program) (w : World) (K : PySem.W.Frag) (mg : Str → Option Value) (base : Heap) (CC DM DS DC p g : Addr) (fd : FuncData) : Prop where
  hm : mg "Chunks" = some (.ref CC)
  S : SMet K CC "of" p g
  F : FnOk P w K mg base (L2.CX P w) 7 g fd ["sizes"] (spCof2 K CC DM DS DC)
  b : Binds K fd ["sizes"] []
theorem ci_none {K : PySem.W.Frag} {CC DM DS : Addr} {E : XK} {σ : L2.St} {H : Hp} {Q : VK} (h : ∀ c H', Same H H' → H c = none → ChA CC H' c [] → Q (.ref c) H') : tMakeR CC (spSt K CC DM DS) E tNil σ H Q := fun x dx hx hdx ne =>
  ci_made (xs := ([] : List Int).map V.int) (Q := Q) (MkO.good (fun v hv => by cases hv) (fun _ => h) (fun l => absurd l (by decide))) (any_ints K H []) (by decide) x dx hx hdx ne
/-! ### what stands on the right -/
def NotC (K : PySem.W.Frag) (CC : Addr) (H : Hp) (v : V) : Prop := ∃ t, TyZ K H v t ∧ PySem.W.kitOne K t (.ref CC) = some false
def OthE (K : PySem.W.Frag) (CC DC : Addr) (v : V) (H : Hp) (E : XK) (R : List Int → Prop) : Prop := (NotC K CC H v ∧ Bf DC "part" (.str (Str.ofString "other")) H E) ∨ ∃ b ms, v = .ref b ∧ ChA CC H b ms ∧ R ms
def spCot (K : PySem.W.Frag) (CC DC : Addr) : Sp := fun vs H Q E => ∃ v, vs = [v, .non] ∧ OthE K CC DC v H E fun _ => Q .non H
def spAd (K : PySem.W.Frag) (CC DM DC : Addr) : Sp := fun vs H Q E => ∃ a ns v, vs = [.ref a, v] ∧ ChA CC H a ns ∧ SzB ns ∧ ns.length ≤ 5000 ∧ OthE K CC DC v H E fun ms => SzB ms ∧ ms.length ≤ 5000 ∧ OutC CC DM (ns ++ ms) H Q E
def isN0 : V → Bool
  | .int i => decide (0 ≤ i)
  | _ => false
def repL (ns : List Int) (k : Int) : List Int := (List.replicate k.toNat ns).flatten
def spMu (K : PySem.W.Frag) (CC DM DC : Addr) : Sp := fun vs H Q E => ∃ a ns v, vs = [.ref a, v] ∧ ChA CC H a ns ∧ SzB ns ∧ ns.length ≤ 5000 ∧ Anyv K H v ∧ (isN0 v = false → Bf DC "part" (.str (Str.ofString "times")) H E) ∧ ∀ k, v = .int k → 0 ≤ k → k.natAbs ≤ 10 ^ 31 ∧ OutC CC DM (repL ns k) H Q E
def spIv (CC DM : Addr) : Sp := fun vs H Q E => ∃ a ns, vs = [.ref a] ∧ ChA CC H a ns ∧ SzB ns ∧ ns.length ≤ 5000 ∧ OutC CC DM ns.reverse H Q E
section
variable {P : Program} {w : World} {K : PySem.W.Frag} {mg : Str → Option Value} {base : Heap}
theorem scCot : FnScope ["other", "total"] ["other", "total"] (C8.fnScope sCot) := C8.fnScope_by (by decide +kernel)
theorem fn_cot {CC DC DM fE f : Addr} {mc : Value} {fd fdE : FuncData} (F : C8.Def K mg "check_other" sCot f fd) (T : Txt mg) (Z : ChC P w K mg base CC DM mc) (I : C8.InsC K CC) (EC : Err1 "BadChunks" "part" P w K mg base DC fE fdE) : FnOk P w K mg base (L2.CX P w) 3 f fd ["other", "total"] (spCot K CC DC) := by
  obtain ⟨oc, od, dV, kV, doc, pm, an, cdv, ct, osl, rfl, lk, hcd⟩ := F.fn.ex
  refine fn_of lk hcd scCot (fun vs H Q E h => ?_) fun A outer s H vs Q E hr h => ?_
  · obtain ⟨v, rfl, _⟩ := h
    rfl
  · obtain ⟨v, rfl, h⟩ := h
    have tk : Takes (cxOf (L2.CX P w) P w K mg base ["other", "total"] "check_other" (C8.fnScope sCot) f cdv A outer s H E) (fun cls d _ H' => E cls d H') := takes_of rfl rfl rfl rfl
    refine ⟨_, (pss_cons (ps_if (pt_not (pt_val (pe_callB call_isz (by rfl) T.n_isinstance (by decide +kernel) (pa_cons (pv 0) (pa_cons (pe_glob (v := .ref CC) (by rfl) Z.hm rfl) pa_nil))))) (pss_one (ps_bad1 (x := "BadChunks") rfl tk EC.T EC.iC EC.tI EC.F hr EC.b (by rfl) EC.hm pe_str)) pss_nil)
  (pss_one (ps_if (PW.pt (pw_and (pt_cmpR op_notN (pv 1) pe_non (nomark _)) (pw_and1 (pt_cmpR op_ne (pv 1) (pe_fld (pv 0) rfl) (nomark _))))) (pss_one (ps_bad1 (x := "BadChunks") rfl tk EC.T EC.iC EC.tI EC.F hr EC.b (by rfl) EC.hm pe_str)) pss_nil))), ?_⟩
    rcases h with ⟨⟨t, ty, kt⟩, k⟩ | ⟨b, ms, rfl, hb, k⟩
    · refine ⟨_, rfl, _, .ref CC, t, .ref CC, false, rfl, .own CC, ty, kt, _, rfl, iteT (bad_leaf1 fun d fs hd e1 => k d fs H (Same.refl _) hd e1)⟩
    · obtain ⟨dx, p, e, r, hi, _⟩ := id hb
      have ty : TyZ K H (.ref b) (.ref CC) := .x (.base (.ins hi I.cl I.ha I.hn I.htk I.hm))
      refine ⟨_, rfl, _, .ref CC, .ref CC, .ref CC, true, rfl, .own CC, ty, I.me, _, rfl, iteF ?_⟩
      exact ⟨_, rfl, rfl, _, rfl, iteF k⟩
structure OthK (P : Program) (w : World) (K : PySem.W.Frag) (mg : Str → Option Value) (base : Heap) (CC DC fO : Addr) (fdO : FuncData) : Prop where
  d : C8.Def K mg "check_other" sCot fO fdO
  F : FnOk P w K mg base (L2.CX P w) 3 fO fdO ["other", "total"] (spCot K CC DC)
  b : Binds K fdO ["other", "total"] [.none]
theorem OutC.tup {CC DM DS DC : Addr} {ns : List Int} {H H' : Hp} {Q : VK} {E : XK} (h : OutC CC DM ns H Q E) (s : Same H H') (sb : SzB ns) (l : ns.length ≤ 20000) {q : Addr} (hq : H' q = some (.tup (ns.map V.int))) : spCof2 K CC DM DS DC [.ref q] H' Q E :=
  ⟨_, rfl, .inr ⟨q, _, rfl, .inr hq, any_ints K H' _, by rw [List.length_map]; omega, MkO.good sb (h.of s).1 (h.of s).2⟩⟩
theorem SzB.app {a b : List Int} (h : SzB a) (g : SzB b) : SzB (a ++ b) := fun v hv => (List.mem_append.mp hv).elim (h v) (g v)
theorem scAd : FnScope ["self", "other"] ["self", "other"] (C8.fnScope sAd) := C8.fnScope_by (by decide +kernel)
theorem fn_ad {CC DC DS DM fI fO pO gO f : Addr} {mc : Value} {fd fdO fdG : FuncData} (F : C8.Fun K "__add__" "Chunks.__add__" sAd f fd) (T : Txt mg) (CM : ChM2 P w K mg base CC DM DS fI mc) (OF : OfK P w K mg base CC DM DS DC pO gO fdG) (OK : OthK P w K mg base CC DC fO fdO) : FnOk P w K mg base (L2.CX P w) 8 f fd ["self", "other"] (spAd K CC DM DC) := by
  obtain ⟨oc, od, dV, kV, doc, pm, an, cdv, ct, osl, rfl, lk, hcd⟩ := F.ex
  have Z := CM.Z
  obtain ⟨DO', FO, bO⟩ := OK
  have dO : Vals [V.non] [Value.none] := .cons rfl .nil
  refine fn_of lk hcd scAd (fun vs H Q E h => ?_) fun A outer s H vs Q E hr h => ?_
  · obtain ⟨a, ns, v, rfl, _⟩ := h
    rfl
  · obtain ⟨a, ns, v, rfl, ha, sa, la, h⟩ := h
    refine ⟨_, (pss_cons (ps_expr (pe_call FO (hr.mono (by decide)) (by rfl) DO'.mgf DO'.kp bO dO (passes_call (takes_of rfl rfl rfl rfl) (fun _ _ _ _ z => z)) (pa_cons (pv 1) pa_nil)))
  (pss_one (ps_ret (pe_static (pe_glob (v := .ref CC) (by rfl) OF.hm rfl) OF.S OF.F (hr.mono (by decide)) OF.b .nil (passes_call (takes_of rfl rfl rfl rfl) (fun _ _ _ _ z => z)) (pa_cons (pe_op op_catA (pe_fld (pv 0) rfl) (pe_fld (pv 1) rfl)) pa_nil))))), ?_⟩
    obtain ⟨dx, p, e, r, hi, hp, _⟩ := id ha
    rcases h with ⟨nc, k⟩ | ⟨b, ms, rfl, hb, sm, lm, k⟩
    · exact ⟨_, rfl, _, rfl, .inl ⟨nc, k⟩⟩
    obtain ⟨dx2, p2, e2, r2, hi2, hp2, _⟩ := id hb
    refine ⟨_, rfl, _, rfl, .inr ⟨b, ms, rfl, hb, ?_⟩⟩
    have l12 : (ns.map V.int).length + (ms.map V.int).length ≤ sizeLine := by rw [List.length_map, List.length_map]; exact Nat.le_trans (show ns.length + ms.length ≤ 10000 by omega) (by decide)
    have ln : (ns ++ ms).length ≤ 20000 := by rw [List.length_append]; omega
    refine ⟨rfl, _, rfl, a, CC, dx, _, _, rfl, hi, Z.cl, Z.n1, chF_sizes _ _ _ _, _, rfl, b, CC, dx2, _, _, rfl, hi2, Z.cl, Z.n1, chF_sizes _ _ _ _, p, p2, _, _, rfl, rfl, SqT.of hp, SqT.of hp2, l12, fun z => ?_, fun z1 z2 => ?_, fun z1 z2 q fq => ?_⟩
    · have z' : ns = [] := List.map_eq_nil_iff.mp z
      refine k.tup (Same.refl _) (sa.app sm) ln ?_
      rw [z']; exact hp2
    · have z' : ms = [] := List.map_eq_nil_iff.mp z2
      refine k.tup (Same.refl _) (sa.app sm) ln ?_
      rw [z', List.append_nil]; exact hp
    · refine k.tup (same_new fq) (sa.app sm) ln ?_
      rw [upd_same, List.map_append]
theorem scIv : FnScope ["self"] ["self"] (C8.fnScope sIv) := C8.fnScope_by (by decide +kernel)
theorem fn_iv {CC DC DS DM fI pO gO f : Addr} {mc : Value} {fd fdG : FuncData} (F : C8.Fun K "__invert__" "Chunks.__invert__" sIv f fd) (T : Txt mg) (CM : ChM2 P w K mg base CC DM DS fI mc) (OF : OfK P w K mg base CC DM DS DC pO gO fdG) : FnOk P w K mg base (L2.CX P w) 8 f fd ["self"] (spIv CC DM) := by
  obtain ⟨oc, od, dV, kV, doc, pm, an, cdv, ct, osl, rfl, lk, hcd⟩ := F.ex
  have Z := CM.Z
  refine fn_of lk hcd scIv (fun vs H Q E h => ?_) fun A outer s H vs Q E hr h => ?_
  · obtain ⟨a, ns, rfl, _⟩ := h
    rfl
  · obtain ⟨a, ns, rfl, ha, sa, la, k⟩ := h
    refine ⟨_, (pss_one (ps_ret (pe_static (pe_glob (v := .ref CC) (by rfl) OF.hm rfl) OF.S OF.F (hr.mono (by decide)) OF.b .nil (passes_call (takes_of rfl rfl rfl rfl) (fun _ _ _ _ z => z)) (pa_cons (pe_revT (pe_fld (pv 0) rfl)) pa_nil)))), ?_⟩
    obtain ⟨dx, p, e, r, hi, hp, _⟩ := id ha
    refine ⟨rfl, _, rfl, a, CC, dx, _, _, rfl, hi, Z.cl, Z.n1, chF_sizes _ _ _ _, p, _, rfl, SqT.of hp, fun q fq => ?_⟩
    refine k.tup (same_new fq) (fun v hv => sa v (List.mem_reverse.mp hv)) (by rw [List.length_reverse]; omega) ?_
    rw [upd_same, List.map_reverse]
theorem rep_len (ns : List Int) (k : Int) : (repL ns k).length = k.toNat * ns.length := by
  unfold repL
  rw [PyProof.Rows.lm_len_rep_flat]
theorem scMu : FnScope ["self", "other"] ["self", "other"] (C8.fnScope sMu) := C8.fnScope_by (by decide +kernel)
theorem fn_mu {CC DC DS DM fI fE fM pO gO f : Addr} {mc : Value} {fd fdG fdE fdM : FuncData} (F : C8.Fun K "__mul__" "Chunks.__mul__" sMu f fd) (T : Txt mg) (CM : ChM2 P w K mg base CC DM DS fI mc) (OF : OfK P w K mg base CC DM DS DC pO gO fdG) (EC : Err1 "BadChunks" "part" P w K mg base DC fE fdE)
    (DM' : C8.Def K mg "check_many" sCM fM fdM) (bM : Binds K fdM ["many"] []) (FM : FnOk P w K mg base (L2.CX P w) 3 fM fdM ["many"] (spCM DM)) (DI : C8.Cal P w K mg base 1 "is_integer" (spIsInt K) []) : FnOk P w K mg base (L2.CX P w) 8 f fd ["self", "other"] (spMu K CC DM DC) := by
  obtain ⟨oc, od, dV, kV, doc, pm, an, cdv, ct, osl, rfl, lk, hcd⟩ := F.ex
  have Z := CM.Z
  refine fn_of lk hcd scMu (fun vs H Q E h => ?_) fun A outer s H vs Q E hr h => ?_
  · obtain ⟨a, ns, v, rfl, _⟩ := h
    rfl
  · obtain ⟨a, ns, v, rfl, ha, sa, la, av, k1, k2⟩ := h
    have tk : Takes (cxOf (L2.CX P w) P w K mg base ["self", "other"] "Chunks.__mul__" (C8.fnScope sMu) f cdv A outer s H E) (fun cls d _ H' => E cls d H') := takes_of rfl rfl rfl rfl
    refine ⟨_, (pss_cons (ps_if (PW.pt (pw_or (pt_not (pt_val (C8.pe_c DI hr (by decide) (by rfl) (pa_cons (pv 1) pa_nil)))) (pw_or1 (pt_cmpR op_lt (pv 1) pe_int (nomark _))))) (pss_one (ps_bad1 (x := "BadChunks") rfl tk EC.T EC.iC EC.tI EC.F hr EC.b (by rfl) EC.hm pe_str)) pss_nil)
  (pss_cons (ps_expr (pe_call FM (hr.mono (by decide)) (by rfl) DM'.mgf DM'.kp bM .nil (passes_call (takes_of rfl rfl rfl rfl) (fun _ _ _ _ z => z)) (pa_cons (pe_op op_mulW (pv 1) (pe_callB call_len_seq (by rfl) T.n_len (by decide +kernel) (pa_cons (pe_fld (pv 0) rfl) pa_nil))) pa_nil)))
  (pss_one (ps_ret (pe_ifExp (pt_truth (pe_fld (pv 0) rfl) (by intro _; rfl)) (pe_static (pe_glob (v := .ref CC) (by rfl) OF.hm rfl) OF.S OF.F (hr.mono (by decide)) OF.b .nil (passes_call (takes_of rfl rfl rfl rfl) (fun _ _ _ _ z => z)) (pa_cons (pe_op op_repA (pe_fld (pv 0) rfl) (pv 1)) pa_nil)) (pe_makeR0 CM.M CM.F (hr.mono (by decide)) (by rfl) CM.Z.hm (passes_call (takes_of rfl rfl rfl rfl) (fun _ _ _ _ z => z)))))))), ?_⟩
    obtain ⟨dx, p, e, r, hi, hp, _⟩ := id ha
    refine ⟨_, rfl, v, rfl, av, _, rfl, ?_⟩
    by_cases hv : ∃ k, v = .int k
    · obtain ⟨k, rfl⟩ := hv
      refine iteF ?_
      refine ⟨_, rfl, _, _, rfl, rfl, _, rfl, ?_⟩
      by_cases hk : k < 0
      · have hz : isN0 (.int k) = false := decide_eq_false (by omega)
        exact iteT' (decide_eq_true hk) (bad_leaf1 fun d fs hd e1 => k1 hz d fs H (Same.refl _) hd e1)
      · have hk0 : 0 ≤ k := by omega
        obtain ⟨kb, ko⟩ := k2 k rfl hk0
        refine iteF' (decide_eq_false hk) ?_
        have lr : (repL ns k).length = k.toNat * ns.length := rep_len ns k
        have lz : ((repL ns k).length : Int) = k * (ns.length : Int) := by rw [lr, Int.natCast_mul, show ((k.toNat : Nat) : Int) = k by omega]
        have lm : (ns.map V.int).length = ns.length := List.length_map _
        refine ⟨_, rfl, _, rfl, a, CC, dx, _, _, rfl, hi, Z.cl, Z.n1, chF_sizes _ _ _ _, p, _, rfl, .inr (SqT.of hp), _, _, rfl, rfl, ?_, _, rfl, fun hm => ?_, fun hm => ko.2 ?_⟩
        · show k.natAbs.log2 + ((ns.map V.int).length : Int).natAbs.log2 < 1000000
          rw [lm]
          have h1 := log30 kb
          have h2 := log30 (i := (ns.length : Int)) (Nat.le_trans (show ns.length ≤ 5000 from la) (by decide))
          omega
        · rw [lm, ← lz] at hm
          dsimp only [tSeq]
          refine ⟨_, rfl, a, CC, dx, _, _, rfl, hi, Z.cl, Z.n1, chF_sizes _ _ _ _, _, .inr (.inl ⟨_, SqT.of hp, rfl⟩), ?_⟩
          cases hn : ns with
          | nil =>
            refine iteF' (by rfl) (ci_none fun c H' s' fc hc => ?_)
            have e : repL ns k = [] := List.eq_nil_of_length_eq_zero (by rw [lr, hn]; rfl)
            exact ko.1 (by omega) c H' s' fc (by rw [e]; exact hc)
          | cons n0 r0 =>
            have nn : ns ≠ [] := by rw [hn]; exact List.cons_ne_nil _ _
            have l1 : 1 ≤ ns.length := by rw [hn]; exact Nat.succ_le_succ (Nat.zero_le _)
            have k5 : k ≤ 5000 := by
              have : k * 1 ≤ k * (ns.length : Int) := Int.mul_le_mul_of_nonneg_left (by omega) hk0
              omega
            have sr : SzB (repL ns k) := fun v hv => by
              obtain ⟨l, hl, hv⟩ := List.mem_flatten.mp hv
              rw [List.eq_of_mem_replicate hl] at hv
              exact sa v hv
            refine iteT' (by rfl) ?_
            refine ⟨rfl, _, rfl, a, CC, dx, _, _, rfl, hi, Z.cl, Z.n1, chF_sizes _ _ _ _, _, rfl, p, k, _, rfl, rfl, SqT.of hp, by rw [hn]; exact List.cons_ne_nil _ _, hk0, k5, by rw [lm]; exact la, by rw [lm, Int.mul_comm]; omega, fun e1 => ?_, fun e1 q fq => ?_⟩
            · refine ko.tup (Same.refl _) sr (by omega) ?_
              rw [e1, show repL ns 1 = ns by show (List.replicate 1 ns).flatten = ns; simp]
              exact hp
            · refine ko.tup (same_new fq) sr (by omega) ?_
              rw [upd_same]
              show some (HO.tup (List.replicate k.toNat (ns.map V.int)).flatten) = some (HO.tup ((List.replicate k.toNat ns).flatten.map V.int))
              rw [List.map_flatten, List.map_replicate]
        · rw [lm, ← lz] at hm
          omega
    · have hi : isI v = false := by cases v <;> first | rfl | exact absurd ⟨_, rfl⟩ hv
      have hz : isN0 v = false := by cases v <;> first | rfl | exact absurd ⟨_, rfl⟩ hv
      exact iteT' (by rw [hi]; rfl) (bad_leaf1 fun d fs hd e1 => k1 hz d fs H (Same.refl _) hd e1)
end
end Lw
namespace Lw
open PySem PySem.Spec PyProof.Rows L2
open SX PySem.NumText TL LamX ClX StX
abbrev sSb : Stmt := top 26
abbrev sCut : Stmt := inClass (top 22) 21
abbrev sPl : Stmt := inClass (top 22) 22
/-! ### sizes between ends -/
def diffs : Int → List Int → List Int
  | _, [] => []
  | b, e :: r => (e - b) :: diffs e r
theorem diffs_len : ∀ (b : Int) (es : List Int), (diffs b es).length = es.length
  | _, [] => rfl
  | b, e :: r => by rw [diffs, List.length_cons, List.length_cons, diffs_len e r]
theorem diffs_get : ∀ (b : Int) (es : List Int) (i : Nat) (x y : Int), (b :: es)[i]? = some x → es[i]? = some y → (diffs b es)[i]? = some (y - x)
  | b, [], i, x, y, _, h => by cases h
  | b, e :: r, 0, x, y, h1, h2 => by cases h1; cases h2; rfl
  | b, e :: r, i + 1, x, y, h1, h2 => diffs_get e r i x y h1 h2
def spSb (K : PySem.W.Frag) : Sp := fun vs H Q _ => ∃ (l : Addr) (es : List Int), vs = [.ref l] ∧ H l = some (.lst (es.map V.int)) ∧ es.length ≤ 6000 ∧ ∀ q H', Same H H' → H q = none → H' q = some (.lst ((diffs 0 es).map V.int)) → Q (.ref q) H'
section
variable {P : Program} {w : World} {K : PySem.W.Frag} {mg : Str → Option Value} {base : Heap}
theorem walkU {K : PySem.W.Frag} {a b : Addr} {xs ys : List V} (hl : ys.length ≤ xs.length) : Walk (Itz K a b) ys.length (fun H => SqL K H a xs ∧ SqL K H b ys) (fun i H v H' => ∃ T x y, (v = .ref T ∧ H T = none ∧ H' = upd H T (.tup [x, y])) ∧ xs[i]? = some x ∧ ys[i]? = some y) := by
  refine ⟨fun i H hi q => ?_, fun H q => ⟨xs, ys, q.1, q.2, .inr (Nat.le_refl _)⟩, fun i H v H' hi q y => ?_⟩
  · have h2 : i < xs.length := by omega
    exact ⟨xs, ys, xs[i], ys[i], q.1, q.2, by simp [h2], by simp [hi]⟩
  · obtain ⟨T, x, z, h1, h2, h3, h4, h5⟩ := y
    exact ⟨T, x, z, ⟨h1, h2, h3⟩, h4 _ q.1, h5 _ q.2⟩
theorem scSb : FnScope ["ends", "begin", "end"] ["ends"] (C8.fnScope sSb) := C8.fnScope_by (by decide +kernel)
theorem fn_sb {f : Addr} {fd : FuncData} (F : C8.Def K mg "sizes_between" sSb f fd) (hz : mg "zip" = none) : FnOk P w K mg base (L2.CX P w) 1 f fd ["ends"] (spSb K) := by
  obtain ⟨oc, od, dV, kV, doc, pm, an, cdv, ct, osl, rfl, lk, hcd⟩ := F.fn.ex
  refine fn_of lk hcd scSb (fun vs H Q E h => ?_) fun A outer s H vs Q E hr h => ?_
  · obtain ⟨l, es, rfl, _⟩ := h
    rfl
  · obtain ⟨l, es, rfl, hl, le, k⟩ := h
    refine ⟨_, (pss_one (ps_ret (pe_lc (own := [("begin", 1), ("end", 2)]) (g := gTup K 2 (gCons (gName 1) (gCons (gName 2) gNil))) (tt := tYes) rfl scSb.nd (pi_zip (by rfl) hz (pa_cons (pe_lst (pa_cons pe_int (pa_star (pv 0) pa_nil))) (pa_cons (pv 0) pa_nil))) (blkOk_by (own := [("begin", 1), ("end", 2)]) (N := ["ends", "begin", "end"]) (sc := (C8.fnScope sSb)) (by decide +kernel)) (fun _ _ _ _ _ => pg_tup rfl (pgs_cons (pg_name (i := 1) scSb.nd rfl (Or.inl rfl)) (pgs_cons (pg_name (i := 2) scSb.nd rfl (Or.inl rfl)) pgs_nil))) (fun _ _ _ _ _ => pts_nil) (fun _ _ _ _ _ => (pe_op op_sub (pv 2) (pv 1)))))), ?_⟩
    have lm : (es.map V.int).length = es.length := List.length_map _
    refine ⟨_, rfl, l, _, rfl, .inr (SqL.of hl), (by
      show (V.int 0 :: (es.map V.int ++ [])).length ≤ sizeLine
      rw [List.append_nil, List.length_cons, lm]
      exact Nat.le_trans (show es.length + 1 ≤ 6001 by omega) (by decide)), fun z fz => ?_⟩
    have s1 := same_new (o := HO.lst (V.int 0 :: (es.map V.int ++ []))) fz
    have ez : upd H z (HO.lst (V.int 0 :: (es.map V.int ++ []))) z = some (.lst ((0 :: es).map V.int)) := by rw [upd_same, List.append_nil]; rfl
    refine ⟨_, rfl, z, l, _, _, rfl, SqL.of ez, SqL.of (s1 _ _ hl), fun D hD => lc_it (walkU (xs := (0 :: es).map V.int) (ys := es.map V.int) (by rw [List.length_map, List.length_map, List.length_cons]; omega)) (fun i H' => Same (upd H z (HO.lst (V.int 0 :: (es.map V.int ++ [])))) H' ∧ ∃ rs : List Int, H' D = some (.lst (rs.map V.int)) ∧ rs = (diffs 0 es).take i) ⟨same_new hD, [], upd_same, rfl⟩ (fun i H' _ h => ⟨SqL.of (h.1 _ _ ez), SqL.of (h.1 _ _ (s1 _ _ hl))⟩) ?_ ?_⟩
    · rintro i y H' H'' hi ⟨s', rs, hd, rl⟩ ⟨T', y1, y2, ⟨rfl, fT, rfl⟩, g1, g2⟩
      rw [lm] at hi
      obtain ⟨a1, ha1, rfl⟩ : ∃ a1, (0 :: es)[i]? = some a1 ∧ y1 = V.int a1 := by
        rw [List.getElem?_map] at g1
        obtain ⟨a, h1, h2⟩ := Option.map_eq_some_iff.mp g1
        exact ⟨a, h1, h2.symm⟩
      obtain ⟨a2, ha2, rfl⟩ : ∃ a2, es[i]? = some a2 ∧ y2 = V.int a2 := by
        rw [List.getElem?_map] at g2
        obtain ⟨a, h1, h2⟩ := Option.map_eq_some_iff.mp g2
        exact ⟨a, h1, h2.symm⟩
      have gd := diffs_get 0 es i a1 a2 ha1 ha2
      have sT := same_new (o := HO.tup [V.int a1, V.int a2]) fT
      refine ⟨T', _, rfl, SqT.of upd_same, rfl, _, _, rfl, _, _, rfl, rfl, rfl, ?_⟩
      dsimp only [tYes]
      rw [if_pos rfl]
      refine ⟨_, rfl, _, rfl, _, _, rfl, rfl, _, sT _ _ hd, ?_, fun b o e => ?_, rs ++ [a2 - a1], ?_, ?_⟩
      · rw [List.length_map, rl, List.length_take]
        exact Nat.lt_of_le_of_lt (show min i _ ≤ 6000 by omega) (by decide)
      · rw [upd_ne (ne_of_none e hD)]
        exact sT _ _ (s' _ _ e)
      · rw [upd_same, List.map_append]; rfl
      · rw [rl, List.take_succ, gd]; rfl
    · rintro H7 ⟨s7, rs, hd, rl⟩
      refine k D H7 (s1.trans s7) (s1.free hD) ?_
      rw [hd, rl, lm, List.take_of_length_le (by rw [diffs_len]; omega)]
end
end Lw
namespace Lw
open PySem PySem.Spec PyProof.Rows L2
open SX PySem.NumText TL LamX ClX StX
/-! ### lists cut at an item -/
def mi (t s : Int) : Int := if s < t then s else t
def cutF : Int → List Int → List Int
  | _, [] => []
  | t, s :: r => (if 0 < mi t s then [mi t s] else []) ++ cutF (t - mi t s) r
def cutB : Int → List Int → List Int
  | _, [] => []
  | t, s :: r => (if mi t s < s then [s - mi t s] else []) ++ cutB (t - mi t s) r
theorem mi_lt {t s : Int} (h : s < t) : mi t s = s := if_pos h
theorem mi_ge {t s : Int} (h : t ≤ s) : mi t s = t := if_neg (by omega)
theorem cutF0 : ∀ ns : List Int, (∀ v ∈ ns, 1 ≤ v) → cutF 0 ns = []
  | [], _ => rfl
  | s :: r, h => by
    have h1 := h s List.mem_cons_self
    rw [cutF, mi_ge (show (0 : Int) ≤ s by omega), if_neg (by omega)]
    exact cutF0 r fun v hv => h v (List.mem_cons_of_mem _ hv)
theorem cutB0 : ∀ ns : List Int, (∀ v ∈ ns, 1 ≤ v) → cutB 0 ns = ns
  | [], _ => rfl
  | s :: r, h => by
    have h1 := h s List.mem_cons_self
    rw [cutB, mi_ge (show (0 : Int) ≤ s by omega), if_pos (by omega), Int.sub_zero, Int.sub_zero, cutB0 r fun v hv => h v (List.mem_cons_of_mem _ hv)]
    rfl
theorem ends_ge : ∀ (ns : List Int) (d e : Int), (∀ v ∈ ns, 1 ≤ v) → e ∈ endsL d ns → d < e
  | [], _, _, _, he => by cases he
  | s :: r, d, e, h, he => by
    have h1 := h s List.mem_cons_self
    rw [endsL] at he
    rcases List.mem_cons.mp he with rfl | he
    · omega
    · have := ends_ge r (d + s) e (fun v hv => h v (List.mem_cons_of_mem _ hv)) he
      omega
theorem diffs_ends : ∀ (ns : List Int) (d : Int), diffs d (endsL d ns) = ns
  | [], _ => rfl
  | s :: r, d => by
    rw [endsL, diffs, diffs_ends r (d + s), show d + s - d = s by omega]
theorem diffs_shift (t : Int) : ∀ (b : Int) (es : List Int), diffs (b - t) (es.map fun e => e - t) = diffs b es
  | _, [] => rfl
  | b, e :: r => by rw [List.map_cons, diffs, diffs, diffs_shift t e r, show e - t - (b - t) = e - b by omega]
theorem front_cut : ∀ (ns : List Int) (d t : Int), (∀ v ∈ ns, 1 ≤ v) → d ≤ t → t ≤ d + ns.sum → diffs d ((endsL d ns).filter (fun e => decide (e < t)) ++ (if d < t then [t] else [])) = cutF (t - d) ns
  | [], d, t, _, h1, h2 => by
    rw [List.sum_nil] at h2
    rw [endsL, List.filter_nil, List.nil_append, if_neg (by omega)]
    rfl
  | s :: r, d, t, h, h1, h2 => by
    have hs := h s List.mem_cons_self
    have hr : ∀ v ∈ r, 1 ≤ v := fun v hv => h v (List.mem_cons_of_mem _ hv)
    rw [List.sum_cons] at h2
    rw [endsL, List.filter_cons]
    by_cases c : d + s < t
    · have ih := front_cut r (d + s) t hr (by omega) (by omega)
      rw [if_pos c] at ih
      rw [if_pos (decide_eq_true c), if_pos (show d < t by omega), List.cons_append, diffs, ih, cutF, mi_lt (show s < t - d by omega), if_pos (show 0 < s by omega), show d + s - d = s by omega, show t - d - s = t - (d + s) by omega]
      rfl
    · have e0 : (endsL (d + s) r).filter (fun e => decide (e < t)) = [] := List.filter_eq_nil_iff.mpr fun e he => by
        have := ends_ge r (d + s) e hr he
        simp; omega
      rw [if_neg (by simp; omega), e0, List.nil_append, cutF, mi_ge (show t - d ≤ s by omega), show t - d - (t - d) = 0 by omega, cutF0 r hr, List.append_nil]
      by_cases c2 : d < t
      · rw [if_pos c2, if_pos (show 0 < t - d by omega)]; rfl
      · rw [if_neg c2, if_neg (show ¬ 0 < t - d by omega)]; rfl
theorem back_cut : ∀ (ns : List Int) (d t : Int), (∀ v ∈ ns, 1 ≤ v) → d ≤ t → diffs t ((endsL d ns).filter (fun e => decide (t < e))) = cutB (t - d) ns
  | [], _, _, _, _ => rfl
  | s :: r, d, t, h, h1 => by
    have hs := h s List.mem_cons_self
    have hr : ∀ v ∈ r, 1 ≤ v := fun v hv => h v (List.mem_cons_of_mem _ hv)
    rw [endsL, List.filter_cons]
    by_cases c : t < d + s
    · have e0 : (endsL (d + s) r).filter (fun e => decide (t < e)) = endsL (d + s) r := List.filter_eq_self.mpr fun e he => by
        have := ends_ge r (d + s) e hr he
        exact decide_eq_true (by omega)
      rw [if_pos (decide_eq_true c), e0, diffs, diffs_ends, cutB, mi_ge (show t - d ≤ s by omega), if_pos (show t - d < s by omega), show t - d - (t - d) = 0 by omega, cutB0 r hr, show s - (t - d) = d + s - t by omega]
      rfl
    · have em : mi (t - d) s = s := by
        unfold mi
        split <;> omega
      rw [if_neg (by simp; omega), back_cut r (d + s) t hr (by omega), cutB, em, if_neg (by omega), show t - d - s = t - (d + s) by omega]
      rfl
theorem cutF_len : ∀ (t : Int) (ns : List Int), (cutF t ns).length ≤ ns.length
  | _, [] => Nat.le_refl _
  | t, s :: r => by
    have ih := cutF_len (t - mi t s) r
    rw [cutF, List.length_append, List.length_cons]
    split
    · show 1 + _ ≤ _; omega
    · show 0 + _ ≤ _; omega
theorem cutB_len : ∀ (t : Int) (ns : List Int), (cutB t ns).length ≤ ns.length
  | _, [] => Nat.le_refl _
  | t, s :: r => by
    have ih := cutB_len (t - mi t s) r
    rw [cutB, List.length_append, List.length_cons]
    split
    · show 1 + _ ≤ _; omega
    · show 0 + _ ≤ _; omega
theorem cutF_ok : ∀ (t : Int) (ns : List Int), SzB ns → SzB (cutF t ns)
  | _, [], _ => fun v hv => by cases hv
  | t, s :: r, h => by
    have ih := cutF_ok (t - mi t s) r fun v hv => h v (List.mem_cons_of_mem _ hv)
    have hs := h s List.mem_cons_self
    rw [cutF]
    refine SzB.app (fun v hv => ?_) ih
    split at hv
    · rename_i c
      rw [List.mem_singleton.mp hv]
      have : mi t s ≤ s := by unfold mi; split <;> omega
      exact ⟨by omega, Int.le_trans this hs.2⟩
    · cases hv
theorem cutB_ok : ∀ (t : Int) (ns : List Int), 0 ≤ t → SzB ns → SzB (cutB t ns)
  | _, [], _, _ => fun v hv => by cases hv
  | t, s :: r, h0, h => by
    have hs := h s List.mem_cons_self
    have m0 : 0 ≤ mi t s ∧ mi t s ≤ t := by unfold mi; split <;> omega
    have ih := cutB_ok (t - mi t s) r (by omega) fun v hv => h v (List.mem_cons_of_mem _ hv)
    rw [cutB]
    refine SzB.app (fun v hv => ?_) ih
    split at hv
    · rename_i c
      rw [List.mem_singleton.mp hv]
      exact ⟨by omega, by have := hs.2; omega⟩
    · cases hv
end Lw
namespace Lw
open PySem PySem.Spec PyProof.Rows L2
open SX PySem.NumText TL LamX ClX StX
/-- [fn e for e in a tuple of ints if c e] -/
theorem lc_sift {K : PySem.W.Frag} {p : Addr} {es : List Int} {c : Int → Bool} {fn : Int → Int} {g : TG} {tt : TT} {te : TE} {vs : List Nat} {σ : L2.St} {H1 : Hp} {D : Addr} {Qd : Hp → Prop} (hD : H1 D = none) (hp : H1 p = some (.tup (es.map V.int))) (le : es.length ≤ 6000)
    (hs : ∀ (e : Int) (H' : Hp) (Y : V → Hp → Prop) (N : Hp → Prop), (c e = true → Y (.int (fn e)) H') → (c e = false → N H') → g (.int e) (wipe σ vs) H' fun σ2 H2 => wipe σ2 vs = wipe σ vs ∧ tt σ2 H2 fun b H3 => if b = true then te σ2 H3 Y else N H3)
    (hd : ∀ H', Same H1 H' → H' D = some (.lst (((es.filter c).map fn).map V.int)) → Qd H') :
    ∃ W : Nat → Nat → Hp → Prop, (∃ m, W 0 m (upd H1 D (.lst []))) ∧ ∀ i m H, W i m H →
      ((Itt K p).stop i H ∧ Qd H) ∨ ((Itt K p).go i H ∧ ∃ Nx : Hp → Prop, (∀ H', Nx H' → ∃ m', m' < m ∧ W (i + 1) m' H') ∧ ∀ x H', (Itt K p).yld i H x H' → g x (wipe σ vs) H' fun σ2 H2 => wipe σ2 vs = wipe σ vs ∧ tt σ2 H2 fun b H3 =>
        if b = true then te σ2 H3 fun y H4 => ∃ acc, H4 D = some (.lst acc) ∧ acc.length < sizeLine ∧ Nx (upd H4 D (.lst (acc ++ [y]))) else Nx H3) := by
  refine lc_it (walk_tup (xs := es.map V.int)) (fun i H' => Same H1 H' ∧ H' D = some (.lst ((((es.take i).filter c).map fn).map V.int))) ⟨same_new hD, upd_same⟩ (fun i H' _ h => SqT.of (h.1 _ _ hp)) ?_ ?_
  · rintro i y H' H'' hi ⟨s', hd'⟩ ⟨rfl, hy⟩
    obtain ⟨e, he, rfl⟩ : ∃ e, es[i]? = some e ∧ y = V.int e := by
      rw [List.getElem?_map] at hy
      obtain ⟨a, h1, h2⟩ := Option.map_eq_some_iff.mp hy
      exact ⟨a, h1, h2.symm⟩
    refine hs e _ _ _ (fun ce => ?_) (fun ce => ?_)
    · refine ⟨_, hd', ?_, fun b o q => ?_, ?_⟩
      · rw [List.length_map, List.length_map]
        have h1 := List.length_filter_le c (es.take i)
        have h2 := List.length_take_le' i es
        exact Nat.lt_of_le_of_lt (show _ ≤ 6000 by omega) (by decide)
      · rw [upd_ne (ne_of_none q hD)]
        exact s' _ _ q
      · rw [upd_same, List.take_succ, he, List.filter_append, List.map_append, List.map_append]
        show _ = some (HO.lst (_ ++ (([e].filter c).map fn).map V.int))
        rw [List.filter_cons, if_pos ce]; rfl
    · refine ⟨s', ?_⟩
      rw [hd', List.take_succ, he, List.filter_append]
      show _ = some (HO.lst ((((es.take i).filter c ++ [e].filter c).map fn).map V.int))
      rw [List.filter_cons, if_neg (by rw [ce]; exact Bool.false_ne_true), List.filter_nil, List.append_nil]
  · rintro H7 ⟨s7, h7⟩
    refine hd H7 s7 ?_
    rw [h7, List.take_of_length_le (by rw [List.length_map]; exact Nat.le_refl _)]
def spRm (K : PySem.W.Frag) (CC DM DC : Addr) : Sp := fun vs H Q E => (∃ a k, vs = [.ref a, .int k]) ∧ spMu K CC DM DC vs H Q E
def spCut (K : PySem.W.Frag) (CC DC : Addr) : Sp := fun vs H Q E => ∃ a ns v, vs = [.ref a, v] ∧ ChA CC H a ns ∧ SzB ns ∧ ns.length ≤ 5000 ∧ Anyv K H v ∧ (inB v 0 ns.sum = false → Bf DC "part" (.str (Str.ofString "at")) H E) ∧ ∀ t, v = .int t → 0 ≤ t → t ≤ ns.sum →
  ∀ c1 c2 q H', Same H H' → H q = none → ChA CC H' c1 (cutF t ns) → ChA CC H' c2 (cutB t ns) → H' q = some (.tup [.ref c1, .ref c2]) → Q (.ref q) H'
def plc (t : Int) (ns : List Int) : Nat := ((endsL 0 ns).filter fun e => decide (e ≤ t)).length
def spPl (K : PySem.W.Frag) (CC DC : Addr) : Sp := fun vs H Q E => ∃ a ns v, vs = [.ref a, v] ∧ ChA CC H a ns ∧ ns.length ≤ 5000 ∧ Anyv K H v ∧ (inB v 0 (ns.sum - 1) = false → Bf DC "part" (.str (Str.ofString "item")) H E) ∧ ∀ t, v = .int t → 0 ≤ t → t ≤ ns.sum - 1 → ∀ H', Same H H' → Q (.int (plc t ns : Int)) H'
structure OpK (K : PySem.W.Frag) (CC : Addr) : Prop where
  first : PySem.W.selfFirst K CC = true
  rmul : ∃ g : Addr, PySem.W.findIn K (.ref CC) "__rmul__" = some (some (.ref g))
section
variable {P : Program} {w : World} {K : PySem.W.Frag} {mg : Str → Option Value} {base : Heap}
theorem scRm : FnScope ["self", "other"] ["self", "other"] (C8.fnScope sRm) := C8.fnScope_by (by decide +kernel)
theorem fn_rm {CC DC DM f : Addr} {fd : FuncData} (F : C8.Fun K "__rmul__" "Chunks.__rmul__" sRm f fd) (O : OpK K CC) (MM : MetX P w K mg base 8 CC "__mul__" (spMu K CC DM DC)) : FnOk P w K mg base (L2.CX P w) 9 f fd ["self", "other"] (spRm K CC DM DC) := by
  obtain ⟨oc, od, dV, kV, doc, pm, an, cdv, ct, osl, rfl, lk, hcd⟩ := F.ex
  refine fn_of lk hcd scRm (fun vs H Q E h => ?_) fun A outer s H vs Q E hr h => ?_
  · obtain ⟨⟨a, k, rfl⟩, _⟩ := h
    rfl
  · obtain ⟨⟨a, k, rfl⟩, h⟩ := h
    obtain ⟨a', ns, v, e, ha, h2⟩ := id h
    cases e
    obtain ⟨dx, p, e, r, hi, hp, _⟩ := id ha
    refine ⟨_, pss_one (ps_ret (pe_op (op_of (op := .Mult) (half_lft (nm := "mul") MM (passes_call (takes_of rfl rfl rfl rfl) (fun _ _ _ _ z => z)) O.first O.rmul (by decide) hr (by decide))) (pv 0) (pv 1))), ?_⟩
    exact ⟨_, rfl, _, rfl, a, dx, _, "int", rfl, hi, .int k, h⟩
theorem inB_int2 {x : V} {lo hi : Int} (h : inB x lo hi = true) : ∃ v, x = .int v ∧ lo ≤ v ∧ v ≤ hi := by
  unfold inB at h
  split at h
  · rename_i v
    rw [Bool.and_eq_true, decide_eq_true_eq, decide_eq_true_eq] at h
    exact ⟨v, rfl, h.1, h.2⟩
  · cases h
theorem of_lst {CC DM DS DC : Addr} {ns : List Int} {H : Hp} {Q : VK} {E : XK} {q : Addr} (hq : H q = some (.lst (ns.map V.int))) (sb : SzB ns) (l : ns.length ≤ 5000) (h : ∀ c H', Same H H' → H c = none → ChA CC H' c ns → Q (.ref c) H') : spCof2 K CC DM DS DC [.ref q] H Q E :=
  ⟨_, rfl, .inr ⟨q, _, rfl, .inl hq, any_ints K H _, by rw [List.length_map]; omega, MkO.good sb (fun _ => h) (fun z => absurd z (by omega))⟩⟩
theorem scCut : FnScope ["self", "at", "front", "back", "end"] ["self", "at"] (C8.fnScope sCut) := C8.fnScope_by (by decide +kernel)
theorem fn_cut {CC DC DS DM fI fE fB pO gO f : Addr} {mc : Value} {fd fdG fdE fdB : FuncData} (F : C8.Fun K "cut" "Chunks.cut" sCut f fd) (T : Txt mg) (CM : ChM2 P w K mg base CC DM DS fI mc) (OF : OfK P w K mg base CC DM DS DC pO gO fdG) (EC : Err1 "BadChunks" "part" P w K mg base DC fE fdE)
    (DB' : C8.Def K mg "sizes_between" sSb fB fdB) (bB : Binds K fdB ["ends"] []) (FB : FnOk P w K mg base (L2.CX P w) 1 fB fdB ["ends"] (spSb K)) (DW : C8.Cal P w K mg base 2 "is_within" (spWithin K) []) : FnOk P w K mg base (L2.CX P w) 8 f fd ["self", "at"] (spCut K CC DC) := by
  obtain ⟨oc, od, dV, kV, doc, pm, an, cdv, ct, osl, rfl, lk, hcd⟩ := F.ex
  have Z := CM.Z
  refine fn_of lk hcd scCut (fun vs H Q E h => ?_) fun A outer s H vs Q E hr h => ?_
  · obtain ⟨a, ns, v, rfl, _⟩ := h
    rfl
  · obtain ⟨a, ns, v, rfl, ha, sa, la, av, k1, k2⟩ := h
    have tk : Takes (cxOf (L2.CX P w) P w K mg base ["self", "at", "front", "back", "end"] "Chunks.cut" (C8.fnScope sCut) f cdv A outer s H E) (fun cls d _ H' => E cls d H') := takes_of rfl rfl rfl rfl
    refine ⟨_, (pss_cons (ps_if (pt_not (pt_val (C8.pe_c DW hr (by decide) (by rfl) (pa_cons (pv 1) (pa_cons pe_int (pa_cons (pe_fld (pv 0) rfl) pa_nil)))))) (pss_one (ps_bad1 (x := "BadChunks") rfl tk EC.T EC.iC EC.tI EC.F hr EC.b (by rfl) EC.hm pe_str)) pss_nil)
  (pss_cons (ps_setLc (i := 2) (own := [("end", 4)]) (g := gName 4) rfl scCut.nd rfl rfl (sw_true rfl rfl rfl (by decide +kernel)) (pi_tup (pe_fld (pv 0) rfl)) (blkOk_by (own := [("end", 4)]) (N := ["self", "at", "front", "back", "end"]) (sc := (C8.fnScope sCut)) (by decide +kernel)) (fun _ _ _ _ _ => pg_name (i := 4) scCut.nd rfl (Or.inl rfl)) (fun _ _ _ _ _ => pts_one (pt_cmpR op_lt (pv 4) (pv 1) (nomark _))) (fun _ _ _ _ _ => (pv 4)))
  (pss_cons (ps_setLc (i := 3) (own := [("end", 4)]) (g := gName 4) rfl scCut.nd rfl rfl (sw_true rfl rfl rfl (by decide +kernel)) (pi_tup (pe_fld (pv 0) rfl)) (blkOk_by (own := [("end", 4)]) (N := ["self", "at", "front", "back", "end"]) (sc := (C8.fnScope sCut)) (by decide +kernel)) (fun _ _ _ _ _ => pg_name (i := 4) scCut.nd rfl (Or.inl rfl)) (fun _ _ _ _ _ => pts_one (pt_cmpR op_gt (pv 4) (pv 1) (nomark _))) (fun _ _ _ _ _ => (pe_op op_sub (pv 4) (pv 1))))
  (pss_cons (ps_if (pt_cmpR op_gt (pv 1) pe_int (nomark _)) (pss_one (ps_expr (pe_bm PySem.F.plainAttrs_list PySem.F.slot_list_append PySem.F.type_list_append mt_append (pv 2) (pa_cons (pv 1) pa_nil)))) pss_nil)
  (pss_one (ps_ret (pe_tup (pa_cons (pe_static (pe_glob (v := .ref CC) (by rfl) OF.hm rfl) OF.S OF.F (hr.mono (by decide)) OF.b .nil (passes_call (takes_of rfl rfl rfl rfl) (fun _ _ _ _ z => z)) (pa_cons (pe_call FB (hr.mono (by decide)) (by rfl) DB'.mgf DB'.kp bB .nil (passes_call (takes_of rfl rfl rfl rfl) (fun _ _ _ _ z => z)) (pa_cons (pv 2) pa_nil)) pa_nil)) (pa_cons (pe_static (pe_glob (v := .ref CC) (by rfl) OF.hm rfl) OF.S OF.F (hr.mono (by decide)) OF.b .nil (passes_call (takes_of rfl rfl rfl rfl) (fun _ _ _ _ z => z)) (pa_cons (pe_call FB (hr.mono (by decide)) (by rfl) DB'.mgf DB'.kp bB .nil (passes_call (takes_of rfl rfl rfl rfl) (fun _ _ _ _ z => z)) (pa_cons (pv 3) pa_nil)) pa_nil)) pa_nil))))))))), ?_⟩
    obtain ⟨dx, p, e, r, hi, hp, he, _⟩ := id ha
    refine ⟨_, rfl, _, rfl, a, CC, dx, _, _, rfl, hi, Z.cl, Z.n2, chF_total _ _ _ _, v, 0, ns.sum, rfl, av, _, rfl, ?_⟩
    cases hz : inB v 0 ns.sum with
    | false => exact iteT (bad_leaf1 fun d fs hd e1 => k1 hz d fs H (Same.refl _) hd e1)
    | true =>
      refine iteF ?_
      obtain ⟨t, rfl, t0, t1⟩ := inB_int2 hz
      have ko := k2 t rfl t0 t1
      have ll : (endsL 0 ns).length ≤ 6000 := by rw [endsL_len]; omega
      refine ⟨_, rfl, a, CC, dx, _, _, rfl, hi, Z.cl, Z.n3, chF_ends _ _ _ _, e, rfl, ⟨_, SqT.of he⟩, fun D hD => lc_sift (es := endsL 0 ns) (c := fun e => decide (e < t)) (fn := fun e => e) hD he ll (fun e H' Y N y n => ?_) fun H2 s2 hD2 => ?_⟩
      · refine ⟨rfl, _, rfl, _, rfl, _, _, rfl, rfl, _, rfl, ?_⟩
        by_cases c : e < t
        · exact iteT' (decide_eq_true c) ⟨_, rfl, y (decide_eq_true c)⟩
        · exact iteF' (decide_eq_false c) (n (decide_eq_false c))
      rw [List.map_id'] at hD2
      dsimp only [gName, tSeq]
      refine ⟨_, rfl, a, CC, dx, _, _, rfl, s2 _ _ hi, Z.cl, Z.n3, chF_ends _ _ _ _, e, rfl, ⟨_, SqT.of (s2 _ _ he)⟩, fun D3 hD3 => lc_sift (es := endsL 0 ns) (c := fun e => decide (t < e)) (fn := fun e => e - t) hD3 (s2 _ _ he) ll (fun e H' Y N y n => ?_) fun H3 s3 hB => ?_⟩
      · refine ⟨rfl, _, rfl, _, rfl, _, _, rfl, rfl, _, rfl, ?_⟩
        by_cases c : t < e
        · exact iteT' (decide_eq_true c) ⟨_, rfl, _, rfl, _, _, rfl, rfl, y (decide_eq_true c)⟩
        · exact iteF' (decide_eq_false c) (n (decide_eq_false c))
      have hF := s3 _ _ hD2
      have D3D : D3 ≠ D := fun q => by rw [q, hD2] at hD3; cases hD3
      have po : ∀ v ∈ ns, 1 ≤ v := fun v hv => (sa v hv).1
      obtain ⟨Fr, hFr⟩ : ∃ Fr, Fr = (endsL 0 ns).filter (fun e => decide (e < t)) ++ (if 0 < t then [t] else []) := ⟨_, rfl⟩
      have eF : diffs 0 Fr = cutF t ns := by rw [hFr, front_cut ns 0 t po t0 (by omega), Int.sub_zero]
      have eB : diffs 0 (((endsL 0 ns).filter fun e => decide (t < e)).map fun e => e - t) = cutB t ns := by
        have h1 := diffs_shift t t ((endsL 0 ns).filter fun e => decide (t < e))
        rw [Int.sub_self] at h1
        rw [h1, back_cut ns 0 t po t0, Int.sub_zero]
      have lF : Fr.length ≤ 6000 := by
        have h1 := List.length_filter_le (fun e => decide (e < t)) (endsL 0 ns)
        rw [endsL_len] at h1
        rw [hFr, List.length_append]
        split
        · show _ + 1 ≤ _; omega
        · show _ + 0 ≤ _; omega
      have lB : (((endsL 0 ns).filter fun e => decide (t < e)).map fun e => e - t).length ≤ 6000 := by
        have h1 := List.length_filter_le (fun e => decide (t < e)) (endsL 0 ns)
        rw [endsL_len] at h1
        rw [List.length_map]; omega
      generalize ((endsL 0 ns).filter fun e => decide (t < e)).map (fun e => e - t) = Bk at hB eB lB
      dsimp only [gName, tSeq]
      refine join_any (fun σ' H' => σ' = [some (.ref a), some (.int t), some (.ref D), some (.ref D3), none] ∧ Same H H' ∧ H' D = some (.lst (Fr.map V.int)) ∧ H' D3 = some (.lst (Bk.map V.int))) ?r2 (fun go => ?_)
      rotate_left
      · refine ⟨_, rfl, _, _, rfl, rfl, _, rfl, ?_⟩
        by_cases c : 0 < t
        · refine iteT' (decide_eq_true c) ⟨_, rfl, .inl ⟨rfl, _, SqL.of hF⟩, _, rfl, D, _, _, rfl, rfl, hF, ?_, go _ _ ⟨rfl, fun b o q => ?_, ?_, ?_⟩⟩
          · rw [List.length_map]
            have h1 := List.length_filter_le (fun e => decide (e < t)) (endsL 0 ns)
            exact Nat.lt_of_le_of_lt (show _ ≤ 6000 by omega) (by decide)
          · rw [upd_ne (ne_of_none q hD)]
            exact s3 _ _ (s2 _ _ q)
          · rw [upd_same, hFr, if_pos c, List.map_append]; rfl
          · rw [upd_ne D3D]; exact hB
        · refine iteF' (decide_eq_false c) (go _ _ ⟨rfl, s2.trans s3, ?_, hB⟩)
          rw [hF, hFr, if_neg c, List.append_nil]
      case r2 =>
      rintro σ4 H4 ⟨rfl, s4, hF4, hB4⟩
      refine ⟨rfl, _, rfl, D, Fr, rfl, hF4, lF, fun q1 H5 s5 fq1 hq1 => ?_⟩
      rw [eF] at hq1
      refine of_lst hq1 (cutF_ok t ns sa) (Nat.le_trans (cutF_len t ns) la) fun c1 H6 s6 fc1 hc1 => ?_
      refine ⟨rfl, _, rfl, D3, Bk, rfl, s6 _ _ (s5 _ _ hB4), lB, fun q2 H7 s7 fq2 hq2 => ?_⟩
      rw [eB] at hq2
      refine of_lst hq2 (cutB_ok t ns t0 sa) (Nat.le_trans (cutB_len t ns) la) fun c2 H8 s8 fc2 hc2 => ?_
      refine ⟨(by show 2 ≤ sizeLine; decide), fun q fq => ?_⟩
      have s9 := same_new (o := HO.tup [V.ref c1, V.ref c2]) fq
      have sAll : Same H H8 := (((s4.trans s5).trans s6).trans s7).trans s8
      exact ko c1 c2 q _ (sAll.trans s9) (sAll.free fq) (hc1.same ((s7.trans s8).trans s9)) (hc2.same s9) upd_same
theorem scPl : FnScope ["self", "item", "end"] ["self", "item"] (C8.fnScope sPl) := C8.fnScope_by (by decide +kernel)
theorem fn_pl {CC DC DS DM fI fE : Addr} {f : Addr} {mc : Value} {fd fdE : FuncData} (F : C8.Fun K "place_of" "Chunks.place_of" sPl f fd) (T : Txt mg) (CM : ChM2 P w K mg base CC DM DS fI mc) (EC : Err1 "BadChunks" "part" P w K mg base DC fE fdE) (DW : C8.Cal P w K mg base 2 "is_within" (spWithin K) []) : FnOk P w K mg base (L2.CX P w) 8 f fd ["self", "item"] (spPl K CC DC) := by
  obtain ⟨oc, od, dV, kV, doc, pm, an, cdv, ct, osl, rfl, lk, hcd⟩ := F.ex
  have Z := CM.Z
  refine fn_of lk hcd scPl (fun vs H Q E h => ?_) fun A outer s H vs Q E hr h => ?_
  · obtain ⟨a, ns, v, rfl, _⟩ := h
    rfl
  · obtain ⟨a, ns, v, rfl, ha, la, av, k1, k2⟩ := h
    have tk : Takes (cxOf (L2.CX P w) P w K mg base ["self", "item", "end"] "Chunks.place_of" (C8.fnScope sPl) f cdv A outer s H E) (fun cls d _ H' => E cls d H') := takes_of rfl rfl rfl rfl
    refine ⟨_, (pss_cons (ps_if (pt_not (pt_val (C8.pe_c DW hr (by decide) (by rfl) (pa_cons (pv 1) (pa_cons pe_int (pa_cons (pe_op op_sub (pe_fld (pv 0) rfl) pe_int) pa_nil)))))) (pss_one (ps_bad1 (x := "BadChunks") rfl tk EC.T EC.iC EC.tI EC.F hr EC.b (by rfl) EC.hm pe_str)) pss_nil)
  (pss_one (ps_ret (pe_callB call_len_seq (by rfl) T.n_len (by decide +kernel) (pa_cons (pe_lc (own := [("end", 2)]) (g := gName 2) rfl scPl.nd (pi_tup (pe_fld (pv 0) rfl)) (blkOk_by (own := [("end", 2)]) (N := ["self", "item", "end"]) (sc := (C8.fnScope sPl)) (by decide +kernel)) (fun _ _ _ _ _ => pg_name (i := 2) scPl.nd rfl (Or.inl rfl)) (fun _ _ _ _ _ => pts_one (pt_cmpR op_le (pv 2) (pv 1) (nomark _))) (fun _ _ _ _ _ => (pv 2))) pa_nil))))), ?_⟩
    obtain ⟨dx, p, e, r, hi, hp, he, _⟩ := id ha
    refine ⟨_, rfl, _, rfl, a, CC, dx, _, _, rfl, hi, Z.cl, Z.n2, chF_total _ _ _ _, _, _, rfl, rfl, v, 0, ns.sum - 1, rfl, av, _, rfl, ?_⟩
    cases hz : inB v 0 (ns.sum - 1) with
    | false => exact iteT (bad_leaf1 fun d fs hd e1 => k1 hz d fs H (Same.refl _) hd e1)
    | true =>
      refine iteF ?_
      obtain ⟨t, rfl, t0, t1⟩ := inB_int2 hz
      have ko := k2 t rfl t0 t1
      have ll : (endsL 0 ns).length ≤ 6000 := by rw [endsL_len]; omega
      refine ⟨_, rfl, a, CC, dx, _, _, rfl, hi, Z.cl, Z.n3, chF_ends _ _ _ _, e, rfl, ⟨_, SqT.of he⟩, fun D hD => lc_sift (es := endsL 0 ns) (c := fun e => decide (e ≤ t)) (fn := fun e => e) hD he ll (fun e H' Y N y n => ?_) fun H2 s2 hD2 => ?_⟩
      · refine ⟨rfl, _, rfl, _, rfl, _, _, rfl, rfl, _, rfl, ?_⟩
        by_cases c : e ≤ t
        · exact iteT' (decide_eq_true c) ⟨_, rfl, y (decide_eq_true c)⟩
        · exact iteF' (decide_eq_false c) (n (decide_eq_false c))
      rw [List.map_id'] at hD2
      refine ⟨D, _, rfl, .inl (SqL.of hD2), ?_⟩
      rw [List.length_map]
      exact ko H2 s2
end
end Lw
namespace Lw
open PySem PySem.Spec PyProof.Rows L2
open SX PySem.NumText TL LamX
abbrev sLsz : Stmt := top 32
abbrev sLah : Stmt := top 33
def some8 : List V := [V.int 1, V.int 1, V.int 2, V.int 3, V.int 5, V.int 8, V.int ((10 : Int) ^ (30 : Int).toNat), V.int ((10 : Int) ^ (30 : Int).toNat - 7)]
theorem some9 {r : Int} (h0 : 0 ≤ r) (h1 : r < 1000) {v : V} (h : v ∈ some8 ++ [V.int (1 + r)]) : ∃ x, v = V.int x ∧ 1 ≤ x ∧ x ≤ 10 ^ 30 := by
  have e : ((10 : Int) ^ 30) = 1000000000000000000000000000000 := by decide +kernel
  rcases List.mem_append.mp h with h | h
  · unfold some8 at h
    simp only [List.mem_cons, List.not_mem_nil, or_false] at h
    rcases h with rfl | rfl | rfl | rfl | rfl | rfl | rfl | rfl
    · exact ⟨_, rfl, by decide, by rw [e]; decide⟩
    · exact ⟨_, rfl, by decide, by rw [e]; decide⟩
    · exact ⟨_, rfl, by decide, by rw [e]; decide⟩
    · exact ⟨_, rfl, by decide, by rw [e]; decide⟩
    · exact ⟨_, rfl, by decide, by rw [e]; decide⟩
    · exact ⟨_, rfl, by decide, by rw [e]; decide⟩
    · exact ⟨_, rfl, by decide +kernel, by decide +kernel⟩
    · exact ⟨_, rfl, by decide +kernel, by decide +kernel⟩
  · rw [List.mem_singleton] at h
    exact ⟨_, h, by omega, by rw [e]; omega⟩
def spLsz : Sp := fun vs H Q _ => ∃ (p pl : Addr) (n : Nat) (m : Int), vs = [.ref p, .int m] ∧ 0 ≤ m ∧ m ≤ 100 ∧ Pen H p pl n ∧ n ≤ 900000 ∧
  ∀ l ns H', SzB ns → (ns.length : Int) ≤ m → H' l = some (.lst (ns.map V.int)) → H l = none → Pen H' p pl (n + 301) → Kp p H H' → Q (.ref l) H'
def spLah : Sp := fun vs H Q _ => ∃ (l : Addr) (ns : List Int) (t : Int), vs = [.ref l, .int t] ∧ H l = some (.lst (ns.map V.int)) ∧ ns.length ≤ 1000 ∧ ∀ q t1 t2 H', Same H H' → H' q = some (.lst [.ref t1, .ref t2]) → H' t1 = some (.tup ((cutF t ns).map V.int)) → H' t2 = some (.tup ((cutB t ns).map V.int)) → Q (.ref q) H'
structure TxtM (mg : Str → Option Value) : Prop extends Txt mg where
  n_min : mg "min" = none
  n_max : mg "max" = none
  n_tuple : mg "tuple" = none
section
variable {P : Program} {w : World} {K : PySem.W.Frag} {mg : Str → Option Value} {base : Heap}
theorem scLsz : FnScope ["_law_pen_here", "_law_most", "_law_some", "_law_spot"] ["_law_pen_here", "_law_most"] (C8.fnScope sLsz) := C8.fnScope_by (by decide +kernel)
theorem cal_lsz {f : Addr} {fd : FuncData} (F : C8.Def K mg "_law_sizes" sLsz f fd) (b : Binds K fd ["_law_pen_here", "_law_most"] []) (T : Txt mg) (DD : C8.Cal P w K mg base 1 "_law_draw" spDraw []) (DP : C8.Cal P w K mg base 2 "_law_pick" (spPick K) []) : C8.Cal P w K mg base 3 "_law_sizes" spLsz [] := by
  refine C8.cal0 F b .nil scLsz (fun vs H Q E h => ?_) (fun cdv A outer st H vs Q E hr h => ?_)
  · obtain ⟨p, pl, n, m, rfl, _⟩ := h
    rfl
  · obtain ⟨p, pl, n, m, rfl, m0, m1, hp, hn, k⟩ := h
    refine ⟨_, (pss_cons (ps_set (i := 2) scLsz.nd rfl (Or.inr rfl) (pe_lst (pa_cons pe_int (pa_cons pe_int (pa_cons pe_int (pa_cons pe_int (pa_cons pe_int (pa_cons pe_int (pa_cons (pe_op op_pow pe_int pe_int) (pa_cons (pe_op op_sub (pe_op op_pow pe_int pe_int) pe_int) pa_nil))))))))))
  (pss_one (ps_ret (pe_lc (own := [("_law_spot", 3)]) (g := gName 3) (tt := tYes) rfl scLsz.nd (pi_range1 (by rfl) T.n_range (pa_cons (C8.pe_c DD hr (by decide) (by rfl) (pa_cons (pv 0) (pa_cons (pe_op op_add (pv 1) pe_int) pa_nil))) pa_nil)) (blkOk_by (own := [("_law_spot", 3)]) (N := ["_law_pen_here", "_law_most", "_law_some", "_law_spot"]) (sc := (C8.fnScope sLsz)) (by decide +kernel)) (fun _ _ _ _ _ => pg_name (i := 3) scLsz.nd rfl (Or.inl rfl)) (fun _ _ _ _ _ => pts_nil) (fun _ _ _ _ _ => (C8.pe_c DP hr (by decide) (by rfl) (pa_cons (pv 0) (pa_cons (pe_op op_cat (pv 2) (pe_lst (pa_cons (pe_op op_add pe_int (C8.pe_c DD hr (by decide) (by rfl) (pa_cons (pv 0) (pa_cons pe_int pa_nil)))) pa_nil))) pa_nil)))))))), ?_⟩
    refine ⟨_, _, rfl, rfl, (by unfold CPow; decide), _, _, rfl, rfl, (by unfold CPow; decide), _, _, rfl, rfl, (by show 8 ≤ sizeLine; decide), fun q fq => ?_⟩
    generalize hL : upd H q _ = H1
    have s1 : Same H H1 := by rw [← hL]; exact same_new fq
    have hq1 : H1 q = some (.lst some8) := by rw [← hL]; exact upd_same
    clear hL
    have qp : q ≠ p := hp.ne_new fq
    dsimp only [gName, tSeq]
    refine ⟨_, rfl, _, rfl, _, _, rfl, rfl, p, pl, n, m + 1, rfl, by omega, by omega, hp.keep s1, by omega, fun r H2 r0 r1 hp2 k2 => ?_⟩
    refine ⟨r, rfl, by omega, by omega, fun D hD => ?_⟩
    have Dp := hp2.ne_new hD
    have Dl := hp2.ne_new2 hD
    have kD : Kp p H (upd H2 D (.lst [])) := ((Kp.of s1).trans k2).trans (.of (same_new hD))
    have qD : q ≠ D := fun e => by rw [← e, k2 _ _ qp hq1] at hD; cases hD
    have fD : H D = none := by
      cases e : H D with
      | none => rfl
      | some o => rw [k2 _ _ Dp (s1 _ _ e)] at hD; cases hD
    refine lc_range (lo := 0) (n := r.toNat) (fun i H' => Pen H' p pl (n + 1 + 2 * i) ∧ Kp p H H' ∧ H' q = some (.lst some8) ∧ ∃ ns, SzB ns ∧ ns.length = i ∧ H' D = some (.lst (ns.map V.int))) ⟨hp2.keep (same_new hD), kD, same_new hD _ _ (k2 _ _ qp hq1), [], (fun v hv => by cases hv), rfl, upd_same⟩ (fun i H' hi ⟨hpi, ki, hqi, ns, sb, ln, hd⟩ => ?_) (fun H' ⟨hpi, ki, hqi, ns, sb, ln, hd⟩ => ?_)
    · refine ⟨rfl, ?_⟩
      dsimp only [tYes]
      rw [if_pos rfl]
      refine ⟨_, rfl, _, rfl, _, rfl, p, pl, _, 1000, rfl, by decide, by decide, hpi, by omega, fun r2 H3 r20 r21 hp3 k3 => ?_⟩
      refine ⟨_, _, rfl, rfl, (by show 1 ≤ sizeLine; decide), fun q2 fq2 => ?_⟩
      have hq3 := k3 _ _ qp hqi
      have n12 : q ≠ q2 := fun e => by rw [← e, hq3] at fq2; cases fq2
      refine ⟨q, q2, _, _, rfl, rfl, by rw [upd_ne n12]; exact hq3, upd_same, (by show 8 + 1 ≤ sizeLine; decide), fun q3 fq3 => ?_⟩
      generalize hL : upd (upd H3 q2 _) q3 _ = H4
      have s4 : Same H3 H4 := by rw [← hL]; exact (same_new fq2).trans (same_new fq3)
      have hq4 : H4 q3 = some (.lst (some8 ++ [V.int (1 + r2)])) := by rw [← hL]; exact upd_same
      have f3 : H3 q3 = none := (same_new fq2).free fq3
      clear hL
      refine ⟨p, pl, q3, _, _, rfl, hp3.keep s4, by omega, SqL.of hq4, hp3.ne_new f3, (by show 0 < 9; decide), (by show 9 < 1000000; decide), fun j v H5 hj hp5 k5 => ?_⟩
      obtain ⟨x, rfl, x1, x2⟩ : ∃ x, v = V.int x ∧ 1 ≤ x ∧ x ≤ 10 ^ 30 := some9 r20 r21 (List.mem_of_getElem? hj)
      have hd5 := k5 _ _ Dp (s4 _ _ (k3 _ _ Dp hd))
      refine ⟨_, hd5, ?_, (hp5.more (by omega)).over Dp Dl, fun b o hb e => ?_, ?_, ns ++ [x], fun v hv => ?_, ?_, ?_⟩
      · rw [List.length_map, ln]
        exact Nat.lt_of_lt_of_le (show i < 101 by omega) (by decide)
      · rw [upd_ne (ne_of_none e fD)]
        exact k5 _ _ hb (s4 _ _ (k3 _ _ hb (ki _ _ hb e)))
      · rw [upd_ne qD]
        exact k5 _ _ qp (s4 _ _ (k3 _ _ qp hqi))
      · rcases List.mem_append.mp hv with hv | hv
        · exact sb v hv
        · rw [List.mem_singleton.mp hv]; exact ⟨x1, x2⟩
      · rw [List.length_append, ln]; rfl
      · rw [upd_same, List.map_append]; rfl
    · exact k D ns H' sb (by rw [ln]; omega) hd fD (hpi.more (by omega)) ki

theorem scLah : FnScope ["_law_sizes_here", "_law_many", "_law_size", "_law_first", "_law_then", "_law_left", "_law_part"] ["_law_sizes_here", "_law_many"] (C8.fnScope sLah) := C8.fnScope_by (by decide +kernel)
theorem cal_lah {f : Addr} {fd : FuncData} (F : C8.Def K mg "_law_ahead" sLah f fd) (b : Binds K fd ["_law_sizes_here", "_law_many"] []) (T : TxtM mg) : C8.Cal P w K mg base 1 "_law_ahead" spLah [] := by
  refine C8.cal0 F b .nil scLah (fun vs H Q E h => ?_) (fun cdv A outer st H vs Q E hr h => ?_)
  · obtain ⟨l, ns, t, rfl, _⟩ := h
    rfl
  · obtain ⟨l, ns, t, rfl, hl, ln, k⟩ := h
    refine ⟨_, (pss_cons (ps_par3 (i := 3) (j := 4) (l := 5) rfl scLah.nd rfl rfl rfl (by decide) (by decide) (by decide) rfl rfl rfl (pa_cons (pe_lst pa_nil) (pa_cons (pe_lst pa_nil) (pa_cons (pv 1) pa_nil))) (by rfl))
  (pss_cons (ps_for PassesOwn.never rfl (pi_list (pv 0)) (pg_name (i := 2) scLah.nd rfl (Or.inl rfl)) (pss_cons (ps_set (i := 6) scLah.nd rfl (Or.inl rfl) (pe_callB (call_min2 rfl) (by rfl) T.n_min (by decide +kernel) (pa_cons (pe_callTy call_int1 (by rfl) T.n_int (by decide +kernel) (pa_cons (pv 5) pa_nil)) (pa_cons (pe_callTy call_int1 (by rfl) T.n_int (by decide +kernel) (pa_cons (pv 2) pa_nil)) pa_nil))))
  (pss_cons (ps_set (i := 3) scLah.nd rfl (Or.inl rfl) (pe_op op_cat (pv 3) (pe_ifExp (pt_cmpR op_gt (pv 6) pe_int (nomark _)) (pe_lst (pa_cons (pv 6) pa_nil)) (pe_lst pa_nil))))
  (pss_cons (ps_set (i := 4) scLah.nd rfl (Or.inl rfl) (pe_op op_cat (pv 4) (pe_ifExp (pt_cmpR op_lt (pv 6) (pv 2) (nomark _)) (pe_lst (pa_cons (pe_op op_sub (pv 2) (pv 6)) pa_nil)) (pe_lst pa_nil))))
  (pss_one (ps_set (i := 5) scLah.nd rfl (Or.inl rfl) (pe_op op_sub (pv 5) (pv 6))))))))
  (pss_one (ps_ret (pe_lst (pa_cons (pe_callTy call_tuple_of (by rfl) T.n_tuple (by decide +kernel) (pa_cons (pv 3) pa_nil)) (pa_cons (pe_callTy call_tuple_of (by rfl) T.n_tuple (by decide +kernel) (pa_cons (pv 4) pa_nil)) pa_nil))))))), ?_⟩
    refine ⟨(by show 0 ≤ sizeLine; decide), fun q1 f1 => ⟨(by show 0 ≤ sizeLine; decide), fun q2 f2 => ⟨_, rfl, _, _, _, rfl, ?_⟩⟩⟩
    have s1 := same_new (o := HO.lst []) f1
    have s2 := same_new (o := HO.lst []) f2
    have e1 : upd (upd H q1 (.lst [])) q2 (.lst []) q1 = some (.lst (([] : List Int).map V.int)) := s2 _ _ upd_same
    have e2 : upd (upd H q1 (.lst [])) q2 (.lst []) q2 = some (.lst (([] : List Int).map V.int)) := upd_same
    have s12 := s1.trans s2
    generalize upd (upd H q1 (HO.lst [])) q2 (HO.lst []) = H1 at s12 e1 e2 ⊢
    clear s1 s2 f1 f2
    dsimp only [gName, tSeq]
    have big : 5000 ≤ sizeLine := by decide
    refine ⟨_, rfl, l, rfl, ⟨_, SqL.of (s12 _ _ hl)⟩, for_list (K := K) (xs := ns.map V.int) (fun i σ' H' => ∃ x2 x6 p1 p2 left a b, σ' = [some (.ref l), some (.int t), x2, some (.ref p1), some (.ref p2), some (.int left), x6] ∧ Same H H' ∧ H' p1 = some (.lst ((a : List Int).map V.int)) ∧ H' p2 = some (.lst ((b : List Int).map V.int)) ∧ a ++ cutF left (ns.drop i) = cutF t ns ∧ b ++ cutB left (ns.drop i) = cutB t ns ∧ a.length ≤ i ∧ b.length ≤ i)
      ⟨_, _, q1, q2, t, [], [], rfl, s12, e1, e2, rfl, rfl, Nat.zero_le _, Nat.zero_le _⟩ (fun i σ' H' _ h => by obtain ⟨_, _, _, _, _, _, _, _, s, _⟩ := h; exact SqL.of (s _ _ hl)) ?_ ?_⟩
    · rintro i y σ' H' hy ⟨x2, x6, p1, p2, left, a, b, rfl, s', h1, h2, ea, eb, la, lb⟩
      obtain ⟨v, hv, rfl⟩ : ∃ v, ns[i]? = some v ∧ y = V.int v := by
        rw [List.getElem?_map] at hy
        obtain ⟨z, z1, z2⟩ := Option.map_eq_some_iff.mp hy
        exact ⟨z, z1, z2.symm⟩
      obtain ⟨hi, hv2⟩ := List.getElem?_eq_some_iff.mp hv
      have ed : ns.drop i = v :: ns.drop (i + 1) := by rw [List.drop_eq_getElem_cons hi, hv2]
      rw [ed, cutF, ← List.append_assoc] at ea
      rw [ed, cutB, ← List.append_assoc] at eb
      refine ⟨_, rfl, .inl ⟨_, rfl, _, rfl, .inl ⟨_, rfl, _, _, rfl, ?_⟩⟩⟩
      obtain ⟨m, hm⟩ : ∃ m, m = mi left v := ⟨_, rfl⟩
      rw [show (if v < left then v else left) = m from hm.symm]
      rw [← hm] at ea eb
      have i1000 : i < 1000 := by omega
      dsimp only [gName, tSeq]
      refine join_any (fun σ' H2 => ∃ p1', σ' = [some (.ref l), some (.int t), some (.int v), some (.ref p1'), some (.ref p2), some (.int left), some (.int m)] ∧ Same H H2 ∧ H2 p1' = some (.lst ((a ++ (if 0 < m then [m] else [])).map V.int)) ∧ H2 p2 = some (.lst (b.map V.int))) ?r1 (fun go => ?_)
      rotate_left
      · refine ⟨_, rfl, _, rfl, _, _, rfl, rfl, _, rfl, ?_⟩
        by_cases c : 0 < m
        · refine iteT' (decide_eq_true c) ⟨_, rfl, (by show 1 ≤ sizeLine; decide), fun q3 g3 => ⟨p1, q3, _, _, rfl, rfl, same_new g3 _ _ h1, upd_same, ?_, fun q4 g4 => go _ _ ⟨q4, rfl, (s'.trans (same_new g3)).trans (same_new g4), ?_, same_new g4 _ _ (same_new g3 _ _ h2)⟩⟩⟩
          · rw [List.length_map]; exact Nat.le_trans (show a.length + 1 ≤ 5000 by omega) big
          · rw [upd_same, if_pos c, List.map_append]; rfl
        · refine iteF' (decide_eq_false c) ⟨(by show 0 ≤ sizeLine; decide), fun q3 g3 => ⟨p1, q3, _, _, rfl, rfl, same_new g3 _ _ h1, upd_same, ?_, fun q4 g4 => go _ _ ⟨q4, rfl, (s'.trans (same_new g3)).trans (same_new g4), ?_, same_new g4 _ _ (same_new g3 _ _ h2)⟩⟩⟩
          · rw [List.length_map]; exact Nat.le_trans (show a.length + 0 ≤ 5000 by omega) big
          · rw [upd_same, if_neg c, List.append_nil, List.append_nil]
      case r1 =>
      rintro σ2 H2 ⟨p1', rfl, s2, h12, h22⟩
      dsimp only [tSeq]
      refine join_any (fun σ' H3 => ∃ p2', σ' = [some (.ref l), some (.int t), some (.int v), some (.ref p1'), some (.ref p2'), some (.int left), some (.int m)] ∧ Same H H3 ∧ H3 p1' = some (.lst ((a ++ (if 0 < m then [m] else [])).map V.int)) ∧ H3 p2' = some (.lst ((b ++ (if m < v then [v - m] else [])).map V.int))) ?r2 (fun go => ?_)
      rotate_left
      · refine ⟨_, rfl, _, rfl, _, rfl, _, _, rfl, rfl, _, rfl, ?_⟩
        by_cases c : m < v
        · refine iteT' (decide_eq_true c) ⟨_, rfl, _, rfl, _, _, rfl, rfl, (by show 1 ≤ sizeLine; decide), fun q3 g3 => ⟨p2, q3, _, _, rfl, rfl, same_new g3 _ _ h22, upd_same, ?_, fun q4 g4 => go _ _ ⟨q4, rfl, (s2.trans (same_new g3)).trans (same_new g4), same_new g4 _ _ (same_new g3 _ _ h12), ?_⟩⟩⟩
          · rw [List.length_map]; exact Nat.le_trans (show b.length + 1 ≤ 5000 by omega) big
          · rw [upd_same, if_pos c, List.map_append]; rfl
        · refine iteF' (decide_eq_false c) ⟨(by show 0 ≤ sizeLine; decide), fun q3 g3 => ⟨p2, q3, _, _, rfl, rfl, same_new g3 _ _ h22, upd_same, ?_, fun q4 g4 => go _ _ ⟨q4, rfl, (s2.trans (same_new g3)).trans (same_new g4), same_new g4 _ _ (same_new g3 _ _ h12), ?_⟩⟩⟩
          · rw [List.length_map]; exact Nat.le_trans (show b.length + 0 ≤ 5000 by omega) big
          · rw [upd_same, if_neg c, List.append_nil, List.append_nil]
      case r2 =>
      rintro σ3 H3 ⟨p2', rfl, s3, h13, h23⟩
      refine ⟨_, rfl, _, rfl, _, _, rfl, rfl, _, _, p1', p2', left - m, _, _, rfl, s3, h13, h23, ea, eb, ?_, ?_⟩
      · rw [List.length_append]
        split
        · show _ + 1 ≤ _; omega
        · show _ + 0 ≤ _; omega
      · rw [List.length_append]
        split
        · show _ + 1 ≤ _; omega
        · show _ + 0 ≤ _; omega
    · rintro σ' H' ⟨x2, x6, p1, p2, left, a, b, rfl, s', h1, h2, ea, eb, la, lb⟩
      rw [List.length_map, List.drop_of_length_le (Nat.le_refl _)] at ea eb
      have ea' : a = cutF t ns := by rw [← ea]; exact (List.append_nil a).symm
      have eb' : b = cutB t ns := by rw [← eb]; exact (List.append_nil b).symm
      subst ea' eb'
      refine ⟨_, rfl, p1, _, rfl, .inl ⟨SqL.of h1, fun t1 g1 => ?_⟩⟩
      have s3 := same_new (o := HO.tup ((cutF t ns).map V.int)) g1
      refine ⟨_, rfl, p2, _, rfl, .inl ⟨SqL.of (s3 _ _ h2), fun t2 g2 => ?_⟩⟩
      have s4 := same_new (o := HO.tup ((cutB t ns).map V.int)) g2
      refine ⟨(by show 2 ≤ sizeLine; decide), fun q fq => ?_⟩
      have s5 := same_new (o := HO.lst [V.ref t1, V.ref t2]) fq
      exact k q t1 t2 _ (((s'.trans s3).trans s4).trans s5) upd_same (s5 _ _ (s4 _ _ upd_same)) (s5 _ _ upd_same)
end
end Lw
namespace Lw
open PySem PySem.Spec PyProof.Rows L2
open SX PySem.NumText TL LamX ClX StX
abbrev sLjr : Stmt := top 34
structure OpK2 (K : PySem.W.Frag) (CC : Addr) : Prop extends OpK K CC where
  mul : ∃ g : Addr, PySem.W.findIn K (.ref CC) "__mul__" = some (some (.ref g))
  radd : PySem.W.findIn K (.ref CC) "__radd__" = some none
  s1 : PySem.W.subIn K (.ref CC) (.type "int") = some false
  s2 : PySem.W.subIn K (.ref CC) (.type "bool") = some false
  na : NoInplace K CC .Add
  nm : NoInplace K CC .Mult
structure OpM (P : Program) (w : World) (K : PySem.W.Frag) (mg : Str → Option Value) (base : Heap) (CC DM DS DC fI : Addr) (mc : Value) : Prop extends OpK2 K CC where
  CM : ChM2 P w K mg base CC DM DS fI mc
  MA : MetX P w K mg base 8 CC "__add__" (spAd K CC DM DC)
  MM : MetX P w K mg base 8 CC "__mul__" (spMu K CC DM DC)
  MR : MetX P w K mg base 9 CC "__rmul__" (spRm K CC DM DC)
  MI : MetX P w K mg base 8 CC "__invert__" (spIv CC DM)
  ME : MetX P w K mg base 2 CC "__eq__" (spCeq CC)
  ML : MetX P w K mg base 1 CC "__len__" (spCln CC)
/-- the static method of -/
structure StO (P : Program) (w : World) (K : PySem.W.Frag) (mg : Str → Option Value) (base : Heap) (CC DM DS DC : Addr) : Prop where
  ex : ∃ (p g : Addr) (fd : FuncData), SMet K CC "of" p g ∧ FnOk P w K mg base (L2.CX P w) 7 g fd ["sizes"] (spCof2 K CC DM DS DC) ∧ Binds K fd ["sizes"] []
theorem cast_bl {Q : VK} {b : Bool} {H : Hp} (e : b = true) (h : Q (.bl true) H) : Q (.bl b) H := by rw [e]; exact h
/-! ### lists of tuples of ints, compared -/
def tI (ns : List Int) : PyData := .tuple (ns.map PyData.int)
def tL (ls : List (List Int)) : PyData := .list (ls.map tI)
theorem shaped_tL (ls : List (List Int)) : SeqAt.shaped (tL ls) = true := by
  have h1 : ∀ ls : List (List Int), PyData.canLayAll0 (ls.map tI) = true := fun ls => by
    induction ls with
    | nil => rfl
    | cons a r ih => show (PyData.canLay0 (tI a) && PyData.canLayAll0 (r.map tI)) = true; rw [ih, show PyData.canLay0 (tI a) = true from lays_ints a]; rfl
  have h2 : ∀ ls : List (List Int), PyData.depthAll (ls.map tI) ≤ 1 := fun ls => by
    induction ls with
    | nil => exact Nat.zero_le _
    | cons a r ih =>
      have : PyData.depth (tI a) = 1 := by
        show PyData.depthAll (a.map PyData.int) + 1 = 1
        rw [depths_ints]
      show max (PyData.depth (tI a)) (PyData.depthAll (r.map tI)) ≤ 1; omega
  unfold SeqAt.shaped
  rw [show PyData.canLay0 (tL ls) = true from h1 ls]
  have h3 : PyData.depth (tL ls) ≤ 64 := by
    show PyData.depthAll (ls.map tI) + 1 ≤ 64
    have := h2 ls
    omega
  rw [decide_eq_true h3]; rfl
theorem eqv_tI (a b : List Int) : PyData.eqv (tI a) (tI b) = decide (a = b) := eqvs_ints a b
theorem eqv_tL (ls : List (List Int)) : PyData.eqv (tL ls) (tL ls) = true := by
  show PyData.eqvAll (ls.map tI) (ls.map tI) = true
  induction ls with
  | nil => rfl
  | cons a r ih => show (PyData.eqv (tI a) (tI a) && PyData.eqvAll (r.map tI) (r.map tI)) = true; rw [ih, eqv_tI, decide_eq_true rfl]; rfl
inductive TsAt (H : Hp) : List V → List (List Int) → Prop where
  | nil : TsAt H [] []
  | cons {a : Addr} {ns : List Int} {vs : List V} {ls : List (List Int)} (h : H a = some (.tup (ns.map V.int))) (r : TsAt H vs ls) : TsAt H (.ref a :: vs) (ns :: ls)
theorem TsAt.all {K : PySem.W.Frag} {H : Hp} : ∀ {vs : List V} {ls : List (List Int)}, TsAt H vs ls → DpAll K H vs (ls.map tI)
  | _, _, .nil => .nil
  | _, _, .cons h r => .cons (.tup (SqT.of h) (dp_ints _)) r.all
theorem TsAt.same {H H' : Hp} (s : Same H H') : ∀ {vs : List V} {ls : List (List Int)}, TsAt H vs ls → TsAt H' vs ls
  | _, _, .nil => .nil
  | _, _, .cons h r => .cons (s _ _ h) (r.same s)
theorem dp_tL {K : PySem.W.Frag} {H : Hp} {l : Addr} {vs : List V} {ls : List (List Int)} (h : H l = some (.lst vs)) (t : TsAt H vs ls) : Dp K H (.ref l) (tL ls) := .lst (SqL.of h) t.all
/-! ### the operators, by what they make -/
section
variable {K : PySem.W.Frag} {CC DM DC : Addr} {H : Hp} {Q : VK} {E : XK}
theorem few {ns : List Int} (l : ns.length ≤ 5000) (h : ∀ c H', Same H H' → H c = none → ChA CC H' c ns → Q (.ref c) H') : OutC CC DM ns H Q E := ⟨fun _ => h, fun z => absurd z (by omega)⟩
theorem ad_by {a b : Addr} {ns ms : List Int} (ha : ChA CC H a ns) (hb : ChA CC H b ms) (sn : SzB ns) (sm : SzB ms) (l : ns.length + ms.length ≤ 5000) (h : ∀ c H', Same H H' → H c = none → ChA CC H' c (ns ++ ms) → Q (.ref c) H') : rOwn CC (spAd K CC DM DC) E (.ref a) (.ref b) H Q := by
  obtain ⟨dx, p, e, r, hi, _⟩ := id ha
  obtain ⟨dy, p2, e2, r2, hj, _⟩ := id hb
  exact ⟨a, dx, _, b, dy, _, rfl, rfl, hi, hj, a, ns, _, rfl, ha, sn, by omega, .inr ⟨b, ms, rfl, hb, sm, by omega, few (by rw [List.length_append]; exact l) h⟩⟩
theorem iv_by {a : Addr} {ns : List Int} (ha : ChA CC H a ns) (sn : SzB ns) (l : ns.length ≤ 5000) (h : ∀ c H', Same H H' → H c = none → ChA CC H' c ns.reverse → Q (.ref c) H') : rSignX CC (spIv CC DM) E (.ref a) H Q := by
  obtain ⟨dx, p, e, r, hi, _⟩ := id ha
  exact ⟨a, dx, _, rfl, hi, a, ns, rfl, ha, sn, l, few (by rw [List.length_reverse]; exact l) h⟩
theorem mu_sp {a : Addr} {ns : List Int} {k : Int} (ha : ChA CC H a ns) (sn : SzB ns) (l : ns.length ≤ 5000) (k0 : 0 ≤ k) (kb : k.natAbs ≤ 10 ^ 31) (h : OutC CC DM (repL ns k) H Q E) : spMu K CC DM DC [.ref a, .int k] H Q E :=
  ⟨a, ns, _, rfl, ha, sn, l, .int k, fun z => absurd (show isN0 (.int k) = true from decide_eq_true k0) (by rw [z]; exact Bool.false_ne_true), fun k' e _ => (by cases e; exact ⟨kb, h⟩)⟩
theorem mu_by {a : Addr} {ns : List Int} {k : Int} (ha : ChA CC H a ns) (sn : SzB ns) (l : ns.length ≤ 5000) (k0 : 0 ≤ k) (kb : k.natAbs ≤ 10 ^ 31) (h : OutC CC DM (repL ns k) H Q E) : rLeft K CC (spMu K CC DM DC) E (.ref a) (.int k) H Q := by
  obtain ⟨dx, p, e, r, hi, _⟩ := id ha
  exact ⟨a, dx, _, "int", rfl, hi, .int k, mu_sp ha sn l k0 kb h⟩
theorem rm_by {a : Addr} {ns : List Int} {k : Int} (ha : ChA CC H a ns) (sn : SzB ns) (l : ns.length ≤ 5000) (k0 : 0 ≤ k) (kb : k.natAbs ≤ 10 ^ 31) (h : OutC CC DM (repL ns k) H Q E) : rRght K CC (spRm K CC DM DC) E (.int k) (.ref a) H Q := by
  obtain ⟨dx, p, e, r, hi, _⟩ := id ha
  exact ⟨a, dx, _, "int", rfl, hi, .int k, ⟨a, k, rfl⟩, mu_sp ha sn l k0 kb h⟩
theorem rep_ok {ns : List Int} {k : Int} (h : SzB ns) : SzB (repL ns k) := fun v hv => by
  obtain ⟨l, hl, hv⟩ := List.mem_flatten.mp hv
  rw [List.eq_of_mem_replicate hl] at hv
  exact h v hv
end
def spJr : Sp := fun vs H Q _ => ∃ (p pl : Addr) (n : Nat) (l1 l2 : Addr) (ns ms : List Int), vs = [.ref p, .ref l1, .ref l2] ∧ Pen H p pl n ∧ n ≤ 100000 ∧ H l1 = some (.lst (ns.map V.int)) ∧ H l2 = some (.lst (ms.map V.int)) ∧ l1 ≠ p ∧ l2 ≠ p ∧ SzB ns ∧ SzB ms ∧ ns.length ≤ 10 ∧ ms.length ≤ 10 ∧
  ∀ H', Pen H' p pl (n + 40) → Kp p H H' → Q (.bl true) H'
section
variable {P : Program} {w : World} {K : PySem.W.Frag} {mg : Str → Option Value} {base : Heap}
theorem scLjr : FnScope ["_law_pen_here", "_law_sizes_here", "_law_others", "_law_held", "_law_one", "_law_other", "_law_many", "_law_kept"] ["_law_pen_here", "_law_sizes_here", "_law_others"] (C8.fnScope sLjr) := C8.fnScope_by (by decide +kernel)
theorem cal_ljr {f CC DS DC DM fI : Addr} {mc : Value} {fd : FuncData} (F : C8.Def K mg "_law_joined_right" sLjr f fd) (b : Binds K fd ["_law_pen_here", "_law_sizes_here", "_law_others"] []) (T : TxtM mg) (O : OpM P w K mg base CC DM DS DC fI mc) (XO : StO P w K mg base CC DM DS DC)
    (DP : C8.Cal P w K mg base 2 "_law_pick" (spPick K) []) : C8.Cal P w K mg base 15 "_law_joined_right" spJr [] := by
  have CM := O.CM
  have ME := O.ME
  obtain ⟨pO, gO, fdO, SO, FO, bO⟩ := XO.ex
  refine C8.cal0 F b .nil scLjr (fun vs H Q E h => ?_) (fun cdv A outer st H vs Q E hr h => ?_)
  · obtain ⟨p, pl, n, l1, l2, ns, ms, rfl, _⟩ := h
    rfl
  · obtain ⟨p, pl, n, l1, l2, ns, ms, rfl, hp, hn, h1, h2, p1, p2, sn, sm, ln, lm, k⟩ := h
    refine ⟨_, (pss_cons (ps_par3 (i := 4) (j := 5) (l := 6) rfl scLjr.nd rfl rfl rfl (by decide) (by decide) (by decide) rfl rfl rfl (pa_cons (pe_static (E := C8.E0) (pe_glob (v := .ref CC) (by rfl) CM.Z.hm rfl) SO FO (hr.mono (by decide)) bO .nil (passes_call takes0 (fun _ _ _ _ z => z)) (pa_cons (pv 1) pa_nil)) (pa_cons (pe_static (E := C8.E0) (pe_glob (v := .ref CC) (by rfl) CM.Z.hm rfl) SO FO (hr.mono (by decide)) bO .nil (passes_call takes0 (fun _ _ _ _ z => z)) (pa_cons (pv 2) pa_nil)) (pa_cons (C8.pe_c DP hr (by decide) (by rfl) (pa_cons (pv 0) (pa_cons (pe_lst (pa_cons pe_int (pa_cons pe_int (pa_cons pe_int (pa_cons pe_int (pa_cons pe_int pa_nil)))))) pa_nil))) pa_nil))) (by rfl))
  (pss_cons (ps_par (i := 3) (j := 7) rfl scLjr.nd rfl rfl (by decide) rfl rfl (pa_cons (pv 4) (pa_cons (pv 4) pa_nil)) (by rfl))
  (pss_cons (ps_aug (i := 3) scLjr.nd rfl (Or.inl rfl) (pv 5) (iop_of (op := .Add) (half_own (nm := "add") (E := C8.E0) O.MA (passes_call takes0 (fun _ _ _ _ z => z)) O.first hr (by decide)) O.na rfl))
  (pss_cons (ps_if (pt_cmpR (op_neD hr.units) (pe_lst (pa_cons (pe_fld (pe_op (op_of (op := .Add) (half_own (nm := "add") (E := C8.E0) O.MA (passes_call takes0 (fun _ _ _ _ z => z)) O.first hr (by decide))) (pv 4) (pv 5)) rfl) (pa_cons (pe_fld (pv 3) rfl) (pa_cons (pe_fld (pe_un (un_invX (E := C8.E0) O.MI (passes_call takes0 (fun _ _ _ _ z => z)) hr (by decide)) (pv 4)) rfl) pa_nil)))) (pe_lst (pa_cons (pe_callTy call_tuple_of (by rfl) T.n_tuple (by decide +kernel) (pa_cons (pe_op op_cat (pv 1) (pv 2)) pa_nil)) (pa_cons (pe_callTy call_tuple_of (by rfl) T.n_tuple (by decide +kernel) (pa_cons (pe_op op_cat (pv 1) (pv 2)) pa_nil)) (pa_cons (pe_callTy call_tuple_of (by rfl) T.n_tuple (by decide +kernel) (pa_cons (pe_revL (pv 1)) pa_nil)) pa_nil)))) (nomark _)) (pss_one (ps_ret pe_bl)) pss_nil)
  (pss_cons (ps_aug (i := 3) scLjr.nd rfl (Or.inl rfl) (pv 6) (iop_of (op := .Mult) (half_lft (nm := "mul") (E := C8.E0) O.MM (passes_call takes0 (fun _ _ _ _ z => z)) O.first O.rmul (by decide) hr (by decide)) O.nm rfl))
  (pss_cons (ps_if (pt_cmpR (op_neD hr.units) (pe_lst (pa_cons (pe_fld (pe_op (op_of (op := .Mult) (half_rgt (nm := "mul") (E := C8.E0) O.MR (passes_call takes0 (fun _ _ _ _ z => z)) O.first O.mul (by decide) nn_mul O.s1 O.s2 hr (by decide))) (pv 6) (pv 4)) rfl) (pa_cons (pe_fld (pe_op (op_of (op := .Mult) (half_lft (nm := "mul") (E := C8.E0) O.MM (passes_call takes0 (fun _ _ _ _ z => z)) O.first O.rmul (by decide) hr (by decide))) (pv 4) (pv 6)) rfl) (pa_cons (pe_fld (pv 3) rfl) pa_nil)))) (pe_op op_cat (pe_op op_rep (pe_lst (pa_cons (pe_callTy call_tuple_of (by rfl) T.n_tuple (by decide +kernel) (pa_cons (pe_op op_rep (pv 1) (pv 6)) pa_nil)) pa_nil)) pe_int) (pe_lst (pa_cons (pe_callTy call_tuple_of (by rfl) T.n_tuple (by decide +kernel) (pa_cons (pe_op op_rep (pe_op op_cat (pv 1) (pv 2)) (pv 6)) pa_nil)) pa_nil))) (nomark _)) (pss_one (ps_ret pe_bl)) pss_nil)
  (pss_one (ps_ret (pe_and (pe_cmpR (op_eqD hr.units) (pe_fld (pv 7) rfl) (pe_callTy call_tuple_of (by rfl) T.n_tuple (by decide +kernel) (pa_cons (pv 1) pa_nil)) (nomark _)) (pe_and (pe_cmpR (op_eqD hr.units) (pe_fld (pv 5) rfl) (pe_callTy call_tuple_of (by rfl) T.n_tuple (by decide +kernel) (pa_cons (pv 2) pa_nil)) (nomark _)) (pe_and (pe_cmpR (op_eqR (E := C8.E0) ME (passes_call takes0 (fun _ _ _ _ z => z)) hr (by decide)) (pe_un (un_invX (E := C8.E0) O.MI (passes_call takes0 (fun _ _ _ _ z => z)) hr (by decide)) (pe_un (un_invX (E := C8.E0) O.MI (passes_call takes0 (fun _ _ _ _ z => z)) hr (by decide)) (pv 4))) (pv 4) (nomark _)) (pe_one (pe_cmpR (op_eqR (E := C8.E0) ME (passes_call takes0 (fun _ _ _ _ z => z)) hr (by decide)) (pe_op (op_of (op := .Add) (half_own (nm := "add") (E := C8.E0) O.MA (passes_call takes0 (fun _ _ _ _ z => z)) O.first hr (by decide))) (pv 4) (pe_makeR0 (E := C8.E0) CM.M CM.F (hr.mono (by decide)) (by rfl) CM.Z.hm (passes_call takes0 (fun _ _ _ _ z => z)))) (pv 4) (nomark _)))))))))))))), ?_⟩
    have Z := CM.Z
    refine ⟨rfl, _, rfl, of_lst h1 sn (by omega) fun a H1 s1 fa ha => ⟨rfl, _, rfl, of_lst (s1 _ _ h2) sm (by omega) fun b H2 s2 fb hb => ⟨_, rfl, (by show 5 ≤ sizeLine; decide), fun q fq => ?_⟩⟩⟩
    have s3 := same_new (o := HO.lst [V.int 0, V.int 1, V.int 2, V.int 3, V.int 7]) fq
    have s13 := (s1.trans s2).trans s3
    have hp3 := hp.keep s13
    refine ⟨p, pl, q, n, _, rfl, hp3, by omega, SqL.of upd_same, (hp.keep (s1.trans s2)).ne_new fq, (by show 0 < 5; decide), (by show 5 < 1000000; decide), fun j v H3 hj hp4 k3 => ?_⟩
    obtain ⟨m, rfl, m0, m7⟩ : ∃ m, v = V.int m ∧ 0 ≤ m ∧ m ≤ 7 := by
      have hv := List.mem_of_getElem? hj
      simp only [List.mem_cons, List.not_mem_nil, or_false] at hv
      rcases hv with rfl | rfl | rfl | rfl | rfl
      all_goals exact ⟨_, rfl, by omega, by omega⟩
    have ha3 := ((ha.same s2).same s3).kp hp3 k3
    have hb3 := (hb.same s3).kp hp3 k3
    have h13 := k3 _ _ p1 (s13 _ _ h1)
    have h23 := k3 _ _ p2 (s13 _ _ h2)
    have kk := (Kp.of (p := p) s13).trans k3
    clear hj ha hb s1 s2 s3 s13 hp3 k3 fa fb fq h1 h2
    refine ⟨_, _, _, rfl, ?_⟩
    dsimp only [gName, tSeq]
    refine ⟨_, rfl, _, rfl, _, _, rfl, ?_⟩
    dsimp only [gName, tSeq]
    obtain ⟨dxa, pza, _, _, hia, _, _⟩ := id ha3
    refine ⟨_, rfl, _, rfl, .own hia, ad_by ha3 hb3 sn sm (by omega) fun c H4 s4 fc hc => ?_⟩
    dsimp only [tSeq]
    refine ⟨_, rfl, _, rfl, ad_by (ha3.same s4) (hb3.same s4) sn sm (by omega) fun d H5 s5 fd hd => ?_⟩
    obtain ⟨dxd, pd, _, _, hid, hpd, _⟩ := id hd
    obtain ⟨dxc, pc, _, _, hic, hpc, _⟩ := id (hc.same s5)
    refine ⟨d, CC, dxd, _, _, rfl, hid, Z.cl, Z.n1, chF_sizes _ _ _ _, _, rfl, c, CC, dxc, _, _, rfl, hic, Z.cl, Z.n1, chF_sizes _ _ _ _, _, rfl, iv_by (a := a) ((ha3.same s4).same s5) sn (by omega) fun e H6 s6 fe he => ?_⟩
    obtain ⟨dxe, pe, _, _, hie, hpe, _⟩ := id he
    refine ⟨e, CC, dxe, _, _, rfl, hie, Z.cl, Z.n1, chF_sizes _ _ _ _, (by show 3 ≤ sizeLine; decide), fun q1 fq1 => ?_⟩
    have sq1 := same_new (o := HO.lst [V.ref pd, V.ref pc, V.ref pe]) fq1
    have x1 : TsAt (upd H6 q1 (.lst [V.ref pd, V.ref pc, V.ref pe])) [V.ref pd, V.ref pc, V.ref pe] [ns ++ ms, ns ++ ms, ns.reverse] := .cons (sq1 _ _ (s6 _ _ hpd)) (.cons (sq1 _ _ (s6 _ _ hpc)) (.cons (sq1 _ _ hpe) .nil))
    have xq1 : upd H6 q1 (.lst [V.ref pd, V.ref pc, V.ref pe]) q1 = some (.lst [V.ref pd, V.ref pc, V.ref pe]) := upd_same
    have sA := ((s4.trans s5).trans s6).trans sq1
    generalize upd H6 q1 _ = H7 at sq1 x1 xq1 sA ⊢
    have nl : ∀ {xs ys : List Int}, xs.length ≤ 2500 → ys.length ≤ 2500 → (xs.map V.int).length + (ys.map V.int).length ≤ sizeLine := fun {xs ys} a b => by
      rw [List.length_map, List.length_map]
      exact Nat.le_trans (show xs.length + ys.length ≤ 5000 by omega) (by decide)
    refine ⟨_, rfl, _, rfl, l1, l2, _, _, rfl, rfl, sA _ _ h13, sA _ _ h23, nl (by omega) (by omega), fun q2 fq2 => ⟨q2, _, rfl, .inl ⟨SqL.of upd_same, fun t1 ft1 => ?_⟩⟩⟩
    have sq2 := (same_new (o := HO.lst (ns.map V.int ++ ms.map V.int)) fq2).trans (same_new (o := HO.tup (ns.map V.int ++ ms.map V.int)) ft1)
    have xt1 : upd (upd H7 q2 (HO.lst (ns.map V.int ++ ms.map V.int))) t1 (HO.tup (ns.map V.int ++ ms.map V.int)) t1 = some (.tup ((ns ++ ms).map V.int)) := by rw [upd_same, List.map_append]
    have sB := sA.trans sq2
    generalize upd (upd H7 q2 _) t1 _ = H8 at sq2 xt1 sB ⊢
    refine ⟨_, rfl, _, rfl, l1, l2, _, _, rfl, rfl, sB _ _ h13, sB _ _ h23, nl (by omega) (by omega), fun q3 fq3 => ⟨q3, _, rfl, .inl ⟨SqL.of upd_same, fun t2 ft2 => ?_⟩⟩⟩
    have sq3 := (same_new (o := HO.lst (ns.map V.int ++ ms.map V.int)) fq3).trans (same_new (o := HO.tup (ns.map V.int ++ ms.map V.int)) ft2)
    have xt2 : upd (upd H8 q3 (HO.lst (ns.map V.int ++ ms.map V.int))) t2 (HO.tup (ns.map V.int ++ ms.map V.int)) t2 = some (.tup ((ns ++ ms).map V.int)) := by rw [upd_same, List.map_append]
    have sC := sB.trans sq3
    generalize upd (upd H8 q3 _) t2 _ = H9 at sq3 xt2 sC ⊢
    refine ⟨_, rfl, l1, _, rfl, SqL.of (sC _ _ h13), fun q4 fq4 => ⟨q4, _, rfl, .inl ⟨SqL.of upd_same, fun t3 ft3 => ⟨(by show 3 ≤ sizeLine; decide), fun q5 fq5 => ?_⟩⟩⟩⟩
    have sq4 := (same_new (o := HO.lst (ns.map V.int).reverse) fq4).trans (same_new (o := HO.tup (ns.map V.int).reverse) ft3)
    have sq5 := same_new (o := HO.lst [V.ref t1, V.ref t2, V.ref t3]) fq5
    have xt3 : upd (upd (upd H9 q4 (HO.lst (ns.map V.int).reverse)) t3 (HO.tup (ns.map V.int).reverse)) q5 (HO.lst [V.ref t1, V.ref t2, V.ref t3]) t3 = some (.tup (ns.reverse.map V.int)) := by
      have := sq5 _ _ (upd_same (H := upd H9 q4 (HO.lst (ns.map V.int).reverse)) (a := t3) (o := HO.tup (ns.map V.int).reverse))
      rw [this, List.map_reverse]
    have sD := sq4.trans sq5
    have x2 := TsAt.cons (sD _ _ (sq3 _ _ xt1)) (.cons (sD _ _ xt2) (.cons xt3 .nil))
    have x1' := x1.same (sq2.trans (sq3.trans sD))
    have sE := sC.trans sD
    refine ⟨_, _, dp_tL ((sq2.trans (sq3.trans sD)) _ _ xq1) x1', dp_tL upd_same x2, shaped_tL _, shaped_tL _, _, rfl, iteF' (by rw [eqv_tL]; rfl) ?_⟩
    have hc10 := hc.same (s5.trans (s6.trans (sq1.trans (sq2.trans (sq3.trans sD)))))
    generalize upd (upd (upd H9 q4 _) t3 _) q5 _ = H10 at sE hc10 ⊢
    clear x1 x2 x1' xt1 xt2 xt3 xq1 sq1 sq2 sq3 sq4 sq5 sA sB sC sD fq1 fq2 fq3 fq4 fq5 ft1 ft2 ft3
    dsimp only [tNext, tSeq]
    have ha10 := ha3.same sE
    have hb10 := hb3.same sE
    obtain ⟨dxc2, pc2, _, _, hic2, _, _⟩ := id hc10
    have mb : m.natAbs ≤ 10 ^ 31 := Nat.le_trans (show m.natAbs ≤ 7 by omega) (by decide)
    have lr : ∀ {xs : List Int}, xs.length ≤ 20 → (repL xs m).length ≤ 5000 := fun {xs} h => by
      rw [rep_len]
      have : m.toNat * xs.length ≤ 7 * 20 := Nat.mul_le_mul (by omega) h
      omega
    have snm := sn.app sm
    have lnm : (ns ++ ms).length ≤ 20 := by rw [List.length_append]; omega
    refine ⟨_, rfl, _, rfl, .own hic2, mu_by hc10 snm (by omega) m0 mb (few (lr lnm) fun g H11 s11 fg hg => ?_)⟩
    dsimp only [tSeq]
    refine ⟨_, rfl, _, rfl, rm_by (ha10.same s11) sn (by omega) m0 mb (few (lr (by omega)) fun d2 H12 s12 fd2 hd2 => ?_)⟩
    obtain ⟨dx1, p1', _, _, hi1, hp1', _⟩ := id hd2
    refine ⟨d2, CC, dx1, _, _, rfl, hi1, Z.cl, Z.n1, chF_sizes _ _ _ _, _, rfl, _, rfl, mu_by ((ha10.same s11).same s12) sn (by omega) m0 mb (few (lr (by omega)) fun d3 H13 s13 fd3 hd3 => ?_)⟩
    obtain ⟨dx2, p2', _, _, hi2, hp2', _⟩ := id hd3
    obtain ⟨dx3, p3', _, _, hi3, hp3', _⟩ := id ((hg.same s12).same s13)
    refine ⟨d3, CC, dx2, _, _, rfl, hi2, Z.cl, Z.n1, chF_sizes _ _ _ _, _, rfl, g, CC, dx3, _, _, rfl, hi3, Z.cl, Z.n1, chF_sizes _ _ _ _, (by show 3 ≤ sizeLine; decide), fun q1 fq1 => ?_⟩
    have sq1 := same_new (o := HO.lst [V.ref p1', V.ref p2', V.ref p3']) fq1
    have x1 : TsAt (upd H13 q1 (.lst [V.ref p1', V.ref p2', V.ref p3'])) [V.ref p1', V.ref p2', V.ref p3'] [repL ns m, repL ns m, repL (ns ++ ms) m] := .cons (sq1 _ _ (s13 _ _ hp1')) (.cons (sq1 _ _ hp2') (.cons (sq1 _ _ hp3') .nil))
    have xq1 : upd H13 q1 (.lst [V.ref p1', V.ref p2', V.ref p3']) q1 = some (.lst [V.ref p1', V.ref p2', V.ref p3']) := upd_same
    have sA := ((s11.trans s12).trans s13).trans sq1
    generalize upd H13 q1 _ = H14 at sq1 x1 xq1 sA ⊢
    have sA3 := sE.trans sA
    have rl : ∀ {xs : List V}, xs.length ≤ 20 → xs.length * m.toNat ≤ sizeLine := fun {xs} h => by
      have : xs.length * m.toNat ≤ 20 * 7 := Nat.mul_le_mul h (by omega)
      exact Nat.le_trans (show _ ≤ 140 by omega) (by decide)
    refine ⟨_, rfl, _, rfl, l1, m, _, rfl, rfl, sA3 _ _ h13, by omega, by omega, rl (by rw [List.length_map]; omega), fun q2 fq2 => ⟨q2, _, rfl, .inl ⟨SqL.of upd_same, fun t1 ft1 => ⟨(by show 1 ≤ sizeLine; decide), fun q3 fq3 => ⟨q3, 2, _, rfl, rfl, upd_same, by decide, by decide, (by show 1 * 2 ≤ sizeLine; decide), fun q4 fq4 => ?_⟩⟩⟩⟩⟩
    have eR : (List.replicate m.toNat (ns.map V.int)).flatten = (repL ns m).map V.int := by unfold repL; rw [List.map_flatten, List.map_replicate]
    rw [eR] at ft1 fq3 fq4 ⊢
    have sq2 := (same_new (o := HO.lst ((repL ns m).map V.int)) fq2).trans (same_new (o := HO.tup ((repL ns m).map V.int)) ft1)
    have sq3 := (same_new (o := HO.lst [V.ref t1]) fq3).trans (same_new (o := HO.lst (List.replicate (Int.toNat 2) [V.ref t1]).flatten) fq4)
    have xt1 := sq3 _ _ (upd_same (H := upd H14 q2 (HO.lst ((repL ns m).map V.int))) (a := t1) (o := HO.tup ((repL ns m).map V.int)))
    have xq4 : upd (upd (upd (upd H14 q2 (HO.lst ((repL ns m).map V.int))) t1 (HO.tup ((repL ns m).map V.int))) q3 (HO.lst [V.ref t1])) q4 (HO.lst (List.replicate (Int.toNat 2) [V.ref t1]).flatten) q4 = some (.lst [V.ref t1, V.ref t1]) := upd_same
    have sB := sq2.trans sq3
    generalize upd (upd (upd (upd H14 q2 _) t1 _) q3 _) q4 _ = H15 at xt1 xq4 sB sq3 ⊢
    clear sq2 sq3
    have sB3 := sA3.trans sB
    refine ⟨_, rfl, _, rfl, l1, l2, _, _, rfl, rfl, sB3 _ _ h13, sB3 _ _ h23, nl (by omega) (by omega), fun q5 fq5 => ⟨_, rfl, q5, m, _, rfl, rfl, upd_same, by omega, by omega, rl (by rw [List.length_append, List.length_map, List.length_map]; omega), fun q6 fq6 => ⟨q6, _, rfl, .inl ⟨SqL.of upd_same, fun t2 ft2 => ⟨(by show 1 ≤ sizeLine; decide), fun q7 fq7 => ?_⟩⟩⟩⟩⟩
    have eR2 : (List.replicate m.toNat (ns.map V.int ++ ms.map V.int)).flatten = (repL (ns ++ ms) m).map V.int := by unfold repL; rw [List.map_flatten, List.map_replicate, List.map_append]
    rw [eR2] at ft2 fq7 ⊢
    have sq6 := (same_new (o := HO.lst (ns.map V.int ++ ms.map V.int)) fq5).trans ((same_new (o := HO.lst ((repL (ns ++ ms) m).map V.int)) fq6).trans (same_new (o := HO.tup ((repL (ns ++ ms) m).map V.int)) ft2))
    have sq7 := same_new (o := HO.lst [V.ref t2]) fq7
    have xt2 := sq7 _ _ (upd_same (H := upd (upd H15 q5 (HO.lst (ns.map V.int ++ ms.map V.int))) q6 (HO.lst ((repL (ns ++ ms) m).map V.int))) (a := t2) (o := HO.tup ((repL (ns ++ ms) m).map V.int)))
    have xq7 := upd_same (H := upd (upd (upd H15 q5 (HO.lst (ns.map V.int ++ ms.map V.int))) q6 (HO.lst ((repL (ns ++ ms) m).map V.int))) t2 (HO.tup ((repL (ns ++ ms) m).map V.int))) (a := q7) (o := HO.lst [V.ref t2])
    have sC := sq6.trans sq7
    generalize upd (upd (upd (upd H15 q5 _) q6 _) t2 _) q7 _ = H16 at xt2 xq7 sC sq7 ⊢
    refine ⟨q4, q7, _, _, rfl, rfl, sC _ _ xq4, xq7, (by show 2 + 1 ≤ sizeLine; decide), fun q8 fq8 => ?_⟩
    have sq8 := same_new (o := HO.lst ([V.ref t1, V.ref t1] ++ [V.ref t2])) fq8
    have x2 := TsAt.cons (sq8 _ _ (sC _ _ xt1)) (.cons (sq8 _ _ (sC _ _ xt1)) (.cons (sq8 _ _ xt2) .nil))
    have sD := (sB.trans sC).trans sq8
    refine ⟨_, _, dp_tL (sD _ _ xq1) (x1.same sD), dp_tL upd_same x2, shaped_tL _, shaped_tL _, _, rfl, iteF' (by rw [eqv_tL]; rfl) ?_⟩
    have sF := (sE.trans sA).trans sD
    generalize upd H16 q8 _ = H17 at sF ⊢
    clear x1 x2 xq1 xt1 xq4 xt2 xq7 sA sB sC sD sq1 sq7 sq8 sA3 sB3 fq1 fq2 ft1 fq3 fq4 fq5 fq6 ft2 fq7 fq8
    dsimp only [tNext, tSeq]
    have ha17 := ha3.same sF
    have hb17 := hb3.same sF
    obtain ⟨dxk, pk, _, _, hik, hpk, _⟩ := id ha17
    refine ⟨_, rfl, a, CC, dxk, _, _, rfl, hik, Z.cl, Z.n1, chF_sizes _ _ _ _, _, rfl, l1, _, rfl, .inl ⟨SqL.of (sF _ _ h13), fun t1 ft1 => ?_⟩⟩
    have st1 := same_new (o := HO.tup (ns.map V.int)) ft1
    refine ⟨tI ns, tI ns, .tup (SqT.of (st1 _ _ hpk)) (dp_ints _), .tup (SqT.of upd_same) (dp_ints _), shaped_tints _, shaped_tints _, _, rfl, iteT' (by rw [eqv_tI, decide_eq_true rfl]) ?_⟩
    have hb18 := hb17.same st1
    obtain ⟨dxo, po, _, _, hio, hpo, _⟩ := id hb18
    have s18 := sF.trans st1
    refine ⟨_, rfl, b, CC, dxo, _, _, rfl, hio, Z.cl, Z.n1, chF_sizes _ _ _ _, _, rfl, l2, _, rfl, .inl ⟨SqL.of (s18 _ _ h23), fun t2 ft2 => ?_⟩⟩
    have st2 := same_new (o := HO.tup (ms.map V.int)) ft2
    refine ⟨tI ms, tI ms, .tup (SqT.of (st2 _ _ hpo)) (dp_ints _), .tup (SqT.of upd_same) (dp_ints _), shaped_tints _, shaped_tints _, _, rfl, iteT' (by rw [eqv_tI, decide_eq_true rfl]) ?_⟩
    have ha19 := (ha17.same st1).same st2
    have s19 := s18.trans st2
    refine ⟨_, rfl, iv_by ha19 sn (by omega) fun c1 H18 s18' fc1 hc1 => ?_⟩
    refine iv_by hc1 (fun v hv => sn v (List.mem_reverse.mp hv)) (by rw [List.length_reverse]; omega) fun c2 H19 s19' fc2 hc2 => ?_
    rw [List.reverse_reverse] at hc2
    have ha20 := (ha19.same s18').same s19'
    obtain ⟨dx20, _, _, _, hi20, _⟩ := id ha20
    obtain ⟨dx21, _, _, _, hi21, _⟩ := id hc2
    refine ⟨_, rfl, c2, dx21, _, a, dx20, _, rfl, hi21, rfl, hi20, c2, a, _, _, rfl, hc2.weak, ha20.weak, _, rfl, iteT' (decide_eq_true rfl) ?_⟩
    refine ⟨_, rfl, ci_none fun c3 H20 s20 fc3 hc3 => ?_⟩
    have ha22 := ha20.same s20
    refine ad_by ha22 hc3 sn (fun v hv => by cases hv) (by show ns.length + 0 ≤ 5000; omega) fun c4 H21 s21 fc4 hc4 => ?_
    rw [List.append_nil] at hc4
    have ha23 := ha22.same s21
    obtain ⟨dx22, _, _, _, hi22, _⟩ := id ha23
    obtain ⟨dx23, _, _, _, hi23, _⟩ := id hc4
    refine ⟨_, rfl, c4, dx23, _, a, dx22, _, rfl, hi23, rfl, hi22, c4, a, _, _, rfl, hc4.weak, ha23.weak, ?_⟩
    have sZ := (((s19.trans s18').trans s19').trans s20).trans s21
    exact cast_bl (decide_eq_true rfl) (k _ ((hp4.keep sZ).more (by omega)) (kk.trans (.of sZ)))
end
end Lw
namespace Lw
open PySem PySem.Spec PyProof.Rows L2
open SX PySem.NumText TL LamX ClX StX
abbrev sLcr : Stmt := top 35
section
variable {X : Cx} {CX : CXT} {C f : Addr} {k : Nat} {fd : FuncData} {ps ks : List Str} {sp : Sp} {E : XK} {o : Expr} {kws : List Keyword} {m : Str} {pos apos : Pos} {ta : TE} {tkw : TA} {gU : List Value → List Value → List Value} {gV : List V → List V → List V} {pl : Sem Bool}
/-- o.m(k=e, ..) of an own class -/
theorem pe_methK (he : PE X o ta) (c : Cls X.K C) (hm : Meth X.K C m f) (F : FnOk X.prog X.w X.K X.mg X.base CX k f fd ps sp) (hr : Room k X.A) (hb : KBn X.K fd ps 1 ks gU gV) (hx : Passes CX X E) (hkw : PK X kws tkw)
    (hall : (backToKw pos (keywordEach kws X.env)).all (·.1.isSome) = true := by rfl) (hks : (backToKw pos (keywordEach kws X.env)).filterMap (·.1) = ks := by rfl)
    (hpl : ((backTo pos (starEach [] X.env)).any (·.1) || (backToKw pos (keywordEach kws X.env)).any (·.1.isNone)) = false := by rfl)
    (ht : eval (.Call (.Attribute o m apos) [] kws pos) X.env = (do
      let ov ← eval o X.env
      standAt apos.atName
      let (f, first) ← holding [ov] (getMethod ov m pl)
      callWith pos f first (backTo pos (starEach [] X.env)) (backToKw pos (keywordEach kws X.env))) := by rfl) :
    PE X (.Call (.Attribute o m apos) [] kws pos) (fun σ H Q => ta σ H fun x H1 => ∃ a dx fs, x = .ref a ∧ H1 a = some (.ins C dx fs) ∧ fs.lookup m = none ∧ tkw σ H1 fun zs H2 => zs.length = ks.length ∧ sp (gV [.ref a] zs) H2 Q E) := by
  refine ⟨fun pins s σ H Q I h => ?_⟩
  refine PySem.W.methodCall_KW (pl := pl) (thn (he.run pins s σ H _ I h) fun u s1 ⟨x, H1, I1, rx, a, dx, fs, ex, ea, l, q⟩ => ?_) ht
  subst ex
  obtain rfl : u = Value.ref a := rx
  refine getmeth_ok I1 ea c hm l ?_
  refine PySem.W.callWith_KW0 (first := [.ref a]) (h₀ := X.base) I.ok.mod.kin hm.kp hall ?_ hpl
  refine thn (hkw.run pos pins _ σ H1 _ I1 q) fun ws s2 ⟨zs, H2, I3, rz, l2, q2⟩ => ⟨I3.kIn, ?_⟩
  rw [hks]
  exact run_fnN (us := [.ref a]) (vs := [.ref a]) F hr hb hx I3 (.cons rfl .nil) rz rfl l2 q2
end
/-- a method, ready to be called by one keyword, too -/
structure MetK1 (P : Program) (w : World) (K : PySem.W.Frag) (mg : Str → Option Value) (base : Heap) (CC : Addr) (m a : Str) (sp : Sp) : Prop where
  ex : ∃ (g : Addr) (fd : FuncData) (gU : List Value → List Value → List Value), Meth K CC m g ∧ FnOk P w K mg base (L2.CX P w) 8 g fd ["self", a] sp ∧ Binds K fd ["self", a] [] ∧ KBn K fd ["self", a] 1 [a] gU (fun us zs => us ++ zs)
theorem sum_bd : ∀ {ns : List Int}, SzB ns → 0 ≤ ns.sum ∧ ns.sum ≤ (ns.length : Int) * 10 ^ 30
  | [], _ => ⟨Int.le_refl _, by simp⟩
  | v :: r, h => by
    obtain ⟨h1, h2⟩ := sum_bd fun v hv => h v (List.mem_cons_of_mem _ hv)
    obtain ⟨g1, g2⟩ := h v List.mem_cons_self
    rw [List.sum_cons, List.length_cons, show (((r.length + 1 : Nat)) : Int) = (r.length : Int) + 1 from rfl, Int.add_mul, Int.one_mul]
    exact ⟨by omega, by omega⟩
theorem ends_le : ∀ (ns : List Int) (d e : Int), (∀ v ∈ ns, 1 ≤ v) → e ∈ endsL d ns → e ≤ d + ns.sum
  | [], _, _, _, he => by cases he
  | s :: r, d, e, h, he => by
    have hr : ∀ v ∈ r, 1 ≤ v := fun v hv => h v (List.mem_cons_of_mem _ hv)
    have h0 : 0 ≤ r.sum := by
      clear he h
      induction r with
      | nil => exact Int.le_refl _
      | cons a t ih =>
        rw [List.sum_cons]
        have := hr a List.mem_cons_self
        have := ih fun v hv => hr v (List.mem_cons_of_mem _ hv)
        omega
    rw [endsL] at he
    rw [List.sum_cons]
    rcases List.mem_cons.mp he with rfl | he
    · omega
    · have := ends_le r (d + s) e hr he
      omega
theorem chF_none {m : Str} (p : Addr) (t : Int) (e r : Addr) (h1 : ("rests" : Str) ≠ m) (h2 : ("ends" : Str) ≠ m) (h3 : ("total" : Str) ≠ m) (h4 : ("sizes" : Str) ≠ m) : (chF p t e r).lookup m = none := by
  unfold chF
  rw [lookup_putF, if_neg (fun z => h1 z.symm), lookup_putF, if_neg (fun z => h2 z.symm), lookup_putF, if_neg (fun z => h3 z.symm), lookup_putF, if_neg (fun z => h4 z.symm)]
  rfl
section
variable {K : PySem.W.Frag} {CC DC : Addr} {H : Hp} {Q : VK} {E : XK}
theorem inB_yes {v lo hi : Int} (h1 : lo ≤ v) (h2 : v ≤ hi) : inB (.int v) lo hi = true := by
  show (decide (lo ≤ v) && decide (v ≤ hi)) = true
  rw [decide_eq_true h1, decide_eq_true h2]; rfl
theorem cut_by {a : Addr} {ns : List Int} {t : Int} (ha : ChA CC H a ns) (sn : SzB ns) (l : ns.length ≤ 5000) (t0 : 0 ≤ t) (t1 : t ≤ ns.sum) (h : ∀ c1 c2 q H', Same H H' → H q = none → ChA CC H' c1 (cutF t ns) → ChA CC H' c2 (cutB t ns) → H' q = some (.tup [.ref c1, .ref c2]) → Q (.ref q) H') : spCut K CC DC [.ref a, .int t] H Q E :=
  ⟨a, ns, _, rfl, ha, sn, l, .int t, fun z => absurd (inB_yes t0 t1) (by rw [z]; exact Bool.false_ne_true), fun t' e _ _ => (by cases e; exact h)⟩
theorem pl_by {a : Addr} {ns : List Int} {t : Int} (ha : ChA CC H a ns) (l : ns.length ≤ 5000) (t0 : 0 ≤ t) (t1 : t ≤ ns.sum - 1) (h : ∀ H', Same H H' → Q (.int (plc t ns : Int)) H') : spPl K CC DC [.ref a, .int t] H Q E :=
  ⟨a, ns, _, rfl, ha, l, .int t, fun z => absurd (inB_yes t0 t1) (by rw [z]; exact Bool.false_ne_true), fun t' e _ _ => (by cases e; exact h)⟩
end
theorem plc_at : ∀ (ns : List Int) (d t : Int), (∀ v ∈ ns, 1 ≤ v) → d ≤ t → t < d + ns.sum → ∃ E s : Int, (endsL d ns)[((endsL d ns).filter fun e => decide (e ≤ t)).length]? = some E ∧ ns[((endsL d ns).filter fun e => decide (e ≤ t)).length]? = some s ∧ E - s ≤ t ∧ t < E
  | [], d, t, _, h1, h2 => by rw [List.sum_nil] at h2; omega
  | s :: r, d, t, h, h1, h2 => by
    have hr : ∀ v ∈ r, 1 ≤ v := fun v hv => h v (List.mem_cons_of_mem _ hv)
    rw [List.sum_cons] at h2
    rw [endsL, List.filter_cons]
    by_cases c : d + s ≤ t
    · obtain ⟨E, s', g1, g2, g3, g4⟩ := plc_at r (d + s) t hr c (by omega)
      rw [if_pos (decide_eq_true c), List.length_cons]
      exact ⟨E, s', g1, g2, g3, g4⟩
    · have e0 : (endsL (d + s) r).filter (fun e => decide (e ≤ t)) = [] := List.filter_eq_nil_iff.mpr fun e he => by
        have := ends_ge r (d + s) e hr he
        simp; omega
      rw [if_neg (by simp; omega), e0]
      exact ⟨d + s, s, rfl, rfl, by omega, by omega⟩
def spLcr : Sp := fun vs H Q _ => ∃ (p pl : Addr) (n : Nat) (l : Addr) (ns : List Int), vs = [.ref p, .ref l] ∧ Pen H p pl n ∧ n ≤ 100000 ∧ H l = some (.lst (ns.map V.int)) ∧ l ≠ p ∧ SzB ns ∧ ns.length ≤ 10 ∧
  ∀ H', Pen H' p pl (n + 40) → Kp p H H' → Q (.bl true) H'
section
variable {P : Program} {w : World} {K : PySem.W.Frag} {mg : Str → Option Value} {base : Heap}
theorem scLcr : FnScope ["_law_pen_here", "_law_sizes_here", "_law_one", "_law_spots", "_law_near", "_law_spot", "_law_first", "_law_then", "_law_at"] ["_law_pen_here", "_law_sizes_here"] (C8.fnScope sLcr) := C8.fnScope_by (by decide +kernel)
theorem cal_lcr {f CC DS DC DM fI : Addr} {mc : Value} {fd : FuncData} (F : C8.Def K mg "_law_cut_right" sLcr f fd) (b : Binds K fd ["_law_pen_here", "_law_sizes_here"] []) (T : TxtM mg) (O : OpM P w K mg base CC DM DS DC fI mc) (XO : StO P w K mg base CC DM DS DC) (NC : NeC K CC)
    (XC : MetK1 P w K mg base CC "cut" "at" (spCut K CC DC)) (XP : MetK1 P w K mg base CC "place_of" "item" (spPl K CC DC)) (DD : C8.Cal P w K mg base 1 "_law_draw" spDraw []) (DP : C8.Cal P w K mg base 2 "_law_pick" (spPick K) []) (DA : C8.Cal P w K mg base 1 "_law_ahead" spLah []) : C8.Cal P w K mg base 15 "_law_cut_right" spLcr [] := by
  have CM := O.CM
  have ME := O.ME
  obtain ⟨pO, gO, fdO, SO, FO, bO⟩ := XO.ex
  obtain ⟨gC, fdC, gUC, hC, FC, bC, KBC⟩ := XC.ex
  obtain ⟨gP, fdP, gUP, hP, FP, bP, KBP⟩ := XP.ex
  refine C8.cal0 F b .nil scLcr (fun vs H Q E h => ?_) (fun cdv A outer st H vs Q E hr h => ?_)
  · obtain ⟨p, pl, n, l, ns, rfl, _⟩ := h
    rfl
  · obtain ⟨p, pl, n, l, ns, rfl, hp, hn, hl, lp, sn, ln, k⟩ := h
    refine ⟨_, (pss_cons (ps_set (i := 2) scLcr.nd rfl (Or.inl rfl) (pe_static (E := C8.E0) (pe_glob (v := .ref CC) (by rfl) CM.Z.hm rfl) SO FO (hr.mono (by decide)) bO .nil (passes_call takes0 (fun _ _ _ _ z => z)) (pa_cons (pv 1) pa_nil)))
  (pss_cons (ps_set (i := 3) scLcr.nd rfl (Or.inl rfl) (pe_lst (pa_cons pe_int (pa_cons (pe_fld (pv 2) rfl) (pa_cons (C8.pe_c DD hr (by decide) (by rfl) (pa_cons (pv 0) (pa_cons (pe_op op_add (pe_fld (pv 2) rfl) pe_int) pa_nil))) (pa_cons (C8.pe_c DP hr (by decide) (by rfl) (pa_cons (pv 0) (pa_cons (pe_op op_cat (pe_lst (pa_cons pe_int pa_nil)) (pe_callTy call_list_of (by rfl) T.n_list (by decide +kernel) (pa_cons (pe_fld (pv 2) rfl) pa_nil))) pa_nil))) pa_nil))))))
  (pss_cons (ps_set (i := 4) scLcr.nd rfl (Or.inl rfl) (pe_op op_sub (pe_op op_add (C8.pe_c DP hr (by decide) (by rfl) (pa_cons (pv 0) (pa_cons (pe_op op_cat (pe_lst (pa_cons pe_int pa_nil)) (pe_callTy call_list_of (by rfl) T.n_list (by decide +kernel) (pa_cons (pe_fld (pv 2) rfl) pa_nil))) pa_nil))) (C8.pe_c DD hr (by decide) (by rfl) (pa_cons (pv 0) (pa_cons pe_int pa_nil)))) pe_int))
  (pss_cons (ps_for PassesOwn.never rfl (pi_list (pe_op op_cat (pv 3) (pe_lst (pa_cons (pe_callB (call_min2 rfl) (by rfl) T.n_min (by decide +kernel) (pa_cons (pe_callB (call_max2 rfl) (by rfl) T.n_max (by decide +kernel) (pa_cons pe_int (pa_cons (pe_callTy call_int1 (by rfl) T.n_int (by decide +kernel) (pa_cons (pv 4) pa_nil)) pa_nil))) (pa_cons (pe_callTy call_int1 (by rfl) T.n_int (by decide +kernel) (pa_cons (pe_fld (pv 2) rfl) pa_nil)) pa_nil))) pa_nil)))) (pg_name (i := 5) scLcr.nd rfl (Or.inl rfl)) (pss_cons (ps_asg (pe_meth (E := C8.E0) (pv 2) CM.Z.cl hC FC (hr.mono (by decide)) bC .nil (passes_call takes0 (fun _ _ _ _ z => z)) (pa_cons (pv 5) pa_nil)) (pg_tup (by rfl) (pgs_cons (pg_name (i := 6) scLcr.nd rfl (Or.inl rfl)) (pgs_cons (pg_name (i := 7) scLcr.nd rfl (Or.inl rfl)) pgs_nil))))
  (pss_cons (ps_if (PW.pt (pw_or (pt_cmpR (op_neD hr.units) (pe_lst (pa_cons (pe_fld (pv 6) rfl) (pa_cons (pe_fld (pv 7) rfl) pa_nil))) (C8.pe_c DA hr (by decide) (by rfl) (pa_cons (pv 1) (pa_cons (pv 5) pa_nil))) (nomark _)) (pw_or1 (pt_cmpR (op_neR (E := C8.E0) NC ME (passes_call takes0 (fun _ _ _ _ z => z)) hr (by decide)) (pe_ix ix_tup (pe_methK (E := C8.E0) (pv 2) CM.Z.cl hC FC (hr.mono (by decide)) KBC (passes_call takes0 (fun _ _ _ _ z => z)) (pk_cons (pv 5) pk_nil)) pe_int (fun _ _ => rfl)) (pv 6) (nomark _))))) (pss_one (ps_ret pe_bl)) pss_nil)
  (pss_one (ps_if (pt_cmpR op_lt (pv 5) (pe_fld (pv 2) rfl) (nomark _)) (pss_cons (ps_set (i := 8) scLcr.nd rfl (Or.inl rfl) (pe_meth (E := C8.E0) (pv 2) CM.Z.cl hP FP (hr.mono (by decide)) bP .nil (passes_call takes0 (fun _ _ _ _ z => z)) (pa_cons (pv 5) pa_nil)))
  (pss_one (ps_if (PW.pt (pw_or (pt_not (pt_chain op_le op_lt (pe_op op_sub (pe_ix ix_tup (pe_fld (pv 2) rfl) (pv 8) (fun _ _ => rfl)) (pe_ix ix_tup (pe_fld (pv 2) rfl) (pv 8) (fun _ _ => rfl))) (pv 5) (pe_ix ix_tup (pe_fld (pv 2) rfl) (pv 8) (fun _ _ => rfl)))) (pw_or1 (pt_cmpR op_ne (pe_methK (E := C8.E0) (pv 2) CM.Z.cl hP FP (hr.mono (by decide)) KBP (passes_call takes0 (fun _ _ _ _ z => z)) (pk_cons (pv 5) pk_nil)) (pv 8) (nomark _))))) (pss_one (ps_ret pe_bl)) pss_nil))) pss_nil)))))
  (pss_one (ps_ret pe_bl)))))), ?_⟩
    have Z := CM.Z
    obtain ⟨S0, S1⟩ := sum_bd sn
    have po : ∀ v ∈ ns, 1 ≤ v := fun v hv => (sn v hv).1
    have S2 : ns.sum ≤ 10 * 10 ^ 30 := Int.le_trans S1 (Int.mul_le_mul_of_nonneg_right (by omega) (by decide))
    have S3 : ns.sum + 1 < 2 ^ 200 := Int.lt_of_le_of_lt (show ns.sum + 1 ≤ 10 * 10 ^ 30 + 1 by omega) (by decide)
    have inE : ∀ {j : Nat} {v : V}, ([V.int 0] ++ (endsL 0 ns).map V.int)[j]? = some v → ∃ x, v = V.int x ∧ 0 ≤ x ∧ x ≤ ns.sum := fun {j v} hj => by
      rcases List.mem_append.mp (List.mem_of_getElem? hj) with h | h
      · rw [List.mem_singleton.mp h]; exact ⟨0, rfl, Int.le_refl _, S0⟩
      · obtain ⟨e, he, rfl⟩ := List.mem_map.mp h
        have g1 := ends_ge ns 0 e po he
        have g2 := ends_le ns 0 e po he
        exact ⟨e, rfl, by omega, by omega⟩
    have lE : ([V.int 0] ++ (endsL 0 ns).map V.int).length ≤ 11 := by
      rw [List.length_append, List.length_map, endsL_len]
      show 1 + ns.length ≤ 11
      omega
    have lE0 : 0 < ([V.int 0] ++ (endsL 0 ns).map V.int).length := Nat.succ_pos _
    refine ⟨rfl, _, rfl, of_lst hl sn (by omega) fun a H1 s1 fa ha => ?_⟩
    obtain ⟨dx, pz, e0, _, hi, hpz, he, _⟩ := id ha
    dsimp only [gName, tSeq]
    refine ⟨_, rfl, a, CC, dx, _, _, rfl, hi, Z.cl, Z.n2, chF_total _ _ _ _, _, rfl, _, rfl, a, CC, dx, _, _, rfl, hi, Z.cl, Z.n2, chF_total _ _ _ _, _, _, rfl, rfl, p, pl, n, ns.sum + 1, rfl, by omega, S3, hp.keep s1, by omega, fun r1 H2 r10 r11 hp2 k2 => ?_⟩
    have ha2 := ha.kp (hp.keep s1) k2
    obtain ⟨dx2, _, e2, _, hi2, _, he2, _⟩ := id ha2
    refine ⟨_, rfl, (by show 1 ≤ sizeLine; decide), fun q1 fq1 => ?_⟩
    have sq1 := same_new (o := HO.lst [V.int 0]) fq1
    refine ⟨_, rfl, a, CC, dx2, _, _, rfl, sq1 _ _ hi2, Z.cl, Z.n3, chF_ends _ _ _ _, e2, _, rfl, .inr (SqT.of (sq1 _ _ he2)), fun q2 fq2 => ?_⟩
    have sq2 := same_new (o := HO.lst ((endsL 0 ns).map V.int)) fq2
    refine ⟨q1, q2, _, _, rfl, rfl, sq2 _ _ upd_same, upd_same, Nat.le_trans (by rw [← List.length_append]; exact lE) (by decide), fun q3 fq3 => ?_⟩
    have sq3 := same_new (o := HO.lst ([V.int 0] ++ (endsL 0 ns).map V.int)) fq3
    have sA := (sq1.trans sq2).trans sq3
    refine ⟨p, pl, q3, n + 1, _, rfl, hp2.keep sA, by omega, SqL.of upd_same, (hp2.keep (sq1.trans sq2)).ne_new fq3, lE0, Nat.lt_of_le_of_lt lE (by decide), fun j v H3 hj hp3 k3 => ?_⟩
    obtain ⟨x, rfl, x0, x1⟩ := inE hj
    have ha3 := (ha2.same sA).kp (hp2.keep sA) k3
    have kk3 := (((Kp.of (p := p) s1).trans k2).trans (.of sA)).trans k3
    clear hj k3 sA sq1 sq2 sq3 fq1 fq2 fq3 ha2 hi2 he2 hp2 k2 hi he hpz ha
    refine ⟨(by show 4 ≤ sizeLine; decide), fun q4 fq4 => ?_⟩
    have sq4 := same_new (o := HO.lst [V.int 0, V.int ns.sum, V.int r1, V.int x]) fq4
    have hq4 : upd H3 q4 (.lst [V.int 0, V.int ns.sum, V.int r1, V.int x]) q4 = some (.lst ([0, ns.sum, r1, x].map V.int)) := upd_same
    have q4p := hp3.ne_new fq4
    have ha4 := ha3.same sq4
    have hp4 := hp3.keep sq4
    have kk4 := kk3.trans (.of sq4)
    generalize upd H3 q4 _ = H4 at sq4 hq4 ha4 hp4 kk4 ⊢
    clear sq4 fq4 ha3 hp3 kk3
    dsimp only [gName, tSeq]
    obtain ⟨dx4, _, e4, _, hi4, _, he4, _⟩ := id ha4
    refine ⟨_, rfl, (by show 1 ≤ sizeLine; decide), fun q1 fq1 => ?_⟩
    have sq1 := same_new (o := HO.lst [V.int 0]) fq1
    refine ⟨_, rfl, a, CC, dx4, _, _, rfl, sq1 _ _ hi4, Z.cl, Z.n3, chF_ends _ _ _ _, e4, _, rfl, .inr (SqT.of (sq1 _ _ he4)), fun q2 fq2 => ?_⟩
    have sq2 := same_new (o := HO.lst ((endsL 0 ns).map V.int)) fq2
    refine ⟨q1, q2, _, _, rfl, rfl, sq2 _ _ upd_same, upd_same, Nat.le_trans (by rw [← List.length_append]; exact lE) (by decide), fun q3 fq3 => ?_⟩
    have sq3 := same_new (o := HO.lst ([V.int 0] ++ (endsL 0 ns).map V.int)) fq3
    have sA := (sq1.trans sq2).trans sq3
    refine ⟨p, pl, q3, _, _, rfl, hp4.keep sA, by omega, SqL.of upd_same, (hp4.keep (sq1.trans sq2)).ne_new fq3, lE0, Nat.lt_of_le_of_lt lE (by decide), fun j v H5 hj hp5 k5 => ?_⟩
    obtain ⟨y, rfl, y0, y1⟩ := inE hj
    have ha5 := (ha4.same sA).kp (hp4.keep sA) k5
    have hq5 := k5 _ _ q4p (sA _ _ hq4)
    have kk5 := (kk4.trans (.of sA)).trans k5
    clear hj k5 sA sq1 sq2 sq3 fq1 fq2 fq3 ha4 hi4 he4 hp4 kk4 hq4
    refine ⟨_, rfl, p, pl, _, 3, rfl, by decide, by decide, hp5, by omega, fun r2 H6 r20 r21 hp6 k6 => ?_⟩
    have ha6 := ha5.kp hp5 k6
    have hq6 := k6 _ _ q4p hq5
    have kk6 := kk5.trans k6
    clear k6 ha5 hq5 hp5 kk5
    refine ⟨_, _, rfl, rfl, _, _, rfl, rfl, ?_⟩
    dsimp only [gName, tSeq]
    obtain ⟨near, hnear⟩ : ∃ near : Int, near = y + r2 - 1 := ⟨_, rfl⟩
    rw [← hnear]
    obtain ⟨dx6, _, _, _, hi6, _⟩ := id ha6
    have hl6 : H6 l = _ := kk6 _ _ lp hl
    refine ⟨_, rfl, _, rfl, .inl ⟨near, rfl, _, _, rfl, _, rfl, a, CC, dx6, _, _, rfl, hi6, Z.cl, Z.n2, chF_total _ _ _ _, .inl ⟨_, rfl, _, _, rfl, ?_⟩⟩⟩
    obtain ⟨z, hz, z0, z1⟩ : ∃ z : Int, z = (if ns.sum < (if near > 0 then near else 0) then ns.sum else (if near > 0 then near else 0)) ∧ 0 ≤ z ∧ z ≤ ns.sum := ⟨_, rfl, by split <;> (first | omega | (split <;> omega)), by split <;> (first | omega | (split <;> omega))⟩
    rw [← hz]
    refine ⟨(by show 1 ≤ sizeLine; decide), fun q7 fq7 => ⟨q4, q7, _, _, rfl, rfl, same_new fq7 _ _ hq6, upd_same, (by show 4 + 1 ≤ sizeLine; decide), fun q8 fq8 => ?_⟩⟩
    have sL := (same_new (o := HO.lst [V.int z]) fq7).trans (same_new (o := HO.lst ([0, ns.sum, r1, x].map V.int ++ [V.int z])) fq8)
    have hq8 : upd (upd H6 q7 (HO.lst [V.int z])) q8 (HO.lst ([0, ns.sum, r1, x].map V.int ++ [V.int z])) q8 = some (.lst ([0, ns.sum, r1, x, z].map V.int)) := upd_same
    generalize upd (upd H6 q7 _) q8 _ = H7 at sL hq8 ⊢
    clear fq7 fq8
    have ha7 := ha6.same sL
    have hl7 := sL _ _ hl6
    have hp7 := hp6.keep sL
    have kk7 := kk6.trans (.of sL)
    clear sL ha6 hl6 hp6 kk6 hi6 hq6
    refine ⟨q8, rfl, ⟨_, SqL.of hq8⟩, for_list (K := K) (xs := [0, ns.sum, r1, x, z].map V.int) (fun i σ' H' => ∃ x5 x6 x7 x8, σ' = [some (.ref p), some (.ref l), some (.ref a), some (.ref q4), some (.int near), x5, x6, x7, x8] ∧ Same H7 H') ⟨_, _, _, _, rfl, Same.refl _⟩ (fun i σ' H' _ h => by obtain ⟨_, _, _, _, _, s⟩ := h; exact SqL.of (s _ _ hq8)) ?_ ?_⟩
    · rintro i v σ' H' hv ⟨x5, x6, x7, x8, rfl, s'⟩
      obtain ⟨t, rfl, t0, t1⟩ : ∃ t, v = V.int t ∧ 0 ≤ t ∧ t ≤ ns.sum := by
        have hv := List.mem_of_getElem? hv
        simp only [List.map_cons, List.map_nil, List.mem_cons, List.not_mem_nil, or_false] at hv
        rcases hv with rfl | rfl | rfl | rfl | rfl
        all_goals exact ⟨_, rfl, by omega, by omega⟩
      have ha8 := ha7.same s'
      obtain ⟨dx8, _, _, _, hi8, _⟩ := id ha8
      refine ⟨_, rfl, a, dx8, _, rfl, hi8, chF_none _ _ _ _ (by decide) (by decide) (by decide) (by decide), _, rfl, ?_⟩
      dsimp only [tNil]
      refine cut_by ha8 sn (by omega) t0 t1 fun c1 c2 q9 H8 s8 fq9 hc1 hc2 hq9 => ?_
      refine ⟨q9, _, rfl, SqT.of hq9, rfl, _, _, rfl, _, _, rfl, rfl, ?_⟩
      dsimp only [tSeq]
      have hlk := s8 _ _ (s' _ _ hl7)
      have ha9 := ha8.same s8
      obtain ⟨dc1, pc1, _, _, hic1, hpc1, _⟩ := id hc1
      obtain ⟨dc2, pc2, _, _, hic2, hpc2, _⟩ := id hc2
      refine ⟨_, rfl, c1, CC, dc1, _, _, rfl, hic1, Z.cl, Z.n1, chF_sizes _ _ _ _, _, rfl, c2, CC, dc2, _, _, rfl, hic2, Z.cl, Z.n1, chF_sizes _ _ _ _, (by show 2 ≤ sizeLine; decide), fun q10 fq10 => ?_⟩
      have sq10 := same_new (o := HO.lst [V.ref pc1, V.ref pc2]) fq10
      refine ⟨_, rfl, _, rfl, l, ns, t, rfl, sq10 _ _ hlk, by omega, fun q11 u1 u2 H10 s10 hq11 hu1 hu2 => ?_⟩
      have sM := sq10.trans s10
      refine ⟨_, _, dp_tL (ls := [cutF t ns, cutB t ns]) (s10 _ _ upd_same) (.cons (sM _ _ hpc1) (.cons (sM _ _ hpc2) .nil)), dp_tL (ls := [cutF t ns, cutB t ns]) hq11 (.cons hu1 (.cons hu2 .nil)), shaped_tL _, shaped_tL _, _, rfl, iteF' (by rw [eqv_tL]; rfl) ?_⟩
      have ha10 := ha9.same sM
      have hc10 := hc1.same sM
      obtain ⟨dx10, _, _, _, hi10, _⟩ := id ha10
      refine ⟨_, rfl, a, dx10, _, rfl, hi10, chF_none _ _ _ _ (by decide) (by decide) (by decide) (by decide), _, rfl, rfl, ?_⟩
      refine cut_by ha10 sn (by omega) t0 t1 fun d1 d2 q12 H11 s11 fq12 hd1 hd2 hq12 => ?_
      refine ⟨q12, _, 0, _, rfl, rfl, SqT.of hq12, atI_nat (j := 0) rfl, ?_⟩
      obtain ⟨dd1, _, _, _, hid1, _⟩ := id hd1
      have hc11 := hc10.same s11
      obtain ⟨dd2, _, _, _, hid2, _⟩ := id hc11
      refine ⟨_, rfl, d1, dd1, _, c1, dd2, _, rfl, hid1, rfl, hid2, d1, c1, _, _, rfl, hd1.weak, hc11.weak, _, rfl, _, rfl, iteF' (by rw [decide_eq_true rfl]; rfl) ?_⟩
      have ha11 := ha10.same s11
      obtain ⟨dx11, p11, e11, _, hi11, hp11, he11, _⟩ := id ha11
      have sN := (s'.trans s8).trans (sM.trans s11)
      clear hid1 hid2 hic1 hic2 hpc1 hpc2 hd1 hd2 hq12 hu1 hu2 hq11 fq12 fq10 fq9 hq9
      refine ⟨_, rfl, _, rfl, a, CC, dx11, _, _, rfl, hi11, Z.cl, Z.n2, chF_total _ _ _ _, _, _, rfl, rfl, _, rfl, ?_⟩
      by_cases c : t < ns.sum
      · refine iteT' (decide_eq_true c) ?_
        refine ⟨_, rfl, a, dx11, _, rfl, hi11, chF_none _ _ _ _ (by decide) (by decide) (by decide) (by decide), _, rfl, ?_⟩
        dsimp only [tNil]
        refine pl_by ha11 (by omega) t0 (by omega) fun H12 s12 => ?_
        obtain ⟨EE, ss, g1, g2, g3, g4⟩ := plc_at ns 0 t po t0 (by omega)
        have ge : atI ((endsL 0 ns).map V.int) (plc t ns : Int) = some (.int EE) := atI_nat (by rw [List.getElem?_map]; show Option.map V.int ((endsL 0 ns)[plc t ns]?) = _; rw [show (endsL 0 ns)[plc t ns]? = some EE from g1]; rfl)
        have gs : atI (ns.map V.int) (plc t ns : Int) = some (.int ss) := atI_nat (by rw [List.getElem?_map]; show Option.map V.int (ns[plc t ns]?) = _; rw [show ns[plc t ns]? = some ss from g2]; rfl)
        have hi12 := s12 _ _ hi11
        have he12 := s12 _ _ he11
        have hp12 := s12 _ _ hp11
        dsimp only [gName, tSeq]
        refine ⟨_, rfl, a, CC, dx11, _, _, rfl, hi12, Z.cl, Z.n3, chF_ends _ _ _ _, _, rfl, e11, _, _, _, rfl, rfl, SqT.of he12, ge, _, rfl, a, CC, dx11, _, _, rfl, hi12, Z.cl, Z.n1, chF_sizes _ _ _ _, _, rfl, p11, _, _, _, rfl, rfl, SqT.of hp12, gs, _, _, rfl, rfl, _, rfl, _, _, rfl, rfl, ?_⟩
        refine ⟨_, rfl, iteT' (decide_eq_true g3) ?_⟩
        refine ⟨_, rfl, a, CC, dx11, _, _, rfl, hi12, Z.cl, Z.n3, chF_ends _ _ _ _, _, rfl, e11, _, _, _, rfl, rfl, SqT.of he12, ge, _, _, rfl, rfl, _, rfl, iteF' (by rw [decide_eq_true g4]; rfl) ?_⟩
        refine ⟨_, rfl, a, dx11, _, rfl, hi12, chF_none _ _ _ _ (by decide) (by decide) (by decide) (by decide), _, rfl, rfl, ?_⟩
        refine pl_by (ha11.same s12) (by omega) t0 (by omega) fun H13 s13 => ?_
        refine ⟨_, rfl, rfl, _, rfl, iteF' (by rw [decide_eq_true rfl]; rfl) ?_⟩
        exact ⟨_, _, _, _, rfl, sN.trans (s12.trans s13)⟩
      · refine iteF' (decide_eq_false c) ?_
        exact ⟨_, _, _, _, rfl, sN⟩
    · rintro σ' H' ⟨x5, x6, x7, x8, rfl, s'⟩
      exact k _ ((hp7.keep s').more (by omega)) (kk7.trans (.of s'))
end
end Lw
namespace Lw
open PySem PySem.Spec PyProof.Rows L2
open SX PySem.NumText TL LamX ClX StX
abbrev sLrr : Stmt := top 36
/-- a def's table of code objects among those that are tracked -/
structure TabOf (T : List (Addr × Str)) (B : Addr) (x : Str) : Prop where
  mem : (B, (x ++ (".<locals>." : Str)) ++ ("<lambda>" : Str)) ∈ T
  own : ∀ p ∈ T, p.1 = B → p.2 = (x ++ (".<locals>." : Str)) ++ ("<lambda>" : Str)
section
variable {X : Cx} {C : Addr} {k j : Nat} {sp : Sp} {E : XK} {nm : String} {K' : PySem.W.Frag}
theorem half_lftNK (K' : PySem.W.Frag) (hK : X.K = K') (M : MetX X.prog X.w X.K X.mg X.base k C (PySem.dunder nm) sp) (hx : Passes (L2.CX X.prog X.w) X E) (hc : PySem.W.selfFirst X.K C = true) (hb : PySem.W.findIn X.K (.ref C) (dunderR nm) = some none) (hn : nm ∈ Ow.Nms) (hr : Room j X.A) (hk : k ≤ j) : HalfR X nm (rLeft K' C sp E) := by
  subst hK
  exact half_lftN M hx hc hb hn hr hk
theorem half_lftK (K' : PySem.W.Frag) (hK : X.K = K') (M : MetX X.prog X.w X.K X.mg X.base k C (PySem.dunder nm) sp) (hx : Passes (L2.CX X.prog X.w) X E) (hc : PySem.W.selfFirst X.K C = true) (hb : ∃ g : Addr, PySem.W.findIn X.K (.ref C) (dunderR nm) = some (some (.ref g))) (hn : nm ∈ Ow.Nms) (hr : Room j X.A) (hk : k ≤ j) : HalfR X nm (rLeft K' C sp E) := by
  subst hK
  exact half_lft M hx hc hb hn hr hk
theorem pe_fldK (K' : PySem.W.Frag) (hK : X.K = K') {e : Expr} {te : TE} {f : Str} {pos : Pos} (he : PE X e te) (hb : attributeBase e f X.env (eval e X.env) = eval e X.env) : PE X (.Attribute e f pos) (tFld K' te f) := by
  subst hK
  exact pe_fld he hb
end
/-! ### a drawn value and what is known of it as long as its object stays -/
def OdP (R : Hp → V → Prop) (H : Hp) (v : V) : Prop := ((∀ a, v ≠ .ref a) ∧ ∀ H', R H' v) ∨ ∃ a o, v = .ref a ∧ H a = some o ∧ (∀ ps, o ≠ .tbl ps) ∧ ∀ H', H' a = some o → R H' v
def Off (v : V) (l : Addr) : Prop := ∀ a, v = .ref a → a ≠ l
theorem OdP.get {R : Hp → V → Prop} {H : Hp} {v : V} (h : OdP R H v) : R H v := by
  rcases h with ⟨_, h⟩ | ⟨a, o, _, e, _, h⟩
  · exact h H
  · exact h H e
theorem OdP.move {R : Hp → V → Prop} {H H' : Hp} {v : V} (h : OdP R H v) (k : ∀ a o, v = .ref a → H a = some o → (∀ ps, o ≠ .tbl ps) → H' a = some o) : OdP R H' v := by
  rcases h with h | ⟨a, o, ev, e, n, h⟩
  · exact .inl h
  · exact .inr ⟨a, o, ev, k a o ev e n, n, h⟩
theorem OdP.extn {R : Hp → V → Prop} {H H' : Hp} {v : V} (h : OdP R H v) (x : ExtN H H') : OdP R H' v := h.move fun a o _ e n => x a o e n
theorem OdP.same {R : Hp → V → Prop} {H H' : Hp} {v : V} (h : OdP R H v) (s : Same H H') : OdP R H' v := h.extn (ExtN.of s)
theorem OdP.kp {R : Hp → V → Prop} {H H' : Hp} {v : V} {p : Addr} (h : OdP R H v) (ne : Off v p) (k : Kp p H H') : OdP R H' v := h.move fun a o ev e _ => k a o (ne a ev) e
theorem OdP.up {R : Hp → V → Prop} {H : Hp} {v : V} {l : Addr} {o : HO} (h : OdP R H v) (ne : Off v l) : OdP R (upd H l o) v := h.move fun a u ev e _ => by rw [upd_ne (ne a ev)]; exact e
theorem OdP.off {R : Hp → V → Prop} {H : Hp} {v : V} {l : Addr} (h : OdP R H v) (hl : H l = none) : Off v l := fun a ev => by
  rcases h with ⟨n, _⟩ | ⟨b, o, ev2, e, _⟩
  · exact absurd ev (n a)
  · rw [ev] at ev2
    cases ev2
    exact ne_of_none e hl
theorem odp_in {R : Hp → V → Prop} {H : Hp} {v : V} (h : ∀ a, v ≠ .ref a) (k : ∀ H', R H' v) : OdP R H v := .inl ⟨h, k⟩
theorem odp_at {R : Hp → V → Prop} {H : Hp} {a : Addr} {o : HO} (e : H a = some o) (n : ∀ ps, o ≠ .tbl ps) (k : ∀ H', H' a = some o → R H' (.ref a)) : OdP R H (.ref a) := .inr ⟨a, o, rfl, e, n, k⟩
theorem off_no {v : V} {l : Addr} (h : ∀ a, v ≠ .ref a) : Off v l := fun a e => absurd e (h a)
theorem off_ref {a l : Addr} (h : a ≠ l) : Off (.ref a) l := fun b e => by cases e; exact h
/-- the own class beside the built-in types -/
structure NB (K : PySem.W.Frag) (CC : Addr) : Prop where
  all : ∀ T ∈ Ow.BTs, PySem.W.kitOne K (.type T) (.ref CC) = some false
  i : PySem.W.kitOne K (.ref CC) (.type "int") = some false
  b : PySem.W.kitOne K (.ref CC) (.type "bool") = some false
  s : PySem.W.kitOne K (.ref CC) (.type "str") = some false
  I : C8.InsC K CC
def RA (K : PySem.W.Frag) (CC : Addr) (H : Hp) (v : V) : Prop := ∃ T, Bt K H v T ∧ NotC K CC H v
def RM (K : PySem.W.Frag) (CC : Addr) (H : Hp) (v : V) : Prop := Anyv K H v ∧ isN0 v = false ∧ ((∃ T, Bt K H v T) ∨ ∃ b dy gs, v = .ref b ∧ H b = some (.ins CC dy gs))
def RB (K : PySem.W.Frag) (s : Int) (H : Hp) (v : V) : Prop := Anyv K H v ∧ inB v 0 s = false
section
variable {K : PySem.W.Frag} {CC : Addr} {H : Hp} {s : Int}
theorem ra_of (N : NB K CC) {v : V} {T : String} (h : Bt K H v T) : RA K CC H v := ⟨T, h, .type T, .x h.tyx.1, N.all T h.tyx.2⟩
theorem NB.any (N : NB K CC) {a dx : Addr} {fs : List (Str × V)} (h : H a = some (.ins CC dx fs)) : Anyv K H (.ref a) := .obj (.x (.base (.ins h N.I.cl N.I.ha N.I.hn N.I.htk N.I.hm))) N.i N.b N.s
theorem any_tup {a : Addr} {xs : List V} (h : H a = some (.tup xs)) : Anyv K H (.ref a) := .obj (.x (.base (.tup h))) (kit_ty (by decide +kernel)) (kit_ty (by decide +kernel)) (kit_ty (by decide +kernel))
theorem any_lst {a : Addr} {xs : List V} (h : H a = some (.lst xs)) : Anyv K H (.ref a) := .obj (.x (.base (.lst h))) (kit_ty (by decide +kernel)) (kit_ty (by decide +kernel)) (kit_ty (by decide +kernel))
theorem RB.less {v : V} (h : RB K s H v) : inB v 0 (s - 1) = false := by
  cases v with
  | int i =>
    have h2 : (decide (0 ≤ i) && decide (i ≤ s)) = false := h.2
    show (decide (0 ≤ i) && decide (i ≤ s - 1)) = false
    by_cases a : 0 ≤ i
    · by_cases b : i ≤ s - 1
      · rw [decide_eq_true a, decide_eq_true (show i ≤ s by omega)] at h2
        cases h2
      · rw [decide_eq_false b, Bool.and_false]
    · rw [decide_eq_false a, Bool.false_and]
  | _ => rfl
end
theorem inB_no {i a b : Int} (h : i < a ∨ b < i) : inB (.int i) a b = false := by
  show (decide (a ≤ i) && decide (i ≤ b)) = false
  rcases h with h | h
  · rw [decide_eq_false (by omega), Bool.false_and]
  · rw [decide_eq_false (show ¬ i ≤ b by omega), Bool.and_false]
theorem ch_off {CC : Addr} {H : Hp} {c p pl : Addr} {n : Nat} {ns : List Int} (h : ChA CC H c ns) (hp : Pen H p pl n) : c ≠ p := by
  obtain ⟨dx, pz, e, r, hi, _⟩ := h
  rintro rfl
  obtain ⟨xs, s, g, z, _⟩ := hp
  have := z.1
  rw [hi] at this
  cases this
/-! ### answers gathered in a list -/
def p2 (a b : Str) : PyData := .tuple [.str a, .str b]
theorem dp_p2 {K : PySem.W.Frag} {H : Hp} {t : Addr} {a b : Str} (h : H t = some (.tup [.str a, .str b])) : Dp K H (.ref t) (p2 a b) := .tup (SqT.of h) (.cons (.str _) (.cons (.str _) .nil))
def pL (ts : List (Str × Str)) : PyData := .list (ts.map fun t => p2 t.1 t.2)
structure AccL (H : Hp) (l : Addr) (ts : List (Addr × Str × Str)) : Prop where
  at_ : H l = some (.lst (ts.map fun t => V.ref t.1))
  all : ∀ t ∈ ts, H t.1 = some (.tup [.str t.2.1, .str t.2.2])
section
variable {H H' : Hp} {l : Addr} {ts : List (Addr × Str × Str)}
theorem AccL.extn (a : AccL H l ts) (e : ExtN H H') : AccL H' l ts := ⟨e _ _ a.at_ (fun ps z => by cases z), fun t ht => e _ _ (a.all t ht) (fun ps z => by cases z)⟩
theorem AccL.push {t : Addr} {x y : Str} (a : AccL H l ts) (h : H t = some (.tup [.str x, .str y])) : AccL (upd H l (.lst ((ts.map fun t => V.ref t.1) ++ [V.ref t]))) l (ts ++ [(t, x, y)]) := by
  have ne : ∀ {u : Addr} {zs : List V}, H u = some (.tup zs) → u ≠ l := fun e z => by rw [z, a.at_] at e; cases e
  refine ⟨by rw [upd_same, List.map_append]; rfl, fun u hu => ?_⟩
  rcases List.mem_append.mp hu with hu | hu
  · rw [upd_ne (ne (a.all u hu))]; exact a.all u hu
  · rw [List.mem_singleton.mp hu, upd_ne (ne h)]; exact h
theorem AccL.one {t : Addr} {x y : Str} (hl : H l = none) (h : H t = some (.tup [.str x, .str y])) : AccL (upd H l (.lst [V.ref t])) l [(t, x, y)] := by
  refine ⟨upd_same, fun u hu => ?_⟩
  rw [List.mem_singleton.mp hu, upd_ne (ne_of_none h hl)]; exact h
theorem dpAll_p {K : PySem.W.Frag} : ∀ {ts : List (Addr × Str × Str)}, (∀ t ∈ ts, H t.1 = some (.tup [.str t.2.1, .str t.2.2])) → DpAll K H (ts.map fun t => V.ref t.1) (ts.map fun t => p2 t.2.1 t.2.2)
  | [], _ => .nil
  | t :: r, h => .cons (dp_p2 (h t List.mem_cons_self)) (dpAll_p fun u hu => h u (List.mem_cons_of_mem _ hu))
theorem AccL.dp {K : PySem.W.Frag} (a : AccL H l ts) : Dp K H (.ref l) (pL (ts.map Prod.snd)) := by
  have e : pL (ts.map Prod.snd) = .list (ts.map fun t => p2 t.2.1 t.2.2) := by unfold pL; rw [List.map_map]; rfl
  rw [e]
  exact .lst (SqL.of a.at_) (dpAll_p a.all)
theorem hd_part {K : PySem.W.Frag} {DC DS DT DN DM : Addr} {Q : VK} {x : V} (k : ∀ t H8, Same H H8 → H t = none → H8 t = some (.tup [.str (Str.ofString "chunks"), x]) → Q (.ref t) H8) : Bf DC "part" x H (HeardX K DC DS DT DN DM Q) := fun d fs H7 s7 hd f1 =>
  have s8 : Same H (upd H7 d (.xd fs)) := s7.trans (same_new hd)
  .inl ⟨rfl, d, fs, x, rfl, upd_same, f1, fun t H8 s9 n9 h9 => k t H8 (s8.trans s9) (s8.free n9) h9⟩
end
section
variable {K : PySem.W.Frag} {CC DM DC : Addr} {H : Hp} {Q : VK} {E : XK}
theorem mu_in {a dx : Addr} {fs : List (Str × V)} {u : V} (hi : H a = some (.ins CC dx fs)) (h : (∃ T, Bt K H u T) ∨ ∃ b dy gs, u = .ref b ∧ H b = some (.ins CC dy gs)) (q : spMu K CC DM DC [.ref a, u] H Q E) : rOwn CC (spMu K CC DM DC) E (.ref a) u H Q ∨ rLeft K CC (spMu K CC DM DC) E (.ref a) u H Q := by
  rcases h with ⟨T, hb⟩ | ⟨b, dy, gs, rfl, hb⟩
  · exact .inr ⟨a, dx, fs, T, rfl, hi, hb, q⟩
  · exact .inl ⟨a, dx, fs, b, dy, gs, rfl, rfl, hi, hb, q⟩
theorem no_n0 {u : V} (h : isN0 u = false) {R : Int → Prop} : ∀ k, u = .int k → 0 ≤ k → R k := fun k e h0 => by
  subst e
  have : decide (0 ≤ k) = false := h
  exact absurd h0 (of_decide_eq_false this)
theorem no_in {x : V} {a b : Int} {R : Int → Prop} (h : inB x a b = false) : ∀ m, x = .int m → a ≤ m → m ≤ b → R m := fun m e h1 h2 => by
  subst e
  rw [inB_yes h1 h2] at h
  cases h
end
/-- what stays while answers are gathered -/
structure Gz (K : PySem.W.Frag) (CC : Addr) (TS : List (Addr × Str)) (p pl : Addr) (n : Nat) (a : Addr) (ns : List Int) (l : Addr) (v u f : V) (H : Hp) : Prop where
  hp : Pen H p pl n
  ht : Tabs TS H
  ha : ChA CC H a ns
  hl : H l = some (.lst (ns.map V.int))
  ov : OdP (RA K CC) H v
  bv : OdP (RM K CC) H u
  fv : OdP (RB K ns.sum) H f
structure Fz (p pl l : Addr) (v u f : V) (q : Addr) : Prop where
  n1 : q ≠ p
  n2 : q ≠ pl
  n3 : l ≠ q
  n4 : Off v q
  n5 : Off u q
  n6 : Off f q
section
variable {K : PySem.W.Frag} {CC : Addr} {TS : List (Addr × Str)} {p pl a l q : Addr} {n : Nat} {ns : List Int} {v u f : V} {H H' : Hp}
theorem Gz.fr (g : Gz K CC TS p pl n a ns l v u f H) (h : H q = none) : Fz p pl l v u f q := ⟨g.hp.ne_new h, g.hp.ne_new2 h, ne_of_none g.hl h, g.ov.off h, g.bv.off h, g.fv.off h⟩
theorem Gz.ext (g : Gz K CC TS p pl n a ns l v u f H) (x : ExtN H H') (t : Tabs TS H') : Gz K CC TS p pl n a ns l v u f H' := ⟨Lw.Pen.extn g.hp x, t, g.ha.extn x, x _ _ g.hl (fun ps z => by cases z), g.ov.extn x, g.bv.extn x, g.fv.extn x⟩
theorem Gz.same (g : Gz K CC TS p pl n a ns l v u f H) (s : Same H H') : Gz K CC TS p pl n a ns l v u f H' := g.ext (ExtN.of s) (g.ht.ext s)
theorem Gz.put {xs ys : List V} (g : Gz K CC TS p pl n a ns l v u f H) (d : Fz p pl l v u f q) (h : H q = some (.lst xs)) : Gz K CC TS p pl n a ns l v u f (upd H q (.lst ys)) :=
  ⟨g.hp.over d.n1 d.n2, Lw.Tabs.put g.ht h, g.ha.move fun b o e nl _ => by
      have : b ≠ q := fun z => by rw [z, h] at e; cases e; exact nl _ rfl
      rw [upd_ne this]; exact e, by rw [upd_ne d.n3]; exact g.hl, g.ov.up d.n4, g.bv.up d.n5, g.fv.up d.n6⟩
end
def spRr (T : List (Addr × Str)) : Sp := fun vs H Q _ => ∃ (p pl : Addr) (n : Nat) (l : Addr) (ns : List Int), vs = [.ref p, .ref l] ∧ Pen H p pl n ∧ n ≤ 100000 ∧ H l = some (.lst (ns.map V.int)) ∧ l ≠ p ∧ SzB ns ∧ ns.length ≤ 10 ∧ Tabs T H ∧
  ∀ H', Pen H' p pl (n + 40) → Tabs T H' → Q (.bl true) H'
section
variable {P : Program} {w : World} {K : PySem.W.Frag} {mg : Str → Option Value} {base : Heap}
theorem scLrr : FnScope ["_law_pen_here", "_law_sizes_here", "_law_one", "_law_odd", "_law_many", "_law_far", "_law_heard_here", "_law_due"] ["_law_pen_here", "_law_sizes_here"] (C8.fnScope sLrr) := C8.fnScope_by (by decide +kernel)
theorem cal_lrr {f c B CC DC DS DT DN DM L gH fI : Addr} {TS : List (Addr × Str)} {mc : Value} {fd fdH : FuncData} (F : DefC K mg "_law_refused_right" sLrr f fd c) (b : Binds K fd ["_law_pen_here", "_law_sizes_here"] []) (FH : C8.Def K mg "_law_heard" sHea gH fdH) (bH : Binds K fdH ["_law_ask"] []) (TB : TabB base mg c B) (TO : TabOf TS B "_law_refused_right")
    (R : Hrd K mg DC DS DT DN DM L) (T : TxtM mg) (O : OpM P w K mg base CC DM DS DC fI mc) (XO : StO P w K mg base CC DM DS DC)
    (XC : MetK1 P w K mg base CC "cut" "at" (spCut K CC DC)) (XP : MetK1 P w K mg base CC "place_of" "item" (spPl K CC DC)) (DP : C8.Cal P w K mg base 2 "_law_pick" (spPick K) []) (N : NB K CC) : CalG P w K mg base 15 "_law_refused_right" (spRr TS) [] := by
  have CM := O.CM
  have ME := O.ME
  obtain ⟨ocH, odH, dVH, kVH, docH, pmH, anH, cdvH, ctH, oslH, rfl, lkH, cdH⟩ := FH.fn.ex
  obtain ⟨pO, gO, fdO, SO, FO, bO⟩ := XO.ex
  obtain ⟨gC, fdC, gUC, hC, FC, bC, KBC⟩ := XC.ex
  obtain ⟨gP, fdP, gUP, hP, FP, bP, KBP⟩ := XP.ex
  refine calGC F b .nil scLrr (fun vs H Q E h => ?_) (fun A outer st H vs Q E hG hr h => ?_)
  · obtain ⟨p, pl, n, l, ns, rfl, _⟩ := h
    rfl
  · obtain ⟨p, pl, n, l, ns, rfl, hp, hn, hl, lp, sn, ln, ht, k⟩ := h
    refine ⟨_, (pss_cons (ps_set (i := 2) scLrr.nd rfl (Or.inr rfl) (pe_static (E := C8.E0) (pe_glob (v := .ref CC) (by rfl) CM.Z.hm rfl) SO FO (hr.mono (by decide)) bO .nil (passes_call takes0 (fun _ _ _ _ z => z)) (pa_cons (pv 1) pa_nil)))
  (pss_cons (ps_set (i := 3) scLrr.nd rfl (Or.inr rfl) (C8.pe_c DP hr (by decide) (by rfl) (pa_cons (pv 0) (pa_cons (pe_lst (pa_cons pe_non (pa_cons pe_int (pa_cons (pe_callTy call_tuple_of (by rfl) T.n_tuple (by decide +kernel) (pa_cons (pv 1) pa_nil)) (pa_cons (pv 1) (pa_cons pe_str (pa_cons pe_bl (pa_cons pe_dnewK pa_nil)))))))) pa_nil))))
  (pss_cons (ps_set (i := 4) scLrr.nd rfl (Or.inr rfl) (C8.pe_c DP hr (by decide) (by rfl) (pa_cons (pv 0) (pa_cons (pe_lst (pa_cons pe_non (pa_cons (pe_un un_neg pe_int) (pa_cons pe_bl (pa_cons pe_str (pa_cons (pe_tup (pa_cons pe_int pa_nil)) (pa_cons (pe_lst pa_nil) (pa_cons (pv 2) pa_nil)))))))) pa_nil))))
  (pss_cons (ps_set (i := 5) scLrr.nd rfl (Or.inr rfl) (C8.pe_c DP hr (by decide) (by rfl) (pa_cons (pv 0) (pa_cons (pe_lst (pa_cons pe_non (pa_cons (pe_un un_neg pe_int) (pa_cons (pe_op op_add (pe_fld (pv 2) rfl) pe_int) (pa_cons pe_bl (pa_cons pe_str (pa_cons (pe_tup (pa_cons pe_int pa_nil)) (pa_cons (pe_lst pa_nil) (pa_cons (pv 2) pa_nil))))))))) pa_nil))))
  (pss_cons (ps_set (i := 6) scLrr.nd rfl (Or.inl rfl) (pe_lst (pa_cons (pe_lamcall (k := 12) (T := TS) (TT := TTheard K DC DS DT DN DM) (by rfl) FH.mgf FH.kp lkH cdH bH scHea rfl (.inl rfl) (heard_gives R T.toTxt hG (hr.mono (by decide))) TB rfl TO.mem TO.own (hr.mono (by decide)) (lamS_by (by rfl)) rfl (fun _ _ _ _ _ => rfl)
      (fun A outer s H E f c2 hr2 => (by exact (pe_op (op_of (op := .Add) (half_lftNK K rfl (nm := "add") O.MA (passes_call (takes_of rfl rfl rfl rfl) (fun _ _ _ _ z => z)) O.first O.radd (by decide) hr2 (Nat.le_of_ble_eq_true rfl))) (pv 2) (pv 3))))) pa_nil)))
  (pss_cons (ps_expr (pe_bm PySem.F.plainAttrs_list PySem.F.slot_list_append PySem.F.type_list_append mt_append (pv 6) (pa_cons (pe_lamcall (k := 12) (T := TS) (TT := TTheard K DC DS DT DN DM) (by rfl) FH.mgf FH.kp lkH cdH bH scHea rfl (.inl rfl) (heard_gives R T.toTxt hG (hr.mono (by decide))) TB rfl TO.mem TO.own (hr.mono (by decide)) (lamS_by (by rfl)) rfl (fun _ _ _ _ _ => rfl)
      (fun A outer s H E f c2 hr2 => (by exact (pe_op (op_of (op := .Mult) (half_or (half_own (nm := "mul") O.MM (passes_call (takes_of rfl rfl rfl rfl) (fun _ _ _ _ z => z)) O.first hr2 (Nat.le_of_ble_eq_true rfl)) (half_lftK K rfl (nm := "mul") O.MM (passes_call (takes_of rfl rfl rfl rfl) (fun _ _ _ _ z => z)) O.first O.rmul (by decide) hr2 (Nat.le_of_ble_eq_true rfl)))) (pv 2) (pv 4))))) pa_nil)))
  (pss_cons (ps_expr (pe_bm PySem.F.plainAttrs_list PySem.F.slot_list_append PySem.F.type_list_append mt_append (pv 6) (pa_cons (pe_lamcall (k := 12) (T := TS) (TT := TTheard K DC DS DT DN DM) (by rfl) FH.mgf FH.kp lkH cdH bH scHea rfl (.inl rfl) (heard_gives R T.toTxt hG (hr.mono (by decide))) TB rfl TO.mem TO.own (hr.mono (by decide)) (lamS_by (by rfl)) rfl (fun _ _ _ _ _ => rfl)
      (fun A outer s H E f c2 hr2 => (by exact (pe_meth (pv 2) CM.Z.cl hC FC (hr2.mono (by decide)) bC .nil (passes_call (takes_of rfl rfl rfl rfl) (fun _ _ _ _ z => z)) (pa_cons (pv 5) pa_nil))))) pa_nil)))
  (pss_cons (ps_expr (pe_bm PySem.F.plainAttrs_list PySem.F.slot_list_append PySem.F.type_list_append mt_append (pv 6) (pa_cons (pe_lamcall (k := 12) (T := TS) (TT := TTheard K DC DS DT DN DM) (by rfl) FH.mgf FH.kp lkH cdH bH scHea rfl (.inl rfl) (heard_gives R T.toTxt hG (hr.mono (by decide))) TB rfl TO.mem TO.own (hr.mono (by decide)) (lamS_by (by rfl)) rfl (fun _ _ _ _ _ => rfl)
      (fun A outer s H E f c2 hr2 => (by exact (pe_meth (pv 2) CM.Z.cl hP FP (hr2.mono (by decide)) bP .nil (passes_call (takes_of rfl rfl rfl rfl) (fun _ _ _ _ z => z)) (pa_cons (pv 5) pa_nil))))) pa_nil)))
  (pss_cons (ps_expr (pe_bm PySem.F.plainAttrs_list PySem.F.slot_list_append PySem.F.type_list_append mt_append (pv 6) (pa_cons (pe_lamcall (k := 12) (T := TS) (TT := TTheard K DC DS DT DN DM) (by rfl) FH.mgf FH.kp lkH cdH bH scHea rfl (.inl rfl) (heard_gives R T.toTxt hG (hr.mono (by decide))) TB rfl TO.mem TO.own (hr.mono (by decide)) (lamS_by (by rfl)) rfl (fun _ _ _ _ _ => rfl)
      (fun A outer s H E f c2 hr2 => (by exact (pe_meth (pv 2) CM.Z.cl hP FP (hr2.mono (by decide)) bP .nil (passes_call (takes_of rfl rfl rfl rfl) (fun _ _ _ _ z => z)) (pa_cons (pe_fldK K rfl (pv 2) rfl) pa_nil))))) pa_nil)))
  (pss_cons (ps_set (i := 7) scLrr.nd rfl (Or.inl rfl) (pe_lst (pa_cons (pe_tup (pa_cons pe_str (pa_cons pe_str pa_nil))) (pa_cons (pe_tup (pa_cons pe_str (pa_cons pe_str pa_nil))) (pa_cons (pe_tup (pa_cons pe_str (pa_cons pe_str pa_nil))) (pa_cons (pe_tup (pa_cons pe_str (pa_cons pe_str pa_nil))) (pa_cons (pe_tup (pa_cons pe_str (pa_cons pe_str pa_nil))) pa_nil)))))))
  (pss_one (ps_ret (pe_and (pe_cmpR (op_eqD hr.units) (pv 6) (pv 7) (nomark _)) (pe_one (pe_cmpR (op_eqD hr.units) (pe_fld (pv 2) rfl) (pe_callTy call_tuple_of (by rfl) T.n_tuple (by decide +kernel) (pa_cons (pv 1) pa_nil)) (nomark _)))))))))))))))), ?_⟩
    have Z := CM.Z
    refine ⟨rfl, _, rfl, of_lst hl sn (by omega) fun a H1 s1 fa ha => ?_⟩
    have hp1 := hp.keep s1
    have ht1 := ht.ext s1
    have hl1 := s1 _ _ hl
    clear hp ht hl s1 fa
    dsimp only [gName, tSeq]
    refine ⟨_, rfl, _, rfl, l, _, rfl, .inl ⟨SqL.of hl1, fun tq ftq => ⟨_, rfl, fun dq fdq => ⟨(by show 7 ≤ sizeLine; decide), fun q fq => ?_⟩⟩⟩⟩
    have stq := same_new (o := HO.tup (ns.map V.int)) ftq
    have sdq := same_new (o := HO.dK []) fdq
    have etq := sdq _ _ (upd_same (H := H1) (a := tq) (o := HO.tup (ns.map V.int)))
    have edq := upd_same (H := upd H1 tq (.tup (ns.map V.int))) (a := dq) (o := HO.dK [])
    have sA := stq.trans sdq
    have tqp := hp1.ne_new ftq
    have dqp := (hp1.keep stq).ne_new fdq
    have qp := (hp1.keep sA).ne_new fq
    generalize hL : upd (upd (upd H1 tq (HO.tup (ns.map V.int))) dq (HO.dK [])) q _ = H2
    have sq : Same (upd (upd H1 tq (HO.tup (ns.map V.int))) dq (HO.dK [])) H2 := by rw [← hL]; exact same_new fq
    obtain ⟨xs, hxs⟩ : ∃ xs, xs = [V.non, V.int 0, V.ref tq, V.ref l, V.str (Str.ofString "4"), V.bl true, V.ref dq] := ⟨_, rfl⟩
    have hq2 : H2 q = some (.lst xs) := by rw [← hL, hxs]; exact upd_same
    have sB := sA.trans sq
    have etq2 := sq _ _ etq
    have edq2 := sq _ _ edq
    have hp2 := hp1.keep sB
    have ht2 := ht1.ext sB
    have hl2 := sB _ _ hl1
    have ha2 := ha.same sB
    clear hL sq etq edq sA stq sdq ftq fdq fq ha hl1 ht1
    refine ⟨p, pl, q, n, xs, rfl, hp2, by omega, SqL.of hq2, qp, by rw [hxs]; show 0 < 7; decide, by rw [hxs]; show 7 < 1000000; decide, fun j v H3 hj hp3 k3 => ?_⟩
    have ht3 := Lw.Tabs.kp ht2 hp2 k3
    have ha3 := ha2.kp hp2 k3
    have hl3 := k3 _ _ lp hl2
    have etq3 := k3 _ _ tqp etq2
    have edq3 := k3 _ _ dqp edq2
    obtain ⟨ov, offp⟩ : OdP (RA K CC) H3 v ∧ Off v p := by
      have hv := List.mem_of_getElem? hj
      rw [hxs] at hv
      simp only [List.mem_cons, List.not_mem_nil, or_false] at hv
      rcases hv with rfl | rfl | rfl | rfl | rfl | rfl | rfl
      · exact ⟨odp_in (fun a e => by cases e) fun _ => ra_of N (.bare (.base .non) (by decide)), off_no (fun a e => by cases e)⟩
      · exact ⟨odp_in (fun a e => by cases e) fun _ => ra_of N (.int 0), off_no (fun a e => by cases e)⟩
      · exact ⟨odp_at etq3 (fun ps z => by cases z) fun _ e => ra_of N (.bare (.base (.tup e)) (by decide)), off_ref tqp⟩
      · exact ⟨odp_at hl3 (fun ps z => by cases z) fun _ e => ra_of N (.bare (.base (.lst e)) (by decide)), off_ref lp⟩
      · exact ⟨odp_in (fun a e => by cases e) fun _ => ra_of N (.bare (.base (.str _)) (by decide)), off_no (fun a e => by cases e)⟩
      · exact ⟨odp_in (fun a e => by cases e) fun _ => ra_of N (.bl true), off_no (fun a e => by cases e)⟩
      · exact ⟨odp_at edq3 (fun ps z => by cases z) fun _ e => ra_of N (.bare (.base (.dK e)) (by decide)), off_ref dqp⟩
    clear hj hq2 etq2 edq2 etq3 edq3 ht2 hp2 ha2 hl2 k3 hxs sB hp1
    clear xs
    dsimp only [gName, tSeq]
    refine ⟨_, rfl, _, rfl, (by show 1 ≤ sizeLine; decide), fun tq ftq => ⟨(by show 0 ≤ sizeLine; decide), fun lq flq => ⟨_, rfl, (by show 7 ≤ sizeLine; decide), fun q2 fq2 => ?_⟩⟩⟩
    have stq := same_new (o := HO.tup [V.int 1]) ftq
    have slq := same_new (o := HO.lst []) flq
    have etq := slq _ _ (upd_same (H := H3) (a := tq) (o := HO.tup [V.int 1]))
    have elq := upd_same (H := upd H3 tq (.tup [V.int 1])) (a := lq) (o := HO.lst [])
    have sA := stq.trans slq
    have tqp := hp3.ne_new ftq
    have lqp := (hp3.keep stq).ne_new flq
    have qp := (hp3.keep sA).ne_new fq2
    generalize hL : upd (upd (upd H3 tq (HO.tup [V.int 1])) lq (HO.lst [])) q2 _ = H4
    have sq : Same (upd (upd H3 tq (HO.tup [V.int 1])) lq (HO.lst [])) H4 := by rw [← hL]; exact same_new fq2
    obtain ⟨xs, hxs⟩ : ∃ xs, xs = [V.non, V.int (-1), V.bl true, V.str (Str.ofString "2"), V.ref tq, V.ref lq, V.ref a] := ⟨_, rfl⟩
    have hq2 : H4 q2 = some (.lst xs) := by rw [← hL, hxs]; exact upd_same
    have sB := sA.trans sq
    have etq2 := sq _ _ etq
    have elq2 := sq _ _ elq
    have hp4 := hp3.keep sB
    have ht4 := ht3.ext sB
    have hl4 := sB _ _ hl3
    have ha4 := ha3.same sB
    have ov4 := ov.same sB
    clear hL sq etq elq sA stq slq ftq flq fq2 ha3 hl3 ht3 ov
    refine ⟨p, pl, q2, _, xs, rfl, hp4, by omega, SqL.of hq2, qp, by rw [hxs]; show 0 < 7; decide, by rw [hxs]; show 7 < 1000000; decide, fun j u H5 hj hp5 k5 => ?_⟩
    have ht5 := Lw.Tabs.kp ht4 hp4 k5
    have ap : a ≠ p := ch_off ha4 hp4
    have ha5 := ha4.kp hp4 k5
    have hl5 := k5 _ _ lp hl4
    have etq5 := k5 _ _ tqp etq2
    have elq5 := k5 _ _ lqp elq2
    have ov5 := ov4.kp offp k5
    obtain ⟨bv, offq⟩ : OdP (RM K CC) H5 u ∧ Off u p := by
      have hv := List.mem_of_getElem? hj
      rw [hxs] at hv
      simp only [List.mem_cons, List.not_mem_nil, or_false] at hv
      rcases hv with rfl | rfl | rfl | rfl | rfl | rfl | rfl
      · exact ⟨odp_in (fun a e => by cases e) fun _ => ⟨.non, rfl, .inl ⟨_, .bare (.base .non) (by decide)⟩⟩, off_no (fun a e => by cases e)⟩
      · exact ⟨odp_in (fun a e => by cases e) fun _ => ⟨.int _, rfl, .inl ⟨_, .int _⟩⟩, off_no (fun a e => by cases e)⟩
      · exact ⟨odp_in (fun a e => by cases e) fun _ => ⟨.bl _, rfl, .inl ⟨_, .bl _⟩⟩, off_no (fun a e => by cases e)⟩
      · exact ⟨odp_in (fun a e => by cases e) fun _ => ⟨.str _, rfl, .inl ⟨_, .bare (.base (.str _)) (by decide)⟩⟩, off_no (fun a e => by cases e)⟩
      · exact ⟨odp_at etq5 (fun ps z => by cases z) fun _ e => ⟨any_tup e, rfl, .inl ⟨_, .bare (.base (.tup e)) (by decide)⟩⟩, off_ref tqp⟩
      · exact ⟨odp_at elq5 (fun ps z => by cases z) fun _ e => ⟨any_lst e, rfl, .inl ⟨_, .bare (.base (.lst e)) (by decide)⟩⟩, off_ref lqp⟩
      · obtain ⟨dx, pz, e0, r0, hi, _⟩ := id ha5
        exact ⟨odp_at hi (fun ps z => by cases z) fun _ e => ⟨N.any e, rfl, .inr ⟨_, _, _, rfl, e⟩⟩, off_ref ap⟩
    clear hj hq2 etq2 elq2 etq5 elq5 ht4 hp4 ha4 hl4 k5 hxs sB hp3 ov4
    clear xs
    dsimp only [gName, tSeq]
    obtain ⟨dx5, p5, e5, r5, hi5, hs5, _⟩ := id ha5
    refine ⟨_, rfl, _, rfl, _, rfl, a, CC, dx5, _, _, rfl, hi5, Z.cl, Z.n2, chF_total _ _ _ _, _, _, rfl, rfl, (by show 1 ≤ sizeLine; decide), fun tq ftq => ⟨(by show 0 ≤ sizeLine; decide), fun lq flq => ⟨_, rfl, (by show 8 ≤ sizeLine; decide), fun q3 fq3 => ?_⟩⟩⟩
    have stq := same_new (o := HO.tup [V.int 0]) ftq
    have slq := same_new (o := HO.lst []) flq
    have etq := slq _ _ (upd_same (H := H5) (a := tq) (o := HO.tup [V.int 0]))
    have elq := upd_same (H := upd H5 tq (.tup [V.int 0])) (a := lq) (o := HO.lst [])
    have sA := stq.trans slq
    have tqp := hp5.ne_new ftq
    have lqp := (hp5.keep stq).ne_new flq
    have qp := (hp5.keep sA).ne_new fq3
    generalize hL : upd (upd (upd H5 tq (HO.tup [V.int 0])) lq (HO.lst [])) q3 _ = H6
    have sq : Same (upd (upd H5 tq (HO.tup [V.int 0])) lq (HO.lst [])) H6 := by rw [← hL]; exact same_new fq3
    obtain ⟨xs, hxs⟩ : ∃ xs, xs = [V.non, V.int (-1), V.int (ns.sum + 1), V.bl true, V.str (Str.ofString "0"), V.ref tq, V.ref lq, V.ref a] := ⟨_, rfl⟩
    have hq3 : H6 q3 = some (.lst xs) := by rw [← hL, hxs]; exact upd_same
    have sB := sA.trans sq
    have etq2 := sq _ _ etq
    have elq2 := sq _ _ elq
    have hp6 := hp5.keep sB
    have ht6 := ht5.ext sB
    have hl6 := sB _ _ hl5
    have ha6 := ha5.same sB
    have ov6 := ov5.same sB
    have bv6 := bv.same sB
    clear hL sq etq elq sA stq slq ftq flq fq3 hl5 ht5 ov5 bv
    refine ⟨p, pl, q3, _, xs, rfl, hp6, by omega, SqL.of hq3, qp, by rw [hxs]; show 0 < 8; decide, by rw [hxs]; show 8 < 1000000; decide, fun j f H7 hj hp7 k7 => ?_⟩
    have ht7 := Lw.Tabs.kp ht6 hp6 k7
    have ha7 := ha6.kp hp6 k7
    have hl7 := k7 _ _ lp hl6
    have etq7 := k7 _ _ tqp etq2
    have elq7 := k7 _ _ lqp elq2
    have ov7 := ov6.kp offp k7
    have bv7 := bv6.kp offq k7
    have fv : OdP (RB K ns.sum) H7 f := by
      have hv := List.mem_of_getElem? hj
      rw [hxs] at hv
      simp only [List.mem_cons, List.not_mem_nil, or_false] at hv
      rcases hv with rfl | rfl | rfl | rfl | rfl | rfl | rfl | rfl
      · exact odp_in (fun a e => by cases e) fun _ => ⟨.non, rfl⟩
      · exact odp_in (fun a e => by cases e) fun _ => ⟨.int _, inB_no (.inl (by decide))⟩
      · exact odp_in (fun a e => by cases e) fun _ => ⟨.int _, inB_no (.inr (by omega))⟩
      · exact odp_in (fun a e => by cases e) fun _ => ⟨.bl _, rfl⟩
      · exact odp_in (fun a e => by cases e) fun _ => ⟨.str _, rfl⟩
      · exact odp_at etq7 (fun ps z => by cases z) fun _ e => ⟨any_tup e, rfl⟩
      · exact odp_at elq7 (fun ps z => by cases z) fun _ e => ⟨any_lst e, rfl⟩
      · obtain ⟨dx, pz, e0, r0, hi, _⟩ := id ha7
        exact odp_at hi (fun ps z => by cases z) fun _ e => ⟨N.any e, rfl⟩
    clear hj hq3 etq2 elq2 etq7 elq7 ht6 hp6 ha6 hl6 k7 hxs sB hp5 ov6 bv6 hi5 hs5 ha5
    clear xs
    dsimp only [gName, tSeq]
    have G7 : Gz K CC TS p pl _ a ns l v u f H7 := ⟨hp7, ht7, ha7, hl7, ov7, bv7, fv⟩
    clear hp7 ht7 ha7 hl7 ov7 bv7 fv
    refine ⟨G7.ht, fun H8 x8 t8 H9 s9 => ⟨_, rfl, _, rfl, ?_⟩⟩
    have G9 := (G7.ext x8 t8).same s9
    clear G7 x8 t8 s9
    obtain ⟨dxa, _, _, _, hia, _⟩ := id G9.ha
    obtain ⟨T1, hb1, hn1⟩ := G9.ov.get
    refine ⟨a, dxa, _, T1, rfl, hia, hb1, a, ns, _, rfl, G9.ha, sn, by omega, .inl ⟨hn1, hd_part fun a1 H8 s8 n8 h8 => ⟨(by show 1 ≤ sizeLine; decide), fun l1 fl1 => ?_⟩⟩⟩
    have G8 := G9.same s8
    have A1 := AccL.one fl1 h8
    have F1 := G8.fr fl1
    have G10 := G8.same (same_new (o := HO.lst [V.ref a1]) fl1)
    clear G8 G9 s8 n8 h8 fl1 hia hb1 hn1
    revert A1 G10
    generalize upd H8 l1 _ = H9
    intro A1 G9
    dsimp only [gName, tSeq]
    refine ⟨_, rfl, .inl ⟨rfl, _, SqL.of A1.at_⟩, G9.ht, fun H5 x5 t5 H6 s6 => ⟨_, rfl, _, rfl, ?_⟩⟩
    have G7 := (G9.ext x5 t5).same s6
    have A2 := (A1.extn x5).extn (ExtN.of s6)
    clear G9 A1 x5 t5 s6
    obtain ⟨dxa, _, _, _, hia, _⟩ := id G7.ha
    refine mu_in hia G7.bv.get.2.2 ⟨a, ns, _, rfl, G7.ha, sn, by omega, G7.bv.get.1, fun _ => hd_part fun a2 H8 s8 n8 h8 => ⟨l1, _, _, rfl, rfl, (A2.extn (ExtN.of s8)).at_, (by show 1 < sizeLine; decide), ?_⟩, no_n0 G7.bv.get.2.1⟩
    have A1 := (A2.extn (ExtN.of s8)).push h8
    have G9 := (G7.same s8).put (ys := [V.ref a1] ++ [V.ref a2]) F1 (A2.extn (ExtN.of s8)).at_
    clear A2 G7 s8 n8 h8 hia
    revert A1 G9
    simp only [List.map_cons, List.map_nil]
    generalize upd H8 l1 _ = H9
    intro A1 G9
    dsimp only [tSeq]
    refine ⟨_, rfl, .inl ⟨rfl, _, SqL.of A1.at_⟩, G9.ht, fun H5 x5 t5 H6 s6 => ?_⟩
    have G7 := (G9.ext x5 t5).same s6
    have A2 := (A1.extn x5).extn (ExtN.of s6)
    clear G9 A1 x5 t5 s6
    obtain ⟨dxa, _, _, _, hia, _⟩ := id G7.ha
    refine ⟨_, rfl, a, dxa, _, rfl, hia, chF_none _ _ _ _ (by decide) (by decide) (by decide) (by decide), _, rfl, ?_⟩
    dsimp only [tNil]
    refine ⟨a, ns, _, rfl, G7.ha, sn, by omega, G7.fv.get.1, fun _ => hd_part fun a3 H8 s8 n8 h8 => ⟨l1, _, _, rfl, rfl, (A2.extn (ExtN.of s8)).at_, (by show 2 < sizeLine; decide), ?_⟩, no_in G7.fv.get.2⟩
    have A1 := (A2.extn (ExtN.of s8)).push h8
    have G9 := (G7.same s8).put (ys := [V.ref a1, V.ref a2] ++ [V.ref a3]) F1 (A2.extn (ExtN.of s8)).at_
    clear A2 G7 s8 n8 h8 hia
    revert A1 G9
    simp only [List.map_cons, List.map_nil, List.cons_append, List.nil_append]
    generalize upd H8 l1 _ = H9
    intro A1 G9
    dsimp only [tSeq]
    refine ⟨_, rfl, .inl ⟨rfl, _, SqL.of A1.at_⟩, G9.ht, fun H5 x5 t5 H6 s6 => ?_⟩
    have G7 := (G9.ext x5 t5).same s6
    have A2 := (A1.extn x5).extn (ExtN.of s6)
    clear G9 A1 x5 t5 s6
    obtain ⟨dxa, _, _, _, hia, _⟩ := id G7.ha
    refine ⟨_, rfl, a, dxa, _, rfl, hia, chF_none _ _ _ _ (by decide) (by decide) (by decide) (by decide), _, rfl, ?_⟩
    dsimp only [tNil]
    refine ⟨a, ns, _, rfl, G7.ha, by omega, G7.fv.get.1, fun _ => hd_part fun a4 H8 s8 n8 h8 => ⟨l1, _, _, rfl, rfl, (A2.extn (ExtN.of s8)).at_, (by show 3 < sizeLine; decide), ?_⟩, no_in G7.fv.get.less⟩
    have A1 := (A2.extn (ExtN.of s8)).push h8
    have G9 := (G7.same s8).put (ys := [V.ref a1, V.ref a2, V.ref a3] ++ [V.ref a4]) F1 (A2.extn (ExtN.of s8)).at_
    clear A2 G7 s8 n8 h8 hia
    revert A1 G9
    simp only [List.map_cons, List.map_nil, List.cons_append, List.nil_append]
    generalize upd H8 l1 _ = H9
    intro A1 G9
    dsimp only [tSeq]
    refine ⟨_, rfl, .inl ⟨rfl, _, SqL.of A1.at_⟩, G9.ht, fun H5 x5 t5 H6 s6 => ?_⟩
    have G7 := (G9.ext x5 t5).same s6
    have A2 := (A1.extn x5).extn (ExtN.of s6)
    clear G9 A1 x5 t5 s6
    obtain ⟨dxa, _, _, _, hia, _⟩ := id G7.ha
    refine ⟨_, rfl, a, dxa, _, rfl, hia, chF_none _ _ _ _ (by decide) (by decide) (by decide) (by decide), _, rfl, a, CC, dxa, _, _, rfl, hia, Z.cl, Z.n2, chF_total _ _ _ _, ?_⟩
    dsimp only [tNil]
    refine ⟨a, ns, _, rfl, G7.ha, by omega, .int _, fun _ => hd_part fun a5 H8 s8 n8 h8 => ⟨l1, _, _, rfl, rfl, (A2.extn (ExtN.of s8)).at_, (by show 4 < sizeLine; decide), ?_⟩, no_in (inB_no (.inr (by omega)))⟩
    have A1 := (A2.extn (ExtN.of s8)).push h8
    have G9 := (G7.same s8).put (ys := [V.ref a1, V.ref a2, V.ref a3, V.ref a4] ++ [V.ref a5]) F1 (A2.extn (ExtN.of s8)).at_
    clear A2 G7 s8 n8 h8 hia
    revert A1 G9
    simp only [List.map_cons, List.map_nil, List.cons_append, List.nil_append]
    generalize upd H8 l1 _ = H9
    intro A1 G9
    dsimp only [tSeq]
    refine ⟨(by show 2 ≤ sizeLine; decide), fun d1 f1 => ⟨(by show 2 ≤ sizeLine; decide), fun d2 f2 => ⟨(by show 2 ≤ sizeLine; decide), fun d3 f3 => ⟨(by show 2 ≤ sizeLine; decide), fun d4 f4 => ⟨(by show 2 ≤ sizeLine; decide), fun d5 f5 => ⟨(by show 5 ≤ sizeLine; decide), fun q fq => ?_⟩⟩⟩⟩⟩⟩
    have S1 := same_new (o := HO.tup [V.str (Str.ofString "chunks"), V.str (Str.ofString "other")]) f1
    have S2 := same_new (o := HO.tup [V.str (Str.ofString "chunks"), V.str (Str.ofString "times")]) f2
    have S3 := same_new (o := HO.tup [V.str (Str.ofString "chunks"), V.str (Str.ofString "at")]) f3
    have S4 := same_new (o := HO.tup [V.str (Str.ofString "chunks"), V.str (Str.ofString "item")]) f4
    have S5 := same_new (o := HO.tup [V.str (Str.ofString "chunks"), V.str (Str.ofString "item")]) f5
    have S6 := same_new (o := HO.lst [V.ref d1, V.ref d2, V.ref d3, V.ref d4, V.ref d5]) fq
    have e1 := (S6 _ _ (S5 _ _ (S4 _ _ (S3 _ _ (S2 _ _ (upd_same (a := d1)))))))
    have e2 := (S6 _ _ (S5 _ _ (S4 _ _ (S3 _ _ (upd_same (a := d2))))))
    have e3 := (S6 _ _ (S5 _ _ (S4 _ _ (upd_same (a := d3)))))
    have e4 := (S6 _ _ (S5 _ _ (upd_same (a := d4))))
    have e5 := (S6 _ _ (upd_same (a := d5)))
    have sA := ((((S1.trans S2).trans S3).trans S4).trans S5).trans S6
    have A3 : AccL (upd (upd (upd (upd (upd (upd (H9) d1 (HO.tup [V.str (Str.ofString "chunks"), V.str (Str.ofString "other")])) d2 (HO.tup [V.str (Str.ofString "chunks"), V.str (Str.ofString "times")])) d3 (HO.tup [V.str (Str.ofString "chunks"), V.str (Str.ofString "at")])) d4 (HO.tup [V.str (Str.ofString "chunks"), V.str (Str.ofString "item")])) d5 (HO.tup [V.str (Str.ofString "chunks"), V.str (Str.ofString "item")])) q (HO.lst [V.ref d1, V.ref d2, V.ref d3, V.ref d4, V.ref d5])) q [(d1, Str.ofString "chunks", Str.ofString "other"), (d2, Str.ofString "chunks", Str.ofString "times"), (d3, Str.ofString "chunks", Str.ofString "at"), (d4, Str.ofString "chunks", Str.ofString "item"), (d5, Str.ofString "chunks", Str.ofString "item")] := by
      refine ⟨upd_same, fun t ht => ?_⟩
      simp only [List.mem_cons, List.not_mem_nil, or_false] at ht
      rcases ht with rfl | rfl | rfl | rfl | rfl
      · exact e1
      · exact e2
      · exact e3
      · exact e4
      · exact e5
    have A2 := A1.extn (ExtN.of sA)
    have G7 := G9.same sA
    clear A1 G9 F1 S1 S2 S3 S4 S5 S6 e1 e2 e3 e4 e5 f1 f2 f3 f4 f5 fq sA
    revert A2 A3 G7
    generalize upd (upd (upd (upd (upd (upd H9 d1 _) d2 _) d3 _) d4 _) d5 _) q _ = H9
    intro A3 A2 G9
    dsimp only [gName, tSeq]
    have D1 : Dp K H9 (.ref l1) (pL [(Str.ofString "chunks", Str.ofString "other"), (Str.ofString "chunks", Str.ofString "times"), (Str.ofString "chunks", Str.ofString "at"), (Str.ofString "chunks", Str.ofString "item"), (Str.ofString "chunks", Str.ofString "item")]) := A2.dp
    have D2 : Dp K H9 (.ref q) (pL [(Str.ofString "chunks", Str.ofString "other"), (Str.ofString "chunks", Str.ofString "times"), (Str.ofString "chunks", Str.ofString "at"), (Str.ofString "chunks", Str.ofString "item"), (Str.ofString "chunks", Str.ofString "item")]) := A3.dp
    have sh : SeqAt.shaped (pL [(Str.ofString "chunks", Str.ofString "other"), (Str.ofString "chunks", Str.ofString "times"), (Str.ofString "chunks", Str.ofString "at"), (Str.ofString "chunks", Str.ofString "item"), (Str.ofString "chunks", Str.ofString "item")]) = true := by decide +kernel
    clear A2 A3
    have ev : PyData.eqv (pL [(Str.ofString "chunks", Str.ofString "other"), (Str.ofString "chunks", Str.ofString "times"), (Str.ofString "chunks", Str.ofString "at"), (Str.ofString "chunks", Str.ofString "item"), (Str.ofString "chunks", Str.ofString "item")]) (pL [(Str.ofString "chunks", Str.ofString "other"), (Str.ofString "chunks", Str.ofString "times"), (Str.ofString "chunks", Str.ofString "at"), (Str.ofString "chunks", Str.ofString "item"), (Str.ofString "chunks", Str.ofString "item")]) = true := by decide +kernel
    obtain ⟨dxa, pz, _, _, hia, hpz, _⟩ := id G9.ha
    refine ⟨_, rfl, _, rfl, _, _, D1, D2, sh, sh, ?_⟩
    rw [ev]
    refine ⟨true, rfl, _, rfl, a, CC, dxa, _, _, rfl, hia, Z.cl, Z.n1, chF_sizes _ _ _ _, _, rfl, l, _, rfl, .inl ⟨SqL.of G9.hl, fun tq ftq => ?_⟩⟩
    have stq := same_new (o := HO.tup (ns.map V.int)) ftq
    refine ⟨tI ns, tI ns, .tup (SqT.of (stq _ _ hpz)) (dp_ints ns), .tup (SqT.of upd_same) (dp_ints ns), shaped_ints ns, shaped_ints ns, ?_⟩
    rw [eqv_tI, decide_eq_true rfl]
    have G10 := G9.same stq
    exact k _ (G10.hp.more (by omega)) G10.ht
end
end Lw
namespace Lw
open PySem PySem.Spec PyProof.Rows L2
open SX PySem.NumText TL LamX ClX StX
abbrev sLaw : Stmt := top 37
/-- the law's def, its code object known -/
structure LawC (K : PySem.W.Frag) (x : Str) (st : Stmt) (f : Addr) (fd : FuncData) (c : Addr) : Prop where
  ex : ∃ (oc : Value) (od : Option Addr) (dV kV doc pm : Value) (an : Option Addr) (ct : Value) (osl : Array (Option Value)),
    fd = PySem.W.fnOf x x (C8.fnArgs st) (C8.fnBody st) (C8.fnScope st) dV kV doc pm an (.ref c) ct ∧ K.lookup f = some ⟨oc, od, .func fd, osl⟩ ∧ PySem.W.codeIn K (.ref c) x = true
theorem fnGC {P : Program} {w : World} {K : PySem.W.Frag} {mg : Str → Option Value} {base : Heap} {x : Str} {st : Stmt} {f c : Addr} {fd : FuncData} {N ps : List Str} {k : Nat} {sp : Sp} (F : LawC K x st f fd c) (S : FnScope N ps (C8.fnScope st)) (len : ∀ vs H Q E, sp vs H Q E → vs.length = ps.length)
    (body : ∀ (A : Around) (outer : List Env) (s : Shared) (H : Hp) (vs : List V) (Q : VK) (E : XK), (A.deeper (envOfC x (C8.fnScope st) s.heap.objs.size f (.ref c))).guards = some [] → Room k (A.deeper (envOfC x (C8.fnScope st) s.heap.objs.size f (.ref c))) → sp vs H Q E →
      ∃ t, PSs (cxOf C8.CX0 P w K mg base N x (C8.fnScope st) f (.ref c) A outer s H E).nox (C8.fnBody st) t ∧ t { nx := fun _ H' => Q .non H', rt := Q } (start N vs) H) : FnG P w K mg base (k + 1) f fd ps sp := by
  refine ⟨len, ?_⟩
  intro A outer s H args us vs Q E hg hr e0 hb r hs
  obtain ⟨oc, od, dV, kV, doc, pm, an, ct, osl, rfl, lk, hcd⟩ := F.ex
  refine LamX.run_ofS lk hcd S hr e0 hb r (len _ _ _ _ hs) fun hr' => ?_
  obtain ⟨t, h1, h2⟩ := body A outer s H vs Q E hg hr' hs
  exact ⟨t, h1.nox, h2⟩
/-! ### answers gathered in a list -/
structure Acc (H : Hp) (l : Addr) (ts : List Addr) (x : List V) : Prop where
  at_ : H l = some (.lst (ts.map V.ref))
  all : ∀ t ∈ ts, H t = some (.tup x)
theorem Acc.extn {H H' : Hp} {l : Addr} {ts : List Addr} {x : List V} (a : Acc H l ts x) (e : ExtN H H') : Acc H' l ts x := ⟨e _ _ a.at_ (fun ps z => by cases z), fun t ht => e _ _ (a.all t ht) (fun ps z => by cases z)⟩
theorem Acc.push {H : Hp} {l t : Addr} {ts : List Addr} {x : List V} (a : Acc H l ts x) (h : H t = some (.tup x)) : Acc (upd H l (.lst (ts.map V.ref ++ [V.ref t]))) l (ts ++ [t]) x := by
  have ne : ∀ {u : Addr}, H u = some (.tup x) → u ≠ l := fun e z => by rw [z, a.at_] at e; cases e
  refine ⟨by rw [upd_same, List.map_append]; rfl, fun u hu => ?_⟩
  rcases List.mem_append.mp hu with hu | hu
  · rw [upd_ne (ne (a.all u hu))]; exact a.all u hu
  · rw [List.mem_singleton.mp hu, upd_ne (ne h)]; exact h
theorem Acc.one {H : Hp} {l t : Addr} {x : List V} (hl : H l = none) (h : H t = some (.tup x)) : Acc (upd H l (.lst [V.ref t])) l [t] x := by
  refine ⟨upd_same, fun u hu => ?_⟩
  rw [List.mem_singleton.mp hu, upd_ne (ne_of_none h hl)]; exact h
theorem dp_reps {K : PySem.W.Frag} {H : Hp} {d : PyData} : ∀ {ts : List Addr}, (∀ t ∈ ts, Dp K H (.ref t) d) → DpAll K H (ts.map V.ref) (List.replicate ts.length d)
  | [], _ => .nil
  | t :: r, h => .cons (h t List.mem_cons_self) (dp_reps fun u hu => h u (List.mem_cons_of_mem _ hu))
theorem Acc.dp {K : PySem.W.Frag} {H : Hp} {l : Addr} {ts : List Addr} {x : List V} {d : PyData} (a : Acc H l ts x) (h : ∀ t, H t = some (.tup x) → Dp K H (.ref t) d) : Dp K H (.ref l) (.list (List.replicate ts.length d)) := .lst (SqL.of a.at_) (dp_reps fun t ht => h t (a.all t ht))
theorem shaped_reps {d : PyData} (h : d.canLay0 = true) (hd : d.depth ≤ 10) (n : Nat) : SeqAt.shaped (.list (List.replicate n d)) = true := by
  have h1 : ∀ n, PyData.canLayAll0 (List.replicate n d) = true := fun n => by
    induction n with
    | zero => rfl
    | succ n ih => rw [List.replicate_succ]; show (d.canLay0 && PyData.canLayAll0 (List.replicate n d)) = true; rw [h, ih]; rfl
  have h2 : ∀ n, PyData.depthAll (List.replicate n d) ≤ 10 := fun n => by
    induction n with
    | zero => exact Nat.zero_le _
    | succ n ih => rw [List.replicate_succ]; show max d.depth (PyData.depthAll (List.replicate n d)) ≤ 10; omega
  unfold SeqAt.shaped
  rw [show PyData.canLay0 (.list (List.replicate n d)) = true from h1 n]
  have h3 : PyData.depth (.list (List.replicate n d)) ≤ 64 := by
    show PyData.depthAll (List.replicate n d) + 1 ≤ 64
    have := h2 n
    omega
  rw [decide_eq_true h3]; rfl
theorem eqv_reps {d : PyData} (h : PyData.eqv d d = true) (n : Nat) : PyData.eqv (.list (List.replicate n d)) (.list (List.replicate n d)) = true := by
  show PyData.eqvAll (List.replicate n d) (List.replicate n d) = true
  induction n with
  | zero => rfl
  | succ n ih => rw [List.replicate_succ]; show (PyData.eqv d d && PyData.eqvAll (List.replicate n d) (List.replicate n d)) = true; rw [h, ih]; rfl
theorem Acc.reps {H : Hp} {q t : Addr} {x : List V} {n : Nat} (h : H q = some (.lst (List.replicate n [V.ref t]).flatten)) (ht : H t = some (.tup x)) : Acc H q (List.replicate n t) x := by
  refine ⟨?_, fun u hu => by rw [List.eq_of_mem_replicate hu]; exact ht⟩
  rw [h]
  have e : ∀ n, (List.replicate n [V.ref t]).flatten = List.map V.ref (List.replicate n t) := fun n => by
    induction n with
    | zero => rfl
    | succ n ih => rw [List.replicate_succ, List.replicate_succ, List.flatten_cons, ih]; rfl
  rw [e]
def pM : PyData := .tuple [.str (Str.ofString "many"), .str (Str.ofString "chunks"), .int 5000]
theorem dp_pM {K : PySem.W.Frag} {H : Hp} {t : Addr} (h : H t = some (.tup [.str (Str.ofString "many"), .str (Str.ofString "chunks"), .int 5000])) : Dp K H (.ref t) pM := .tup (SqT.of h) (.cons (.str _) (.cons (.str _) (.cons (.int _) .nil)))
theorem lay_pM : pM.canLay0 = true := by decide +kernel
theorem eqv_pM : PyData.eqv pM pM = true := by decide +kernel
theorem dep_pM : pM.depth ≤ 10 := by decide +kernel
section
variable {K : PySem.W.Frag} {CC DM DS DT DC DN : Addr} {H : Hp} {Q : VK}
theorem hd_many (k : ∀ t H8, Same H H8 → H t = none → H8 t = some (.tup [.str (Str.ofString "many"), .str (Str.ofString "chunks"), .int 5000]) → Q (.ref t) H8) : Mf DM H (HeardX K DC DS DT DN DM Q) := fun d fs H7 s7 hd f1 f2 =>
  have s8 : Same H (upd H7 d (.xd fs)) := s7.trans (same_new hd)
  .inr (.inr (.inr (.inr ⟨rfl, d, fs, _, _, rfl, upd_same, f1, f2, fun t H8 s9 n9 h9 => k t H8 (s8.trans s9) (s8.free n9) h9⟩)))
theorem out_many {ns : List Int} {E : XK} (l : 5000 < ns.length) (h : Mf DM H E) : OutC CC DM ns H Q E := ⟨fun z => absurd z (by omega), fun _ => h⟩
end
section
variable {X : Cx} {C : Addr} {k j : Nat} {sp : Sp} {E : XK} {nm : String}
theorem half_rgtK (K' : PySem.W.Frag) (hK : X.K = K') (M : MetX X.prog X.w X.K X.mg X.base k C (dunderR nm) sp) (hx : Passes (L2.CX X.prog X.w) X E) (hc : PySem.W.selfFirst X.K C = true) (hf : ∃ g : Addr, PySem.W.findIn X.K (.ref C) (PySem.dunder nm) = some (some (.ref g))) (hn : nm ∈ Ow.Nms) (nn : NoNum nm) (hs1 : PySem.W.subIn X.K (.ref C) (.type "int") = some false) (hs2 : PySem.W.subIn X.K (.ref C) (.type "bool") = some false)
    (hr : Room j X.A) (hk : k ≤ j) : HalfR X nm (rRght K' C sp E) := by
  subst hK
  exact half_rgt M hx hc hf hn nn hs1 hs2 hr hk
end
theorem ci_goodT {K : PySem.W.Frag} {CC DM DS : Addr} {H : Hp} {Q : VK} {E : XK} {ns : List Int} {ta : TA} {σ : L2.St} (ht : ∀ R : List V → Hp → Prop, R (ns.map V.int) H → ta σ H R) (sb : SzB ns) (l : ns.length ≤ 5000) (h : ∀ c H', Same H H' → H c = none → ChA CC H' c ns → Q (.ref c) H') : tMakeR CC (spSt K CC DM DS) E ta σ H Q :=
  ht _ fun x dx hx hdx ne => ci_made (Q := Q) (MkO.good sb (fun _ => h) (fun z => absurd z (by omega))) (any_ints K H ns) (by rw [List.length_map]; omega) x dx hx hdx ne
theorem rep_map (x : Int) : ∀ n : Nat, (List.replicate n [V.int x]).flatten = (List.replicate n x).map V.int
  | 0 => rfl
  | n + 1 => by rw [List.replicate_succ, List.replicate_succ, List.flatten_cons, rep_map x n]; rfl
theorem len_repL (ns : List Int) (k : Int) : (repL ns k).length = k.toNat * ns.length := by
  unfold repL
  generalize k.toNat = n
  induction n with
  | zero => rw [Nat.zero_mul]; rfl
  | succ n ih => rw [List.replicate_succ, List.flatten_cons, List.length_append, ih, Nat.succ_mul, Nat.add_comm]
theorem repL_nil (k : Int) : repL [] k = [] := List.eq_nil_of_length_eq_zero (by rw [len_repL]; rfl)
theorem ChA.lput {CC : Addr} {H : Hp} {c q : Addr} {ns : List Int} {xs : List V} (h : ChA CC H c ns) (hq : H q = some (.lst xs)) (ys : List V) : ChA CC (upd H q (.lst ys)) c ns := h.move fun b o e nl _ => by
  have : b ≠ q := fun z => by rw [z, hq] at e; cases e; exact nl _ rfl
  rw [upd_ne this]; exact e
theorem ad_out {K : PySem.W.Frag} {CC DM DC : Addr} {H : Hp} {Q : VK} {E : XK} {a b : Addr} {ns ms : List Int} (ha : ChA CC H a ns) (hb : ChA CC H b ms) (sn : SzB ns) (sm : SzB ms) (l1 : ns.length ≤ 5000) (l2 : ms.length ≤ 5000) (h : OutC CC DM (ns ++ ms) H Q E) : rOwn CC (spAd K CC DM DC) E (.ref a) (.ref b) H Q := by
  obtain ⟨dx, p, e, r, hi, _⟩ := id ha
  obtain ⟨dy, p2, e2, r2, hj, _⟩ := id hb
  exact ⟨a, dx, _, b, dy, _, rfl, rfl, hi, hj, a, ns, _, rfl, ha, sn, l1, .inr ⟨b, ms, rfl, hb, sm, l2, h⟩⟩
def spLaw (K : PySem.W.Frag) (T : List (Addr × Str)) : Sp := fun vs H Q _ => ∃ (a : Addr) (ns : List Int), vs = [.ref a] ∧ SqL K H a (ns.map V.int) ∧ ns.length ≤ 63 ∧ Tabs T H ∧ ∀ H', Q (.bl true) H'
section
variable {P : Program} {w : World} {K : PySem.W.Frag} {mg : Str → Option Value} {base : Heap}
theorem scLaw : FnScope ["_law_script", "_law_pen_here", "_law_turn", "_law_heard_here", "_law_great", "_law_half", "_law_none", "_law_sizes_here", "_law_others"] ["_law_script"] (C8.fnScope sLaw) := C8.fnScope_by (by decide +kernel)
theorem fn_law {f c B CC DC DS DT DN DM L gH fI : Addr} {TS : List (Addr × Str)} {mc : Value} {fd fdH : FuncData} (F : LawC K "law" sLaw f fd c) (FH : C8.Def K mg "_law_heard" sHea gH fdH) (bH : Binds K fdH ["_law_ask"] []) (TB : TabB base mg c B) (TO : TabOf TS B "law")
    (R : Hrd K mg DC DS DT DN DM L) (T : TxtM mg) (O : OpM P w K mg base CC DM DS DC fI mc) (XO : StO P w K mg base CC DM DS DC) (NC : NeC K CC)
    (XC : MetK1 P w K mg base CC "cut" "at" (spCut K CC DC)) (XP : MetK1 P w K mg base CC "place_of" "item" (spPl K CC DC))
    (D0 : C8.Cal P w K mg base 1 "_law_pen" (spPen K) []) (DZ : C8.Cal P w K mg base 3 "_law_sizes" spLsz []) (DJ : C8.Cal P w K mg base 15 "_law_joined_right" spJr []) (DK : C8.Cal P w K mg base 15 "_law_cut_right" spLcr []) (DRR : CalG P w K mg base 15 "_law_refused_right" (spRr TS) []) : FnG P w K mg base 18 f fd ["_law_script"] (spLaw K TS) := by
  have CM := O.CM
  have ME := O.ME
  have ML := O.ML
  obtain ⟨ocH, odH, dVH, kVH, docH, pmH, anH, cdvH, ctH, oslH, rfl, lkH, cdH⟩ := FH.fn.ex
  obtain ⟨pO, gO, fdO, SO, FO, bO⟩ := XO.ex
  obtain ⟨gC, fdC, gUC, hC, FC, bC, KBC⟩ := XC.ex
  obtain ⟨gP, fdP, gUP, hP, FP, bP, KBP⟩ := XP.ex
  refine fnGC F scLaw (fun vs H Q E h => ?_) (fun A outer st H vs Q E hG hr h => ?_)
  · obtain ⟨a, ns, rfl, _⟩ := h
    rfl
  · obtain ⟨a, ns, rfl, hs, hl, ht, k⟩ := h
    refine ⟨_, (pss_cons (ps_set (i := 1) scLaw.nd rfl (Or.inl rfl) (C8.pe_c D0 hr (by decide) (by rfl) (pa_cons (pv 0) pa_nil)))
  (pss_cons (ps_for PassesOwn.never rfl (pi_range1 (by rfl) T.n_range (pa_cons pe_int pa_nil)) (pg_name (i := 2) scLaw.nd rfl (Or.inl rfl)) (pss_cons (ps_par (i := 7) (j := 8) rfl scLaw.nd rfl rfl (by decide) rfl rfl (pa_cons (C8.pe_c DZ hr (by decide) (by rfl) (pa_cons (pv 1) (pa_cons pe_int pa_nil))) (pa_cons (C8.pe_c DZ hr (by decide) (by rfl) (pa_cons (pv 1) (pa_cons pe_int pa_nil))) pa_nil)) (by rfl))
  (pss_one (ps_if (PW.pt (pw_or (pt_not (pt_val (C8.pe_c DJ hr (by decide) (by rfl) (pa_cons (pv 1) (pa_cons (pv 7) (pa_cons (pv 8) pa_nil)))))) (pw_or (pt_not (pt_val (C8.pe_c DK hr (by decide) (by rfl) (pa_cons (pv 1) (pa_cons (pv 7) pa_nil))))) (pw_or1 (pt_not (pt_val (pe_g DRR hG hr (by decide) (by rfl) (pa_cons (pv 1) (pa_cons (pv 7) pa_nil))))))))) (pss_one (ps_ret pe_bl)) pss_nil))))
  (pss_cons (ps_asg (pe_tup (pa_cons (pe_static (E := C8.E0) (pe_glob (v := .ref CC) (by rfl) CM.Z.hm rfl) SO FO (hr.mono (by decide)) bO .nil (passes_call takes0 (fun _ _ _ _ z => z)) (pa_cons (pe_op op_rep (pe_lst (pa_cons pe_int pa_nil)) pe_int) pa_nil)) (pa_cons (pe_makeR0 (E := C8.E0) CM.M CM.F (hr.mono (by decide)) (by rfl) CM.Z.hm (passes_call takes0 (fun _ _ _ _ z => z))) pa_nil))) (pg_tup (by rfl) (pgs_cons (pg_name (i := 5) scLaw.nd rfl (Or.inr rfl)) (pgs_cons (pg_name (i := 6) scLaw.nd rfl (Or.inl rfl)) pgs_nil))))
  (pss_cons (ps_set (i := 3) scLaw.nd rfl (Or.inl rfl) (pe_lst (pa_cons (pe_lamcall (k := 14) (T := TS) (TT := TTheard K DC DS DT DN DM) (by rfl) FH.mgf FH.kp lkH cdH bH scHea rfl (.inl rfl) (heard_gives R T.toTxt hG (hr.mono (by decide))) TB rfl TO.mem TO.own (hr.mono (by decide)) (lamS_by (by rfl)) rfl (fun _ _ _ _ _ => rfl)
      (fun A outer s H E f c2 hr2 => (by exact (pe_op (op_of (op := .Add) (half_own (nm := "add") O.MA (passes_call (takes_of rfl rfl rfl rfl) (fun _ _ _ _ z => z)) O.first hr2 (Nat.le_of_ble_eq_true rfl))) (pe_op (op_of (op := .Add) (half_own (nm := "add") O.MA (passes_call (takes_of rfl rfl rfl rfl) (fun _ _ _ _ z => z)) O.first hr2 (Nat.le_of_ble_eq_true rfl))) (pv 5) (pv 5)) (pe_makeR CM.M CM.F (hr2.mono (by decide)) (by rfl) CM.Z.hm (passes_call (takes_of rfl rfl rfl rfl) (fun _ _ _ _ z => z)) (pa_cons pe_int pa_nil)))))) pa_nil)))
  (pss_cons (ps_expr (pe_bm PySem.F.plainAttrs_list PySem.F.slot_list_append PySem.F.type_list_append mt_append (pv 3) (pa_cons (pe_lamcall (k := 14) (T := TS) (TT := TTheard K DC DS DT DN DM) (by rfl) FH.mgf FH.kp lkH cdH bH scHea rfl (.inl rfl) (heard_gives R T.toTxt hG (hr.mono (by decide))) TB rfl TO.mem TO.own (hr.mono (by decide)) (lamS_by (by rfl)) rfl (fun _ _ _ _ _ => rfl)
      (fun A outer s H E f c2 hr2 => (by exact (pe_op (op_of (op := .Mult) (half_lftK K rfl (nm := "mul") O.MM (passes_call (takes_of rfl rfl rfl rfl) (fun _ _ _ _ z => z)) O.first O.rmul (by decide) hr2 (Nat.le_of_ble_eq_true rfl))) (pv 5) pe_int)))) pa_nil)))
  (pss_cons (ps_expr (pe_bm PySem.F.plainAttrs_list PySem.F.slot_list_append PySem.F.type_list_append mt_append (pv 3) (pa_cons (pe_lamcall (k := 14) (T := TS) (TT := TTheard K DC DS DT DN DM) (by rfl) FH.mgf FH.kp lkH cdH bH scHea rfl (.inl rfl) (heard_gives R T.toTxt hG (hr.mono (by decide))) TB rfl TO.mem TO.own (hr.mono (by decide)) (lamS_by (by rfl)) rfl (fun _ _ _ _ _ => rfl)
      (fun A outer s H E f c2 hr2 => (by exact (pe_op (op_of (op := .Mult) (half_rgtK K rfl (nm := "mul") O.MR (passes_call (takes_of rfl rfl rfl rfl) (fun _ _ _ _ z => z)) O.first O.mul (by decide) nn_mul O.s1 O.s2 hr2 (Nat.le_of_ble_eq_true rfl))) (pe_op op_pow pe_int pe_int) (pv 5))))) pa_nil)))
  (pss_cons (ps_if (PW.pt (pw_or (pt_cmpR (op_neD hr.units) (pv 3) (pe_op op_rep (pe_lst (pa_cons (pe_tup (pa_cons pe_str (pa_cons pe_str (pa_cons pe_int pa_nil)))) pa_nil)) pe_int) (nomark _)) (pw_or (pt_cmpR op_ne (pe_callB (call_lenOwn (E := C8.E0) ML (passes_call takes0 (fun _ _ _ _ z => z)) hr (by decide)) (by rfl) T.n_len (by decide +kernel) (pa_cons (pe_op (op_of (op := .Mult) (half_lft (nm := "mul") (E := C8.E0) O.MM (passes_call takes0 (fun _ _ _ _ z => z)) O.first O.rmul (by decide) hr (by decide))) (pv 5) pe_int) pa_nil)) pe_int (nomark _)) (pw_or1 (pt_cmpR (op_neR (E := C8.E0) NC ME (passes_call takes0 (fun _ _ _ _ z => z)) hr (by decide)) (pe_op (op_of (op := .Mult) (half_rgt (nm := "mul") (E := C8.E0) O.MR (passes_call takes0 (fun _ _ _ _ z => z)) O.first O.mul (by decide) nn_mul O.s1 O.s2 hr (by decide))) (pe_op op_pow pe_int pe_int) (pv 6)) (pv 6) (nomark _)))))) (pss_one (ps_ret pe_bl)) pss_nil)
  (pss_cons (ps_set (i := 4) scLaw.nd rfl (Or.inl rfl) (pe_makeR (E := C8.E0) CM.M CM.F (hr.mono (by decide)) (by rfl) CM.Z.hm (passes_call takes0 (fun _ _ _ _ z => z)) (pa_cons (pe_op op_pow pe_int pe_int) (pa_cons (pe_op op_pow pe_int pe_int) (pa_cons pe_int pa_nil)))))
  (pss_one (ps_ret (pe_and (pe_cmpR (op_eqD hr.units) (pe_fld (pe_ix ix_tup (pe_meth (E := C8.E0) (pv 4) CM.Z.cl hC FC (hr.mono (by decide)) bC .nil (passes_call takes0 (fun _ _ _ _ z => z)) (pa_cons (pe_op op_add (pe_op op_pow pe_int pe_int) pe_int) pa_nil)) pe_int (fun _ _ => rfl)) rfl) (pe_tup (pa_cons (pe_op op_sub (pe_op op_pow pe_int pe_int) pe_int) (pa_cons pe_int pa_nil))) (nomark _)) (pe_one (pe_cmpR op_eq (pe_meth (E := C8.E0) (pv 4) CM.Z.cl hP FP (hr.mono (by decide)) bP .nil (passes_call takes0 (fun _ _ _ _ z => z)) (pa_cons (pe_op op_mulW pe_int (pe_op op_pow pe_int pe_int)) pa_nil)) pe_int (nomark _)))))))))))))), ?_⟩
    have Z := CM.Z
    refine ⟨_, rfl, a, ns, rfl, hs, hl, fun p pl H1 hp1 s1 _ => ?_⟩
    have ht1 := ht.ext s1
    refine ⟨_, rfl, by decide, by decide, for_range (fun i σ' H' => ∃ x2 x7 x8, σ' = [some (V.ref a), some (V.ref p), x2, none, none, none, none, x7, x8] ∧ Pen H' p pl (722 * i) ∧ Tabs TS H') ⟨_, _, _, rfl, hp1, ht1⟩ ?_ ?_⟩
    · rintro i σ1 H2 hi ⟨x2, x7, x8, rfl, hp2, ht2⟩
      have hi6 : i < 6 := hi
      refine ⟨_, rfl, p, pl, _, 6, rfl, by decide, by decide, hp2, by omega, fun l1 n1 H3 sb1 le1 hl1 fr1 hp3 k3 => ⟨_, rfl, p, pl, _, 6, rfl, by decide, by decide, hp3, by omega, fun l2 n2 H4 sb2 le2 hl2 fr2 hp4 k4 => ?_⟩⟩
      have l1p := hp2.ne_new fr1
      have l2p := hp3.ne_new fr2
      have ht4 := Lw.Tabs.kp (Lw.Tabs.kp ht2 hp2 k3) hp3 k4
      have hl1' := k4 _ _ l1p hl1
      clear ht2 hp2 k3 hp3 k4 fr1 fr2 hl1 s1 hp1 ht1
      dsimp only [gName, tSeq]
      refine ⟨_, _, rfl, _, rfl, _, rfl, _, rfl, p, pl, _, l1, l2, n1, n2, rfl, hp4, by omega, hl1', hl2, l1p, l2p, sb1, sb2, by omega, by omega, fun H5 hp5 k5 => ⟨_, rfl, iteF ?_⟩⟩
      refine ⟨_, rfl, _, rfl, p, pl, _, l1, n1, rfl, hp5, by omega, k5 _ _ l1p hl1', l1p, sb1, by omega, fun H6 hp6 k6 => ⟨_, rfl, iteF ?_⟩⟩
      refine ⟨_, rfl, _, rfl, p, pl, _, l1, n1, rfl, hp6, by omega, k6 _ _ l1p (k5 _ _ l1p hl1'), l1p, sb1, by omega, Lw.Tabs.kp (Lw.Tabs.kp ht4 hp4 k5) hp5 k6, fun H7 hp7 ht7 => ⟨_, rfl, iteF ?_⟩⟩
      exact ⟨_, _, _, rfl, hp7.more (by omega), ht7⟩
    · rintro σ1 H2 ⟨x2, x7, x8, rfl, hp2, ht2⟩
      clear hp1 ht1 ht s1 hp2
      dsimp only [gName, tSeq]
      obtain ⟨tw, htw⟩ : ∃ tw : List Int, tw = List.replicate 2500 2 := ⟨_, rfl⟩
      have ltw : tw.length = 2500 := by rw [htw, List.length_replicate]
      have stw : SzB tw := fun v hv => by rw [htw] at hv; rw [List.eq_of_mem_replicate hv]; decide
      refine ⟨rfl, (by show 1 ≤ sizeLine; decide), fun lq fl => ⟨lq, 2500, _, rfl, rfl, upd_same, by decide, by decide, (by show 1 * 2500 ≤ sizeLine; decide), fun q fq => ?_⟩⟩
      have slq := (same_new (o := HO.lst [V.int 2]) fl).trans (same_new (o := HO.lst (List.replicate (Int.toNat 2500) [V.int 2]).flatten) fq)
      have hq : upd (upd H2 lq (HO.lst [V.int 2])) q (HO.lst (List.replicate (Int.toNat 2500) [V.int 2]).flatten) q = some (.lst (tw.map V.int)) := by rw [upd_same, rep_map, htw]; rfl
      have ht3 := ht2.ext slq
      clear htw slq fl fq ht2
      revert hq ht3
      generalize upd (upd H2 lq _) q _ = H3
      intro hq ht3
      refine of_lst hq stw (by omega) fun ch H4 s4 fc hc => ?_
      refine ci_none fun cn H5 s5 fn hcn => ⟨(by show 2 ≤ sizeLine; decide), fun tt ft => ?_⟩
      have st := same_new (o := HO.tup [V.ref ch, V.ref cn]) ft
      have ht4 := ((ht3.ext s4).ext s5).ext st
      have hc4 := (hc.same s5).same st
      have hcn4 := hcn.same st
      have htt : upd H5 tt (HO.tup [V.ref ch, V.ref cn]) tt = some (.tup [V.ref ch, V.ref cn]) := upd_same
      clear s4 s5 st ht3 hc hcn fc fn ft hq
      revert htt ht4 hc4 hcn4
      generalize upd H5 tt _ = H6
      intro ht4 hc4 hcn4 htt
      refine ⟨tt, _, rfl, SqT.of htt, rfl, _, _, rfl, _, _, rfl, rfl, ?_⟩
      dsimp only [tSeq]
      refine ⟨ht4, fun H7 x7 t7 H8 s8 => ⟨_, rfl, _, rfl, ?_⟩⟩
      have hc5 := (hc4.extn x7).same s8
      have s1 : SzB [1] := fun v hv => by rw [List.mem_singleton.mp hv]; decide
      refine ad_by hc5 hc5 stw stw (by omega) fun c2 H9 s9 fc2 hc2 => ?_
      refine ci_goodT (ns := [1]) (fun _ r => r) s1 (by decide) fun c3 H10 s10 fc3 hc3 => ?_
      refine ad_out (hc2.same s10) hc3 (stw.app stw) s1 (by rw [List.length_append]; omega) (by decide) (out_many (by rw [List.length_append, List.length_append, ltw]; decide) (hd_many fun a1 H11 s11 n11 h11 => ⟨(by show 1 ≤ sizeLine; decide), fun l1 fl1 => ?_⟩))
      have A1 := Acc.one fl1 h11
      have sl := same_new (o := HO.lst [V.ref a1]) fl1
      have t9 := ((((t7.ext s8).ext s9).ext s10).ext s11).ext sl
      have hc9 := (((hc5.same s9).same s10).same s11).same sl
      have hcn9 := (((((hcn4.extn x7).same s8).same s9).same s10).same s11).same sl
      clear sl hc5 hc4 hcn4 ht4 htt x7 t7 s8 s9 s10 s11 fc2 fc3 hc2 hc3 n11 h11 fl1
      revert A1 t9 hc9 hcn9
      generalize upd H11 l1 _ = H9
      intro A1 t9 hc9 hcn9
      dsimp only [gName, tSeq]
      refine ⟨_, rfl, .inl ⟨rfl, _, SqL.of A1.at_⟩, t9, fun H5 x5 t5 H6 s6 => ⟨_, rfl, ?_⟩⟩
      have A2 := (A1.extn x5).extn (ExtN.of s6)
      have t7 := t5.ext s6
      have hc7 := (hc9.extn x5).same s6
      have hcn7 := (hcn9.extn x5).same s6
      clear A1 t9 hc9 hcn9 x5 t5 s6
      refine mu_by hc7 stw (by omega) (by decide) (by decide) (out_many (by rw [len_repL, ltw]; decide) (hd_many fun a2 H8 s8 n8 h8 => ⟨l1, _, _, rfl, rfl, (A2.extn (ExtN.of s8)).at_, (by show 1 < sizeLine; decide), ?_⟩))
      have A1 : Acc (upd H8 l1 (.lst (List.map V.ref [a1] ++ [V.ref a2]))) l1 [a1, a2] _ := (A2.extn (ExtN.of s8)).push h8
      have t9 := Lw.Tabs.put (o := .lst (List.map V.ref [a1] ++ [V.ref a2])) (t7.ext s8) (A2.extn (ExtN.of s8)).at_
      have hc9 := (hc7.same s8).lput (A2.extn (ExtN.of s8)).at_ (List.map V.ref [a1] ++ [V.ref a2])
      have hcn9 := (hcn7.same s8).lput (A2.extn (ExtN.of s8)).at_ (List.map V.ref [a1] ++ [V.ref a2])
      clear A2 t7 s8 n8 h8 hc7 hcn7
      revert A1 t9 hc9 hcn9
      generalize upd H8 l1 _ = H9
      intro A1 t9 hc9 hcn9
      dsimp only [tSeq]
      refine ⟨_, rfl, .inl ⟨rfl, _, SqL.of A1.at_⟩, t9, fun H5 x5 t5 H6 s6 => ⟨_, _, rfl, rfl, (by unfold CPow; decide), _, rfl, ?_⟩⟩
      have A2 := (A1.extn x5).extn (ExtN.of s6)
      have t7 := t5.ext s6
      have hc7 := (hc9.extn x5).same s6
      have hcn7 := (hcn9.extn x5).same s6
      clear A1 t9 hc9 hcn9 x5 t5 s6
      refine rm_by hc7 stw (by omega) (by decide) (by decide) (out_many (by rw [len_repL, ltw]; decide) (hd_many fun a3 H8 s8 n8 h8 => ⟨l1, _, _, rfl, rfl, (A2.extn (ExtN.of s8)).at_, (by show 2 < sizeLine; decide), ?_⟩))
      have A1 : Acc (upd H8 l1 (.lst (List.map V.ref [a1, a2] ++ [V.ref a3]))) l1 [a1, a2, a3] _ := (A2.extn (ExtN.of s8)).push h8
      have t9 := Lw.Tabs.put (o := .lst (List.map V.ref [a1, a2] ++ [V.ref a3])) (t7.ext s8) (A2.extn (ExtN.of s8)).at_
      have hc9 := (hc7.same s8).lput (A2.extn (ExtN.of s8)).at_ (List.map V.ref [a1, a2] ++ [V.ref a3])
      have hcn9 := (hcn7.same s8).lput (A2.extn (ExtN.of s8)).at_ (List.map V.ref [a1, a2] ++ [V.ref a3])
      clear A2 t7 s8 n8 h8 hc7 hcn7
      revert A1 t9 hc9 hcn9
      generalize upd H8 l1 _ = H9
      intro A1 t9 hc9 hcn9
      dsimp only [tSeq]
      refine ⟨_, rfl, (by show 3 ≤ sizeLine; decide), fun tt ft => ⟨(by show 1 ≤ sizeLine; decide), fun lq fl => ⟨lq, 3, _, rfl, rfl, upd_same, by decide, by decide, (by show 1 * 3 ≤ sizeLine; decide), fun q fq => ?_⟩⟩⟩
      have S1 := same_new (o := HO.tup [V.str (Str.ofString "many"), V.str (Str.ofString "chunks"), V.int 5000]) ft
      have S2 := same_new (o := HO.lst [V.ref tt]) fl
      have S3 := same_new (o := HO.lst (List.replicate (Int.toNat 3) [V.ref tt]).flatten) fq
      have A2 := ((A1.extn (ExtN.of S1)).extn (ExtN.of S2)).extn (ExtN.of S3)
      have A3 : Acc _ q [tt, tt, tt] [V.str (Str.ofString "many"), V.str (Str.ofString "chunks"), V.int 5000] := Acc.reps (n := Int.toNat 3) (q := q) upd_same (S3 _ _ (S2 _ _ (upd_same (a := tt))))
      have hc8 := ((hc9.same S1).same S2).same S3
      have hcn8 := ((hcn9.same S1).same S2).same S3
      clear A1 t9 S1 S2 S3 ft fl fq hc9 hcn9
      revert A2 A3 hc8 hcn8
      generalize upd (upd (upd H9 tt _) lq _) q _ = H9
      intro A2 A3 hc8 hcn8
      refine ⟨.list (List.replicate 3 pM), .list (List.replicate 3 pM), A2.dp (fun _ h => dp_pM h), A3.dp (fun _ h => dp_pM h), shaped_reps lay_pM dep_pM 3, shaped_reps lay_pM dep_pM 3, _, rfl, iteF' ?_ ?_⟩
      · rw [eqv_reps eqv_pM]; rfl
      clear A2 A3
      refine ⟨_, rfl, mu_by hc8 stw (by omega) (by decide) (by decide) (few (by rw [len_repL, ltw]; decide) fun c5 H10 s10 fc5 hc5 => ?_)⟩
      have l5 : (repL tw 2).length = 5000 := by rw [len_repL, ltw]; decide
      obtain ⟨dx5, _, _, _, hi5, _⟩ := id hc5
      have hcn9 := hcn8.same s10
      refine ⟨c5, dx5, _, rfl, hi5, c5, _, rfl, hc5, _, rfl, by omega, by omega, rfl, _, rfl, iteF' (by rw [l5]; rfl) ?_⟩
      refine ⟨_, _, rfl, rfl, (by unfold CPow; decide), _, rfl, rm_by hcn9 (fun v hv => by cases hv) (by decide) (by decide) (by decide) (few (by rw [repL_nil]; decide) fun c6 H11 s11 fc6 hc6 => ?_)⟩
      rw [repL_nil] at hc6
      have hcn10 := hcn9.same s11
      obtain ⟨dx6, _, _, _, hi6, _⟩ := id hc6
      obtain ⟨dxn, _, _, _, hin, _⟩ := id hcn10
      refine ⟨_, rfl, c6, dx6, _, cn, dxn, _, rfl, hi6, rfl, hin, c6, cn, _, _, rfl, hc6.weak, hcn10.weak, _, rfl, _, rfl, iteF' (by rw [decide_eq_true rfl]; rfl) ?_⟩
      clear hi6 hin hc6 hcn10 fc6 s11 hcn9 hi5 l5 hc5 fc5 s10 hcn8 hc8
      dsimp only [tNext, tSeq]
      have s3 : SzB [10 ^ 30, 10 ^ 30, 1] := fun v hv => by
        simp only [List.mem_cons, List.not_mem_nil, or_false] at hv
        rcases hv with rfl | rfl | rfl <;> decide
      refine ci_goodT (ns := [10 ^ 30, 10 ^ 30, 1]) (fun R r => ⟨_, _, rfl, rfl, (by unfold CPow; decide), _, _, rfl, rfl, (by unfold CPow; decide), r⟩) s3 (by decide) fun cg H12 s12 fg hcg => ?_
      obtain ⟨dxg, _, _, _, hig, _⟩ := id hcg
      dsimp only [gName]
      refine ⟨_, rfl, cg, dxg, _, rfl, hig, chF_none _ _ _ _ (by decide) (by decide) (by decide) (by decide), _, _, rfl, rfl, (by unfold CPow; decide), _, _, rfl, rfl, ?_⟩
      dsimp only [tNil]
      refine cut_by (t := 10 ^ 30 + 1) hcg s3 (by decide) (by decide) (by decide +kernel) fun c1 c2 q H13 s13 fq h1 h2 hq => ?_
      obtain ⟨dx2, p2', _, _, hi2, hp2, _⟩ := id h2
      refine ⟨q, _, 1, _, rfl, rfl, SqT.of hq, atI_nat (j := 1) rfl, c2, CC, dx2, _, _, rfl, hi2, Z.cl, Z.n1, chF_sizes _ _ _ _, ?_⟩
      refine ⟨_, _, rfl, rfl, (by unfold CPow; decide), _, _, rfl, rfl, (by show 2 ≤ sizeLine; decide), fun tt ft => ?_⟩
      have st := same_new (o := HO.tup [V.int (10 ^ Int.toNat 30 - 1), V.int 1]) ft
      refine ⟨tI (cutB (10 ^ 30 + 1) [10 ^ 30, 10 ^ 30, 1]), tI [10 ^ 30 - 1, 1], .tup (SqT.of (st _ _ hp2)) (dp_ints _), .tup (SqT.of upd_same) (dp_ints [10 ^ 30 - 1, 1]), shaped_ints _, shaped_ints _, ?_⟩
      rw [eqv_tI, decide_eq_true (by decide +kernel)]
      refine ⟨true, rfl, ?_⟩
      have hcg2 := (hcg.same s13).same st
      obtain ⟨dxh, _, _, _, hih, _⟩ := id hcg2
      refine ⟨_, rfl, cg, dxh, _, rfl, hih, chF_none _ _ _ _ (by decide) (by decide) (by decide) (by decide), ?_⟩
      refine ⟨_, _, rfl, rfl, (by unfold CPow; decide), _, _, rfl, rfl, (by unfold CMulW; decide +kernel), ?_⟩
      dsimp only [tNil]
      refine pl_by (t := 2 * 10 ^ 30) hcg2 (by decide) (by decide) (by decide) fun H14 s14 => ?_
      rw [show plc (2 * 10 ^ 30) [10 ^ 30, 10 ^ 30, 1] = 2 by decide +kernel]
      exact ⟨rfl, cast_bl (decide_eq_true rfl) (k _)⟩
end
end Lw
namespace Lw
open PySem PySem.Spec PyProof.Rows L2
open LamX
/-! ### the call of the law where nothing is being shown, with tables of code objects -/
/-- what is tracked when the law is entered: the tables, and the script unless it is written -/
def Entry (K : PySem.W.Frag) (h : Heap) (a : Addr) (Bs : List Addr) (ns : List Int) (H : Hp) : Prop :=
  (∀ B ∈ Bs, H B = some (.tbl #[])) ∧ SqL K H a (ns.map V.int) ∧ (∀ b u, H b = some u → (b ∈ Bs ∧ u = .tbl #[]) ∨ (b = a ∧ K.lookup a = none ∧ ∃ o xs, u = .frz o (.lst xs) ∧ h.get? a = some o))
theorem entry {P : Program} {w : World} {K : PySem.W.Frag} {h : Heap} {a : Addr} {Bs : List Addr} {vs : List Value} {ns : List Int} (KX : K.In h) (hT : ∀ B ∈ Bs, h.get? B = some { cls := .none, data := .fields #[] }) (ha : h.get? a = some { cls := .type "list", data := .seq vs.toArray }) (hi : IntsAre vs ns) (hl : ns.length ≤ sizeLine) :
    a ∉ Bs ∧ ∃ H, Entry K h a Bs ns H ∧ HOk P w H h := by
  have rv := vals_ints hi
  have lv := hi.length
  have ne : a ∉ Bs := fun e => by
    have hT := hT a e
    rw [ha] at hT
    have z : Data.seq vs.toArray _ = Data.fields #[] := congrArg Obj.data (Option.some.inj hT)
    cases z
  refine ⟨ne, ?_⟩
  cases hk : K.lookup a with
  | some o =>
    have e := KX a o hk
    rw [ha] at e
    cases e
    refine ⟨fun b => if b ∈ Bs then some (.tbl #[]) else none, ⟨fun B hB => if_pos hB, .inr ⟨_, vs.toArray, _, hk, rfl, rfl, rfl, by rw [List.size_toArray, lv]; exact hl, by simpa using rv⟩, fun b u z => ?_⟩, fun b u z => ?_⟩
    · by_cases q : b ∈ Bs
      · exact .inl ⟨q, (Option.some.inj ((if_pos q).symm.trans z)).symm⟩
      · cases (if_neg q).symm.trans z
    · by_cases q : b ∈ Bs
      · cases (if_pos q).symm.trans z
        exact hT b q
      · cases (if_neg q).symm.trans z
  | none =>
    refine ⟨fun b => if b ∈ Bs then some (.tbl #[]) else if b = a then some (.frz { cls := .type "list", data := .seq vs.toArray } (.lst (ns.map V.int))) else none,
      ⟨fun B hB => if_pos hB, .inl (.inr ⟨_, (if_neg ne).trans (if_pos rfl)⟩), fun b u z => ?_⟩, fun b u z => ?_⟩
    · by_cases q : b ∈ Bs
      · exact .inl ⟨q, (Option.some.inj ((if_pos q).symm.trans z)).symm⟩
      · have z2 := (if_neg q).symm.trans z
        by_cases q2 : b = a
        · exact .inr ⟨q2, hk, _, _, (Option.some.inj ((if_pos q2).symm.trans z2)).symm, ha⟩
        · cases (if_neg q2).symm.trans z2
    · by_cases q : b ∈ Bs
      · cases (if_pos q).symm.trans z
        exact hT b q
      · have z2 := (if_neg q).symm.trans z
        by_cases q2 : b = a
        · cases (if_pos q2).symm.trans z2
          rw [q2]
          exact ⟨ha, by rw [List.length_map]; exact hl, vs, _, rv, ha⟩
        · cases (if_neg q2).symm.trans z2
theorem law_end {P : Program} {w : World} {K : PySem.W.Frag} {mg mb : Str → Option Value} {k : Nat} {fa a : Addr} {Bs : List Addr} {fd : FuncData} {x : Str} {sp : Sp} {s₁ : Shared} {vs : List Value} {ns : List Int}
    (KX : K.In s₁.heap) (hns : s₁.heap.Ns mainGlobals mg) (hb : s₁.heap.Ns builtinsNs mb) (hbb : ∀ x : Str, x ≠ "__name__" → mb x = bootBuiltins x) (hlim : s₁.heap.NoLimit) (hg : s₁.gens = #[])
    (hT : ∀ B ∈ Bs, s₁.heap.get? B = some { cls := .none, data := .fields #[] }) (nT : ∀ B ∈ Bs, K.lookup B = none) (C : ∀ B ∈ Bs, ∃ c, PySem.W.CodeHd s₁.heap c B)
    (hbm : ∃ (bm : Addr) (ob : Obj), mg "__builtins__" = some (.ref bm) ∧ bm ≠ builtinsNs ∧ s₁.heap.get? bm = some ob ∧ ob.cls = .type "module" ∧ ob.dict = some builtinsNs ∧ ob.data = .plain)
    (ha : s₁.heap.get? a = some { cls := .type "list", data := .seq vs.toArray }) (hi : IntsAre vs ns) (hl : ns.length ≤ sizeLine) (hr : Room k callerA)
    (F : ∀ base : Heap, K.In base → base.Ns mainGlobals mg → (∀ B ∈ Bs, ∀ c, PySem.W.CodeHd s₁.heap c B → TabB base mg c B) → FnG P w K mg base k fa fd [x] sp) (hbind : ∀ (s : Shared) (u : Value), BindsTo s fd ⟨[u], []⟩ [(x, u)])
    (hsp : ∀ H : Hp, (∀ B ∈ Bs, H B = some (.tbl #[])) → SqL K H a (ns.map V.int) → sp [.ref a] H (fun v _ => v = .bl true) C8.E0) :
    codeAny (model P w) callerA (.call (.ref fa) ⟨[.ref a], []⟩) (fun r s' => r = .ok (.ret (.bool true)) ∧ OldK s₁.heap s'.heap ∧ s'.os = s₁.os ∧ AllBare s'.gens) s₁ := by
  obtain ⟨ne, H, ⟨hB, hS, hA⟩, hok⟩ := entry (P := P) (w := w) KX hT ha hi hl
  -- what is neither a table nor the script is untracked
  have free : ∀ {b : Addr} {o : Obj}, s₁.heap.get? b = some o → (∀ vs n, o.data ≠ .seq vs n) → o.data ≠ .fields #[] → H b = none := fun {b o} e h1 h2 => by
    cases q : H b with
    | none => rfl
    | some u =>
      rcases hA b u q with ⟨e', _⟩ | ⟨e', _⟩
      · rw [hT b e'] at e
        cases e
        exact absurd rfl h2
      · rw [e', ha] at e
        cases e
        exact absurd rfl (h1 _ _)
  have through : ∀ {b : Addr} {o : Obj}, s₁.heap.get? b = some o → H b = none → (hidT s₁.heap H).get? b = some o := fun e n => hidT_get e n
  have nsT : ∀ {b : Addr} {m : Str → Option Value}, s₁.heap.Ns b m → (hidT s₁.heap H).Ns b m := fun {b m} ⟨o, es, ep, e, d, r⟩ => by
    refine ⟨o, es, ep, through e (free e (fun vs n z => ?_) fun z => ?_), d, r⟩ <;> · rw [d] at z; cases z
  have inT : K.In (hidT s₁.heap H) := fun b o e => by
    refine through (KX b o e) ?_
    cases q : H b with
    | none => rfl
    | some u =>
      rcases hA b u q with ⟨e', _⟩ | ⟨e', n, _⟩
      · rw [nT b e'] at e; cases e
      · rw [e', n] at e; cases e
  have modT : L2.Mod K mg (hidT s₁.heap H) := by
    obtain ⟨mc, h1, h2⟩ := hlim
    exact ⟨inT, nsT hns, ⟨mb, nsT hb, hbb⟩, ⟨mc, nsT h1, h2⟩⟩
  have tabT : ∀ B ∈ Bs, ∀ c, PySem.W.CodeHd s₁.heap c B → TabB (hidT s₁.heap H) mg c B := fun B hBs c C => by
    refine ⟨?_, ?_, fun z => ?_⟩
    · obtain ⟨o, us, file, tf, flags, tg, inF, text, tt, e1, r1, r2, r3, r4⟩ := C
      refine ⟨o, us, file, tf, flags, tg, inF, text, tt, through e1 (free e1 (fun vs n z => ?_) fun z => ?_), r1, r2, r3, r4⟩
      · rw [r2] at z; cases z
      · rw [r2] at z; cases z
        simp at r3
    · obtain ⟨bm, ob, b1, b2, b3, b4, b5, b6⟩ := hbm
      refine ⟨bm, ob, b1, b2, fun q => ?_, fun q => ?_, through b3 (free b3 (fun vs n z => ?_) fun z => ?_), b4, b5, b6⟩
      · obtain ⟨o, es, ep, e, d, _⟩ := hns
        rw [q, e] at b3
        cases b3
        rw [d] at b6
        cases b6
      · rw [q, hT B hBs] at b3
        cases b3
        cases b6
      · rw [b6] at z; cases z
      · rw [b6] at z; cases z
    · obtain ⟨o, es, ep, e, d, _⟩ := hns
      rw [z, hT B hBs] at e
      cases e
      cases d
  have e0 : Env0 P w K mg (hidT s₁.heap H) callerA [] s₁ H := ⟨rfl, modT, fun b o e => of_hidT e, Nat.le_of_eq (hidT_size _ _), trivial, fun b hb => absurd (show b ∈ ([] : List Addr) from hb) (by simp), hok, .of_eq hg⟩
  refine codeAny_mono ((F _ inT (nsT hns) tabT).run callerA [] s₁ H ⟨[.ref a], []⟩ [.ref a] [.ref a] _ _ rfl hr e0 (hbind s₁ (.ref a)) (.cons rfl .nil) (hsp H hB hS)) fun r s' q => ?_
  match r, q with
  | .error e, q => exact (show False from q).elim
  | .ok .next, q => exact (show False from q).elim
  | .ok .brk, q => exact (show False from q).elim
  | .ok .cont, q => exact (show False from q).elim
  | .ok (.ret u), q =>
    obtain ⟨v, H', os, bare, un, hok', r', qv⟩ := q
    have qv' : v = .bl true := qv
    subst qv'
    obtain rfl : u = Value.bool true := r'
    have same : ∀ b o, b ∉ Bs → s₁.heap.get? b = some o → s'.heap.get? b = some o := fun b o nb e => by
      cases q : H b with
      | none => exact un.keep b o e q (by intro z; exact absurd (show b ∈ ([] : List Addr) from z) (by simp)) (by simp)
      | some u =>
        rcases hA b u q with ⟨z, _⟩ | ⟨e', _, ob, xs, rfl, hob⟩
        · exact absurd z nb
        · obtain ⟨e2, _⟩ := hok' b _ (un.frzs b ob _ q)
          rw [e', hob] at e
          cases e
          exact e2
    refine ⟨rfl, ⟨fun b o e => ?_, fun b o e => ?_⟩, os, bare⟩
    · by_cases hb : b ∈ Bs
      · obtain ⟨more, hmore⟩ := un.tbls b #[] (hB b hb)
        have atB := hok' b _ hmore
        obtain ⟨c, C⟩ := C b hb
        have hT := hT b hb
        rw [hT] at e
        cases e
        exact .inr (.inl ⟨(C.tab hT).isCodeTable, rfl, #[], _, rfl, atB⟩)
      · exact .inl (same b o hb e)
    · by_cases hb : b ∈ Bs
      · obtain ⟨more, hmore⟩ := un.tbls b #[] (hB b hb)
        exact ⟨_, hok' b _ hmore⟩
      · exact ⟨o, same b o hb e⟩
theorem tabIn_of {K : PySem.W.Frag} {x : Str} {f c B : Addr} {oc occ : Value} {od odc : Option Addr} {fd : FuncData} {sl slc : Array (Option Value)} {us : Array Value} (h1 : PySem.W.nsIn K mainGlobals x = some (some (.ref f))) (h2 : K.lookup f = some ⟨oc, od, .func fd, sl⟩) (hc : fd.code = .ref c)
    (h3 : K.lookup c = some ⟨occ, odc, .fields us, slc⟩) (h4 : us[11]? = some (.ref B)) : PySem.W.tabIn K x = some (c, B) := by
  unfold PySem.W.tabIn
  rw [h1]
  dsimp only
  rw [h2]
  dsimp only
  rw [hc]
  dsimp only
  rw [h3]
  dsimp only
  rw [h4]
/-- the walk's end, with any number of tables of code objects (tb: the def's name, its code object, its table) -/
theorem walk_endL {l : PySem.W.OpenLaw} {n k : Nat} {q : Program} {loose : List Str} {XP : (Str → Option Value) → Heap → Prop} {YP : World → Heap → Prop} {d : DefRec} {K : Params → PySem.W.Frag} {x : Str} {xts : List Str}
    (hn : l.most = some n) (hn2 : n ≤ 63) (hdf : d.params.defaults = []) (hr : Room k callerA) (hY : ∀ (w : World) (h : Heap), YP w h → (K w.params).In h) (hrec : (xts.all fun xt => ((recsOf q).find? fun e => e.name == xt).isSome) = true)
    (F : ∀ (w : World) (mg : Str → Option Value) (fa : Addr) (h : Heap), (K w.params).In h → h.Ns mainGlobals mg → mg d.name = some (.ref fa) → ∃ (fd : FuncData) (tb : List (Str × Addr × Addr)) (sp : Sp), (∀ e ∈ tb, e.1 ∈ xts ∧ PySem.W.tabIn (K w.params) e.1 = some (e.2.1, e.2.2) ∧ (K w.params).lookup e.2.2 = none) ∧ (∀ (s : Shared) (u : Value), BindsTo s fd ⟨[u], []⟩ [(x, u)]) ∧
      (∀ base : Heap, (K w.params).In base → base.Ns mainGlobals mg → (∀ e ∈ tb, TabB base mg e.2.1 e.2.2) → FnG l.prog w (K w.params) mg base k fa fd [x] sp) ∧
      ∀ (H : Hp) (a : Addr) (ns : List Int), (∀ e ∈ tb, H e.2.2 = some (.tbl #[])) → SqL (K w.params) H a (ns.map V.int) → ns.length ≤ 63 → sp [.ref a] H (fun v _ => v = .bl true) C8.E0) :
    PySem.W.WalkO q loose XP YP l.row.toRowW d [] (fun f vs => PySem.call f vs) := by
  refine Att.attach_callB hn hdf fun w s₀ s₁ mg mb fa o pm cd doc a vs ns G Y ho hd hcd hmg hobj hints hlen hbits hg => ?_
  have KX := hY w _ Y
  obtain ⟨fd, tb, sp, ht, hb, hF, hsp⟩ := F w mg fa _ KX G.T.g hmg
  have tab : ∀ e ∈ tb, PySem.W.CodeHd s₁.heap e.2.1 e.2.2 ∧ s₁.heap.get? e.2.2 = some { cls := .none, data := .fields #[] } := fun e he => by
    obtain ⟨h1, h2, h3⟩ := ht e he
    obtain ⟨dr, hdr⟩ := Option.isSome_iff_exists.mp (List.all_eq_true.mp hrec _ h1)
    exact PySem.W.tab_of G.T KX hdr h2
  have mem : ∀ {p : Addr → Prop}, (∀ e ∈ tb, p e.2.2) → ∀ b ∈ tb.map (·.2.2), p b := fun {p} h b hb => by
    obtain ⟨e, he, rfl⟩ := List.mem_map.mp hb
    exact h e he
  exact law_end (Bs := tb.map (·.2.2)) KX G.T.g G.T.b G.T.builtins G.T.nolimit hg (mem fun e he => (tab e he).2) (mem fun e he => (ht e he).2.2) (mem fun e he => ⟨_, (tab e he).1⟩) G.T.bmain hobj hints (Nat.le_trans (Nat.le_trans hlen hn2) (by decide)) hr
    (fun base kin ns' tbb => hF base kin ns' fun e he => tbb e.2.2 (List.mem_map.mpr ⟨e, he, rfl⟩) e.2.1 (tab e he).1) hb fun H hB hS => hsp H a ns (fun e he => hB e.2.2 (List.mem_map.mpr ⟨e, he, rfl⟩)) hS (Nat.le_trans hlen hn2)
end Lw
namespace Lw
open PySem PySem.Spec PyProof.Rows L2

open LamX ClX StX
def tab2 (B1 B2 : Addr) : List (Addr × Str) := [(B1, ((("_law_refused_right" : Str) ++ (".<locals>." : Str)) ++ ("<lambda>" : Str))), (B2, ((("law" : Str) ++ (".<locals>." : Str)) ++ ("<lambda>" : Str)))]
theorem tab2_0 {B1 B2 : Addr} (h : B2 ≠ B1) : TabOf (tab2 B1 B2) B1 "_law_refused_right" := ⟨by simp [tab2], fun p hp e => by
  simp only [tab2, List.mem_cons, List.not_mem_nil, or_false] at hp
  rcases hp with rfl | rfl
  · rfl
  · exact absurd e h⟩
theorem tab2_1 {B1 B2 : Addr} (h : B2 ≠ B1) : TabOf (tab2 B1 B2) B2 "law" := ⟨by simp [tab2], fun p hp e => by
  simp only [tab2, List.mem_cons, List.not_mem_nil, or_false] at hp
  rcases hp with rfl | rfl
  · exact absurd e h.symm
  · rfl⟩
theorem kb_one {K : PySem.W.Frag} {x q : Str} {st : Stmt} {f : Addr} {fd : FuncData} {ps ks : List Str} (F : C8.Fun K x q st f fd) (df : fd.defaults = .none) (h : ∀ (kV doc pm : Value) (an : Option Addr) (cdv ct : Value) (us ws : List Value), us.length = 1 → ws.length = ks.length → bindArgs (PySem.W.fnOf x q (C8.fnArgs st) (C8.fnBody st) (C8.fnScope st) .none kV doc pm an cdv ct) ⟨us, ks.zip ws⟩ = pure (ps.zip (us ++ ws))) :
    KBn K fd ps 1 ks (fun us ws => us ++ ws) (fun us zs => us ++ zs) := by
  obtain ⟨oc, od, dV, kV, doc, pm, an, cdv, ct, osl, rfl, lk, hcd⟩ := F.ex
  have e : dV = .none := df
  subst e
  exact ⟨fun s us ws X h1 h2 => .of_eq (h kV doc pm an cdv ct us ws h1 h2), fun r1 r2 => r1.append r2⟩

theorem all_known {l : PySem.W.OpenLaw} {w : World} {K : PySem.W.Frag} {h : Heap} {mg : Str → Option Value} {fa : Addr} (X : K.In h) (G : h.Ns mainGlobals mg) (hfa : mg "law" = some (.ref fa))
    {L : Addr}
    {fii : Addr} {ocii kVii dcii pmii ctii cdii : Value} {odii anii : Option Addr} {slii : Array (Option Value)}
    {fiw : Addr} {ociw kViw dciw pmiw ctiw cdiw : Value} {odiw aniw : Option Addr} {sliw : Array (Option Value)}
    {fis : Addr} {ocis kVis dcis pmis ctis cdis : Value} {odis anis : Option Addr} {slis : Array (Option Value)}
    {fcm : Addr} {occm kVcm dccm pmcm ctcm cdcm : Value} {odcm ancm : Option Addr} {slcm : Array (Option Value)}
    {fsb : Addr} {ocsb kVsb dcsb pmsb ctsb cdsb : Value} {odsb ansb : Option Addr} {slsb : Array (Option Value)}
    {flp : Addr} {oclp kVlp dclp pmlp ctlp cdlp : Value} {odlp anlp : Option Addr} {sllp : Array (Option Value)}
    {fld : Addr} {ocld kVld dcld pmld ctld cdld : Value} {odld anld : Option Addr} {slld : Array (Option Value)}
    {flk : Addr} {oclk kVlk dclk pmlk ctlk cdlk : Value} {odlk anlk : Option Addr} {sllk : Array (Option Value)}
    {flh : Addr} {oclh kVlh dclh pmlh ctlh cdlh : Value} {odlh anlh : Option Addr} {sllh : Array (Option Value)}
    {flz : Addr} {oclz kVlz dclz pmlz ctlz cdlz : Value} {odlz anlz : Option Addr} {sllz : Array (Option Value)}
    {flw : Addr} {oclw kVlw dclw pmlw ctlw cdlw : Value} {odlw anlw : Option Addr} {sllw : Array (Option Value)}
    {flj : Addr} {oclj kVlj dclj pmlj ctlj cdlj : Value} {odlj anlj : Option Addr} {sllj : Array (Option Value)}
    {flq : Addr} {oclq kVlq dclq pmlq ctlq cdlq : Value} {odlq anlq : Option Addr} {sllq : Array (Option Value)}
    {fcO : Addr} {occO kVcO dccO pmcO ctcO cdcO : Value} {odcO ancO : Option Addr} {slcO : Array (Option Value)}
    {TdcO : Addr} {ocDcO : Value} {odDcO : Option Addr} {slDcO : Array (Option Value)} {nDcO : Nat}
    {flf : Addr} {oclf kVlf dclf pmlf ctlf : Value} {odlf anlf : Option Addr} {sllf : Array (Option Value)}
    {fla : Addr} {ocla kVla dcla pmla ctla : Value} {odla anla : Option Addr} {slla : Array (Option Value)}
    {c1 B1 : Addr} {oc_c1 : Value} {od_c1 : Option Addr} {us_c1 : Array Value} {sl_c1 : Array (Option Value)}
    {c2 B2 : Addr} {oc_c2 : Value} {od_c2 : Option Addr} {us_c2 : Array Value} {sl_c2 : Array (Option Value)}
    {CC : Addr} {mcCC : Value}
    {tM : Tok} {vM : Int}
    {fci : Addr} {occi kVci dcci pmci ctci cdci : Value} {odci anci : Option Addr} {slci : Array (Option Value)}
    {fco : Addr} {occo kVco dcco pmco ctco cdco : Value} {odco anco : Option Addr} {slco : Array (Option Value)}
    {pco : Addr} {rsco : List Value}
    {fce : Addr} {occe kVce dcce pmce ctce cdce : Value} {odce ance : Option Addr} {slce : Array (Option Value)}
    {fcn : Addr} {occn kVcn dccn pmcn ctcn cdcn : Value} {odcn ancn : Option Addr} {slcn : Array (Option Value)}
    {foa : Addr} {ocoa kVoa dcoa pmoa ctoa cdoa : Value} {odoa anoa : Option Addr} {sloa : Array (Option Value)}
    {fom : Addr} {ocom kVom dcom pmom ctom cdom : Value} {odom anom : Option Addr} {slom : Array (Option Value)}
    {fog : Addr} {ocog kVog dcog pmog ctog cdog : Value} {odog anog : Option Addr} {slog : Array (Option Value)}
    {fov : Addr} {ocov kVov dcov pmov ctov cdov : Value} {odov anov : Option Addr} {slov : Array (Option Value)}
    {fmc : Addr} {ocmc kVmc dcmc pmmc ctmc cdmc : Value} {odmc anmc : Option Addr} {slmc : Array (Option Value)}
    {fmp : Addr} {ocmp kVmp dcmp pmmp ctmp cdmp : Value} {odmp anmp : Option Addr} {slmp : Array (Option Value)}
    {clsC : ClassData}
    {DC fEc : Addr} {ocEc kVEc dcEc pmEc cdEc ctEc : Value} {odEc anEc : Option Addr} {slEc : Array (Option Value)} {nmDc qDc : Str} {NDc : Addr} {bsDc bmDc : List Value} {snDc : List Str} {subDc : List Value} {abDc : Bool} {colDc : Option Bool} {ddDc : Option Addr} {e0c e1c e2c e3c e5c : Option Value}
    {DS fEs : Addr} {ocEs kVEs dcEs pmEs cdEs ctEs : Value} {odEs anEs : Option Addr} {slEs : Array (Option Value)} {nmDs qDs : Str} {NDs : Addr} {bsDs bmDs : List Value} {snDs : List Str} {subDs : List Value} {abDs : Bool} {colDs : Option Bool} {ddDs : Option Addr} {e0s e1s e2s e3s e5s : Option Value}
    {DT fEt : Addr} {ocEt kVEt dcEt pmEt cdEt ctEt : Value} {odEt anEt : Option Addr} {slEt : Array (Option Value)} {nmDt qDt : Str} {NDt : Addr} {bsDt bmDt : List Value} {snDt : List Str} {subDt : List Value} {abDt : Bool} {colDt : Option Bool} {ddDt : Option Addr} {e0t e1t e2t e3t e5t : Option Value}
    {DN fEn : Addr} {ocEn kVEn dcEn pmEn cdEn ctEn : Value} {odEn anEn : Option Addr} {slEn : Array (Option Value)} {nmDn qDn : Str} {NDn : Addr} {bsDn bmDn : List Value} {snDn : List Str} {subDn : List Value} {abDn : Bool} {colDn : Option Bool} {ddDn : Option Addr} {e0n e1n e2n e3n e5n : Option Value}
    {DM fEm : Addr} {ocEm kVEm dcEm pmEm cdEm ctEm : Value} {odEm anEm : Option Addr} {slEm : Array (Option Value)} {nmDm qDm : Str} {NDm : Addr} {bsDm bmDm : List Value} {snDm : List Str} {subDm : List Value} {abDm : Bool} {colDm : Option Bool} {ddDm : Option Addr} {e0m e1m e2m e3m e5m : Option Value}
    {tGS : Tok} {vGS : Int}
    (aL : PySem.W.nsIn K mainGlobals "LateError" = some (some (.ref L)))
    (aii : PySem.W.nsIn K mainGlobals "is_integer" = some (some (.ref fii)))
    (lii : K.lookup fii = some ⟨ocii, odii, .func (PySem.W.fnOf "is_integer" "is_integer" (C8.fnArgs sIsInt) (C8.fnBody sIsInt) (C8.fnScope sIsInt) .none kVii dcii pmii anii cdii ctii), slii⟩)
    (cii : PySem.W.codeIn K cdii "is_integer" = true)
    (kii : PySem.W.keepIn K (.ref fii) = true)
    (aiw : PySem.W.nsIn K mainGlobals "is_within" = some (some (.ref fiw)))
    (liw : K.lookup fiw = some ⟨ociw, odiw, .func (PySem.W.fnOf "is_within" "is_within" (C8.fnArgs sWithin) (C8.fnBody sWithin) (C8.fnScope sWithin) .none kViw dciw pmiw aniw cdiw ctiw), sliw⟩)
    (ciw : PySem.W.codeIn K cdiw "is_within" = true)
    (kiw : PySem.W.keepIn K (.ref fiw) = true)
    (ais : PySem.W.nsIn K mainGlobals "is_size" = some (some (.ref fis)))
    (lis : K.lookup fis = some ⟨ocis, odis, .func (PySem.W.fnOf "is_size" "is_size" (C8.fnArgs sSize) (C8.fnBody sSize) (C8.fnScope sSize) .none kVis dcis pmis anis cdis ctis), slis⟩)
    (cis : PySem.W.codeIn K cdis "is_size" = true)
    (kis : PySem.W.keepIn K (.ref fis) = true)
    (acm : PySem.W.nsIn K mainGlobals "check_many" = some (some (.ref fcm)))
    (lcm : K.lookup fcm = some ⟨occm, odcm, .func (PySem.W.fnOf "check_many" "check_many" (C8.fnArgs sCM) (C8.fnBody sCM) (C8.fnScope sCM) .none kVcm dccm pmcm ancm cdcm ctcm), slcm⟩)
    (ccm : PySem.W.codeIn K cdcm "check_many" = true)
    (kcm : PySem.W.keepIn K (.ref fcm) = true)
    (asb : PySem.W.nsIn K mainGlobals "sizes_between" = some (some (.ref fsb)))
    (lsb : K.lookup fsb = some ⟨ocsb, odsb, .func (PySem.W.fnOf "sizes_between" "sizes_between" (C8.fnArgs sSb) (C8.fnBody sSb) (C8.fnScope sSb) .none kVsb dcsb pmsb ansb cdsb ctsb), slsb⟩)
    (csb : PySem.W.codeIn K cdsb "sizes_between" = true)
    (ksb : PySem.W.keepIn K (.ref fsb) = true)
    (alp : PySem.W.nsIn K mainGlobals "_law_pen" = some (some (.ref flp)))
    (llp : K.lookup flp = some ⟨oclp, odlp, .func (PySem.W.fnOf "_law_pen" "_law_pen" (C8.fnArgs sPen) (C8.fnBody sPen) (C8.fnScope sPen) .none kVlp dclp pmlp anlp cdlp ctlp), sllp⟩)
    (clp : PySem.W.codeIn K cdlp "_law_pen" = true)
    (klp : PySem.W.keepIn K (.ref flp) = true)
    (ald : PySem.W.nsIn K mainGlobals "_law_draw" = some (some (.ref fld)))
    (lld : K.lookup fld = some ⟨ocld, odld, .func (PySem.W.fnOf "_law_draw" "_law_draw" (C8.fnArgs sDraw) (C8.fnBody sDraw) (C8.fnScope sDraw) .none kVld dcld pmld anld cdld ctld), slld⟩)
    (cld : PySem.W.codeIn K cdld "_law_draw" = true)
    (kld : PySem.W.keepIn K (.ref fld) = true)
    (alk : PySem.W.nsIn K mainGlobals "_law_pick" = some (some (.ref flk)))
    (llk : K.lookup flk = some ⟨oclk, odlk, .func (PySem.W.fnOf "_law_pick" "_law_pick" (C8.fnArgs sPick) (C8.fnBody sPick) (C8.fnScope sPick) .none kVlk dclk pmlk anlk cdlk ctlk), sllk⟩)
    (clk : PySem.W.codeIn K cdlk "_law_pick" = true)
    (klk : PySem.W.keepIn K (.ref flk) = true)
    (alh : PySem.W.nsIn K mainGlobals "_law_heard" = some (some (.ref flh)))
    (llh : K.lookup flh = some ⟨oclh, odlh, .func (PySem.W.fnOf "_law_heard" "_law_heard" (C8.fnArgs sHea) (C8.fnBody sHea) (C8.fnScope sHea) .none kVlh dclh pmlh anlh cdlh ctlh), sllh⟩)
    (clh : PySem.W.codeIn K cdlh "_law_heard" = true)
    (klh : PySem.W.keepIn K (.ref flh) = true)
    (alz : PySem.W.nsIn K mainGlobals "_law_sizes" = some (some (.ref flz)))
    (llz : K.lookup flz = some ⟨oclz, odlz, .func (PySem.W.fnOf "_law_sizes" "_law_sizes" (C8.fnArgs sLsz) (C8.fnBody sLsz) (C8.fnScope sLsz) .none kVlz dclz pmlz anlz cdlz ctlz), sllz⟩)
    (clz : PySem.W.codeIn K cdlz "_law_sizes" = true)
    (klz : PySem.W.keepIn K (.ref flz) = true)
    (alw : PySem.W.nsIn K mainGlobals "_law_ahead" = some (some (.ref flw)))
    (llw : K.lookup flw = some ⟨oclw, odlw, .func (PySem.W.fnOf "_law_ahead" "_law_ahead" (C8.fnArgs sLah) (C8.fnBody sLah) (C8.fnScope sLah) .none kVlw dclw pmlw anlw cdlw ctlw), sllw⟩)
    (clw : PySem.W.codeIn K cdlw "_law_ahead" = true)
    (klw : PySem.W.keepIn K (.ref flw) = true)
    (alj : PySem.W.nsIn K mainGlobals "_law_joined_right" = some (some (.ref flj)))
    (llj : K.lookup flj = some ⟨oclj, odlj, .func (PySem.W.fnOf "_law_joined_right" "_law_joined_right" (C8.fnArgs sLjr) (C8.fnBody sLjr) (C8.fnScope sLjr) .none kVlj dclj pmlj anlj cdlj ctlj), sllj⟩)
    (clj : PySem.W.codeIn K cdlj "_law_joined_right" = true)
    (klj : PySem.W.keepIn K (.ref flj) = true)
    (alq : PySem.W.nsIn K mainGlobals "_law_cut_right" = some (some (.ref flq)))
    (llq : K.lookup flq = some ⟨oclq, odlq, .func (PySem.W.fnOf "_law_cut_right" "_law_cut_right" (C8.fnArgs sLcr) (C8.fnBody sLcr) (C8.fnScope sLcr) .none kVlq dclq pmlq anlq cdlq ctlq), sllq⟩)
    (clq : PySem.W.codeIn K cdlq "_law_cut_right" = true)
    (klq : PySem.W.keepIn K (.ref flq) = true)
    (acO : PySem.W.nsIn K mainGlobals "check_other" = some (some (.ref fcO)))
    (lcO : K.lookup fcO = some ⟨occO, odcO, .func (PySem.W.fnOf "check_other" "check_other" (C8.fnArgs sCot) (C8.fnBody sCot) (C8.fnScope sCot) (.ref TdcO) kVcO dccO pmcO ancO cdcO ctcO), slcO⟩)
    (ccO : PySem.W.codeIn K cdcO "check_other" = true)
    (kcO : PySem.W.keepIn K (.ref fcO) = true)
    (lDcO : K.lookup TdcO = some ⟨ocDcO, odDcO, .seq #[.none] nDcO, slDcO⟩)
    (alf : PySem.W.nsIn K mainGlobals "_law_refused_right" = some (some (.ref flf)))
    (llf : K.lookup flf = some ⟨oclf, odlf, .func (PySem.W.fnOf "_law_refused_right" "_law_refused_right" (C8.fnArgs sLrr) (C8.fnBody sLrr) (C8.fnScope sLrr) .none kVlf dclf pmlf anlf (.ref c1) ctlf), sllf⟩)
    (clf : PySem.W.codeIn K (.ref c1) "_law_refused_right" = true)
    (klf : PySem.W.keepIn K (.ref flf) = true)
    (ala : PySem.W.nsIn K mainGlobals "law" = some (some (.ref fla)))
    (lla : K.lookup fla = some ⟨ocla, odla, .func (PySem.W.fnOf "law" "law" (C8.fnArgs sLaw) (C8.fnBody sLaw) (C8.fnScope sLaw) .none kVla dcla pmla anla (.ref c2) ctla), slla⟩)
    (cla : PySem.W.codeIn K (.ref c2) "law" = true)
    (kla : PySem.W.keepIn K (.ref fla) = true)
    (ltlf : K.lookup c1 = some ⟨oc_c1, od_c1, .fields us_c1, sl_c1⟩)
    (vtlf : us_c1[11]? = some (.ref B1))
    (ntlf : K.lookup B1 = none)
    (ltla : K.lookup c2 = some ⟨oc_c2, od_c2, .fields us_c2, sl_c2⟩)
    (vtla : us_c2[11]? = some (.ref B2))
    (ntla : K.lookup B2 = none)
    (nB : B2 ≠ B1)
    (aCC : PySem.W.nsIn K mainGlobals "Chunks" = some (some (.ref CC)))
    (sTCC : PySem.W.typeIn K (.ref CC) = some mcCC)
    (sRCC : PySem.W.readsIn K CC mcCC = true)
    (sGCC : PySem.W.specialIn K (.ref CC) "__getattribute__" = some (some (.builtin "type.__getattribute__")))
    (pgCC : PySem.W.plainGet K CC Str.empty = true)
    (hdCC : PySem.W.hasDictIn K CC = true)
    (poCC : PySem.W.plainOver K CC = true)
    (saCC : PySem.W.findIn K (.ref CC) "__setattr__" = some (some (.builtin "object.__setattr__")))
    (mkCC : PySem.W.makesIn K CC = true)
    (kCCC : PySem.W.keepIn K (.ref CC) = true)
    (noCC_sizes : PySem.W.findIn K (.ref CC) "sizes" = some none)
    (noCC_total : PySem.W.findIn K (.ref CC) "total" = some none)
    (noCC_ends : PySem.W.findIn K (.ref CC) "ends" = some none)
    (noCC_rests : PySem.W.findIn K (.ref CC) "rests" = some none)
    (hCCC : PySem.W.findIn K (.ref CC) "__class__" = some (some (.builtin "object.__class__")))
    (hMCC : PySem.W.mroIn K CC (.type "object") = some true)
    (hG : PySem.W.specialIn K (.builtin "object.__class__") "__get__" = some (some (.builtin "getset_descriptor.__get__")))
    (hK : PySem.W.takesIn K (.builtin "object.__class__") = some true)
    (nECC : PySem.W.findIn K (.ref CC) "__ne__" = some (some (.builtin "object.__ne__")))
    (oiCC : PySem.W.kitOne K (.ref CC) (.type "int") = some false)
    (obCC : PySem.W.kitOne K (.ref CC) (.type "bool") = some false)
    (osCC : PySem.W.kitOne K (.ref CC) (.type "str") = some false)
    (cM : PySem.W.findCls K (.ref CC) mcCC "MOST" = some (.val (.int vM tM)))
    (eM : vM = 5000)
    (aci : PySem.W.findIn K (.ref CC) "__init__" = some (some (.ref fci)))
    (ici : PySem.W.isFn K (.ref fci) = true)
    (lci : K.lookup fci = some ⟨occi, odci, .func (PySem.W.fnOf "__init__" "Chunks.__init__" (C8.fnArgs sCI) (C8.fnBody sCI) (C8.fnScope sCI) .none kVci dcci pmci anci cdci ctci), slci⟩)
    (cci : PySem.W.codeIn K cdci "Chunks.__init__" = true)
    (kci : PySem.W.keepIn K (.ref fci) = true)
    (lco : K.lookup fco = some ⟨occo, odco, .func (PySem.W.fnOf "of" "Chunks.of" (C8.fnArgs sCof) (C8.fnBody sCof) (C8.fnScope sCof) .none kVco dcco pmco anco cdco ctco), slco⟩)
    (cco : PySem.W.codeIn K cdco "Chunks.of" = true)
    (kco : PySem.W.keepIn K (.ref fco) = true)
    (sco : PySem.W.findCls K (.ref CC) mcCC "of" = some (.get (.builtin "staticmethod.__get__") (.ref pco) .none (.ref CC)))
    (rco : PySem.W.recIn K pco "staticmethod" = some (.ref fco :: rsco))
    (ace : PySem.W.findIn K (.ref CC) "__eq__" = some (some (.ref fce)))
    (ice : PySem.W.isFn K (.ref fce) = true)
    (lce : K.lookup fce = some ⟨occe, odce, .func (PySem.W.fnOf "__eq__" "Chunks.__eq__" (C8.fnArgs sCeq) (C8.fnBody sCeq) (C8.fnScope sCeq) .none kVce dcce pmce ance cdce ctce), slce⟩)
    (cce : PySem.W.codeIn K cdce "Chunks.__eq__" = true)
    (kce : PySem.W.keepIn K (.ref fce) = true)
    (acn : PySem.W.findIn K (.ref CC) "__len__" = some (some (.ref fcn)))
    (icn : PySem.W.isFn K (.ref fcn) = true)
    (lcn : K.lookup fcn = some ⟨occn, odcn, .func (PySem.W.fnOf "__len__" "Chunks.__len__" (C8.fnArgs sCln) (C8.fnBody sCln) (C8.fnScope sCln) .none kVcn dccn pmcn ancn cdcn ctcn), slcn⟩)
    (ccn : PySem.W.codeIn K cdcn "Chunks.__len__" = true)
    (kcn : PySem.W.keepIn K (.ref fcn) = true)
    (aoa : PySem.W.findIn K (.ref CC) "__add__" = some (some (.ref foa)))
    (ioa : PySem.W.isFn K (.ref foa) = true)
    (loa : K.lookup foa = some ⟨ocoa, odoa, .func (PySem.W.fnOf "__add__" "Chunks.__add__" (C8.fnArgs sAd) (C8.fnBody sAd) (C8.fnScope sAd) .none kVoa dcoa pmoa anoa cdoa ctoa), sloa⟩)
    (coa : PySem.W.codeIn K cdoa "Chunks.__add__" = true)
    (koa : PySem.W.keepIn K (.ref foa) = true)
    (aom : PySem.W.findIn K (.ref CC) "__mul__" = some (some (.ref fom)))
    (iom : PySem.W.isFn K (.ref fom) = true)
    (lom : K.lookup fom = some ⟨ocom, odom, .func (PySem.W.fnOf "__mul__" "Chunks.__mul__" (C8.fnArgs sMu) (C8.fnBody sMu) (C8.fnScope sMu) .none kVom dcom pmom anom cdom ctom), slom⟩)
    (com : PySem.W.codeIn K cdom "Chunks.__mul__" = true)
    (kom : PySem.W.keepIn K (.ref fom) = true)
    (aog : PySem.W.findIn K (.ref CC) "__rmul__" = some (some (.ref fog)))
    (iog : PySem.W.isFn K (.ref fog) = true)
    (log : K.lookup fog = some ⟨ocog, odog, .func (PySem.W.fnOf "__rmul__" "Chunks.__rmul__" (C8.fnArgs sRm) (C8.fnBody sRm) (C8.fnScope sRm) .none kVog dcog pmog anog cdog ctog), slog⟩)
    (cog : PySem.W.codeIn K cdog "Chunks.__rmul__" = true)
    (kog : PySem.W.keepIn K (.ref fog) = true)
    (aov : PySem.W.findIn K (.ref CC) "__invert__" = some (some (.ref fov)))
    (iov : PySem.W.isFn K (.ref fov) = true)
    (lov : K.lookup fov = some ⟨ocov, odov, .func (PySem.W.fnOf "__invert__" "Chunks.__invert__" (C8.fnArgs sIv) (C8.fnBody sIv) (C8.fnScope sIv) .none kVov dcov pmov anov cdov ctov), slov⟩)
    (cov : PySem.W.codeIn K cdov "Chunks.__invert__" = true)
    (kov : PySem.W.keepIn K (.ref fov) = true)
    (amc : PySem.W.findIn K (.ref CC) "cut" = some (some (.ref fmc)))
    (imc : PySem.W.isFn K (.ref fmc) = true)
    (lmc : K.lookup fmc = some ⟨ocmc, odmc, .func (PySem.W.fnOf "cut" "Chunks.cut" (C8.fnArgs sCut) (C8.fnBody sCut) (C8.fnScope sCut) .none kVmc dcmc pmmc anmc cdmc ctmc), slmc⟩)
    (cmc : PySem.W.codeIn K cdmc "Chunks.cut" = true)
    (kmc : PySem.W.keepIn K (.ref fmc) = true)
    (amp : PySem.W.findIn K (.ref CC) "place_of" = some (some (.ref fmp)))
    (imp : PySem.W.isFn K (.ref fmp) = true)
    (lmp : K.lookup fmp = some ⟨ocmp, odmp, .func (PySem.W.fnOf "place_of" "Chunks.place_of" (C8.fnArgs sPl) (C8.fnBody sPl) (C8.fnScope sPl) .none kVmp dcmp pmmp anmp cdmp ctmp), slmp⟩)
    (cmp : PySem.W.codeIn K cdmp "Chunks.place_of" = true)
    (kmp : PySem.W.keepIn K (.ref fmp) = true)
    (first : PySem.W.selfFirst K CC = true)
    (ra : PySem.W.findIn K (.ref CC) "__radd__" = some none)
    (s1 : PySem.W.subIn K (.ref CC) (.type "int") = some false)
    (s2 : PySem.W.subIn K (.ref CC) (.type "bool") = some false)
    (mC : PySem.W.clsIn K CC = some clsC)
    (mro : clsC.mro = [.ref CC, .type "object"])
    (xA : PySem.W.findIn K (.ref CC) (dunderI "add") = some none)
    (yA : PySem.W.findIn K (.type "object") (dunderI "add") = some none)
    (xM : PySem.W.findIn K (.ref CC) (dunderI "mul") = some none)
    (yM : PySem.W.findIn K (.type "object") (dunderI "mul") = some none)
    (qint : PySem.W.kitOne K (.type "int") (.ref CC) = some false)
    (qbool : PySem.W.kitOne K (.type "bool") (.ref CC) = some false)
    (qNoneType : PySem.W.kitOne K (.type "NoneType") (.ref CC) = some false)
    (qstr : PySem.W.kitOne K (.type "str") (.ref CC) = some false)
    (qtuple : PySem.W.kitOne K (.type "tuple") (.ref CC) = some false)
    (qlist : PySem.W.kitOne K (.type "list") (.ref CC) = some false)
    (qdict : PySem.W.kitOne K (.type "dict") (.ref CC) = some false)
    (aDc : PySem.W.nsIn K mainGlobals "BadChunks" = some (some (.ref DC)))
    (xDc : K.lookup DC = some (excClassObj nmDc qDc DC NDc bsDc bmDc true snDc subDc abDc colDc ddDc e0c e1c e2c e3c e5c "ValueError.__new__"))
    (xBc : PySem.HandSPX.refsVE bmDc = true)
    (xsc : PySem.W.findIn K (.ref DC) "__setattr__" = some (some (.builtin "object.__setattr__")))
    (xec : PySem.W.subIn K (.ref DC) (.type "BaseException") = some true)
    (xtc : PySem.W.typeIn K (.ref DC) = some (.type "type"))
    (xkc : PySem.W.keepIn K (.ref DC) = true)
    (xic : PySem.W.findIn K (.ref DC) "__init__" = some (some (.ref fEc)))
    (xfc : PySem.W.typeIn K (.ref fEc) = some (.type "function"))
    (lEc : K.lookup fEc = some ⟨ocEc, odEc, .func (PySem.W.fnOf "__init__" "BadChunks.__init__" (C8.fnArgs sBchE) (C8.fnBody sBchE) (C8.fnScope sBchE) .none kVEc dcEc pmEc anEc cdEc ctEc), slEc⟩)
    (cEc : PySem.W.codeIn K cdEc "BadChunks.__init__" = true)
    (xvc0 : PySem.W.findIn K (.ref DC) "part" = some none)
    (xgc : PySem.W.findIn K (.ref DC) "__getattribute__" = some (some (.builtin "BaseException.__getattribute__")))
    (xnc : PySem.W.findIn K (.ref DC) "__getattr__" = some none)
    (xdc : PySem.W.hasDictIn K DC = true)
    (xcc : PySem.W.findIn K (.ref DC) "__class__" = some (some (.builtin "object.__class__")))
    (xmc : PySem.W.mroIn K DC (.type "object") = some true)
    (xoc : PySem.W.kitOne K (.ref DC) (.ref DC) = some true)
    (xLc : PySem.W.exmOne K (.ref DC) (.ref L) = some true)
    (xVc : PySem.W.kitOne K (.ref DC) (.type "ValueError") = some true)
    (aDs : PySem.W.nsIn K mainGlobals "BadSize" = some (some (.ref DS)))
    (xDs : K.lookup DS = some (excClassObj nmDs qDs DS NDs bsDs bmDs true snDs subDs abDs colDs ddDs e0s e1s e2s e3s e5s "ValueError.__new__"))
    (xBs : PySem.HandSPX.refsVE bmDs = true)
    (xss : PySem.W.findIn K (.ref DS) "__setattr__" = some (some (.builtin "object.__setattr__")))
    (xes : PySem.W.subIn K (.ref DS) (.type "BaseException") = some true)
    (xts : PySem.W.typeIn K (.ref DS) = some (.type "type"))
    (xks : PySem.W.keepIn K (.ref DS) = true)
    (xis : PySem.W.findIn K (.ref DS) "__init__" = some (some (.ref fEs)))
    (xfs : PySem.W.typeIn K (.ref fEs) = some (.type "function"))
    (lEs : K.lookup fEs = some ⟨ocEs, odEs, .func (PySem.W.fnOf "__init__" "BadSize.__init__" (C8.fnArgs sBszE) (C8.fnBody sBszE) (C8.fnScope sBszE) .none kVEs dcEs pmEs anEs cdEs ctEs), slEs⟩)
    (cEs : PySem.W.codeIn K cdEs "BadSize.__init__" = true)
    (xvs0 : PySem.W.findIn K (.ref DS) "value" = some none)
    (xgs : PySem.W.findIn K (.ref DS) "__getattribute__" = some (some (.builtin "BaseException.__getattribute__")))
    (xns : PySem.W.findIn K (.ref DS) "__getattr__" = some none)
    (xds : PySem.W.hasDictIn K DS = true)
    (xcs : PySem.W.findIn K (.ref DS) "__class__" = some (some (.builtin "object.__class__")))
    (xms : PySem.W.mroIn K DS (.type "object") = some true)
    (xos : PySem.W.kitOne K (.ref DS) (.ref DS) = some true)
    (xLs : PySem.W.exmOne K (.ref DS) (.ref L) = some true)
    (xVs : PySem.W.kitOne K (.ref DS) (.type "ValueError") = some true)
    (aDt : PySem.W.nsIn K mainGlobals "BadTotal" = some (some (.ref DT)))
    (xDt : K.lookup DT = some (excClassObj nmDt qDt DT NDt bsDt bmDt true snDt subDt abDt colDt ddDt e0t e1t e2t e3t e5t "ValueError.__new__"))
    (xBt : PySem.HandSPX.refsVE bmDt = true)
    (xst : PySem.W.findIn K (.ref DT) "__setattr__" = some (some (.builtin "object.__setattr__")))
    (xet : PySem.W.subIn K (.ref DT) (.type "BaseException") = some true)
    (xtt : PySem.W.typeIn K (.ref DT) = some (.type "type"))
    (xkt : PySem.W.keepIn K (.ref DT) = true)
    (xit : PySem.W.findIn K (.ref DT) "__init__" = some (some (.ref fEt)))
    (xft : PySem.W.typeIn K (.ref fEt) = some (.type "function"))
    (lEt : K.lookup fEt = some ⟨ocEt, odEt, .func (PySem.W.fnOf "__init__" "BadTotal.__init__" (C8.fnArgs sBtoE) (C8.fnBody sBtoE) (C8.fnScope sBtoE) .none kVEt dcEt pmEt anEt cdEt ctEt), slEt⟩)
    (cEt : PySem.W.codeIn K cdEt "BadTotal.__init__" = true)
    (xvt0 : PySem.W.findIn K (.ref DT) "value" = some none)
    (xgt : PySem.W.findIn K (.ref DT) "__getattribute__" = some (some (.builtin "BaseException.__getattribute__")))
    (xnt : PySem.W.findIn K (.ref DT) "__getattr__" = some none)
    (xdt : PySem.W.hasDictIn K DT = true)
    (xct : PySem.W.findIn K (.ref DT) "__class__" = some (some (.builtin "object.__class__")))
    (xmt : PySem.W.mroIn K DT (.type "object") = some true)
    (xot : PySem.W.kitOne K (.ref DT) (.ref DT) = some true)
    (xLt : PySem.W.exmOne K (.ref DT) (.ref L) = some true)
    (xVt : PySem.W.kitOne K (.ref DT) (.type "ValueError") = some true)
    (aDn : PySem.W.nsIn K mainGlobals "NoChunk" = some (some (.ref DN)))
    (xDn : K.lookup DN = some (excClassObj nmDn qDn DN NDn bsDn bmDn true snDn subDn abDn colDn ddDn e0n e1n e2n e3n e5n "ValueError.__new__"))
    (xBn : PySem.HandSPX.refsVE bmDn = true)
    (xsn : PySem.W.findIn K (.ref DN) "__setattr__" = some (some (.builtin "object.__setattr__")))
    (xen : PySem.W.subIn K (.ref DN) (.type "BaseException") = some true)
    (xtn : PySem.W.typeIn K (.ref DN) = some (.type "type"))
    (xkn : PySem.W.keepIn K (.ref DN) = true)
    (xin : PySem.W.findIn K (.ref DN) "__init__" = some (some (.ref fEn)))
    (xfn : PySem.W.typeIn K (.ref fEn) = some (.type "function"))
    (lEn : K.lookup fEn = some ⟨ocEn, odEn, .func (PySem.W.fnOf "__init__" "NoChunk.__init__" (C8.fnArgs sNchE) (C8.fnBody sNchE) (C8.fnScope sNchE) .none kVEn dcEn pmEn anEn cdEn ctEn), slEn⟩)
    (cEn : PySem.W.codeIn K cdEn "NoChunk.__init__" = true)
    (xvn0 : PySem.W.findIn K (.ref DN) "at" = some none)
    (xgn : PySem.W.findIn K (.ref DN) "__getattribute__" = some (some (.builtin "BaseException.__getattribute__")))
    (xnn : PySem.W.findIn K (.ref DN) "__getattr__" = some none)
    (xdn : PySem.W.hasDictIn K DN = true)
    (xcn : PySem.W.findIn K (.ref DN) "__class__" = some (some (.builtin "object.__class__")))
    (xmn : PySem.W.mroIn K DN (.type "object") = some true)
    (xon : PySem.W.kitOne K (.ref DN) (.ref DN) = some true)
    (xLn : PySem.W.exmOne K (.ref DN) (.ref L) = some true)
    (xVn : PySem.W.kitOne K (.ref DN) (.type "ValueError") = some true)
    (aDm : PySem.W.nsIn K mainGlobals "TooMany" = some (some (.ref DM)))
    (xDm : K.lookup DM = some (excClassObj nmDm qDm DM NDm bsDm bmDm true snDm subDm abDm colDm ddDm e0m e1m e2m e3m e5m "ValueError.__new__"))
    (xBm : PySem.HandSPX.refsVE bmDm = true)
    (xsm : PySem.W.findIn K (.ref DM) "__setattr__" = some (some (.builtin "object.__setattr__")))
    (xem : PySem.W.subIn K (.ref DM) (.type "BaseException") = some true)
    (xtm : PySem.W.typeIn K (.ref DM) = some (.type "type"))
    (xkm : PySem.W.keepIn K (.ref DM) = true)
    (xim : PySem.W.findIn K (.ref DM) "__init__" = some (some (.ref fEm)))
    (xfm : PySem.W.typeIn K (.ref fEm) = some (.type "function"))
    (lEm : K.lookup fEm = some ⟨ocEm, odEm, .func (PySem.W.fnOf "__init__" "TooMany.__init__" (C8.fnArgs sMnE) (C8.fnBody sMnE) (C8.fnScope sMnE) .none kVEm dcEm pmEm anEm cdEm ctEm), slEm⟩)
    (cEm : PySem.W.codeIn K cdEm "TooMany.__init__" = true)
    (xvm0 : PySem.W.findIn K (.ref DM) "what" = some none)
    (xvm1 : PySem.W.findIn K (.ref DM) "most" = some none)
    (xgm : PySem.W.findIn K (.ref DM) "__getattribute__" = some (some (.builtin "BaseException.__getattribute__")))
    (xnm : PySem.W.findIn K (.ref DM) "__getattr__" = some none)
    (xdm : PySem.W.hasDictIn K DM = true)
    (xcm : PySem.W.findIn K (.ref DM) "__class__" = some (some (.builtin "object.__class__")))
    (xmm : PySem.W.mroIn K DM (.type "object") = some true)
    (xom : PySem.W.kitOne K (.ref DM) (.ref DM) = some true)
    (xLm : PySem.W.exmOne K (.ref DM) (.ref L) = some true)
    (xVm : PySem.W.kitOne K (.ref DM) (.type "ValueError") = some true)
    (xNcs : PySem.W.kitOne K (.ref DC) (.ref DS) = some false)
    (xNct : PySem.W.kitOne K (.ref DC) (.ref DT) = some false)
    (xNcn : PySem.W.kitOne K (.ref DC) (.ref DN) = some false)
    (xNcm : PySem.W.kitOne K (.ref DC) (.ref DM) = some false)
    (xNsc : PySem.W.kitOne K (.ref DS) (.ref DC) = some false)
    (xNst : PySem.W.kitOne K (.ref DS) (.ref DT) = some false)
    (xNsn : PySem.W.kitOne K (.ref DS) (.ref DN) = some false)
    (xNsm : PySem.W.kitOne K (.ref DS) (.ref DM) = some false)
    (xNtc : PySem.W.kitOne K (.ref DT) (.ref DC) = some false)
    (xNts : PySem.W.kitOne K (.ref DT) (.ref DS) = some false)
    (xNtn : PySem.W.kitOne K (.ref DT) (.ref DN) = some false)
    (xNtm : PySem.W.kitOne K (.ref DT) (.ref DM) = some false)
    (xNnc : PySem.W.kitOne K (.ref DN) (.ref DC) = some false)
    (xNns : PySem.W.kitOne K (.ref DN) (.ref DS) = some false)
    (xNnt : PySem.W.kitOne K (.ref DN) (.ref DT) = some false)
    (xNnm : PySem.W.kitOne K (.ref DN) (.ref DM) = some false)
    (xNmc : PySem.W.kitOne K (.ref DM) (.ref DC) = some false)
    (xNms : PySem.W.kitOne K (.ref DM) (.ref DS) = some false)
    (xNmt : PySem.W.kitOne K (.ref DM) (.ref DT) = some false)
    (xNmn : PySem.W.kitOne K (.ref DM) (.ref DN) = some false)
    (gGS : PySem.W.nsIn K mainGlobals "GREATEST_SIZE" = some (some (.int vGS tGS)))
    (eGS : vGS = 10 ^ 30)
    (z_int : PySem.W.nsIn K mainGlobals "int" = some none)
    (z_list : PySem.W.nsIn K mainGlobals "list" = some none)
    (z_len : PySem.W.nsIn K mainGlobals "len" = some none)
    (z_abs : PySem.W.nsIn K mainGlobals "abs" = some none)
    (z_bool : PySem.W.nsIn K mainGlobals "bool" = some none)
    (z_str : PySem.W.nsIn K mainGlobals "str" = some none)
    (z_isinstance : PySem.W.nsIn K mainGlobals "isinstance" = some none)
    (z_range : PySem.W.nsIn K mainGlobals "range" = some none)
    (z_repr : PySem.W.nsIn K mainGlobals "repr" = some none)
    (z_all : PySem.W.nsIn K mainGlobals "all" = some none)
    (z_zip : PySem.W.nsIn K mainGlobals "zip" = some none)
    (z_tuple : PySem.W.nsIn K mainGlobals "tuple" = some none)
    (z_min : PySem.W.nsIn K mainGlobals "min" = some none)
    (z_max : PySem.W.nsIn K mainGlobals "max" = some none)
    (z_ValueError : PySem.W.nsIn K mainGlobals "ValueError" = some none) :
    ∃ (fd : FuncData) (tb : List (Str × Addr × Addr)) (sp : Sp), (∀ e ∈ tb, e.1 ∈ (["_law_refused_right", "law"] : List Str) ∧ PySem.W.tabIn K e.1 = some (e.2.1, e.2.2) ∧ K.lookup e.2.2 = none) ∧ (∀ (s : Shared) (u : Value), BindsTo s fd ⟨[u], []⟩ [("_law_script", u)]) ∧
      (∀ base : Heap, K.In base → base.Ns mainGlobals mg → (∀ e ∈ tb, TabB base mg e.2.1 e.2.2) → FnG l.prog w K mg base 18 fa fd ["_law_script"] sp) ∧
      ∀ (H : Hp) (a : Addr) (ns : List Int), (∀ e ∈ tb, H e.2.2 = some (.tbl #[])) → SqL K H a (ns.map V.int) → ns.length ≤ 63 → sp [.ref a] H (fun v _ => v = .bl true) C8.E0 := by
  have e := hfa.symm.trans (PySem.W.mg_of X G ala)
  cases e
  subst eM eGS
  have Fii : C8.Def K mg "is_integer" sIsInt fii _ := ⟨⟨_, _, _, _, _, _, _, _, _, _, rfl, lii, cii⟩, PySem.W.mg_of X G aii, kii⟩
  have bii : Binds K _ ["value"] [] := Fii.fn.binds rfl fun _ _ _ _ _ _ us hl => match us, hl with | [_], _ => rfl
  have Fiw : C8.Def K mg "is_within" sWithin fiw _ := ⟨⟨_, _, _, _, _, _, _, _, _, _, rfl, liw, ciw⟩, PySem.W.mg_of X G aiw, kiw⟩
  have biw : Binds K _ ["value", "least", "most"] [] := Fiw.fn.binds rfl fun _ _ _ _ _ _ us hl => match us, hl with | [_, _, _], _ => rfl
  have Fis : C8.Def K mg "is_size" sSize fis _ := ⟨⟨_, _, _, _, _, _, _, _, _, _, rfl, lis, cis⟩, PySem.W.mg_of X G ais, kis⟩
  have bis : Binds K _ ["value"] [] := Fis.fn.binds rfl fun _ _ _ _ _ _ us hl => match us, hl with | [_], _ => rfl
  have Fcm : C8.Def K mg "check_many" sCM fcm _ := ⟨⟨_, _, _, _, _, _, _, _, _, _, rfl, lcm, ccm⟩, PySem.W.mg_of X G acm, kcm⟩
  have bcm : Binds K _ ["many"] [] := Fcm.fn.binds rfl fun _ _ _ _ _ _ us hl => match us, hl with | [_], _ => rfl
  have Fsb : C8.Def K mg "sizes_between" sSb fsb _ := ⟨⟨_, _, _, _, _, _, _, _, _, _, rfl, lsb, csb⟩, PySem.W.mg_of X G asb, ksb⟩
  have bsb : Binds K _ ["ends"] [] := Fsb.fn.binds rfl fun _ _ _ _ _ _ us hl => match us, hl with | [_], _ => rfl
  have Flp : C8.Def K mg "_law_pen" sPen flp _ := ⟨⟨_, _, _, _, _, _, _, _, _, _, rfl, llp, clp⟩, PySem.W.mg_of X G alp, klp⟩
  have blp : Binds K _ ["_law_script"] [] := Flp.fn.binds rfl fun _ _ _ _ _ _ us hl => match us, hl with | [_], _ => rfl
  have Fld : C8.Def K mg "_law_draw" sDraw fld _ := ⟨⟨_, _, _, _, _, _, _, _, _, _, rfl, lld, cld⟩, PySem.W.mg_of X G ald, kld⟩
  have bld : Binds K _ ["_law_pen_here", "_law_many"] [] := Fld.fn.binds rfl fun _ _ _ _ _ _ us hl => match us, hl with | [_, _], _ => rfl
  have Flk : C8.Def K mg "_law_pick" sPick flk _ := ⟨⟨_, _, _, _, _, _, _, _, _, _, rfl, llk, clk⟩, PySem.W.mg_of X G alk, klk⟩
  have blk : Binds K _ ["_law_pen_here", "_law_some"] [] := Flk.fn.binds rfl fun _ _ _ _ _ _ us hl => match us, hl with | [_, _], _ => rfl
  have Flh : C8.Def K mg "_law_heard" sHea flh _ := ⟨⟨_, _, _, _, _, _, _, _, _, _, rfl, llh, clh⟩, PySem.W.mg_of X G alh, klh⟩
  have blh : Binds K _ ["_law_ask"] [] := Flh.fn.binds rfl fun _ _ _ _ _ _ us hl => match us, hl with | [_], _ => rfl
  have Flz : C8.Def K mg "_law_sizes" sLsz flz _ := ⟨⟨_, _, _, _, _, _, _, _, _, _, rfl, llz, clz⟩, PySem.W.mg_of X G alz, klz⟩
  have blz : Binds K _ ["_law_pen_here", "_law_most"] [] := Flz.fn.binds rfl fun _ _ _ _ _ _ us hl => match us, hl with | [_, _], _ => rfl
  have Flw : C8.Def K mg "_law_ahead" sLah flw _ := ⟨⟨_, _, _, _, _, _, _, _, _, _, rfl, llw, clw⟩, PySem.W.mg_of X G alw, klw⟩
  have blw : Binds K _ ["_law_sizes_here", "_law_many"] [] := Flw.fn.binds rfl fun _ _ _ _ _ _ us hl => match us, hl with | [_, _], _ => rfl
  have Flj : C8.Def K mg "_law_joined_right" sLjr flj _ := ⟨⟨_, _, _, _, _, _, _, _, _, _, rfl, llj, clj⟩, PySem.W.mg_of X G alj, klj⟩
  have blj : Binds K _ ["_law_pen_here", "_law_sizes_here", "_law_others"] [] := Flj.fn.binds rfl fun _ _ _ _ _ _ us hl => match us, hl with | [_, _, _], _ => rfl
  have Flq : C8.Def K mg "_law_cut_right" sLcr flq _ := ⟨⟨_, _, _, _, _, _, _, _, _, _, rfl, llq, clq⟩, PySem.W.mg_of X G alq, klq⟩
  have blq : Binds K _ ["_law_pen_here", "_law_sizes_here"] [] := Flq.fn.binds rfl fun _ _ _ _ _ _ us hl => match us, hl with | [_, _], _ => rfl
  have FcO : C8.Def K mg "check_other" sCot fcO _ := ⟨⟨_, _, _, _, _, _, _, _, _, _, rfl, lcO, ccO⟩, PySem.W.mg_of X G acO, kcO⟩
  have FDcO : FunD K "check_other" "check_other" (C8.fnArgs sCot) (C8.fnBody sCot) (C8.fnScope sCot) [.non] [] fcO _ := ⟨⟨_, _, _, _, _, _, _, _, _, _, rfl, lcO, ccO, .inr ⟨by simp, TdcO, _, [.none], nDcO, rfl, lDcO, rfl, .cons rfl .nil⟩, .inl rfl⟩, kcO⟩
  have Flf : DefC K mg "_law_refused_right" sLrr flf _ c1 := ⟨⟨_, _, _, _, _, _, _, _, _, rfl, llf, clf⟩, PySem.W.mg_of X G alf, klf⟩
  have blf : Binds K _ ["_law_pen_here", "_law_sizes_here"] [] := C8.Fun.binds (st := sLrr) (x := "_law_refused_right") (qual := "_law_refused_right") (f := flf) ⟨_, _, _, _, _, _, _, _, _, _, rfl, llf, clf⟩ rfl fun _ _ _ _ _ _ us hl => match us, hl with | [_, _], _ => rfl
  have Fla : LawC K "law" sLaw fa _ c2 := ⟨⟨_, _, _, _, _, _, _, _, _, rfl, lla, cla⟩⟩
  have rCC : CRead K CC mcCC := ⟨sRCC, sGCC⟩
  have clCC : Cls K CC := ⟨pgCC, hdCC, poCC, saCC⟩
  have ICC : C8.InsC K CC := ⟨clCC, hCCC, hG, hK, hMCC, by unfold PySem.W.kitOne; rw [if_pos (by simp)]⟩
  have Fci : C8.Fun K "__init__" "Chunks.__init__" sCI fci _ := ⟨_, _, _, _, _, _, _, _, _, _, rfl, lci, cci⟩
  have tci : Meth K CC "__init__" fci := ⟨aci, ici, kci⟩
  have Fco : C8.Fun K "of" "Chunks.of" sCof fco _ := ⟨_, _, _, _, _, _, _, _, _, _, rfl, lco, cco⟩
  have bco : Binds K _ ["sizes"] [] := Fco.binds rfl fun _ _ _ _ _ _ us hl => match us, hl with | [_], _ => rfl
  have Sco : SMet K CC "of" pco fco := ⟨⟨_, sTCC, sRCC, sco⟩, sGCC, ⟨_, rco⟩, kco⟩
  have Fce : C8.Fun K "__eq__" "Chunks.__eq__" sCeq fce _ := ⟨_, _, _, _, _, _, _, _, _, _, rfl, lce, cce⟩
  have bce : Binds K _ ["self", "other"] [] := Fce.binds rfl fun _ _ _ _ _ _ us hl => match us, hl with | [_, _], _ => rfl
  have tce : Meth K CC "__eq__" fce := ⟨ace, ice, kce⟩
  have Fcn : C8.Fun K "__len__" "Chunks.__len__" sCln fcn _ := ⟨_, _, _, _, _, _, _, _, _, _, rfl, lcn, ccn⟩
  have bcn : Binds K _ ["self"] [] := Fcn.binds rfl fun _ _ _ _ _ _ us hl => match us, hl with | [_], _ => rfl
  have tcn : Meth K CC "__len__" fcn := ⟨acn, icn, kcn⟩
  have Foa : C8.Fun K "__add__" "Chunks.__add__" sAd foa _ := ⟨_, _, _, _, _, _, _, _, _, _, rfl, loa, coa⟩
  have boa : Binds K _ ["self", "other"] [] := Foa.binds rfl fun _ _ _ _ _ _ us hl => match us, hl with | [_, _], _ => rfl
  have toa : Meth K CC "__add__" foa := ⟨aoa, ioa, koa⟩
  have Fom : C8.Fun K "__mul__" "Chunks.__mul__" sMu fom _ := ⟨_, _, _, _, _, _, _, _, _, _, rfl, lom, com⟩
  have bom : Binds K _ ["self", "other"] [] := Fom.binds rfl fun _ _ _ _ _ _ us hl => match us, hl with | [_, _], _ => rfl
  have tom : Meth K CC "__mul__" fom := ⟨aom, iom, kom⟩
  have Fog : C8.Fun K "__rmul__" "Chunks.__rmul__" sRm fog _ := ⟨_, _, _, _, _, _, _, _, _, _, rfl, log, cog⟩
  have bog : Binds K _ ["self", "other"] [] := Fog.binds rfl fun _ _ _ _ _ _ us hl => match us, hl with | [_, _], _ => rfl
  have tog : Meth K CC "__rmul__" fog := ⟨aog, iog, kog⟩
  have Fov : C8.Fun K "__invert__" "Chunks.__invert__" sIv fov _ := ⟨_, _, _, _, _, _, _, _, _, _, rfl, lov, cov⟩
  have bov : Binds K _ ["self"] [] := Fov.binds rfl fun _ _ _ _ _ _ us hl => match us, hl with | [_], _ => rfl
  have tov : Meth K CC "__invert__" fov := ⟨aov, iov, kov⟩
  have Fmc : C8.Fun K "cut" "Chunks.cut" sCut fmc _ := ⟨_, _, _, _, _, _, _, _, _, _, rfl, lmc, cmc⟩
  have bmc : Binds K _ ["self", "at"] [] := Fmc.binds rfl fun _ _ _ _ _ _ us hl => match us, hl with | [_, _], _ => rfl
  have tmc : Meth K CC "cut" fmc := ⟨amc, imc, kmc⟩
  have Fmp : C8.Fun K "place_of" "Chunks.place_of" sPl fmp _ := ⟨_, _, _, _, _, _, _, _, _, _, rfl, lmp, cmp⟩
  have bmp : Binds K _ ["self", "item"] [] := Fmp.binds rfl fun _ _ _ _ _ _ us hl => match us, hl with | [_, _], _ => rfl
  have tmp : Meth K CC "place_of" fmp := ⟨amp, imp, kmp⟩
  have FEc : C8.Fun K "__init__" "BadChunks.__init__" sBchE fEc _ := ⟨_, _, _, _, _, _, _, _, _, _, rfl, lEc, cEc⟩
  have bEc : Binds K _ ["self", "part"] [] := FEc.binds rfl fun _ _ _ _ _ _ us hl => match us, hl with | [_, _], _ => rfl
  have OXc : OexC K DC := ⟨⟨_, _, _, _, _, _, _, _, _, _, _, _, _, _, _, xDc, xBc⟩, xsc, xec, xtc, xkc⟩
  have XFc : XfC K DC := ⟨xgc, xnc, xec, xdc⟩
  have XCc : Hx.XCls K DC := ⟨xgc, xnc, xec, xdc, xcc, hG, hK, xmc⟩
  have FEs : C8.Fun K "__init__" "BadSize.__init__" sBszE fEs _ := ⟨_, _, _, _, _, _, _, _, _, _, rfl, lEs, cEs⟩
  have bEs : Binds K _ ["self", "value"] [] := FEs.binds rfl fun _ _ _ _ _ _ us hl => match us, hl with | [_, _], _ => rfl
  have OXs : OexC K DS := ⟨⟨_, _, _, _, _, _, _, _, _, _, _, _, _, _, _, xDs, xBs⟩, xss, xes, xts, xks⟩
  have XFs : XfC K DS := ⟨xgs, xns, xes, xds⟩
  have XCs : Hx.XCls K DS := ⟨xgs, xns, xes, xds, xcs, hG, hK, xms⟩
  have FEt : C8.Fun K "__init__" "BadTotal.__init__" sBtoE fEt _ := ⟨_, _, _, _, _, _, _, _, _, _, rfl, lEt, cEt⟩
  have bEt : Binds K _ ["self", "value"] [] := FEt.binds rfl fun _ _ _ _ _ _ us hl => match us, hl with | [_, _], _ => rfl
  have OXt : OexC K DT := ⟨⟨_, _, _, _, _, _, _, _, _, _, _, _, _, _, _, xDt, xBt⟩, xst, xet, xtt, xkt⟩
  have XFt : XfC K DT := ⟨xgt, xnt, xet, xdt⟩
  have XCt : Hx.XCls K DT := ⟨xgt, xnt, xet, xdt, xct, hG, hK, xmt⟩
  have FEn : C8.Fun K "__init__" "NoChunk.__init__" sNchE fEn _ := ⟨_, _, _, _, _, _, _, _, _, _, rfl, lEn, cEn⟩
  have bEn : Binds K _ ["self", "at"] [] := FEn.binds rfl fun _ _ _ _ _ _ us hl => match us, hl with | [_, _], _ => rfl
  have OXn : OexC K DN := ⟨⟨_, _, _, _, _, _, _, _, _, _, _, _, _, _, _, xDn, xBn⟩, xsn, xen, xtn, xkn⟩
  have XFn : XfC K DN := ⟨xgn, xnn, xen, xdn⟩
  have XCn : Hx.XCls K DN := ⟨xgn, xnn, xen, xdn, xcn, hG, hK, xmn⟩
  have FEm : C8.Fun K "__init__" "TooMany.__init__" sMnE fEm _ := ⟨_, _, _, _, _, _, _, _, _, _, rfl, lEm, cEm⟩
  have bEm : Binds K _ ["self", "what", "most"] [] := FEm.binds rfl fun _ _ _ _ _ _ us hl => match us, hl with | [_, _, _], _ => rfl
  have OXm : OexC K DM := ⟨⟨_, _, _, _, _, _, _, _, _, _, _, _, _, _, _, xDm, xBm⟩, xsm, xem, xtm, xkm⟩
  have XFm : XfC K DM := ⟨xgm, xnm, xem, xdm⟩
  have XCm : Hx.XCls K DM := ⟨xgm, xnm, xem, xdm, xcm, hG, hK, xmm⟩
  have T0 : Txt mg := { n_int := PySem.W.mg_none_of X G z_int, n_list := PySem.W.mg_none_of X G z_list, n_len := PySem.W.mg_none_of X G z_len, n_abs := PySem.W.mg_none_of X G z_abs, n_bool := PySem.W.mg_none_of X G z_bool, n_str := PySem.W.mg_none_of X G z_str, n_isinstance := PySem.W.mg_none_of X G z_isinstance, n_range := PySem.W.mg_none_of X G z_range, n_repr := PySem.W.mg_none_of X G z_repr, n_all := PySem.W.mg_none_of X G z_all, c_GS := ⟨_, PySem.W.mg_of X G gGS⟩ }
  have T : TxtM mg := { toTxt := T0, n_min := PySem.W.mg_none_of X G z_min, n_max := PySem.W.mg_none_of X G z_max, n_tuple := PySem.W.mg_none_of X G z_tuple }
  have hz := PySem.W.mg_none_of X G z_zip
  have htu := PySem.W.mg_none_of X G z_tuple
  have TO1 : TabOf (tab2 B1 B2) B1 "_law_refused_right" := tab2_0 nB
  have TO2 : TabOf (tab2 B1 B2) B2 "law" := tab2_1 nB
  have R2 : Hrd K mg DC DS DT DN DM L := { ml := PySem.W.mg_of X G aL, mv := PySem.W.mg_none_of X G z_ValueError, cDC := ⟨XFc, XCc, xoc, xVc, xLc⟩, mDC := PySem.W.mg_of X G aDc, nDC_part := xvc0, kDC_DS := xNcs, kDC_DT := xNct, kDC_DN := xNcn, kDC_DM := xNcm, cDS := ⟨XFs, XCs, xos, xVs, xLs⟩, mDS := PySem.W.mg_of X G aDs, nDS_value := xvs0, kDS_DC := xNsc, kDS_DT := xNst, kDS_DN := xNsn, kDS_DM := xNsm, cDT := ⟨XFt, XCt, xot, xVt, xLt⟩, mDT := PySem.W.mg_of X G aDt, nDT_value := xvt0, kDT_DC := xNtc, kDT_DS := xNts, kDT_DN := xNtn, kDT_DM := xNtm, cDN := ⟨XFn, XCn, xon, xVn, xLn⟩, mDN := PySem.W.mg_of X G aDn, nDN_at := xvn0, kDN_DC := xNnc, kDN_DS := xNns, kDN_DT := xNnt, kDN_DM := xNnm, cDM := ⟨XFm, XCm, xom, xVm, xLm⟩, mDM := PySem.W.mg_of X G aDm, nDM_what := xvm0, nDM_most := xvm1, kDM_DC := xNmc, kDM_DS := xNms, kDM_DT := xNmt, kDM_DN := xNmn }
  have KBmc : KBn K _ ["self", "at"] 1 ["at"] (fun us ws => us ++ ws) (fun us zs => us ++ zs) := kb_one Fmc rfl fun _ _ _ _ _ _ us ws h1 h2 => match us, ws, h1, h2 with | [_], [_], _, _ => rfl
  have KBmp : KBn K _ ["self", "item"] 1 ["item"] (fun us ws => us ++ ws) (fun us zs => us ++ zs) := kb_one Fmp rfl fun _ _ _ _ _ _ us ws h1 h2 => match us, ws, h1, h2 with | [_], [_], _, _ => rfl
  obtain ⟨dsO, vdO, bcO⟩ := FDcO.binds1 (ps := ["other", "total"]) 1 0 (by simp) rfl (fun Tq kVq dcq pmq anq cdq ctq us its h1 h2 => match us, its, h1, h2 with | [_], [_], _, _ => ⟨_, rfl, rfl⟩)
  have vdO2 : Vals [V.non] dsO := vdO
  obtain ⟨uO, rfl, rO⟩ : ∃ u, dsO = [u] ∧ RelV .non u := by
    cases vdO2 with | cons r0 r1 => cases r1; exact ⟨_, rfl, r0⟩
  cases (show uO = Value.none from rO)
  have NBc : NB K CC := ⟨fun T hT => by
      simp only [Ow.BTs, List.mem_cons, List.not_mem_nil, or_false] at hT
      rcases hT with rfl | rfl | rfl | rfl | rfl | rfl | rfl
      · exact qint
      · exact qbool
      · exact qNoneType
      · exact qstr
      · exact qtuple
      · exact qlist
      · exact qdict, oiCC, obCC, osCC, ICC⟩
  refine ⟨PySem.W.fnOf "law" "law" (C8.fnArgs sLaw) (C8.fnBody sLaw) (C8.fnScope sLaw) .none kVla dcla pmla anla (.ref c2) ctla, [("_law_refused_right", c1, B1), ("law", c2, B2)], spLaw K (tab2 B1 B2), ?tbs, fun s u => .of_eq rfl, fun base KB GB TBS => ?_, ?hsp⟩
  case tbs =>
    exact fun e he => by
      simp only [List.mem_cons, List.not_mem_nil, or_false] at he
      rcases he with rfl | rfl
      · exact ⟨by simp, tabIn_of alf llf rfl ltlf vtlf, ntlf⟩
      · exact ⟨by simp, tabIn_of ala lla rfl ltla vtla, ntla⟩
  case hsp =>
    exact fun H a ns hB hS hl => ⟨a, ns, rfl, hS, hl, fun p hp => by
      simp only [tab2, List.mem_cons, List.not_mem_nil, or_false] at hp
      rcases hp with rfl | rfl
      · exact TabS.nil (hB _ (List.Mem.head _))
      · exact TabS.nil (hB _ (List.Mem.tail _ (List.Mem.head _))), fun _ => rfl⟩
  have TBlf : TabB base mg c1 B1 := TBS ("_law_refused_right", c1, B1) (by simp)
  have TBla : TabB base mg c2 B2 := TBS ("law", c2, B2) (by simp)
  have ERc : Err1 "BadChunks" "part" l.prog w K mg base DC fEc _ := ⟨OXc, xic, xfc, fn_BchE FEc OXc xvc0, bEc, PySem.W.mg_of X G aDc⟩
  have ERs : Err1 "BadSize" "value" l.prog w K mg base DS fEs _ := ⟨OXs, xis, xfs, fn_BszE FEs OXs xvs0, bEs, PySem.W.mg_of X G aDs⟩
  have ERm : Err2 "TooMany" "what" "most" l.prog w K mg base DM fEm _ := ⟨OXm, xim, xfm, fn_mnE FEm OXm xvm0 xvm1, bEm, PySem.W.mg_of X G aDm⟩
  have Dii := cal_isint (P := l.prog) (w := w) (base := base) Fii bii T0
  have Diw := cal_within Fiw biw T0 Dii
  have Dis := cal_size Fis bis T0 Diw
  have Z : ChC l.prog w K mg base CC DM mcCC := ⟨rCC, ⟨_, ⟨cM, ⟨_, rfl⟩⟩⟩, PySem.W.mg_of X G aCC, clCC, noCC_sizes, noCC_total, noCC_ends, noCC_rests⟩
  have FCM := fn_cm (P := l.prog) (w := w) (base := base) Fcm Z ERm
  have CM : ChM2 l.prog w K mg base CC DM DS fci mcCC := ⟨Z, ⟨mkCC, aci, ici, kCCC⟩, fn_ci2 Fci rfl T0 hz htu Z ERs Dis Fcm bcm FCM⟩
  have FO := fn_cof2 (P := l.prog) (w := w) (base := base) Fco T0 htu ERc CM
  have OF : OfK l.prog w K mg base CC DM DS DC pco fco _ := ⟨PySem.W.mg_of X G aCC, Sco, FO, bco⟩
  have OK : OthK l.prog w K mg base CC DC fcO _ := ⟨FcO, fn_cot FcO T0 Z ICC ERc, bcO⟩
  have ME : MetX l.prog w K mg base 2 CC "__eq__" (spCeq CC) := ⟨_, _, _, tce, fn_ceq Fce T0 Z ICC, bce⟩
  have ML : MetX l.prog w K mg base 1 CC "__len__" (spCln CC) := ⟨_, _, _, tcn, fn_cln Fcn T0 Z, bcn⟩
  have MA : MetX l.prog w K mg base 8 CC "__add__" (spAd K CC DM DC) := ⟨_, _, _, toa, fn_ad Foa T0 CM OF OK, boa⟩
  have MM : MetX l.prog w K mg base 8 CC "__mul__" (spMu K CC DM DC) := ⟨_, _, _, tom, fn_mu Fom T0 CM OF ERc Fcm bcm FCM Dii, bom⟩
  have MR : MetX l.prog w K mg base 9 CC "__rmul__" (spRm K CC DM DC) := ⟨_, _, _, tog, fn_rm Fog ⟨first, ⟨_, aog⟩⟩ MM, bog⟩
  have MI : MetX l.prog w K mg base 8 CC "__invert__" (spIv CC DM) := ⟨_, _, _, tov, fn_iv Fov T0 CM OF, bov⟩
  have O : OpM l.prog w K mg base CC DM DS DC fci mcCC := { first := first, rmul := ⟨_, aog⟩, mul := ⟨_, aom⟩, radd := ra, s1 := s1, s2 := s2, na := ⟨⟨_, mC, mro⟩, xA, yA⟩, nm := ⟨⟨_, mC, mro⟩, xM, yM⟩, CM := CM, MA := MA, MM := MM, MR := MR, MI := MI, ME := ME, ML := ML }
  have XO : StO l.prog w K mg base CC DM DS DC := ⟨_, _, _, Sco, FO, bco⟩
  have NC : NeC K CC := ⟨hMCC, nECC⟩
  have FSB := fn_sb (P := l.prog) (w := w) (base := base) Fsb hz
  have XC : MetK1 l.prog w K mg base CC "cut" "at" (spCut K CC DC) := ⟨_, _, _, tmc, fn_cut Fmc T0 CM OF ERc Fsb bsb FSB Diw, bmc, KBmc⟩
  have XP : MetK1 l.prog w K mg base CC "place_of" "item" (spPl K CC DC) := ⟨_, _, _, tmp, fn_pl Fmp T0 CM ERc Diw, bmp, KBmp⟩
  have D1 := cal_draw (P := l.prog) (w := w) (K := K) (base := base) Fld bld T.toTxt0
  have D2 := cal_pick Flk blk T.toTxt0 D1
  have D0 := cal_pen (P := l.prog) (w := w) (base := base) Flp blp T.toTxt0
  have DZ := cal_lsz Flz blz T0 D1 D2
  have DA := cal_lah (P := l.prog) (w := w) (base := base) Flw blw T
  have DJ := cal_ljr Flj blj T O XO D2
  have DK := cal_lcr Flq blq T O XO NC XC XP D1 D2 DA
  have DRR := cal_lrr Flf blf Flh blh TBlf TO1 R2 T O XO XC XP D2 NBc
  exact fn_law Fla Flh blh TBla TO2 R2 T O XO NC XC XP D0 DZ DJ DK DRR
end Lw
open PySem PySem.W PyProof.Rows
set_option maxRecDepth 100000 in
set_option maxHeartbeats 0 in
theorem PySem.Challenge.cw_latechunks_k10_chunks_joined_and_cut_holds : PySem.Challenge.rw_latechunks_k10_chunks_joined_and_cut.Holds := by
  w_on; o_law; k_head; (case hw => w_witness2)
  k_fill
  refine Lw.walk_endL (l := PySem.Challenge.rw_latechunks_k10_chunks_joined_and_cut) (x := "_law_script") (xts := (["_law_refused_right", "law"] : List Str)) (k := 18) rfl (by decide) rfl ⟨rfl, by decide, by decide⟩ (fun w h Y => PySem.W.km_in_of Y) ?hrec ?F
  case hrec => first | rfl | decide +kernel
  case F =>
    intro w mg fa h KX G hmg
    refine' Lw.all_known KX G hmg ?aL ?aii ?lii ?cii ?kii ?aiw ?liw ?ciw ?kiw ?ais ?lis ?cis ?kis ?acm ?lcm ?ccm ?kcm ?asb ?lsb ?csb ?ksb ?alp ?llp ?clp ?klp ?ald ?lld ?cld ?kld ?alk ?llk ?clk ?klk ?alh ?llh ?clh ?klh ?alz ?llz ?clz ?klz ?alw ?llw ?clw ?klw ?alj ?llj ?clj ?klj ?alq ?llq ?clq ?klq ?acO ?lcO ?ccO ?kcO ?lDcO ?alf ?llf ?clf ?klf ?ala ?lla ?cla ?kla ?ltlf ?vtlf ?ntlf ?ltla ?vtla ?ntla ?nB ?aCC ?sTCC ?sRCC ?sGCC ?pgCC ?hdCC ?poCC ?saCC ?mkCC ?kCCC ?noCC_sizes ?noCC_total ?noCC_ends ?noCC_rests ?hCCC ?hMCC ?hG ?hK ?nECC ?oiCC ?obCC ?osCC ?cM ?eM ?aci ?ici ?lci ?cci ?kci ?lco ?cco ?kco ?sco ?rco ?ace ?ice ?lce ?cce ?kce ?acn ?icn ?lcn ?ccn ?kcn ?aoa ?ioa ?loa ?coa ?koa ?aom ?iom ?lom ?com ?kom ?aog ?iog ?log ?cog ?kog ?aov ?iov ?lov ?cov ?kov ?amc ?imc ?lmc ?cmc ?kmc ?amp ?imp ?lmp ?cmp ?kmp ?first ?ra ?s1 ?s2 ?mC ?mro ?xA ?yA ?xM ?yM ?qint ?qbool ?qNoneType ?qstr ?qtuple ?qlist ?qdict ?aDc ?xDc ?xBc ?xsc ?xec ?xtc ?xkc ?xic ?xfc ?lEc ?cEc ?xvc0 ?xgc ?xnc ?xdc ?xcc ?xmc ?xoc ?xLc ?xVc ?aDs ?xDs ?xBs ?xss ?xes ?xts ?xks ?xis ?xfs ?lEs ?cEs ?xvs0 ?xgs ?xns ?xds ?xcs ?xms ?xos ?xLs ?xVs ?aDt ?xDt ?xBt ?xst ?xet ?xtt ?xkt ?xit ?xft ?lEt ?cEt ?xvt0 ?xgt ?xnt ?xdt ?xct ?xmt ?xot ?xLt ?xVt ?aDn ?xDn ?xBn ?xsn ?xen ?xtn ?xkn ?xin ?xfn ?lEn ?cEn ?xvn0 ?xgn ?xnn ?xdn ?xcn ?xmn ?xon ?xLn ?xVn ?aDm ?xDm ?xBm ?xsm ?xem ?xtm ?xkm ?xim ?xfm ?lEm ?cEm ?xvm0 ?xvm1 ?xgm ?xnm ?xdm ?xcm ?xmm ?xom ?xLm ?xVm ?xNcs ?xNct ?xNcn ?xNcm ?xNsc ?xNst ?xNsn ?xNsm ?xNtc ?xNts ?xNtn ?xNtm ?xNnc ?xNns ?xNnt ?xNnm ?xNmc ?xNms ?xNmt ?xNmn ?gGS ?eGS ?z_int ?z_list ?z_len ?z_abs ?z_bool ?z_str ?z_isinstance ?z_range ?z_repr ?z_all ?z_zip ?z_tuple ?z_min ?z_max ?z_ValueError
    (case aL => k_is); (case aCC => k_is); (case sTCC => k_is); (case sRCC => k_is)
    (case sGCC => k_is); (case cM => k_is); (case sco => k_is); (case rco => k_is)
    (case mC => k_is); (case aDc => k_is); (case aDs => k_is); (case aDt => k_is)
    (case aDn => k_is); (case aDm => k_is); (case aii => k_is); (case lii => k_is)
    (case cii => k_is); (case kii => k_is); (case aiw => k_is); (case liw => k_is)
    (case ciw => k_is); (case kiw => k_is); (case ais => k_is); (case lis => k_is)
    (case cis => k_is); (case kis => k_is); (case acm => k_is); (case lcm => k_is)
    (case ccm => k_is); (case kcm => k_is); (case asb => k_is); (case lsb => k_is)
    (case csb => k_is); (case ksb => k_is); (case alp => k_is); (case llp => k_is)
    (case clp => k_is); (case klp => k_is); (case ald => k_is); (case lld => k_is)
    (case cld => k_is); (case kld => k_is); (case alk => k_is); (case llk => k_is)
    (case clk => k_is); (case klk => k_is); (case alh => k_is); (case llh => k_is)
    (case clh => k_is); (case klh => k_is); (case alz => k_is); (case llz => k_is)
    (case clz => k_is); (case klz => k_is); (case alw => k_is); (case llw => k_is)
    (case clw => k_is); (case klw => k_is); (case alj => k_is); (case llj => k_is)
    (case clj => k_is); (case klj => k_is); (case alq => k_is); (case llq => k_is)
    (case clq => k_is); (case klq => k_is); (case acO => k_is); (case lcO => k_is)
    (case ccO => k_is); (case kcO => k_is); (case lDcO => k_is); (case alf => k_is)
    (case llf => k_is); (case clf => k_is); (case klf => k_is); (case ala => k_is)
    (case lla => k_is); (case cla => k_is); (case kla => k_is); (case ltlf => k_is)
    (case vtlf => first | rfl | decide +kernel); (case ntlf => first | kernel_rfl | rfl); (case ltla => k_is); (case vtla => first | rfl | decide +kernel)
    (case ntla => first | kernel_rfl | rfl); (case nB => decide); (case pgCC => k_is); (case hdCC => k_is)
    (case poCC => k_is); (case saCC => k_is); (case mkCC => k_is); (case kCCC => k_is)
    (case noCC_sizes => k_is); (case noCC_total => k_is); (case noCC_ends => k_is); (case noCC_rests => k_is)
    (case hCCC => k_is); (case hMCC => k_is); (case hG => k_is); (case hK => k_is)
    (case nECC => k_is); (case oiCC => first | kernel_rfl | rfl | decide +kernel); (case obCC => first | kernel_rfl | rfl | decide +kernel); (case osCC => first | kernel_rfl | rfl | decide +kernel)
    (case eM => first | rfl | decide +kernel); (case aci => k_is); (case ici => k_is); (case lci => k_is)
    (case cci => k_is); (case kci => k_is); (case lco => k_is); (case cco => k_is)
    (case kco => k_is); (case ace => k_is); (case ice => k_is); (case lce => k_is)
    (case cce => k_is); (case kce => k_is); (case acn => k_is); (case icn => k_is)
    (case lcn => k_is); (case ccn => k_is); (case kcn => k_is); (case aoa => k_is)
    (case ioa => k_is); (case loa => k_is); (case coa => k_is); (case koa => k_is)
    (case aom => k_is); (case iom => k_is); (case lom => k_is); (case com => k_is)
    (case kom => k_is); (case aog => k_is); (case iog => k_is); (case log => k_is)
    (case cog => k_is); (case kog => k_is); (case aov => k_is); (case iov => k_is)
    (case lov => k_is); (case cov => k_is); (case kov => k_is); (case amc => k_is)
    (case imc => k_is); (case lmc => k_is); (case cmc => k_is); (case kmc => k_is)
    (case amp => k_is); (case imp => k_is); (case lmp => k_is); (case cmp => k_is)
    (case kmp => k_is); (case first => k_is); (case ra => k_is); (case s1 => k_is)
    (case s2 => k_is); (case mro => first | rfl | decide +kernel); (case xA => k_is); (case yA => k_is)
    (case xM => k_is); (case yM => k_is); (case qint => first | kernel_rfl | rfl | decide +kernel); (case qbool => first | kernel_rfl | rfl | decide +kernel)
    (case qNoneType => first | kernel_rfl | rfl | decide +kernel); (case qstr => first | kernel_rfl | rfl | decide +kernel); (case qtuple => first | kernel_rfl | rfl | decide +kernel); (case qlist => first | kernel_rfl | rfl | decide +kernel)
    (case qdict => first | kernel_rfl | rfl | decide +kernel); (case xDc => k_is); (case xBc => first | rfl | decide +kernel); (case xsc => k_is)
    (case xec => k_is); (case xtc => k_is); (case xkc => k_is); (case xic => k_is)
    (case xfc => k_is); (case lEc => k_is); (case cEc => k_is); (case xvc0 => k_is)
    (case xgc => k_is); (case xnc => k_is); (case xdc => k_is); (case xcc => k_is)
    (case xmc => k_is); (case xoc => first | kernel_rfl | rfl | decide +kernel); (case xLc => first | kernel_rfl | rfl | decide +kernel); (case xVc => first | kernel_rfl | rfl | decide +kernel)
    (case xDs => k_is); (case xBs => first | rfl | decide +kernel); (case xss => k_is); (case xes => k_is)
    (case xts => k_is); (case xks => k_is); (case xis => k_is); (case xfs => k_is)
    (case lEs => k_is); (case cEs => k_is); (case xvs0 => k_is); (case xgs => k_is)
    (case xns => k_is); (case xds => k_is); (case xcs => k_is); (case xms => k_is)
    (case xos => first | kernel_rfl | rfl | decide +kernel); (case xLs => first | kernel_rfl | rfl | decide +kernel); (case xVs => first | kernel_rfl | rfl | decide +kernel); (case xDt => k_is)
    (case xBt => first | rfl | decide +kernel); (case xst => k_is); (case xet => k_is); (case xtt => k_is)
    (case xkt => k_is); (case xit => k_is); (case xft => k_is); (case lEt => k_is)
    (case cEt => k_is); (case xvt0 => k_is); (case xgt => k_is); (case xnt => k_is)
    (case xdt => k_is); (case xct => k_is); (case xmt => k_is); (case xot => first | kernel_rfl | rfl | decide +kernel)
    (case xLt => first | kernel_rfl | rfl | decide +kernel); (case xVt => first | kernel_rfl | rfl | decide +kernel); (case xDn => k_is); (case xBn => first | rfl | decide +kernel)
    (case xsn => k_is); (case xen => k_is); (case xtn => k_is); (case xkn => k_is)
    (case xin => k_is); (case xfn => k_is); (case lEn => k_is); (case cEn => k_is)
    (case xvn0 => k_is); (case xgn => k_is); (case xnn => k_is); (case xdn => k_is)
    (case xcn => k_is); (case xmn => k_is); (case xon => first | kernel_rfl | rfl | decide +kernel); (case xLn => first | kernel_rfl | rfl | decide +kernel)
    (case xVn => first | kernel_rfl | rfl | decide +kernel); (case xDm => k_is); (case xBm => first | rfl | decide +kernel); (case xsm => k_is)
    (case xem => k_is); (case xtm => k_is); (case xkm => k_is); (case xim => k_is)
    (case xfm => k_is); (case lEm => k_is); (case cEm => k_is); (case xvm0 => k_is)
    (case xvm1 => k_is); (case xgm => k_is); (case xnm => k_is); (case xdm => k_is)
    (case xcm => k_is); (case xmm => k_is); (case xom => first | kernel_rfl | rfl | decide +kernel); (case xLm => first | kernel_rfl | rfl | decide +kernel)
    (case xVm => first | kernel_rfl | rfl | decide +kernel); (case xNcs => first | kernel_rfl | rfl | decide +kernel); (case xNct => first | kernel_rfl | rfl | decide +kernel); (case xNcn => first | kernel_rfl | rfl | decide +kernel)
    (case xNcm => first | kernel_rfl | rfl | decide +kernel); (case xNsc => first | kernel_rfl | rfl | decide +kernel); (case xNst => first | kernel_rfl | rfl | decide +kernel); (case xNsn => first | kernel_rfl | rfl | decide +kernel)
    (case xNsm => first | kernel_rfl | rfl | decide +kernel); (case xNtc => first | kernel_rfl | rfl | decide +kernel); (case xNts => first | kernel_rfl | rfl | decide +kernel); (case xNtn => first | kernel_rfl | rfl | decide +kernel)
    (case xNtm => first | kernel_rfl | rfl | decide +kernel); (case xNnc => first | kernel_rfl | rfl | decide +kernel); (case xNns => first | kernel_rfl | rfl | decide +kernel); (case xNnt => first | kernel_rfl | rfl | decide +kernel)
    (case xNnm => first | kernel_rfl | rfl | decide +kernel); (case xNmc => first | kernel_rfl | rfl | decide +kernel); (case xNms => first | kernel_rfl | rfl | decide +kernel); (case xNmt => first | kernel_rfl | rfl | decide +kernel)
    (case xNmn => first | kernel_rfl | rfl | decide +kernel); (case gGS => k_is); (case eGS => first | rfl | decide +kernel); (case z_int => k_is)
    (case z_list => k_is); (case z_len => k_is); (case z_abs => k_is); (case z_bool => k_is)
    (case z_str => k_is); (case z_isinstance => k_is); (case z_range => k_is); (case z_repr => k_is)
    (case z_all => k_is); (case z_zip => k_is); (case z_tuple => k_is); (case z_min => k_is)
    (case z_max => k_is); (case z_ValueError => k_is)
