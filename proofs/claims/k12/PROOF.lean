import PyProof.Rows.All
import Wide.All
import OpenK.AllK
import Wide.FinOn
import HandS.ForMost
import HandS.Wide
import HandS.Codes
import HandS.EndBits
import HandS.Lambda
import HandS.IsInst
import PyProof.IsiBase
import KE.KIsAll
import HandS.Walk
import HandS.StrMore
import PyProof.StrOps2
import HandS.More
import PyProof.StrWalks
import HandS.Words
import HandS.Exc
import HandS.ExcField
import HandS.ExcIs
import HandS.ClsMeth
import HandS.SlotsOwn
import KE.KOpsOwn
import PyProof.TwoTypes
import HandS.ExcInit
import HandS.Zip
import HandS.Iter
import KE.GoesMore
import HandS.Text
import KE.IntTextText
import HandS.Dict
import HandS.Style
import HandS.Defaults
import HandS.ExcValue
import HandS.MakeKwOnly
import HandS.Star
import HandS.FStr
import HandS.RaiseMore
import KE.KCallOwn
import HandS.Comp
import HandS.EndTab
import PySem.Challenge.RW_latechunks_k12_texts_of_chunks
set_option Elab.async false
set_option linter.all false
set_option maxRecDepth 100000
set_option maxHeartbeats 4000000
namespace Lw
open PySem PySem.Spec PyProof.Rows L2
def top (i : Nat) : Stmt := PySem.Challenge.pw_latechunks_k12_texts_of_chunks.main.body.getD i (.Pass ⟨0, 0, 0, 0⟩)

theorem stir {x s : Int} (hx0 : 0 ≤ x) (hx : x < 2147483648) (hs0 : 0 ≤ s) (hs : s ≤ 1000000) (e f g : Int) (he0 : 0 ≤ e) (he : e ≤ 1000) (hf0 : 0 ≤ f) (hf : f ≤ 1000000) (hg0 : 0 ≤ g) (hg : g ≤ 1000000) :
    (x * (2 * s + e) + f * s * s + g).natAbs < 2 ^ 64 := by
  have a0 : 0 ≤ x * (2 * s + e) := Int.mul_nonneg hx0 (by omega)
  have a1 : x * (2 * s + e) ≤ 2147483648 * 2001000 := Int.mul_le_mul (by omega) (by omega) (by omega) (by omega)
  have b0 : 0 ≤ f * s := Int.mul_nonneg hf0 hs0
  have b1 : f * s ≤ 1000000 * 1000000 := Int.mul_le_mul hf hs hs0 (by omega)
  have c0 : 0 ≤ f * s * s := Int.mul_nonneg b0 hs0
  have c1 : f * s * s ≤ 1000000 * 1000000 * 1000000 := Int.mul_le_mul b1 hs hs0 (by omega)
  omega
theorem fsmall {f s : Int} (hf0 : 0 ≤ f) (hf : f ≤ 1000000) (hs0 : 0 ≤ s) (hs : s ≤ 1000000) : -(2 ^ 64) < f * s ∧ f * s < 2 ^ 64 := by
  have b0 : 0 ≤ f * s := Int.mul_nonneg hf0 hs0
  have b1 : f * s ≤ 1000000 * 1000000 := Int.mul_le_mul hf hs hs0 (by omega)
  omega
theorem fm0 {a d : Int} (hd : 0 < d) : 0 ≤ Int.fmod a d := Int.fmod_nonneg_of_pos _ hd
theorem fm1 {a d : Int} (hd : 0 < d) (h : d ≤ 2147483648) : Int.fmod a d < 2147483648 := Int.lt_of_lt_of_le (Int.fmod_lt_of_pos _ hd) h
theorem fm64 {a d : Int} (hd : 0 < d) (h : d ≤ 2147483648) : -(2 ^ 64) < Int.fmod a d ∧ Int.fmod a d < 2 ^ 64 := by
  have h0 := fm0 (a := a) hd
  have h1 := fm1 (a := a) hd h
  omega
theorem ite_false_of {c : Bool} {A B : Prop} (h : ¬ c = true) (hb : B) : if c = true then A else B := by rw [if_neg h]; exact hb
/-- behind an if: what both ways end in -/
theorem join_if {t u : TS} {D : Ends} {b : Bool} {σ : L2.St} {H : Hp} (Pj : L2.St → Hp → Prop) (hr : ∀ σ' H', Pj σ' H' → D.nx σ' H') (h : (∀ σ' H', Pj σ' H' → D.nx σ' H') → if b = true then t D σ H else u D σ H) : if b = true then t D σ H else u D σ H := h hr
theorem lay_ints : ∀ xs : List Int, PyData.canLayAll0 (xs.map PyData.int) = true
  | [] => rfl
  | x :: r => by
    show (PyData.canLay0 (.int x) && PyData.canLayAll0 (r.map PyData.int)) = true
    rw [lay_ints r]; rfl
theorem depth_ints : ∀ xs : List Int, PyData.depthAll (xs.map PyData.int) = 0
  | [] => rfl
  | x :: r => by
    show max (PyData.depth (.int x)) (PyData.depthAll (r.map PyData.int)) = 0
    rw [depth_ints r]; rfl
theorem shaped_ints (xs : List Int) : SeqAt.shaped (.list (xs.map PyData.int)) = true := by
  unfold SeqAt.shaped
  have h1 : PyData.canLay0 (.list (xs.map PyData.int)) = true := lay_ints xs
  have h2 : PyData.depth (.list (xs.map PyData.int)) = 1 := by
    show PyData.depthAll (xs.map PyData.int) + 1 = 1
    rw [depth_ints]
  rw [h1, h2]; rfl
theorem dp_ints {K : PySem.W.Frag} {H : Hp} : ∀ xs : List Int, DpAll K H (xs.map V.int) (xs.map PyData.int)
  | [] => .nil
  | x :: r => .cons (.int x) (dp_ints r)
theorem eqv_nil (xs : List Int) : PyData.eqv (.list (xs.map PyData.int)) (.list []) = decide (xs = []) := by
  cases xs <;> rfl
abbrev sPen : Stmt := top 27
abbrev sDraw : Stmt := top 28
abbrev sPick : Stmt := top 29
/-- all but what stands at p is as it was -/
def Kp (p : Addr) (H H' : Hp) : Prop := ∀ b o, b ≠ p → H b = some o → H' b = some o
/-- a pen at p: its numbers at l, its place, its rest -/
structure PenAt (H : Hp) (p l : Addr) (xs : List Int) (s g : Int) : Prop where
  at_ : H p = some (.lst [.ref l, .int s, .int g])
  ls : H l = some (.lst (xs.map V.int))
  ne : p ≠ l
  s0 : 0 ≤ s
  g0 : 0 ≤ g
def Pen (H : Hp) (p l : Addr) (n : Nat) : Prop := ∃ xs s g, PenAt H p l xs s g ∧ s ≤ n
def spDraw : Sp := fun vs H Q _ => ∃ (p l : Addr) (n : Nat) (m : Int), vs = [.ref p, .int m] ∧ 0 < m ∧ m < 2 ^ 200 ∧ Pen H p l n ∧ n ≤ 1000000 ∧
  ∀ (r : Int) (H' : Hp), 0 ≤ r → r < m → Pen H' p l (n + 1) → Kp p H H' → Q (.int r) H'
structure Txt0 (mg : Str → Option Value) : Prop where
  n_int : mg "int" = none
  n_list : mg "list" = none
  n_len : mg "len" = none
  n_abs : mg "abs" = none
section
variable {P : Program} {w : World} {K : PySem.W.Frag} {mg : Str → Option Value} {base : Heap}
theorem scDraw : FnScope ["_law_pen_here", "_law_many", "_law_digit", "_law_spot", "_law_cell", "_law_great", "_law_mixed"] ["_law_pen_here", "_law_many"] (C8.fnScope sDraw) := C8.fnScope_by (by decide +kernel)
theorem cal_draw {f : Addr} {fd : FuncData} (F : C8.Def K mg "_law_draw" sDraw f fd) (b : Binds K fd ["_law_pen_here", "_law_many"] []) (T : Txt0 mg) : C8.Cal P w K mg base 1 "_law_draw" spDraw [] := by
  refine C8.cal0 F b .nil scDraw (fun vs H Q E h => ?_) (fun cdv A outer st H vs Q E hr h => ?_)
  · obtain ⟨p, l, n, m, rfl, _⟩ := h
    rfl
  · obtain ⟨p, l, n, m, rfl, hm, hm2, ⟨xs, s, g, ⟨hp, hl, ne, s0, g0⟩, hs⟩, hn, k⟩ := h
    refine ⟨_, (pss_cons (ps_if (pt_cmpR op_gt (pe_ix ix_list (pv 0) pe_int (fun _ _ => rfl)) pe_int (nomark _)) (pss_cons (ps_set (i := 2) scDraw.nd rfl (Or.inl rfl) (pe_op op_modN (pe_callTy call_int1 (by rfl) T.n_int (by decide +kernel) (pa_cons (pe_ix ix_list (pv 0) pe_int (fun _ _ => rfl)) pa_nil)) (pv 1)))
  (pss_cons (ps_asg (pe_op op_fdivW (pe_callTy call_int1 (by rfl) T.n_int (by decide +kernel) (pa_cons (pe_ix ix_list (pv 0) pe_int (fun _ _ => rfl)) pa_nil)) (pv 1)) (pg_sub (pv 0) pe_int set_list))
  (pss_one (ps_ret (pv 2))))) pss_nil)
  (pss_cons (ps_set (i := 3) scDraw.nd rfl (Or.inl rfl) (pe_ix ix_list (pv 0) pe_int (fun _ _ => rfl)))
  (pss_cons (ps_asg (pe_op op_add (pv 3) pe_int) (pg_sub (pv 0) pe_int set_list))
  (pss_cons (ps_set (i := 4) scDraw.nd rfl (Or.inl rfl) (pe_op op_add (pe_op op_mul pe_int (pv 3)) pe_int))
  (pss_cons (ps_if (pt_cmpR (op_neD hr.units) (pe_ix ix_list (pv 0) pe_int (fun _ _ => rfl)) (pe_lst pa_nil) (nomark _)) (pss_one (ps_set (i := 4) scDraw.nd rfl (Or.inl rfl) (pe_ix ix_list (pe_ix ix_list (pv 0) pe_int (fun _ _ => rfl)) (pe_op op_modN (pe_callTy call_int1 (by rfl) T.n_int (by decide +kernel) (pa_cons (pv 3) pa_nil)) (pe_callB call_len_seq (by rfl) T.n_len (by decide +kernel) (pa_cons (pe_ix ix_list (pv 0) pe_int (fun _ _ => rfl)) pa_nil))) (fun _ _ => rfl)))) pss_nil)
  (pss_cons (ps_if (PW.pt (pw_and (pt_cmpR op_lt (pv 3) (pe_callB call_len_seq (by rfl) T.n_len (by decide +kernel) (pa_cons (pe_ix ix_list (pv 0) pe_int (fun _ _ => rfl)) pa_nil)) (nomark _)) (pw_and1 (pt_cmpR op_ge (pe_callB call_abs (by rfl) T.n_abs (by decide +kernel) (pa_cons (pv 4) pa_nil)) (pe_op op_pow pe_int pe_int) (nomark _))))) (pss_cons (ps_set (i := 5) scDraw.nd rfl (Or.inl rfl) (pe_op op_add (pe_op op_mul pe_int (pe_op op_sub (pe_callB call_abs (by rfl) T.n_abs (by decide +kernel) (pa_cons (pv 4) pa_nil)) (pe_op op_pow pe_int pe_int))) (pe_callTy call_int1 (by rfl) T.n_int (by decide +kernel) (pa_cons (pe_cmpR op_lt (pv 4) pe_int (nomark _)) pa_nil))))
  (pss_cons (ps_asg (pe_op op_fdivW (pe_callTy call_int1 (by rfl) T.n_int (by decide +kernel) (pa_cons (pv 5) pa_nil)) (pv 1)) (pg_sub (pv 0) pe_int set_list))
  (pss_one (ps_ret (pe_op op_modN (pe_callTy call_int1 (by rfl) T.n_int (by decide +kernel) (pa_cons (pv 5) pa_nil)) (pv 1)))))) pss_nil)
  (pss_cons (ps_set (i := 6) scDraw.nd rfl (Or.inl rfl) (pe_op op_modN (pe_callTy call_int1 (by rfl) T.n_int (by decide +kernel) (pa_cons (pe_op op_pow (pe_op op_add (pe_op op_add (pe_op op_modN (pe_callTy call_int1 (by rfl) T.n_int (by decide +kernel) (pa_cons (pv 4) pa_nil)) pe_int) (pe_op op_mul pe_int (pv 3))) pe_int) pe_int) pa_nil)) pe_int))
  (pss_cons (ps_set (i := 6) scDraw.nd rfl (Or.inl rfl) (pe_op op_modN (pe_callTy call_int1 (by rfl) T.n_int (by decide +kernel) (pa_cons (pe_op op_pow (pe_op op_add (pe_op op_add (pe_op op_mul (pv 6) (pe_op op_add (pe_op op_mul pe_int (pv 3)) pe_int)) (pe_op op_mul (pe_op op_mul pe_int (pv 3)) (pv 3))) pe_int) pe_int) pa_nil)) pe_int))
  (pss_one (ps_ret (pe_op op_modN (pe_callTy call_int1 (by rfl) T.n_int (by decide +kernel) (pa_cons (pe_op op_fdivW (pv 6) pe_int) pa_nil)) (pv 1)))))))))))), ?_⟩
    have hmb : CDivW 0 m := wide_div (b := 200) hm (by omega) (by decide) (by decide)
    refine ⟨_, rfl, p, _, _, _, rfl, rfl, SqL.of hp, rfl, _, _, rfl, rfl, _, rfl, ite2 (fun c => ?_) (fun c => ?_)⟩
    · -- the rest is above 0: a digit of it
      refine ⟨_, rfl, p, _, _, _, rfl, rfl, SqL.of hp, rfl, Or.inl ⟨_, rfl, ?_⟩⟩
      refine ⟨_, rfl, _, _, rfl, rfl, (by omega), ?_⟩
      refine ⟨_, rfl, p, _, _, _, rfl, rfl, SqL.of hp, rfl, Or.inl ⟨_, rfl, ?_⟩⟩
      refine ⟨_, rfl, _, _, rfl, rfl, hmb, ?_⟩
      refine ⟨_, rfl, p, _, _, _, rfl, rfl, hp, rfl, ?_⟩
      refine ⟨_, rfl, ?_⟩
      refine k _ _ (Int.fmod_nonneg_of_pos _ hm) (Int.fmod_lt_of_pos _ hm) ⟨xs, s, g / m, ⟨?_, ?_, ne, s0, Int.ediv_nonneg g0 (Int.le_of_lt hm)⟩, by omega⟩ fun b o hb e => ?_
      · rw [upd_same]; rfl
      · rw [upd_ne (Ne.symm ne)]; exact hl
      · rw [upd_ne hb]; exact e
    · -- the next place
      refine ⟨_, rfl, p, _, _, _, rfl, rfl, SqL.of hp, rfl, ?_⟩
      refine ⟨_, rfl, _, _, rfl, rfl, _, rfl, p, _, _, _, rfl, rfl, hp, rfl, ?_⟩
      have hp1 : upd H p (.lst [V.ref l, V.int (s + 1), V.int g]) p = some (.lst [V.ref l, V.int (s + 1), V.int g]) := upd_same
      have hl1 : upd H p (.lst [V.ref l, V.int (s + 1), V.int g]) l = some (.lst (xs.map V.int)) := by rw [upd_ne (Ne.symm ne)]; exact hl
      have k1 : Kp p H (upd H p (.lst [V.ref l, V.int (s + 1), V.int g])) := fun b o hb e => by rw [upd_ne hb]; exact e
      show tSeq _ _ _ _ (upd H p (.lst [V.ref l, V.int (s + 1), V.int g]))
      generalize upd H p (.lst [V.ref l, V.int (s + 1), V.int g]) = H1 at hp1 hl1 k1 ⊢
      have fin : ∀ (r g' : Int) (H' : Hp), 0 ≤ r → r < m → 0 ≤ g' → H' p = some (.lst [V.ref l, V.int (s + 1), V.int g']) → Kp p H1 H' → Q (.int r) H' := fun r g' H' h0 h1 h2 h3 h4 =>
        k r H' h0 h1 ⟨xs, s + 1, g', ⟨h3, h4 _ _ (Ne.symm ne) hl1, ne, by omega, h2⟩, by omega⟩ fun b o hb e => h4 b o hb (k1 b o hb e)
      refine ⟨_, rfl, _, _, rfl, rfl, Or.inl (by decide), _, _, rfl, rfl, ?_⟩
      refine ⟨_, rfl, p, _, _, _, rfl, rfl, SqL.of hp1, rfl, (by show 0 ≤ sizeLine; decide), fun q hq => ?_⟩
      have lq : l ≠ q := ne_of_none hl1 hq
      have pq : p ≠ q := ne_of_none hp1 hq
      have hl2 : upd H1 q (.lst []) l = some (.lst (xs.map V.int)) := by rw [upd_ne lq]; exact hl1
      have hp2 : upd H1 q (.lst []) p = some (.lst [V.ref l, V.int (s + 1), V.int g]) := by rw [upd_ne pq]; exact hp1
      have k2 : Kp p H1 (upd H1 q (.lst [])) := fun b o hb e => by rw [upd_ne (ne_of_none e hq)]; exact e
      refine ⟨.list (xs.map PyData.int), .list [], .lst (SqL.of hl2) (dp_ints xs), .lst (SqL.of upd_same) .nil, shaped_ints xs, rfl, _, rfl, ?_⟩
      generalize upd H1 q (.lst []) = H2 at hl2 hp2 k2 ⊢
      refine join_if (fun σ' H' => ∃ cell : Int, σ' = [some (V.ref p), some (V.int m), none, some (V.int s), some (V.int cell), none, none] ∧ H' = H2) ?rest (fun go => ?_)
      case rest =>
        rintro σ' H' ⟨cell, rfl, rfl⟩
        refine ⟨_, rfl, _, rfl, p, _, _, _, rfl, rfl, SqL.of hp2, rfl, l, xs.map V.int, rfl, .inl (SqL.of hl2), _, _, rfl, rfl, _, rfl, ?_⟩
        refine ite2 (fun c2 => ?_) (fun c2 => ?_)
        · refine ⟨_, rfl, _, rfl, _, _, rfl, rfl, ⟨by decide, by decide, by decide⟩, _, _, rfl, rfl, _, rfl, ?_⟩
          refine ite2 (fun c3 => ?_) (fun c3 => ?_)
          · refine ⟨_, rfl, _, rfl, _, _, rfl, rfl, ⟨by decide, by decide, by decide⟩, _, _, rfl, rfl, _, _, rfl, rfl, Or.inl (by decide), _, rfl, _, _, rfl, rfl, Or.inr ⟨_, rfl, _, _, rfl, rfl, ?_⟩⟩
            have hge : (10 : Int) ^ (18 : Int).toNat ≤ (if cell < 0 then -cell else cell) := of_decide_eq_true c3
            generalize hG : 2 * ((if cell < 0 then -cell else cell) - 10 ^ (18 : Int).toNat) + (if decide (cell < 0) = true then (1 : Int) else 0) = G
            have hG0 : 0 ≤ G := by
              rw [← hG]
              have h1 : 0 ≤ (if decide (cell < 0) = true then (1 : Int) else 0) := by split <;> decide
              omega
            refine ⟨_, rfl, Or.inl ⟨_, rfl, _, rfl, _, _, rfl, rfl, (by exact hmb), _, rfl, p, _, _, _, rfl, rfl, hp2, rfl, ?_⟩⟩
            refine ⟨_, rfl, Or.inl ⟨_, rfl, _, rfl, _, _, rfl, rfl, (by show ¬ (_ = _); omega), ?_⟩⟩
            refine fin _ (G / m) _ (fm0 hm) (Int.fmod_lt_of_pos _ hm) (Int.ediv_nonneg hG0 (Int.le_of_lt hm)) ?_ fun b o hb e => ?_
            · rw [upd_same, ← hG]; rfl
            · rw [upd_ne hb]; exact k2 b o hb e
          · refine ⟨_, rfl, Or.inl ⟨_, rfl, ?_⟩⟩
            refine ⟨_, _, rfl, rfl, (by show ¬ (_ = _); decide), _, rfl, _, _, rfl, rfl, Or.inl (by decide), _, _, rfl, rfl, _, _, rfl, rfl, ?_⟩
            generalize hz : Int.fmod cell _ = z
            have hz0 : 0 ≤ z := by rw [← hz]; exact fm0 (by decide)
            have hz1 : z < 2147483648 := by rw [← hz]; exact fm1 (by decide) (by decide)
            refine ⟨_, _, rfl, rfl, ⟨by decide, by decide, by omega⟩, Or.inl ⟨_, rfl, ?_⟩⟩
            refine ⟨_, _, rfl, rfl, (by show ¬ (_ = _); decide), ?_⟩
            refine ⟨_, rfl, _, rfl, _, _, rfl, rfl, Or.inl (by decide), _, _, rfl, rfl, _, _, rfl, rfl, Or.inl (by exact fm64 (by decide) (by decide)), ?_⟩
            refine ⟨_, rfl, _, _, rfl, rfl, Or.inl (by decide), _, rfl, _, _, rfl, rfl, Or.inl (by exact fsmall (by decide) (by decide) s0 (by omega)), _, _, rfl, rfl, _, _, rfl, rfl, ?_⟩
            refine ⟨_, _, rfl, rfl, ⟨by decide, by decide, by exact stir (fm0 (by decide)) (fm1 (by decide) (by decide)) s0 (by omega) _ _ _ (by decide) (by decide) (by decide) (by decide) (by decide) (by decide)⟩, Or.inl ⟨_, rfl, ?_⟩⟩
            refine ⟨_, _, rfl, rfl, (by show ¬ (_ = _); decide), ?_⟩
            refine ⟨_, rfl, _, _, rfl, rfl, ⟨by decide, by decide⟩, Or.inl ⟨_, rfl, _, rfl, _, _, rfl, rfl, (by show ¬ (_ = _); omega), ?_⟩⟩
            exact fin _ g _ (fm0 hm) (Int.fmod_lt_of_pos _ hm) g0 hp2 k2
        · refine iteF ?_
          refine ⟨_, rfl, Or.inl ⟨_, rfl, ?_⟩⟩
          refine ⟨_, _, rfl, rfl, (by show ¬ (_ = _); decide), _, rfl, _, _, rfl, rfl, Or.inl (by decide), _, _, rfl, rfl, _, _, rfl, rfl, ?_⟩
          generalize hz : Int.fmod cell _ = z
          have hz0 : 0 ≤ z := by rw [← hz]; exact fm0 (by decide)
          have hz1 : z < 2147483648 := by rw [← hz]; exact fm1 (by decide) (by decide)
          refine ⟨_, _, rfl, rfl, ⟨by decide, by decide, by omega⟩, Or.inl ⟨_, rfl, ?_⟩⟩
          refine ⟨_, _, rfl, rfl, (by show ¬ (_ = _); decide), ?_⟩
          refine ⟨_, rfl, _, rfl, _, _, rfl, rfl, Or.inl (by decide), _, _, rfl, rfl, _, _, rfl, rfl, Or.inl (by exact fm64 (by decide) (by decide)), ?_⟩
          refine ⟨_, rfl, _, _, rfl, rfl, Or.inl (by decide), _, rfl, _, _, rfl, rfl, Or.inl (by exact fsmall (by decide) (by decide) s0 (by omega)), _, _, rfl, rfl, _, _, rfl, rfl, ?_⟩
          refine ⟨_, _, rfl, rfl, ⟨by decide, by decide, by exact stir (fm0 (by decide)) (fm1 (by decide) (by decide)) s0 (by omega) _ _ _ (by decide) (by decide) (by decide) (by decide) (by decide) (by decide)⟩, Or.inl ⟨_, rfl, ?_⟩⟩
          refine ⟨_, _, rfl, rfl, (by show ¬ (_ = _); decide), ?_⟩
          refine ⟨_, rfl, _, _, rfl, rfl, ⟨by decide, by decide⟩, Or.inl ⟨_, rfl, _, rfl, _, _, rfl, rfl, (by show ¬ (_ = _); omega), ?_⟩⟩
          exact fin _ g _ (fm0 hm) (Int.fmod_lt_of_pos _ hm) g0 hp2 k2
      refine ite2 (fun c1 => ?_) (fun c1 => ?_)
      · rw [eqv_nil] at c1
        have hx : xs ≠ [] := by simpa using c1
        have hlen : 0 < xs.length := List.length_pos_iff.mpr hx
        refine ⟨_, rfl, p, _, _, _, rfl, rfl, SqL.of hp2, rfl, ?_⟩
        refine ⟨_, rfl, Or.inl ⟨_, rfl, ?_⟩⟩
        refine ⟨_, rfl, p, _, _, _, rfl, rfl, SqL.of hp2, rfl, l, xs.map V.int, rfl, .inl (SqL.of hl2), ?_⟩
        have hL : ((xs.map V.int).length : Int) = (xs.length : Int) := by rw [List.length_map]
        have hb1 : 0 ≤ s.fmod ((xs.map V.int).length : Int) := Int.fmod_nonneg_of_pos _ (by omega)
        have hb2 : s.fmod ((xs.map V.int).length : Int) < ((xs.map V.int).length : Int) := Int.fmod_lt_of_pos _ (by omega)
        obtain ⟨j, hj⟩ : ∃ j : Nat, s.fmod ((xs.map V.int).length : Int) = (j : Int) := ⟨(s.fmod ((xs.map V.int).length : Int)).toNat, by omega⟩
        have hjl : j < xs.length := by omega
        have hat : atI (xs.map V.int) (s.fmod ((xs.map V.int).length : Int)) = some (V.int xs[j]) := by
          rw [hj]; exact atI_nat (by simp [hjl])
        refine ⟨_, _, rfl, rfl, (by omega), ?_⟩
        refine ⟨l, _, _, V.int xs[j], rfl, rfl, SqL.of hl2, hat, ?_⟩
        exact go _ _ ⟨xs[j], rfl, rfl⟩
      · exact go _ _ ⟨_, rfl, rfl⟩
end
end Lw
namespace Lw
open PySem PySem.Spec PyProof.Rows L2

theorem Kp.refl (p : Addr) (H : Hp) : Kp p H H := fun _ _ _ e => e
theorem Kp.trans {p : Addr} {H H1 H2 : Hp} (a : Kp p H H1) (b : Kp p H1 H2) : Kp p H H2 := fun c o hc e => b c o hc (a c o hc e)
theorem Kp.of {p : Addr} {H H' : Hp} (s : Same H H') : Kp p H H' := fun b o _ e => s b o e
theorem Kp.seq {K : PySem.W.Frag} {p a : Addr} {H H' : Hp} {ys : List V} (k : Kp p H H') (ne : a ≠ p) (h : SqL K H a ys) : SqL K H' a ys := by
  rcases h with (h | ⟨o, h⟩) | h
  · exact .inl (.inl (k _ _ ne h))
  · exact .inl (.inr ⟨o, k _ _ ne h⟩)
  · exact .inr h
theorem same_new {H : Hp} {q : Addr} {o : HO} (hq : H q = none) : Same H (upd H q o) := fun b u e => by rw [upd_ne (ne_of_none e hq)]; exact e
theorem Pen.keep {H H' : Hp} {p l : Addr} {n : Nat} (h : Pen H p l n) (s : Same H H') : Pen H' p l n := by
  obtain ⟨xs, a, g, ⟨h1, h2, h3, h4, h5⟩, h6⟩ := h
  exact ⟨xs, a, g, ⟨s _ _ h1, s _ _ h2, h3, h4, h5⟩, h6⟩
theorem Pen.at {H : Hp} {p l : Addr} {n : Nat} (h : Pen H p l n) : ∃ o, H p = some o := by
  obtain ⟨xs, a, g, h, _⟩ := h
  exact ⟨_, h.at_⟩
theorem Pen.ne_new {H : Hp} {p l q : Addr} {n : Nat} (h : Pen H p l n) (hq : H q = none) : q ≠ p := by
  obtain ⟨o, h1⟩ := h.at
  exact (ne_of_none h1 hq).symm
theorem Pen.more {H : Hp} {p l : Addr} {n m : Nat} (h : Pen H p l n) (hm : n ≤ m) : Pen H p l m := by
  obtain ⟨xs, a, g, h1, h2⟩ := h
  exact ⟨xs, a, g, h1, by omega⟩
def spPick (K : PySem.W.Frag) : Sp := fun vs H Q _ => ∃ (p l a : Addr) (n : Nat) (ys : List V), vs = [.ref p, .ref a] ∧ Pen H p l n ∧ n ≤ 1000000 ∧ SqL K H a ys ∧ a ≠ p ∧ 0 < ys.length ∧ ys.length < 1000000 ∧
  ∀ (j : Nat) (v : V) (H' : Hp), ys[j]? = some v → Pen H' p l (n + 1) → Kp p H H' → Q v H'
def spPen (K : PySem.W.Frag) : Sp := fun vs H Q _ => ∃ (a : Addr) (ns : List Int), vs = [.ref a] ∧ SqL K H a (ns.map V.int) ∧ ns.length ≤ 63 ∧ ∀ (p l : Addr) (H' : Hp), Pen H' p l 0 → Same H H' → H p = none → Q (.ref p) H'
theorem Pen.over {H : Hp} {p l q : Addr} {n : Nat} {o : HO} (h : Pen H p l n) (h1 : q ≠ p) (h2 : q ≠ l) : Pen (upd H q o) p l n := by
  obtain ⟨xs, a, g, ⟨e1, e2, e3, e4, e5⟩, h6⟩ := h
  exact ⟨xs, a, g, ⟨by rw [upd_ne h1.symm]; exact e1, by rw [upd_ne h2.symm]; exact e2, e3, e4, e5⟩, h6⟩
theorem Pen.ne_new2 {H : Hp} {p l q : Addr} {n : Nat} (h : Pen H p l n) (hq : H q = none) : q ≠ l := by
  obtain ⟨xs, a, g, h, _⟩ := h
  exact (ne_of_none h.ls hq).symm
section
variable {P : Program} {w : World} {K : PySem.W.Frag} {mg : Str → Option Value} {base : Heap}
theorem scPick : FnScope ["_law_pen_here", "_law_some"] ["_law_pen_here", "_law_some"] (C8.fnScope sPick) := C8.fnScope_by (by decide +kernel)
theorem cal_pick {f : Addr} {fd : FuncData} (F : C8.Def K mg "_law_pick" sPick f fd) (b : Binds K fd ["_law_pen_here", "_law_some"] []) (T : Txt0 mg) (D : C8.Cal P w K mg base 1 "_law_draw" spDraw []) : C8.Cal P w K mg base 2 "_law_pick" (spPick K) [] := by
  refine C8.cal0 F b .nil scPick (fun vs H Q E h => ?_) (fun cdv A outer st H vs Q E hr h => ?_)
  · obtain ⟨p, l, a, n, ys, rfl, _⟩ := h
    rfl
  · obtain ⟨p, l, a, n, ys, rfl, hp, hn, hs, ne, h0, h1, k⟩ := h
    refine ⟨_, (pss_one (ps_ret (pe_ix ix_list (pv 1) (C8.pe_c D hr (by decide) (by rfl) (pa_cons (pv 0) (pa_cons (pe_callB call_len_seq (by rfl) T.n_len (by decide +kernel) (pa_cons (pv 1) pa_nil)) pa_nil))) (fun _ _ => rfl)))), ?_⟩
    refine ⟨_, rfl, _, rfl, _, rfl, a, ys, rfl, .inl hs, ?_⟩
    refine ⟨p, l, n, _, rfl, (by omega), (by omega), hp, hn, fun r H' r0 r1 hp' k' => ?_⟩
    obtain ⟨j, hj⟩ : ∃ j : Nat, r = (j : Int) := ⟨r.toNat, by omega⟩
    subst hj
    have hjl : j < ys.length := by omega
    refine ⟨a, ys, _, ys[j], rfl, rfl, k'.seq ne hs, atI_nat (by simp [hjl]), ?_⟩
    exact k j _ H' (by simp [hjl]) hp' k'
theorem scPen : FnScope ["_law_script"] ["_law_script"] (C8.fnScope sPen) := C8.fnScope_by (by decide +kernel)
theorem cut_ints (xs : List Int) (lo hi : Option Int) : cutV (xs.map V.int) lo hi = ((xs.drop (HT.sIx xs.length 0 lo)).take (HT.sIx xs.length xs.length hi - HT.sIx xs.length 0 lo)).map V.int := by
  unfold cutV
  rw [List.length_map, List.map_take, List.map_drop]
theorem cal_pen {f : Addr} {fd : FuncData} (F : C8.Def K mg "_law_pen" sPen f fd) (b : Binds K fd ["_law_script"] []) (T : Txt0 mg) : C8.Cal P w K mg base 1 "_law_pen" (spPen K) [] := by
  refine C8.cal0 F b .nil scPen (fun vs H Q E h => ?_) (fun cdv A outer st H vs Q E hr h => ?_)
  · obtain ⟨a, ns, rfl, _⟩ := h
    rfl
  · obtain ⟨a, ns, rfl, hs, hl, k⟩ := h
    refine ⟨_, (pss_one (ps_ret (pe_lst (pa_cons (pe_callTy call_list_of (by rfl) T.n_list (by decide +kernel) (pa_cons (pe_slice sl_list (pv 0) po_none (po_some pe_int)) pa_nil)) (pa_cons pe_int (pa_cons pe_int pa_nil)))))), ?_⟩
    refine ⟨_, rfl, _, rfl, a, _, rfl, hs, fun c hc => ?_⟩
    refine ⟨c, _, rfl, .inl (SqL.of upd_same), fun l hl2 => ?_⟩
    refine ⟨(by show 3 ≤ sizeLine; decide), fun p hp => ?_⟩
    have s1 := same_new (o := HO.lst (cutV (ns.map V.int) none (some 63))) hc
    have s2 := same_new (o := HO.lst (cutV (ns.map V.int) none (some 63))) hl2
    have s3 := same_new (o := HO.lst [V.ref l, V.int 0, V.int 0]) hp
    have pl : p ≠ l := fun e => by rw [e, upd_same] at hp; cases hp
    refine k p l _ ⟨((ns.drop (HT.sIx ns.length 0 none)).take (HT.sIx ns.length ns.length (some 63) - HT.sIx ns.length 0 none)), 0, 0, ⟨upd_same, ?_, pl, by omega, by omega⟩, by omega⟩ ((s1.trans s2).trans s3) ((s1.trans s2).free hp)
    rw [upd_ne pl.symm, upd_same, cut_ints]
end
end Lw
namespace Lw
open PySem PySem.Spec PyProof.Rows L2

/-! ### defs that are called where no repr runs -/
/-- a def's promise where nothing is being shown -/
structure FnG (P : Program) (w : World) (K : PySem.W.Frag) (mg : Str → Option Value) (base : Heap) (k : Nat) (f : Addr) (fd : FuncData) (ps : List Str) (sp : Sp) : Prop where
  len : ∀ vs H Q E, sp vs H Q E → vs.length = ps.length
  run : ∀ (A : Around) (outer : List Env) (s : Shared) (H : Hp) (args : Args) (us : List Value) (vs : List V) (Q : VK) (E : XK), A.guards = some [] → Room k A → Env0 P w K mg base A outer s H →
    BindsTo s fd args (ps.zip us) → Vals vs us → sp vs H Q E → codeAny (model P w) A (.call (.ref f) args) (CR C8.CX0 outer P w H s Q E) s
structure CalG (P : Program) (w : World) (K : PySem.W.Frag) (mg : Str → Option Value) (base : Heap) (k : Nat) (x : Str) (sp : Sp) (dvs : List V) : Prop where
  ex : ∃ (f : Addr) (fd : FuncData) (ps : List Str) (ds : List Value), FnG P w K mg base k f fd ps sp ∧ mg x = some (.ref f) ∧ PySem.W.keepIn K (.ref f) = true ∧ Binds K fd ps ds ∧ Vals dvs ds
section
variable {P : Program} {w : World} {K : PySem.W.Frag} {mg : Str → Option Value} {base : Heap}
theorem calG {x : Str} {st : Stmt} {f : Addr} {fd : FuncData} {N ps : List Str} {ds : List Value} {dvs : List V} {k : Nat} {sp : Sp} (F : C8.Def K mg x st f fd) (b : Binds K fd ps ds) (d : Vals dvs ds) (S : FnScope N ps (C8.fnScope st))
    (len : ∀ vs H Q E, sp vs H Q E → vs.length = ps.length)
    (body : ∀ (cdv : Value) (A : Around) (outer : List Env) (s : Shared) (H : Hp) (vs : List V) (Q : VK) (E : XK), (A.deeper (envOfC x (C8.fnScope st) s.heap.objs.size f cdv)).guards = some [] → Room k (A.deeper (envOfC x (C8.fnScope st) s.heap.objs.size f cdv)) → sp vs H Q E →
      ∃ t, PSs (cxOf C8.CX0 P w K mg base N x (C8.fnScope st) f cdv A outer s H E).nox (C8.fnBody st) t ∧ t { nx := fun _ H' => Q .non H', rt := Q } (start N vs) H) : CalG P w K mg base (k + 1) x sp dvs := by
  refine ⟨f, fd, ps, ds, ⟨len, ?_⟩, F.mgf, F.kp, b, d⟩
  intro A outer s H args us vs Q E hg hr e0 hb r hs
  obtain ⟨oc, od, dV, kV, doc, pm, an, cdv, ct, osl, rfl, lk, hcd⟩ := F.fn.ex
  refine LamX.run_ofS lk hcd S hr e0 hb r (len _ _ _ _ hs) fun hr' => ?_
  obtain ⟨t, h1, h2⟩ := body cdv A outer s H vs Q E hg hr' hs
  exact ⟨t, h1.nox, h2⟩
end
section
variable {X : Cx} {k j : Nat} {x : Str} {sp : Sp} {dvs : List V} {p pos : Pos} {e : Expr} {es : List Expr} {t : TA}
theorem pe_g (c : CalG X.prog X.w X.K X.mg X.base k x sp dvs) (hG : X.A.guards = some []) (hr : Room j X.A) (hk : k ≤ j) (hg : Gl X x) (ha : PA X (e :: es) t)
    (hdb : (x == ("__debug__" : Str)) = false := by decide) (he : starEach (e :: es) X.env = (false, eval e X.env) :: starEach es X.env := by rfl) (hpl : (backTo pos (starEach es X.env)).any (·.1) = false := by rfl) :
    PE X (.Call (.Name x p) (e :: es) [] pos) (tCall sp dvs C8.E0 t) := by
  obtain ⟨f, fd, ps, ds, F, hm, kp, b, d⟩ := c.ex
  refine ⟨fun pins s σ H Q I h => ?_⟩
  refine wpAny_Call_Name_kw (ld_glob I hg hm ?_ hdb)
  refine PySem.W.callWith_K (h₀ := X.base) I.ok.mod.kin kp (thn (ha.run pos pins s σ H _ I h) fun us s1 g => ?_) he hpl
  obtain ⟨vs, H1, I1, r, q⟩ := g
  refine ⟨I1.kIn, ?_⟩
  have r2 := r.append d
  have hl : (us ++ ds).length = ps.length := r2.length.symm.trans (F.len _ _ _ _ q)
  refine wpAny_call (codeAny_mono (F.run X.A X.stack s1 H1 ⟨us, []⟩ (us ++ ds) (vs ++ dvs) Q C8.E0 hG (hr.mono hk) I1.env0 (b s1 us I1.kIn hl) r2 q) fun r s' hq => ?_)
  match r, hq with
  | .error e, hq => exact hq.elim
  | .ok (.ret u), hq => exact I1.after hq
  | .ok .next, hq => exact hq.elim
  | .ok .brk, hq => exact hq.elim
  | .ok .cont, hq => exact hq.elim
/-! ### repr of data -/
def rRepr (K : PySem.W.Frag) : List V → Hp → VK → Prop := fun xs H Q => ∃ (a : Addr) (d : PyData), xs = [.ref a] ∧ Dp K H (.ref a) d ∧ d.showable = true ∧ d.hasDict = false ∧ d.depth ≤ 100 ∧ d.shown.length ≤ sizeLine ∧ Q (.str d.shown) H
theorem call_reprD (hG : X.A.guards = some []) (hr : Room 0 X.A) : CallR X (.builtin "repr") (rRepr X.K) := by
  intro pins s σ H xs us Q I r h
  obtain ⟨a, d, rfl, hd, h1, h2, h3, h4, q⟩ := h
  obtain ⟨u, rfl, ru⟩ := vals1 r
  have e : u = Value.ref a := ru
  subst e
  obtain ⟨as, rd⟩ := Dp.reads I d _ _ hd rfl
  have hun := hr.un
  exact repr_of_reads' rd h1 (fun z => by rw [h2] at z; cases z) hG (by omega) (fun _ _ e => e) (fun h' u' tk kp => ⟨.str d.shown, H, I.kept kp, ⟨u', rfl⟩, q⟩) h4
end
end Lw
namespace Lw
open PySem PySem.Spec PyProof.Rows L2

open LamX
/-! ### a lambda as a value -/
def FnO (f : Addr) : HO := .ext fun h => ∃ o : Obj, h.get? f = some o ∧ o.cls = .type "function"
section
variable {X : Cx} {pins : List (Addr × Obj)} {σ : L2.St} {H : Hp} {s : Shared}
theorem lay_fn {h' : Heap} {t' : Nat} {o : Obj} (I : Inv X pins σ H { s with heap := h', toks := t' }) (ho : o.cls = .type "function") (hs : o.isFreed = false) :
    Inv X pins σ (upd H h'.objs.size (FnO h'.objs.size)) { s with heap := h'.push o, toks := t' } := by
  refine I.laid (h' := h'.push o) (t' := t') (fun b u e => Heap.get?_push_of_some _ e) (Nat.le_refl _) ?_
  have g : (h'.push o).get? h'.objs.size = some o := Heap.get?_push_size _ hs
  refine ⟨⟨o, g, ho⟩, ⟨o, g⟩, ?_⟩
  rintro h1 h2 ⟨u, e1, e2⟩ st
  exact ⟨u, st u e1, e2⟩
theorem lam_val {T : List (Addr × Str)} {c B : Addr} {params : Arguments} {body : Expr} {scope : Scope} {pos : Pos} {E Q : Value → Shared → Prop} (I : Inv X pins σ H s) (TB : TabB X.base X.mg c B) (hcode : X.env.code = .ref c)
    (hm : (B, X.env.qual ++ "<lambda>") ∈ T) (hu : ∀ p ∈ T, p.1 = B → p.2 = X.env.qual ++ "<lambda>") (hT : Tabs T H) (hdef : defaultsOf params X.env = ([], []))
    (hfree : ∀ y ∈ scope.names, y.2 = .free → ∃ c, X.env.cells.lookup y.1 = some c)
    (h : ∀ (f : Addr) (H1 : Hp) (s' : Shared), Inv X pins σ (upd H1 f (FnO f)) s' → ExtN H H1 → Tabs T H1 → H1 f = none → Q (.ref f) s') :
    wpAny (model X.prog X.w) X.A (eval (.Lambda params body scope pos) X.env) Q E s := by
  have known := hT _ hm
  obtain ⟨ps, hB, trip, amg⟩ := known
  refine PySem.W.kla_eval hdef ?_
  have hat : s.heap.get? B = some { cls := .none, data := .fields ps } := I.hok B _ hB
  have blt := TB.bm.keeps I.bk
  have hdc := TB.code.keeps I.bk
  have glb := I.mod.glob.keeps I.bk
  rcases hc : codeAmong pos ps.toList with _ | cv
  · refine PySem.W.kla_makeFunction (mg := X.mg) (c := c) (P := B) (ps := ps) (closure_ok hfree) I.ok.glob glb hcode hdc hat trip hc TB.gP blt ?_
    intro c2 ctv h' tk hx hge hlt hrec htb
    obtain ⟨c3, oc, vs, t, e3, g1, g2, g3⟩ := hrec
    cases e3
    have nC : H c2 = none := I.hok.fresh hge
    have I0 := inv_table (t' := tk) (more := #[rawInt pos.line, rawInt pos.col, .ref c2]) (h' := h') I hB hx htb hge ⟨oc, vs, t, g1, g2, g3⟩
    have stays : ExtN H (upd (upd H B (.tbl (ps ++ #[rawInt pos.line, rawInt pos.col, .ref c2]))) c2 (CodeO c2 (X.env.qual ++ "<lambda>"))) := by
      intro b o e n
      rw [upd_ne (ne_of_none e nC)]
      by_cases hb : b = B
      · subst hb
        rw [hB] at e
        exact absurd (Option.some.inj e).symm (n ps)
      · rw [upd_ne hb]; exact e
    refine h h'.objs.size _ _ (lay_fn (t' := tk) I0 rfl rfl) stays ?_ ?_
    · intro p hp
      by_cases hb : p.1 = B
      · rw [hu p hp hb, hb]
        refine ⟨ps ++ #[rawInt pos.line, rawInt pos.col, .ref c2], ?_, ?_, ?_⟩
        · rw [upd_ne (ne_of_none hB nC), upd_same]
        · rw [show (ps ++ #[rawInt pos.line, rawInt pos.col, .ref c2]).toList = ps.toList ++ [rawInt pos.line, rawInt pos.col, .ref c2] by simp]
          exact PySem.TriplesOk_snoc _ _ _ _ trip
        · intro p' cv' hcv
          rw [show (ps ++ #[rawInt pos.line, rawInt pos.col, .ref c2]).toList = ps.toList ++ [rawInt pos.line, rawInt pos.col, .ref c2] by simp] at hcv
          rcases among_app _ trip hcv with z | z
          · obtain ⟨c0, a1, a2⟩ := amg p' cv' z
            exact ⟨c0, a1, stays _ _ a2 codeO_ne⟩
          · exact ⟨c2, z, upd_same⟩
      · obtain ⟨qs, a1, a2, a3⟩ := hT p hp
        refine ⟨qs, ?_, a2, ?_⟩
        · rw [upd_ne (ne_of_none a1 nC), upd_ne hb]; exact a1
        · intro p' cv' hcv
          obtain ⟨c0, b1, b2⟩ := a3 p' cv' hcv
          exact ⟨c0, b1, stays _ _ b2 codeO_ne⟩
    · have n1 : h'.objs.size ≠ c2 := Nat.ne_of_gt hlt
      have n2 : h'.objs.size ≠ B := Nat.ne_of_gt (Nat.lt_of_lt_of_le (Heap.lt_size hat) (Nat.le_trans hge (Nat.le_of_lt hlt)))
      rw [upd_ne n1, upd_ne n2]
      exact I.hok.fresh (Nat.le_trans hge (Nat.le_of_lt hlt))
  · obtain ⟨c2, e, hco⟩ := amg pos cv hc
    subst e
    refine PySem.W.kla_makeFunctionHit (mg := X.mg) (c := c) (P := B) (ps := ps) (closure_ok hfree) I.ok.glob glb hcode hdc hat trip hc blt ?_
    intro ctv h' tk hx hsz
    have I0 : Inv X pins σ H { s with heap := h', toks := tk } := I.kept hx
    exact h h'.objs.size H _ (lay_fn (t' := tk) I0 rfl rfl) (ExtN.refl H) hT (I.hok.fresh hsz)
end
def tLamV (T : List (Addr × Str)) : TE := fun _ H Q => Tabs T H ∧ ∀ (f : Addr) (H1 : Hp), ExtN H H1 → Tabs T H1 → H1 f = none → Q (.ref f) (upd H1 f (FnO f))
section
variable {X : Cx}
theorem pe_lamV {T : List (Addr × Str)} {c B : Addr} {params : Arguments} {body : Expr} {scope : Scope} {pos : Pos} (TB : TabB X.base X.mg c B) (hcode : X.env.code = .ref c)
    (hm : (B, X.env.qual ++ "<lambda>") ∈ T) (hu : ∀ p ∈ T, p.1 = B → p.2 = X.env.qual ++ "<lambda>") (hdef : defaultsOf params X.env = ([], [])) (L : ∀ y ∈ scope.names, y.2 ≠ .free) :
    PE X (.Lambda params body scope pos) (tLamV T) := by
  refine ⟨fun pins s σ H Q I h => ?_⟩
  refine lam_val I TB hcode hm hu h.1 hdef (fun y hy e => absurd e (L y hy)) fun f H1 s' I1 eN T1 nf => ?_
  exact ⟨.ref f, _, I1, rfl, h.2 f H1 eN T1 nf⟩
end
end Lw
namespace Lf
open PySem
open Sem (wp)

theorem ga : Slot "function" "__getattribute__" "object.__getattribute__" := by
  refine .of (owner := "object") (n := "__getattribute__") ?_ (by decide +kernel) (by decide +kernel) (by decide +kernel) ?_ ?_
  · rw [typeLookup_type, builtinLookup_eq_fast]
    kernel_rfl
  · first
      | exact .inl (by decide +kernel)
      | exact .inr (by decide +kernel)
  · rw [isSubtype_type]
    kernel_rfl
theorem lkc : typeLookup (.type "function") "__class__" = pure (some (.builtin "object.__class__")) := by
  rw [typeLookup_type, builtinLookup_eq_fast]
  kernel_rfl
theorem sub_own : isSubtype (.type "function") (.type (".".intercalate ("object.__class__".cutAt '.').dropLast)) = pure true := by
  rw [F.owner_object_class]
  rw [isSubtype_type]
  kernel_rfl
section
variable {prog : Program} {w : World} {A : Around} {E : Value → Shared → Prop} {h : Heap} {g : Array GenState} {d : Drawn} {t : Nat} {os : OsState} {a : Addr} {o : Obj}
theorem fn_get {R : Result → Shared → Prop} (hx : h.get? a = some o) (hc : o.cls = .type "function")
    (hq : R (.ok (.ret (.type "function"))) ⟨h, g, d, t, os⟩) :
    codeAny (model prog w) A (.call (.builtin "getset_descriptor.__get__") ⟨[.builtin "object.__class__", .ref a, .type "function"], []⟩) R ⟨h, g, d, t, os⟩ := by
  have i1 : (⟨h, g, d, t, os⟩ : Shared).TypeIs (.ref a) "function" := ⟨o, hx, hc⟩
  have i2 : (⟨h, g, d, t, os⟩ : Shared).TypeIs (.builtin "object.__class__") "getset_descriptor" := F.typeOf_object_class
  have i3 := sub_own
  refine codeAny_call_builtin F.slot_gs_get.plain F.entry_gs_get ?_
  refine F.slot_gs_get.check _ _ _ _ _ _ _ _ i2 (F.args_gs_get _ _ _) ?_
  repeat (any_goals (first | assumption | wp_step))
  refine ⟨Code.quiet_builtin _ (by decide +kernel), ?_⟩
  refine codeAny_builtin F.entry_object_class ?_
  repeat (any_goals (first | assumption | wp_step))
theorem fn_ga {tk : Tok} {Q : Fin → Shared → Prop} (hx : h.get? a = some o) (hc : o.cls = .type "function")
    (hq : Q (.done (.ret (.type "function"))) ⟨h, g, d, t, os⟩) :
    wpAny (model prog w) A (Builtin.«object.__getattribute__» ⟨[.ref a, .str "__class__" tk], []⟩) Q E ⟨h, g, d, t, os⟩ := by
  have i1 : (⟨h, g, d, t, os⟩ : Shared).TypeIs (.ref a) "function" := ⟨o, hx, hc⟩
  have i2 : (⟨h, g, d, t, os⟩ : Shared).TypeIs (.builtin "object.__class__") "getset_descriptor" := F.typeOf_object_class
  have i3 := lkc
  have i4 := F.typeOf_object_class
  have i5 := F.slot_gs_get.lookup
  have i6 := F.slot_gs_set.lookup
  repeat (any_goals (first | assumption | wp_step))
  refine fn_get hx hc ?_
  repeat (any_goals (first | assumption | wp_step))
theorem fn_call {tk : Tok} {R : Result → Shared → Prop} (hx : h.get? a = some o) (hc : o.cls = .type "function")
    (hq : R (.ok (.ret (.type "function"))) ⟨h, g, d, t, os⟩) :
    codeAny (model prog w) A (.call (.builtin "object.__getattribute__") ⟨[.ref a, .str "__class__" tk], []⟩) R ⟨h, g, d, t, os⟩ := by
  refine codeAny_call_builtin ga.plain F.entry_object_getattribute ?_
  exact ga.check _ _ _ _ _ _ _ _ (show (⟨h, g, d, t, os⟩ : Shared).TypeIs (.ref a) "function" from ⟨o, hx, hc⟩) (F.args_object_getattribute_2 _ _) (fn_ga hx hc hq)
theorem fn_by {tk : Tok} {Q : Value → Shared → Prop} (hx : h.get? a = some o) (hc : o.cls = .type "function") (hq : Q (.type "function") ⟨h, g, d, t, os⟩) :
    wpAny (model prog w) A (getAttrBy (.ref a) (.str "__class__" tk) false) Q E ⟨h, g, d, t, os⟩ := by
  have i1 : (⟨h, g, d, t, os⟩ : Shared).TypeIs (.ref a) "function" := ⟨o, hx, hc⟩
  have i2 := ga.lookup
  have i3 := ga.bind (.ref a)
  repeat (any_goals (first | assumption | wp_step))
  refine fn_call hx hc ?_
  repeat (any_goals (first | assumption | wp_step))
theorem fn_attr {Q : Option Value → Shared → Prop} (hx : h.get? a = some o) (hc : o.cls = .type "function") (hq : Q (some (.type "function")) ⟨h, g, d, t + 1, os⟩) :
    wpAny (model prog w) A (getAttr? (.ref a) "__class__") Q E ⟨h, g, d, t, os⟩ := by
  unfold getAttr? getAttrBy?
  repeat (any_goals (first | assumption | with_reducible apply fn_by hx hc | wp_step))
end
end Lf
namespace Lw
open PySem PySem.Spec PyProof.Rows L2

open LamX
theorem kitx_fn {K : PySem.W.Frag} {a : Addr} : PySem.W.KitX K (.ref a) (.type "function") (PySem.W.KitAt a "function") := PySem.W.kitx_of PySem.W.kitAt_ty (fun {_ _ _ _ _ s} p k => by
  obtain ⟨h, g, d, t, os⟩ := s
  obtain ⟨o, h1, h2⟩ := p
  exact Lf.fn_attr h1 h2 k)
/-- a value's type: a def's, too -/
inductive TyZ (K : PySem.W.Frag) (H : Hp) : V → Value → Prop where
  | x {v : V} {t : Value} (h : TyX K H v t) : TyZ K H v t
  | fn {a : Addr} (e : H a = some (FnO a)) : TyZ K H (.ref a) (.type "function")
def rIsz (K : PySem.W.Frag) : List V → Hp → VK → Prop := fun xs H Q => ∃ (x c : V) (t u : Value) (b : Bool), xs = [x, c] ∧ ClsV c u ∧ TyZ K H x t ∧ PySem.W.kitOne K t u = some b ∧ Q (.bl b) H
theorem call_isz {X : Cx} : CallR X (.builtin "isinstance") (rIsz X.K) := by
  intro pins s σ H xs us Q I r h
  obtain ⟨x, c, t, u, b, rfl, k, ty, e, q⟩ := h
  obtain ⟨u1, u2, rfl, r1, r2⟩ := vals2 r
  have e2 := k.eq r2
  subst e2
  cases ty with
  | x ty =>
    obtain ⟨W, Z, p, hx⟩ := kit_of I r1 ty
    exact PySem.W.kia_one Z I.kIn p e hx fun tk => ⟨.bl b, H, I.tok tk, rfl, q⟩
  | @fn a ea =>
    have e3 : u1 = Value.ref a := r1
    subst e3
    obtain ⟨⟨o, h1, h2⟩, _⟩ := I.hok a _ ea
    exact PySem.W.kia_one kitx_fn I.kIn ⟨o, h1, h2⟩ e (fun z => by cases z) fun tk => ⟨.bl b, H, I.tok tk, rfl, q⟩
end Lw
namespace Lw
open PySem PySem.Spec PyProof.Rows L2

open LamX
abbrev sIsInt : Stmt := top 3
abbrev sWithin : Stmt := top 4
abbrev sSize : Stmt := top 5
/-- what the top has told of the module's names -/
structure Txt (mg : Str → Option Value) : Prop extends Txt0 mg where
  n_bool : mg "bool" = none
  n_str : mg "str" = none
  n_isinstance : mg "isinstance" = none
  n_range : mg "range" = none
  n_repr : mg "repr" = none
  n_all : mg "all" = none
  c_GS : ∃ t, mg "GREATEST_SIZE" = some (.int (10 ^ 30) t)
/-- any value that a caller may pass here -/
inductive Anyv (K : PySem.W.Frag) (H : Hp) : V → Prop where
  | int (i : Int) : Anyv K H (.int i)
  | non : Anyv K H .non
  | bl (b : Bool) : Anyv K H (.bl b)
  | str (z : Str) : Anyv K H (.str z)
  | obj {a : Addr} {t : Value} (h : TyZ K H (.ref a) t) (h1 : PySem.W.kitOne K t (.type "int") = some false) (h2 : PySem.W.kitOne K t (.type "bool") = some false) (h3 : PySem.W.kitOne K t (.type "str") = some false) : Anyv K H (.ref a)
def isI : V → Bool
  | .int _ => true
  | _ => false
def clsI : V → Bool
  | .int _ => true
  | .bl _ => true
  | _ => false
def clsB : V → Bool
  | .bl _ => true
  | _ => false
def isS : V → Bool
  | .str _ => true
  | _ => false
def inB (x : V) (lo hi : Int) : Bool := match x with
  | .int i => decide (lo ≤ i) && decide (i ≤ hi)
  | _ => false
def spIsInt (K : PySem.W.Frag) : Sp := fun vs H Q _ => ∃ x, vs = [x] ∧ Anyv K H x ∧ Q (.bl (isI x)) H
def spWithin (K : PySem.W.Frag) : Sp := fun vs H Q _ => ∃ x lo hi, vs = [x, .int lo, .int hi] ∧ Anyv K H x ∧ Q (.bl (inB x lo hi)) H
def spSize (K : PySem.W.Frag) : Sp := fun vs H Q _ => ∃ x, vs = [x] ∧ Anyv K H x ∧ Q (.bl (inB x 1 (10 ^ 30))) H
section
variable {P : Program} {w : World} {K : PySem.W.Frag} {mg : Str → Option Value} {base : Heap}
theorem isz_int {H : Hp} {x : V} {Q : V → Hp → Prop} (a : Anyv K H x) (q : Q (.bl (clsI x)) H) : rIsz K [x, .ty "int"] H Q := by
  cases a with
  | int i => exact ⟨_, _, .type "int", .type "int", true, rfl, .ty "int", .x (.base (.int i)), kit_ty (r := true) (by decide +kernel), q⟩
  | non => exact ⟨_, _, .type "NoneType", .type "int", false, rfl, .ty "int", .x (.base .non), kit_ty (r := false) (by decide +kernel), q⟩
  | bl b => exact ⟨_, _, .type "bool", .type "int", true, rfl, .ty "int", .x (.base (.bl b)), kit_ty (r := true) (by decide +kernel), q⟩
  | str z => exact ⟨_, _, .type "str", .type "int", false, rfl, .ty "int", .x (.base (.str z)), kit_ty (r := false) (by decide +kernel), q⟩
  | obj h h1 h2 h3 => exact ⟨_, _, _, .type "int", _, rfl, .ty "int", h, h1, q⟩
theorem isz_bool {H : Hp} {x : V} {Q : V → Hp → Prop} (a : Anyv K H x) (q : Q (.bl (clsB x)) H) : rIsz K [x, .ty "bool"] H Q := by
  cases a with
  | int i => exact ⟨_, _, .type "int", .type "bool", false, rfl, .ty "bool", .x (.base (.int i)), kit_ty (r := false) (by decide +kernel), q⟩
  | non => exact ⟨_, _, .type "NoneType", .type "bool", false, rfl, .ty "bool", .x (.base .non), kit_ty (r := false) (by decide +kernel), q⟩
  | bl b => exact ⟨_, _, .type "bool", .type "bool", true, rfl, .ty "bool", .x (.base (.bl b)), kit_ty (r := true) (by decide +kernel), q⟩
  | str z => exact ⟨_, _, .type "str", .type "bool", false, rfl, .ty "bool", .x (.base (.str z)), kit_ty (r := false) (by decide +kernel), q⟩
  | obj h h1 h2 h3 => exact ⟨_, _, _, .type "bool", _, rfl, .ty "bool", h, h2, q⟩
theorem isz_str {H : Hp} {x : V} {Q : V → Hp → Prop} (a : Anyv K H x) (q : Q (.bl (isS x)) H) : rIsz K [x, .ty "str"] H Q := by
  cases a with
  | int i => exact ⟨_, _, .type "int", .type "str", false, rfl, .ty "str", .x (.base (.int i)), kit_ty (r := false) (by decide +kernel), q⟩
  | non => exact ⟨_, _, .type "NoneType", .type "str", false, rfl, .ty "str", .x (.base .non), kit_ty (r := false) (by decide +kernel), q⟩
  | bl b => exact ⟨_, _, .type "bool", .type "str", false, rfl, .ty "str", .x (.base (.bl b)), kit_ty (r := false) (by decide +kernel), q⟩
  | str z => exact ⟨_, _, .type "str", .type "str", true, rfl, .ty "str", .x (.base (.str z)), kit_ty (r := true) (by decide +kernel), q⟩
  | obj h h1 h2 h3 => exact ⟨_, _, _, .type "str", _, rfl, .ty "str", h, h3, q⟩
theorem scIsInt : FnScope ["value"] ["value"] (C8.fnScope sIsInt) := C8.fnScope_by (by decide +kernel)
theorem fn_isint {f : Addr} {fd : FuncData} (F : C8.Def K mg "is_integer" sIsInt f fd) (T : Txt mg) : FnOk P w K mg base C8.CX0 1 f fd ["value"] (spIsInt K) := by
  refine C8.fn0 F.fn scIsInt (fun vs H Q E h => ?_) (fun cdv A outer st H vs Q E hr h => ?_)
  · obtain ⟨x, rfl, _⟩ := h
    rfl
  · obtain ⟨x, rfl, a, k⟩ := h
    refine ⟨_, (pss_one (ps_ret (pe_and (pe_callB call_isz (by rfl) T.n_isinstance (by decide +kernel) (pa_cons (pv 0) (pa_cons (pe_bltn (v := .ty "int") (by rfl) T.n_int (by decide +kernel) rfl) pa_nil))) (pe_one (pe_not (pe_callB call_isz (by rfl) T.n_isinstance (by decide +kernel) (pa_cons (pv 0) (pa_cons (pe_bltn (v := .ty "bool") (by rfl) T.n_bool (by decide +kernel) rfl) pa_nil)))))))), ?_⟩
    refine ⟨_, rfl, ?_⟩
    dsimp only [tCons, tC, tNil]
    refine isz_int a ⟨_, rfl, ?_⟩
    cases a with
    | int i =>
      refine iteT ⟨_, rfl, ?_⟩
      dsimp only [tCons, tC, tNil]
      exact isz_bool (.int i) ⟨_, rfl, k⟩
    | bl b =>
      refine iteT ⟨_, rfl, ?_⟩
      dsimp only [tCons, tC, tNil]
      exact isz_bool (.bl b) ⟨_, rfl, k⟩
    | non => exact iteF k
    | str z => exact iteF k
    | obj h h1 h2 h3 => exact iteF k
theorem cal_isint {f : Addr} {fd : FuncData} (F : C8.Def K mg "is_integer" sIsInt f fd) (b : Binds K fd ["value"] []) (T : Txt mg) : C8.Cal P w K mg base 1 "is_integer" (spIsInt K) [] :=
  ⟨f, fd, _, [], fn_isint F T, F.mgf, F.kp, b, .nil⟩
theorem scWithin : FnScope ["value", "least", "most"] ["value", "least", "most"] (C8.fnScope sWithin) := C8.fnScope_by (by decide +kernel)
theorem fn_within {f : Addr} {fd : FuncData} (F : C8.Def K mg "is_within" sWithin f fd) (T : Txt mg) (D : C8.Cal P w K mg base 1 "is_integer" (spIsInt K) []) : FnOk P w K mg base C8.CX0 2 f fd ["value", "least", "most"] (spWithin K) := by
  refine C8.fn0 F.fn scWithin (fun vs H Q E h => ?_) (fun cdv A outer st H vs Q E hr h => ?_)
  · obtain ⟨x, lo, hi, rfl, _⟩ := h
    rfl
  · obtain ⟨x, lo, hi, rfl, a, k⟩ := h
    refine ⟨_, (pss_one (ps_ret (pe_and (C8.pe_c D hr (by decide) (by rfl) (pa_cons (pv 0) pa_nil)) (pe_one (pe_chain op_le op_le (pv 1) (pv 0) (pv 2)))))), ?_⟩
    refine ⟨_, rfl, x, rfl, a, _, rfl, ?_⟩
    cases a with
    | int i =>
      refine iteT ⟨_, rfl, _, rfl, _, _, rfl, rfl, _, rfl, ite2 (fun c => ?_) (fun c => ?_)⟩
      · refine ⟨_, rfl, _, _, rfl, rfl, ?_⟩
        rw [show inB (.int i) lo hi = decide (i ≤ hi) by simp [inB, of_decide_eq_true c]] at k
        exact k
      · rw [show inB (.int i) lo hi = false by simp [inB, of_decide_eq_false (Bool.eq_false_iff.mpr c)]] at k
        exact k
    | bl b => exact iteF k
    | non => exact iteF k
    | str z => exact iteF k
    | obj h h1 h2 h3 => exact iteF k
theorem cal_within {f : Addr} {fd : FuncData} (F : C8.Def K mg "is_within" sWithin f fd) (b : Binds K fd ["value", "least", "most"] []) (T : Txt mg) (D : C8.Cal P w K mg base 1 "is_integer" (spIsInt K) []) : C8.Cal P w K mg base 2 "is_within" (spWithin K) [] :=
  ⟨f, fd, _, [], fn_within F T D, F.mgf, F.kp, b, .nil⟩
theorem scSize : FnScope ["value"] ["value"] (C8.fnScope sSize) := C8.fnScope_by (by decide +kernel)
theorem fn_size {f : Addr} {fd : FuncData} (F : C8.Def K mg "is_size" sSize f fd) (T : Txt mg) (D : C8.Cal P w K mg base 2 "is_within" (spWithin K) []) : FnOk P w K mg base C8.CX0 3 f fd ["value"] (spSize K) := by
  refine C8.fn0 F.fn scSize (fun vs H Q E h => ?_) (fun cdv A outer st H vs Q E hr h => ?_)
  · obtain ⟨x, rfl, _⟩ := h
    rfl
  · obtain ⟨x, rfl, a, k⟩ := h
    obtain ⟨tk, hGS⟩ := T.c_GS
    refine ⟨_, (pss_one (ps_ret (C8.pe_c D hr (by decide) (by rfl) (pa_cons (pv 0) (pa_cons pe_int (pa_cons (pe_glob (v := .int (10 ^ 30)) rfl hGS ⟨_, rfl⟩) pa_nil)))))), ?_⟩
    exact ⟨_, rfl, x, _, _, rfl, a, k⟩
theorem cal_size {f : Addr} {fd : FuncData} (F : C8.Def K mg "is_size" sSize f fd) (b : Binds K fd ["value"] []) (T : Txt mg) (D : C8.Cal P w K mg base 2 "is_within" (spWithin K) []) : C8.Cal P w K mg base 3 "is_size" (spSize K) [] :=
  ⟨f, fd, _, [], fn_size F T D, F.mgf, F.kp, b, .nil⟩
end
end Lw
namespace Lw
open PySem PySem.Spec PyProof.Rows L2

open LamX
/-- a comprehension over a text, whose tests and element leave the heap as it is -/
theorem lc_text {z : Str} {g : TG} {tt : TT} {te : TE} {vs : List Nat} {σ : L2.St} {H1 : Hp} {D : Addr} {Qd : Hp → Prop} (σc : Nat → L2.St) (flt : Nat → Bool) (f : Nat → V)
    (hg : ∀ c H (R : L2.St → Hp → Prop), R (σc c) H → g (.str ⟨#[c]⟩) (wipe σ vs) H R) (hw : ∀ c, wipe (σc c) vs = wipe σ vs) (ht : ∀ c H (R : Bool → Hp → Prop), R (flt c) H → tt (σc c) H R)
    (he : ∀ c H (R : V → Hp → Prop), flt c = true → R (f c) H → te (σc c) H R) (hz : z.cps.size ≤ 1000000) (hd : Qd (upd H1 D (.lst ((z.cps.toList.filter flt).map f)))) :
    ∃ W : Nat → Nat → Hp → Prop, (∃ m, W 0 m (upd H1 D (.lst []))) ∧ ∀ i m H, W i m H →
      ((Its z).stop i H ∧ Qd H) ∨ ((Its z).go i H ∧ ∃ Nx : Hp → Prop, (∀ H', Nx H' → ∃ m', m' < m ∧ W (i + 1) m' H') ∧ ∀ x H', (Its z).yld i H x H' → g x (wipe σ vs) H' fun σ2 H2 => wipe σ2 vs = wipe σ vs ∧ tt σ2 H2 fun b H3 =>
        if b = true then te σ2 H3 fun y H4 => ∃ acc, H4 D = some (.lst acc) ∧ acc.length < sizeLine ∧ Nx (upd H4 D (.lst (acc ++ [y]))) else Nx H3) := by
  refine lc_it (walk_str (z := z)) (fun i H => H = upd H1 D (.lst (((z.cps.toList.take i).filter flt).map f))) (by simp) (fun _ _ _ _ => trivial) ?_ ?_
  · intro i x H H' hi hP hY
    obtain ⟨rfl, c, hc, rfl⟩ := hY
    have hc' : z.cps.toList[i]? = some c := by rw [Array.getElem?_toList]; exact hc
    have htake : z.cps.toList.take (i + 1) = z.cps.toList.take i ++ [c] := by
      rw [List.take_add_one, hc']; rfl
    refine hg c _ _ ⟨hw c, ht c _ _ ?_⟩
    rw [hP]
    cases hf : flt c with
    | true =>
      refine iteT (he c _ _ hf ⟨_, upd_same, ?_, ?_⟩)
      · have h1 : (((z.cps.toList.take i).filter flt).map f).length ≤ z.cps.toList.length := by
          rw [List.length_map]
          exact Nat.le_trans (List.length_filter_le _ _) (List.length_take_le' _ _)
        rw [Array.length_toList] at h1
        exact Nat.lt_of_le_of_lt (Nat.le_trans h1 hz) (by show 1000000 < sizeLine; decide)
      · rw [upd_upd, htake, List.filter_append, List.map_append]
        simp [hf]
    | false =>
      refine iteF ?_
      rw [htake, List.filter_append, List.map_append]
      simp [hf]
  · rintro H rfl
    have e : z.cps.toList.take z.cps.size = z.cps.toList := List.take_of_length_le (by rw [Array.length_toList]; exact Nat.le_refl _)
    rw [e]
    exact hd
theorem inV_str (z : Str) : ∀ ws : List Str, inV (.str z) (ws.map V.str) = decide (z ∈ ws)
  | [] => rfl
  | x :: r => by
    show (eqV (.str x) (.str z) || inV (.str z) (r.map V.str)) = decide (z ∈ x :: r)
    rw [inV_str z r]
    show ((x == z) || decide (z ∈ r)) = _
    by_cases h : z = x
    · subst h; simp
    · have h2 : ¬ x = z := fun e => h e.symm
      simp [h, h2]
theorem flat_strs (ws : List Str) : (ws.map V.str).all flatV = true := by
  induction ws with
  | nil => rfl
  | cons x r ih => show (true && (r.map V.str).all flatV) = true; rw [ih]; rfl
theorem dp_signs {K : PySem.W.Frag} {H : Hp} : ∀ cs : List Nat, DpAll K H (cs.map fun c => V.str ⟨#[c]⟩) (cs.map fun c => PyData.str ⟨#[c]⟩)
  | [] => .nil
  | c :: r => .cons (.str _) (dp_signs r)
theorem lay_signs : ∀ cs : List Nat, (∀ c ∈ cs, c < 1114112) → PyData.canLayAll0 (cs.map fun c => PyData.str ⟨#[c]⟩) = true
  | [], _ => rfl
  | c :: r, h => by
    have h1 : PyData.canLay0 (.str ⟨#[c]⟩) = true := by
      show (#[c] : Array Nat).all (· < 1114112) = true
      simp [h c List.mem_cons_self]
    show (PyData.canLay0 (.str ⟨#[c]⟩) && PyData.canLayAll0 (r.map fun c => PyData.str ⟨#[c]⟩)) = true
    rw [h1, lay_signs r fun d hd => h d (List.mem_cons_of_mem _ hd)]; rfl
theorem depth_signs : ∀ cs : List Nat, PyData.depthAll (cs.map fun c => PyData.str ⟨#[c]⟩) = 0
  | [] => rfl
  | c :: r => by
    show max 0 (PyData.depthAll (r.map fun c => PyData.str ⟨#[c]⟩)) = 0
    rw [depth_signs r]; rfl
theorem shaped_signs (cs : List Nat) (h : ∀ c ∈ cs, c < 1114112) : SeqAt.shaped (.list (cs.map fun c => PyData.str ⟨#[c]⟩)) = true := by
  unfold SeqAt.shaped
  have h1 : PyData.canLay0 (.list (cs.map fun c => PyData.str ⟨#[c]⟩)) = true := lay_signs cs h
  have h2 : PyData.depth (.list (cs.map fun c => PyData.str ⟨#[c]⟩)) = 1 := by
    show PyData.depthAll (cs.map fun c => PyData.str ⟨#[c]⟩) + 1 = 1
    rw [depth_signs]
  rw [h1, h2]; rfl
theorem eqv_signs (cs : List Nat) : PyData.eqv (.list (cs.map fun c => PyData.str ⟨#[c]⟩)) (.list []) = cs.isEmpty := by
  cases cs <;> rfl
theorem filt_nil (p : Nat → Bool) : ∀ l : List Nat, (l.filter fun c => !p c).isEmpty = l.all p
  | [] => rfl
  | c :: r => by
    have ih := filt_nil p r
    cases h : p c with
    | true => simp only [List.filter_cons, h, Bool.not_true, List.all_cons, Bool.true_and]; exact ih
    | false => simp [h]
end Lw
namespace Lw
open PySem PySem.Spec PyProof.Rows L2

open SX PySem.NumText
/-! ### texts as lists of signs -/
def figs : List Nat → List Nat
  | 45 :: r => r
  | cs => cs
theorem figs_minus (r : List Nat) : figs (45 :: r) = r := rfl
theorem figs_other {c : Nat} (r : List Nat) (h : c ≠ 45) : figs (c :: r) = c :: r := by
  unfold figs
  split
  · rename_i e
    exact absurd (List.cons.inj e).1 h
  · rfl
theorem len1 : Str.length (S [45]) = 1 := rfl
theorem sub_head (c d : Nat) (r : List Nat) : Builtin.Str.subAt (S (c :: r)) (S [d]) 0 = decide (c = d) := by
  unfold Builtin.Str.subAt
  show ((c :: r).toArray.extract 0 (0 + 1) == #[d]) = _
  simp
  by_cases h : c = d <;> simp [h]
theorem rm_minus (cs : List Nat) : Txt.removeprefix (S cs) (S [45]) = S (figs cs) := by
  unfold Txt.removeprefix
  cases cs with
  | nil => rfl
  | cons c r =>
    rw [sub_head]
    by_cases h : c = 45
    · subst h
      rw [figs_minus]
      simp only [decide_true, if_true]
      show (if (((45 :: r).toArray.size - 1) == (45 :: r).toArray.size) = true then S (45 :: r) else Builtin.Str.strSub (S (45 :: r)) 1 ((45 :: r).toArray.size)) = S r
      have e : ((45 :: r).toArray.size - 1 == (45 :: r).toArray.size) = false := by simp
      rw [e]
      simp [Builtin.Str.strSub, S]
    · rw [figs_other r h]
      simp only [decide_eq_false h, Bool.false_eq_true, if_false]
      rfl
theorem sw_head (c d : Nat) (r : List Nat) : Txt.startswith (S (c :: r)) (S [d]) = decide (c = d) := by
  unfold Txt.startswith
  rw [sub_head]
  have e : decide (0 + (S [d]).length ≤ (S (c :: r)).length) = true := decide_eq_true (by rw [S_len, S_len]; simp)
  rw [e, Bool.true_and]
theorem sw_nil (d : Nat) : Txt.startswith (S []) (S [d]) = false := by
  unfold Txt.startswith
  have e : decide (0 + (S [d]).length ≤ (S []).length) = false := decide_eq_false (by rw [S_len, S_len]; simp)
  rw [e, Bool.false_and]
theorem ascii_S {cs : List Nat} (h : ∀ c ∈ cs, c < 128) : Txt.isascii (S cs) = true := by
  unfold Txt.isascii
  show cs.toArray.all (· < 128) = true
  simp only [List.all_toArray, List.all_eq_true, decide_eq_true_eq]
  exact h
theorem dig128 : ∀ c, c < 128 → Unicode.isDigit c = (decide (48 ≤ c) && decide (c ≤ 57)) := by decide +kernel
/-- all are figures, and there is one -/
def digB (cs : List Nat) : Bool := !cs.isEmpty && cs.all fun c => decide (48 ≤ c) && decide (c ≤ 57)
theorem isdigit_S {cs : List Nat} (h : ∀ c ∈ cs, c < 128) : Txt.isdigit (S cs) = digB cs := by
  unfold Txt.isdigit digB
  have e1 : decide ((S cs).length > 0) = !cs.isEmpty := by
    rw [S_len]
    cases cs <;> simp
  have e2 : (S cs).cps.all Unicode.isDigit = cs.all fun c => decide (48 ≤ c) && decide (c ≤ 57) := by
    show cs.toArray.all Unicode.isDigit = _
    rw [List.all_toArray]
    induction cs with
    | nil => rfl
    | cons c r ih =>
      rw [List.all_cons, List.all_cons, dig128 c (h c List.mem_cons_self), ih (fun d hd => h d (List.mem_cons_of_mem _ hd)) (by rw [S_len]; cases r <;> simp)]
  rw [e1, e2]
theorem digB_all {cs : List Nat} (h : digB cs = true) : AllDigits cs ∧ cs ≠ [] := by
  unfold digB at h
  rw [Bool.and_eq_true] at h
  refine ⟨fun c hc => ?_, fun e => by rw [e] at h; exact absurd h.1 (by decide)⟩
  have := List.all_eq_true.mp h.2 c hc
  rw [Bool.and_eq_true, decide_eq_true_eq, decide_eq_true_eq] at this
  exact this
theorem figs_sub {cs : List Nat} {c : Nat} (h : c ∈ figs cs) : c ∈ cs := by
  unfold figs at h
  split at h
  · exact List.mem_cons_of_mem _ h
  · exact h
theorem figs_len (cs : List Nat) : (figs cs).length ≤ cs.length := by
  unfold figs
  split
  · simp
  · exact Nat.le_refl _
/-! ### what figures are worth -/
theorem fold_app (a b : List Nat) (x : Nat) : (a ++ b).foldl (fun acc c => acc * 10 + (c - 48)) x = b.foldl (fun acc c => acc * 10 + (c - 48)) (a.foldl (fun acc c => acc * 10 + (c - 48)) x) := List.foldl_append
theorem fold_from : ∀ (b : List Nat) (x : Nat), b.foldl (fun acc c => acc * 10 + (c - 48)) x = x * 10 ^ b.length + digitsVal b
  | [], x => by simp [digitsVal]
  | c :: r, x => by
    show r.foldl _ (x * 10 + (c - 48)) = x * 10 ^ (r.length + 1) + r.foldl _ (0 * 10 + (c - 48))
    rw [fold_from r, fold_from r (0 * 10 + (c - 48)), Nat.pow_succ, Nat.zero_mul, Nat.zero_add, Nat.add_mul, Nat.mul_assoc, Nat.mul_comm 10 (10 ^ r.length), Nat.add_assoc]
theorem val_app (a b : List Nat) : digitsVal (a ++ b) = digitsVal a * 10 ^ b.length + digitsVal b := by
  show (a ++ b).foldl _ 0 = _
  rw [fold_app, fold_from b]; rfl
theorem val_zeros : ∀ k : Nat, digitsVal (List.replicate k 48) = 0
  | 0 => rfl
  | k + 1 => val_zeros k
theorem val_lt : ∀ cs : List Nat, AllDigits cs → digitsVal cs < 10 ^ cs.length
  | [], _ => by decide
  | c :: r, h => by
    have h1 := h c List.mem_cons_self
    have ih := val_lt r fun d hd => h d (List.mem_cons_of_mem _ hd)
    have e : digitsVal (c :: r) = (c - 48) * 10 ^ r.length + digitsVal r := by
      rw [show c :: r = [c] ++ r from rfl, val_app]
      show (0 * 10 + (c - 48)) * _ + _ = _
      rw [Nat.zero_mul, Nat.zero_add]
    rw [e, List.length_cons, Nat.pow_succ]
    have h2 : (c - 48) * 10 ^ r.length ≤ 9 * 10 ^ r.length := Nat.mul_le_mul_right _ (by omega)
    omega
theorem ten_two (n : Nat) : 10 ^ n ≤ 2 ^ (4 * n) := by
  rw [Nat.pow_mul]
  exact Nat.pow_le_pow_left (by decide) n
theorem all_zeros (k : Nat) : AllDigits (List.replicate k 48) := fun c hc => by
  rw [List.eq_of_mem_replicate hc]
  decide
theorem AllDigits.app {a b : List Nat} (ha : AllDigits a) (hb : AllDigits b) : AllDigits (a ++ b) := fun c hc => (List.mem_append.mp hc).elim (ha c) (hb c)
/-- the integer that a text writes just as str does -/
def intOf (cs : List Nat) : Option Int :=
  if digB (figs cs) = true then
    if (figs cs).head? = some 48 ∧ cs ≠ [48] then none
    else if cs.head? = some 45 then some (-((digitsVal (figs cs) : Nat) : Int)) else some ((digitsVal (figs cs) : Nat) : Int)
  else none
def optV : Option Int → V
  | none => .non
  | some i => .int i
end Lw
namespace Lw
open PySem PySem.Spec PyProof.Rows L2

open SX PySem.NumText
abbrev sIntOf : Stmt := top 16
theorem rep_list (z : Array Nat) : ∀ n : Nat, ∀ acc : Array Nat, ((List.replicate n z).foldl (· ++ ·) acc).toList = acc.toList ++ (List.replicate n z.toList).flatten
  | 0, acc => by simp
  | n + 1, acc => by
    rw [List.replicate_succ, List.foldl_cons, rep_list z n, List.replicate_succ, List.flatten_cons, Array.toList_append, List.append_assoc]
/-- a text, so many times -/
theorem op_mulS {X : Cx} : OpR X (binaryOp .Mult) (fun x y H Q => ∃ (cs : List Nat) (n : Int), x = .str (S cs) ∧ y = .int n ∧ 0 ≤ n ∧ n ≤ 10000 ∧ cs.length ≤ 1000 ∧ Q (.str (S (List.replicate n.toNat cs).flatten)) H) := by
  intro pins s σ H x y v u Q I rx ry h
  obtain ⟨cs, n, rfl, rfl, h0, h1, h2, q⟩ := h
  obtain ⟨t, rfl⟩ := rx
  obtain ⟨t2, rfl⟩ := ry
  refine PySem.P.mul_str ?_ ?_ ?_ ?_
  · rw [decide_eq_false (show ¬ n < -(2 ^ 63 : Int) by omega), decide_eq_false (show ¬ n ≥ 2 ^ 63 by omega)]; rfl
  · intro hn _ hz
    rw [S_len] at hz
    have : (9223372036854775807 : Int) / n ≥ 922337203685477 := by
      rw [ge_iff_le, Int.le_ediv_iff_mul_le (by omega)]
      omega
    have e : ((2 : Int) ^ 63 - 1) = 9223372036854775807 := by decide
    rw [e] at hz
    omega
  · intro hn _
    rw [S_len]
    have : cs.length * n.toNat ≤ 1000 * 10000 := Nat.mul_le_mul h2 (by omega)
    refine decide_eq_false ?_
    exact Nat.not_lt.mpr (Nat.le_trans this (by rw [sizeLine_eq]; decide))
  · by_cases hn : n < 1
    · rw [if_pos hn]
      have e : n.toNat = 0 := by omega
      rw [e] at q
      exact ⟨by decide, ⟨.str (S []), H, I.tok _, ⟨_, rfl⟩, q⟩⟩
    · rw [if_neg hn]
      by_cases hc : (n == 1 || (S cs).length == 0) = true
      · rw [if_pos hc]
        have e : (List.replicate n.toNat cs).flatten = cs := by
          rw [Bool.or_eq_true, beq_iff_eq, beq_iff_eq, S_len] at hc
          rcases hc with e | e
          · subst e; simp
          · rw [List.length_eq_zero_iff.mp e]; simp
        rw [e] at q
        exact ⟨.str (S cs), H, I, ⟨t, rfl⟩, q⟩
      · rw [if_neg hc]
        have e : (⟨(List.replicate n.toNat (S cs).cps).foldl (· ++ ·) #[]⟩ : Str) = S (List.replicate n.toNat cs).flatten := by
          refine congrArg Str.mk ?_
          refine Array.toList_inj.mp ?_
          rw [rep_list]; simp [S]
        rw [e]
        refine ⟨?_, ⟨.str _, H, I.tok _, ⟨_, rfl⟩, q⟩⟩
        rw [S_len, List.length_flatten, List.map_replicate, List.sum_replicate_nat]
        exact Nat.le_trans (Nat.mul_le_mul (show n.toNat ≤ 10000 by omega) h2) (by rw [sizeLine_eq]; decide)
theorem join_ifS {c : TT} {t u : TS} {D : Ends} {σ : L2.St} {H : Hp} (Pj : L2.St → Hp → Prop) (hr : ∀ σ' H', Pj σ' H' → D.nx σ' H') (h : (∀ σ' H', Pj σ' H' → D.nx σ' H') → tIfS c t u D σ H) : tIfS c t u D σ H := h hr
theorem nxt {t u : TS} {D D' : Ends} {σ : L2.St} {H : Hp} (e : D'.nx = tSeq t u D) (h : t { D with nx := u D } σ H) : tNext D' σ H := by
  show D'.nx σ H
  rw [e]; exact h
theorem slice_mid {a : List Nat} {i j : Int} (h0 : 0 ≤ i) (h1 : i ≤ j) (h2 : j ≤ (a.length : Int)) : Txt.slice (S a) (some i) (some j) = S ((a.drop i.toNat).take (j - i).toNat) :=
  beq_iff_eq.mp (PyProof.Rows.slice_closesL (x := S a) h0 h1 (by rw [S_len]; exact h2))
theorem rg60 (m : Nat) (hm : m ≤ 1000) : RgC 0 ((60 * m : Nat) : Int) 60 m := by
  refine ⟨by decide, by decide, ?_, ?_⟩
  · have key : ∀ x : Int, 0 ≤ x → x ≤ 100000 → Builtin.Range.rangeFitsLong x = true := fun x h0 h1 => by
      unfold Builtin.Range.rangeFitsLong
      rw [decide_eq_true (show -(2 ^ 63) ≤ x by omega), decide_eq_true (show x < 2 ^ 63 by omega)]; rfl
    have size : Builtin.Range.rangeSize 0 ((60 * m : Nat) : Int) 60 = (m : Int) := by
      unfold Builtin.Range.rangeSize
      rw [if_pos (show (60 : Int) > 0 by decide)]
      split <;> omega
    unfold Builtin.Range.small
    rw [size, if_pos (show (60 : Int) > 0 by decide), key 0 (by omega) (by omega), key _ (by omega) (by omega), key 60 (by omega) (by omega), key _ (by omega) (by omega), key _ (by omega) (by omega)]
    simp
  · unfold Builtin.Range.rangeSize
    rw [if_pos (show (60 : Int) > 0 by decide)]
    split <;> omega
structure TxtN (mg : Str → Option Value) : Prop extends Txt mg where
  c_PF : ∃ t, mg "PIECE_FIGURES" = some (.int 60 t)
  c_PW : ∃ t, mg "PIECE_WORTH" = some (.int (10 ^ 60) t)
def TextOk (x : V) : Prop := ∀ z, x = .str z → ∃ cs, z = S cs ∧ (∀ c ∈ cs, c < 128) ∧ cs.length ≤ 5000
def intV : V → Option Int
  | .str z => intOf z.cps.toList
  | _ => none
def spIntOf (K : PySem.W.Frag) : Sp := fun vs H Q _ => ∃ x, vs = [x] ∧ Anyv K H x ∧ TextOk x ∧ Q (optV (intV x)) H
section
variable {P : Program} {w : World} {K : PySem.W.Frag} {mg : Str → Option Value} {base : Heap}
theorem scIntOf : FnScope ["word", "figures", "filled", "worth", "at"] ["word"] (C8.fnScope sIntOf) := C8.fnScope_by (by decide +kernel)
theorem cal_intof {f : Addr} {fd : FuncData} (F : C8.Def K mg "integer_of" sIntOf f fd) (b : Binds K fd ["word"] []) (T : TxtN mg) : C8.Cal P w K mg base 1 "integer_of" (spIntOf K) [] := by
  refine C8.cal0 F b .nil scIntOf (fun vs H Q E h => ?_) (fun cdv A outer st H vs Q E hr h => ?_)
  · obtain ⟨x, rfl, _⟩ := h
    rfl
  · obtain ⟨x, rfl, a, ok, k⟩ := h
    obtain ⟨t1, hPF⟩ := T.c_PF
    obtain ⟨t2, hPW⟩ := T.c_PW
    refine ⟨_, (pss_cons (ps_if (pt_not (pt_val (pe_callB call_isz (by rfl) T.n_isinstance (by decide +kernel) (pa_cons (pv 0) (pa_cons (pe_bltn (v := .ty "str") (by rfl) T.n_str (by decide +kernel) rfl) pa_nil))))) (pss_one (ps_ret pe_non)) pss_nil)
  (pss_cons (ps_set (i := 1) scIntOf.nd rfl (Or.inl rfl) (pe_m1 PySem.F.slot_str_removeprefix PySem.F.type_str_removeprefix mt_removeprefix (pv 0) pe_str))
  (pss_cons (ps_if (PW.pt (pw_or (pt_not (pt_val (pe_m0 PySem.F.slot_str_isascii PySem.F.type_str_isascii mt_isascii (pv 1)))) (pw_or1 (pt_not (pt_val (pe_m0 PySem.F.slot_str_isdigit PySem.F.type_str_isdigit mt_isdigit (pv 1))))))) (pss_one (ps_ret pe_non)) pss_nil)
  (pss_cons (ps_if (PW.pt (pw_and (pt_val (pe_m1 PySem.F.slot_str_startswith PySem.F.type_str_startswith mt_startswith (pv 1) pe_str)) (pw_and1 (pt_cmpR op_ne (pv 0) pe_str (nomark _))))) (pss_one (ps_ret pe_non)) pss_nil)
  (pss_cons (ps_set (i := 2) scIntOf.nd rfl (Or.inl rfl) (pe_op op_add_str (pe_op op_mulS pe_str (pe_op op_modN (pe_un un_neg (pe_callB call_len_str (by rfl) T.n_len (by decide +kernel) (pa_cons (pv 1) pa_nil))) (pe_glob (v := .int 60) rfl hPF ⟨_, rfl⟩))) (pv 1)))
  (pss_cons (ps_set (i := 3) scIntOf.nd rfl (Or.inl rfl) pe_int)
  (pss_cons (ps_for PassesOwn.never rfl (pi_range3 (by rfl) T.n_range (pa_cons pe_int (pa_cons (pe_callB call_len_str (by rfl) T.n_len (by decide +kernel) (pa_cons (pv 2) pa_nil)) (pa_cons (pe_glob (v := .int 60) rfl hPF ⟨_, rfl⟩) pa_nil)))) (pg_name (i := 4) scIntOf.nd rfl (Or.inl rfl)) (pss_one (ps_set (i := 3) scIntOf.nd rfl (Or.inl rfl) (pe_op op_add (pe_op op_mulW (pv 3) (pe_glob (v := .int (10 ^ 60)) rfl hPW ⟨_, rfl⟩)) (pe_callTy call_int_str (by rfl) T.n_int (by decide +kernel) (pa_cons (pe_slice C8.sl_txt (pv 2) (po_some (pv 4)) (po_some (pe_op op_add (pv 4) (pe_glob (v := .int 60) rfl hPF ⟨_, rfl⟩)))) pa_nil))))))
  (pss_one (ps_ret (pe_ifExp (pt_val (pe_m1 PySem.F.slot_str_startswith PySem.F.type_str_startswith mt_startswith (pv 0) pe_str)) (pe_un un_neg (pv 3)) (pv 3))))))))))), ?_⟩
    refine ⟨_, rfl, ?_⟩
    dsimp only [tCons, tC, tNil]
    refine isz_str a ⟨_, rfl, ?_⟩
    cases a with
    | str z =>
      obtain ⟨cs, rfl, h128, hlen⟩ := ok z rfl
      refine iteF ?_
      have hl : (S cs).length ≤ sizeLine := by rw [S_len]; exact Nat.le_trans hlen (by decide)
      have f128 : ∀ c ∈ figs cs, c < 128 := fun c hc => h128 c (figs_sub hc)
      have flen : (figs cs).length ≤ 5000 := Nat.le_trans (figs_len cs) hlen
      refine ⟨_, rfl, ⟨_, rfl⟩, _, _, rfl, rfl, hl, ?_⟩
      rw [show (Str.ofString "-") = S [45] from rfl, rm_minus]
      refine ⟨_, rfl, ⟨_, rfl⟩, _, rfl, rfl, trivial, _, rfl, ?_⟩
      rw [ascii_S f128]
      refine iteF ⟨_, rfl, ⟨_, rfl⟩, _, rfl, rfl, trivial, _, rfl, ?_⟩
      rw [isdigit_S f128]
      have kk : ∀ o : Option Int, o = intOf cs → Q (optV o) H := fun o e => by rw [e]; exact k
      cases hd : digB (figs cs) with
      | false =>
        refine iteT (kk none ?_)
        unfold intOf
        rw [hd]; rfl
      | true =>
        refine iteF ?_
        obtain ⟨hall, hne⟩ := digB_all hd
        obtain ⟨f, fr, hfig⟩ : ∃ f fr, figs cs = f :: fr := by
          cases e : figs cs with
          | nil => exact absurd e hne
          | cons f fr => exact ⟨f, fr, rfl⟩
        have bad : ¬ ((figs cs).head? = some 48 ∧ cs ≠ [48]) → ∀ o : Option Int, (o = if cs.head? = some 45 then some (-((digitsVal (figs cs) : Nat) : Int)) else some ((digitsVal (figs cs) : Nat) : Int)) → Q (optV o) H := fun hb o e => by
          refine kk o ?_
          unfold intOf
          rw [if_pos hd, if_neg hb]; exact e
        have s0 : Str.ofString "0" = S [48] := rfl
        dsimp only [tNext, tSeq]
        refine join_ifS (fun σ' H' => σ' = [some (.str (S cs)), some (.str (S (figs cs))), none, none, none] ∧ H' = H ∧ ¬ ((figs cs).head? = some 48 ∧ cs ≠ [48])) ?rest (fun go => ?_)
        case rest =>
          rintro σ' H' ⟨rfl, rfl, hb⟩
          have fl : ((S (figs cs)).length : Int) = ((figs cs).length : Int) := by rw [S_len]
          obtain ⟨pad, hpad⟩ : ∃ pad : Nat, Int.fmod (-((S (figs cs)).length : Int)) 60 = (pad : Int) := ⟨(Int.fmod (-((S (figs cs)).length : Int)) 60).toNat, by have := fm0 (a := -((S (figs cs)).length : Int)) (d := 60) (by decide); omega⟩
          have hpad' : (-((figs cs).length : Int)) % 60 = (pad : Int) := by rw [← fl, ← hpad, Int.fmod_eq_emod_of_nonneg _ (by decide)]
          obtain ⟨m, hm⟩ : ∃ m : Nat, pad + (figs cs).length = 60 * m := ⟨(pad + (figs cs).length) / 60, by omega⟩
          have hfl : (S (figs cs)).length ≤ sizeLine := by rw [S_len]; exact Nat.le_trans flen (by decide)
          refine ⟨_, rfl, _, rfl, hfl, _, rfl, _, _, rfl, rfl, (by show ¬ (_ = _); decide), [48], _, s0 ▸ rfl, rfl, ?_⟩
          rw [hpad]
          have pl : pad < 60 := by omega
          have ez : (List.replicate ((pad : Int).toNat) [48]).flatten = List.replicate pad 48 := by
            rw [Int.toNat_natCast]
            induction pad with
            | zero => rfl
            | succ p ih => rw [List.replicate_succ, List.flatten_cons, List.replicate_succ]; simp
          rw [ez]
          obtain ⟨fill, hfill⟩ : ∃ fill, fill = List.replicate pad 48 ++ figs cs := ⟨_, rfl⟩
          have flenF : fill.length = 60 * m := by rw [hfill, List.length_append, List.length_replicate]; exact hm
          have allF : AllDigits fill := by rw [hfill]; exact AllDigits.app (all_zeros pad) hall
          have valF : digitsVal fill = digitsVal (figs cs) := by rw [hfill, val_app, val_zeros, Nat.zero_mul, Nat.zero_add]
          have hm60 : m ≤ 90 := by omega
          have lF : (S fill).length ≤ sizeLine := by rw [S_len, flenF]; exact Nat.le_trans (show 60 * m ≤ 5400 by omega) (by decide)
          refine ⟨by omega, by omega, by decide, _, rfl, _, _, rfl, rfl, ?_, ?_⟩
          · rw [S_len, S_len, List.length_replicate]; exact Nat.le_trans (show pad + (figs cs).length ≤ 5400 by omega) (by decide)
          rw [S_cat, ← hfill]
          refine ⟨_, rfl, _, rfl, lF, 0, _, 60, m, rfl, ?_, for_rangeC (fun i σ' H2 => ∃ at_, σ' = [some (V.str (S cs)), some (V.str (S (figs cs))), some (V.str (S fill)), some (V.int ((digitsVal (fill.take (60 * i)) : Nat) : Int)), at_] ∧ H2 = H') ⟨none, rfl, rfl⟩ ?_ ?_⟩
          · rw [show ((S fill).length : Int) = ((60 * m : Nat) : Int) by rw [S_len, flenF]]
            exact rg60 m (by omega)
          · rintro i σ' H2 hi ⟨at_, rfl, rfl⟩
            have h60 : 60 * i + 60 ≤ 60 * m := by omega
            have sl : Txt.slice (S fill) (some (0 + ((i : Nat) : Int) * 60)) (some (0 + ((i : Nat) : Int) * 60 + 60)) = S ((fill.drop (60 * i)).take 60) := by
              rw [slice_mid (by omega) (by omega) (by rw [flenF]; omega)]
              rw [show (0 + ((i : Nat) : Int) * 60).toNat = 60 * i by omega, show (0 + ((i : Nat) : Int) * 60 + 60 - (0 + ((i : Nat) : Int) * 60)).toNat = 60 by omega]
            have cl : ((fill.drop (60 * i)).take 60).length = 60 := by rw [List.length_take, List.length_drop, flenF]; omega
            have cd : AllDigits ((fill.drop (60 * i)).take 60) := fun c hc => allF c (List.mem_of_mem_drop (List.mem_of_mem_take hc))
            have tk : fill.take (60 * (i + 1)) = fill.take (60 * i) ++ (fill.drop (60 * i)).take 60 := by rw [Nat.mul_succ, List.take_add]
            have td : AllDigits (fill.take (60 * i)) := fun c hc => allF c (List.mem_of_mem_take hc)
            have tl : (fill.take (60 * i)).length = 60 * i := by rw [List.length_take, flenF]; omega
            have big : (((digitsVal (fill.take (60 * i)) : Nat) : Int)).natAbs < 2 ^ (4 * (60 * i) + 1) := by
              have h1 := val_lt _ td
              rw [tl] at h1
              have h2 := ten_two (60 * i)
              have h3 : (2 : Nat) ^ (4 * (60 * i)) < 2 ^ (4 * (60 * i) + 1) := Nat.pow_lt_pow_right (by decide) (by omega)
              rw [Int.natAbs_natCast]
              omega
            refine ⟨_, rfl, _, _, rfl, rfl, wide_mul big (show ((10 : Int) ^ 60).natAbs < 2 ^ 240 by decide) (by omega) (by decide) (by omega), ?_⟩
            have hint : intText? (Txt.slice (S fill) (some (0 + ((i : Nat) : Int) * 60)) (some (0 + ((i : Nat) : Int) * 60 + 60))) = some ((digitsVal ((fill.drop (60 * i)).take 60) : Nat) : Int) := by
              rw [sl]
              exact intText_digits (x := S ((fill.drop (60 * i)).take 60)) cd (fun e => by rw [show (fill.drop (60 * i)).take 60 = [] from e] at cl; exact absurd cl (by decide)) (by rw [S_len, cl]; decide)
            have hsl : (Txt.slice (S fill) (some (0 + ((i : Nat) : Int) * 60)) (some (0 + ((i : Nat) : Int) * 60 + 60))).length ≤ 640 := by rw [sl, S_len, cl]; decide
            have val : ((digitsVal (fill.take (60 * i)) : Nat) : Int) * 10 ^ 60 + ((digitsVal ((fill.drop (60 * i)).take 60) : Nat) : Int) = ((digitsVal (fill.take (60 * (i + 1))) : Nat) : Int) := by
              rw [tk, val_app, cl]
              rw [Int.natCast_add, Int.natCast_mul, Int.natCast_pow]; rfl
            refine ⟨_, rfl, ⟨_, rfl, _, rfl, ⟨_, rfl, _, _, rfl, rfl, _, rfl, _, rfl, lF, _, _, rfl, hint, hsl, _, _, rfl, rfl, some (V.int (0 + ((i : Nat) : Int) * 60)), ?_, rfl⟩⟩⟩
            rw [← val]; rfl
          · rintro σ' H2 ⟨at_, rfl, rfl⟩
            have full : fill.take (60 * m) = fill := List.take_of_length_le (by omega)
            rw [full, valF]
            refine ⟨_, rfl, ⟨_, rfl⟩, _, _, rfl, rfl, _, rfl, ?_⟩
            obtain ⟨c, r, hcs⟩ : ∃ c r, cs = c :: r := by
              cases e : cs with
              | nil => rw [e] at hfig; cases hfig
              | cons c r => exact ⟨c, r, rfl⟩
            have esw : Txt.startswith (S cs) (S [45]) = decide (c = 45) := by rw [hcs]; exact sw_head c 45 r
            rw [esw]
            refine ite2 (fun c2 => ?_) (fun c2 => ?_)
            · have e2 : c = 45 := of_decide_eq_true c2
              refine ⟨_, rfl, _, rfl, bad hb (some (-((digitsVal (figs cs) : Nat) : Int))) ?_⟩
              rw [if_pos (show cs.head? = some 45 by rw [hcs, e2]; rfl)]
            · have e2 : c ≠ 45 := of_decide_eq_false (Bool.eq_false_iff.mpr c2)
              refine ⟨_, rfl, bad hb (some ((digitsVal (figs cs) : Nat) : Int)) ?_⟩
              rw [if_neg (show ¬ cs.head? = some 45 by rw [hcs]; exact fun z => e2 (Option.some.inj z))]
        refine ⟨_, rfl, ⟨_, rfl⟩, _, _, rfl, rfl, _, rfl, ?_⟩
        rw [hfig, s0, sw_head]
        refine ite2 (fun c0 => ?_) (fun c0 => ?_)
        · refine ⟨_, rfl, rfl, _, rfl, ite2 (fun c1 => ?_) (fun c1 => ?_)⟩
          · refine kk none ?_
            unfold intOf
            rw [if_pos hd, if_pos]
            refine ⟨by rw [hfig, of_decide_eq_true c0]; rfl, fun e => ?_⟩
            rw [e] at c1
            exact absurd c1 (by decide)
          · refine go _ _ ⟨by rw [hfig]; rfl, rfl, fun hb => hb.2 ?_⟩
            have e : V.str (S cs) = V.str (S [48]) := by simpa using c1
            exact S_inj (V.str.inj e)
        · refine iteF (go _ _ ⟨by rw [hfig]; rfl, rfl, fun hb => ?_⟩)
          rw [hfig] at hb
          have e : f = 48 := Option.some.inj hb.1
          exact c0 (decide_eq_true e)
    | int i => exact iteT k
    | bl b => exact iteT k
    | non => exact iteT k
    | obj h h1 h2 h3 => exact iteT k
end
end Lw
namespace Lw.Ls
open PySem PySem.Spec PyProof.Rows

/-! ### list(text) -/
section
variable {prog : Program} {w : World} {A : Around} {E : Value → Shared → Prop} {s : Shared}
theorem no_hint {z : Str} {t : Tok} {Q : Bool → Shared → Prop} (h : Q false s) : wpAny (model prog w) A (Builtin.List.listLengthHint (.str z t)) Q E s := by
  have kind : s.TypeIs (.str z t) "str" := typeIs_str s z t
  unfold Builtin.List.listLengthHint
  refine wpAny_bind (wpAny_specialOf kind F.slot_str_len.lookup ?_)
  generalize hn : ("str.__len__" : String) = name
  wp_delta
  rw [show splitId name = some ("str", "__len__") from by subst hn; decide +kernel]
  subst hn
  refine wpAny_bind (wpAny_isInstance (T := "str") (b := true) kind (by rw [isSubtype_type]; kernel_rfl) ?_)
  refine wpAny_ite_split (fun no => absurd no (by decide)) (fun _ => ?_)
  refine wpAny_ite_split (fun _ => ?_) (fun no => absurd (by decide +kernel) no)
  exact wpAny_bind (wpAny_typeOf kind (wpAny_pure h))
theorem grown {R : Result → Shared → Prop} (hh : A.handled = none) (z : Str) (t : Tok) (l : Addr) (told : Value) (c₀ : Nat) (hl : s.heap.get? l = some { cls := .type "list", data := .seq #[] c₀ }) (hz : z.cps.size ≤ sizeLine)
    (hR : ∀ h' tk got c', (∀ b o, b ≠ l → s.heap.get? b = some o → h'.get? b = some o) → h'.get? l = some { cls := .type "list", dict := none, data := .seq got c', slots := #[] } → ItemsOf (SignAt z) got z.cps.size → R (.ok (.ret told)) { s with heap := h', toks := tk }) :
    wpAny (model prog w) A.in1 (Builtin.List.listExtendWith (.ref l) (.str z t) told)
      (fun fin s' => match fin with | .done f => R (.ok f) s' | .again c' => c'.quiet = true ∧ codeAny (model prog w) A c' R s') (fun e s' => R (.error e) s') s := by
  have apart : l ∉ [s.heap.objs.size] := fun m => Nat.ne_of_lt (Heap.lt_size hl) (List.mem_singleton.mp m)
  unfold Builtin.List.listExtendWith
  refine wpAny_bind (wpAny_typeOf (T := "str") (v := .str z t) (typeIs_str s z t) ?_)
  have e1 : Builtin.List.listSameRef (.ref l) (.str z t) = false := rfl
  have e2 : (Value.type "str" == Value.type "list") = false := by decide
  have e3 : (Value.type "str" == Value.type "tuple") = false := by decide
  simp only [e1, e2, e3, Bool.or_false, Bool.false_eq_true, if_false]
  refine wpAny_bind (wpAny_pyIter_str fun o St hW h0 => ?_)
  refine wpAny_bind (wpAny_holding (no_hint ?_))
  rw [if_neg (by first | decide | decide +kernel)]
  have W := hW A.in1 hh
  refine wpAny_pure ⟨plainId_quiet PySem.F.plain_extend_loop _, codeAny_extend_loopS W.toS hz _ apart _ z.cps.size 0 _ _ _ rfl (Nat.zero_le _) h0 (Heap.get?_push_of_some _ hl) (ItemsOf.nil _) fun s' got c' hm hl' hgot => ?_⟩
  rw [Moved.eq_with hm]
  refine hR s'.heap s'.toks got c' (fun b ob hb e => hm.heap b ob (fun m => ?_) (Heap.get?_push_of_some _ e)) hl' hgot
  rcases List.mem_cons.mp m with q | m
  · exact hb q
  · exact absurd (Heap.lt_size e) (by rw [List.mem_singleton.mp m]; exact Nat.lt_irrefl _)
theorem begun {R : Result → Shared → Prop} (hh : A.handled = none) (z : Str) (t : Tok) (l : Addr) (hl : s.heap.get? l = some { cls := .type "list", data := .seq #[] }) (hz : z.cps.size ≤ sizeLine)
    (hR : ∀ h' tk got c', (∀ b o, b ≠ l → s.heap.get? b = some o → h'.get? b = some o) → h'.get? l = some { cls := .type "list", dict := none, data := .seq got c', slots := #[] } → ItemsOf (SignAt z) got z.cps.size → R (.ok (.ret .none)) { s with heap := h', toks := tk }) :
    wpAny (model prog w) A.in1 (Builtin.«list.__init__» ⟨[.ref l, .str z t], []⟩)
      (fun fin s' => match fin with | .done f => R (.ok f) s' | .again c' => c'.quiet = true ∧ codeAny (model prog w) A c' R s') (fun e s' => R (.error e) s') s := by
  show wpAny _ _ (do let old ← Builtin.List.listItems (.ref l); Builtin.List.listUpdate (.ref l) (fun _ => #[]); letGo old.toList.reverse; Builtin.List.listExtendWith (.ref l) (.str z t) .none) _ _ s
  refine wpAny_bind ?_
  unfold Builtin.List.listItems
  refine wpAny_bind (wpAny_seqItems hl rfl (wpAny_pure ?_))
  show wpAny _ _ (updateSeq l (fun _ => #[]) >>= fun _ => letGo (#[] : Array Value).toList.reverse >>= fun _ => Builtin.List.listExtendWith (.ref l) (.str z t) .none) _ _ s
  refine wpAny_bind (wpAny_updateSeq hl rfl ?_)
  have hl2 := Heap.get?_update_self (Obj.mapSeq (fun _ => (#[] : Array Value))) hl rfl
  refine wpAny_bind (wpAny_letGo ?_)
  exact grown hh z t l .none _ hl2 hz fun h' tk got c' hk e hi => hR h' tk got c' (fun b o hb q => hk b o hb ((Heap.get?_update_other _ _ (Ne.symm hb)).trans q)) e hi
theorem list_text {z : Str} {t : Tok} {Q : Value → Shared → Prop} (hh : A.handled = none) (hz : z.cps.size ≤ sizeLine)
    (hQ : ∀ h' tk got c', (∀ b o, s.heap.get? b = some o → h'.get? b = some o) → h'.get? s.heap.objs.size = some { cls := .type "list", dict := none, data := .seq got c', slots := #[] } → ItemsOf (SignAt z) got z.cps.size →
      Q (.ref s.heap.objs.size) { s with heap := h', toks := tk }) : wpAny (model prog w) A (call (.type "list") [.str z t]) Q E s := by
  refine callType_codes (Q₁ := fun obj s₁ => obj = .ref s.heap.objs.size ∧ s₁ = { s with heap := s.heap.push { cls := .type "list", data := .seq #[] } }) PySem.F.called_list (PySem.F.typeCall_list_1 _) PySem.F.entry_list_init
    (code_list_new _ ⟨rfl, rfl⟩) fun obj s₁ e => ?_
  obtain ⟨rfl, rfl⟩ := e
  have hl : (s.heap.push { cls := .type "list", data := .seq #[] }).get? s.heap.objs.size = some { cls := .type "list", data := .seq #[] } := Heap.get?_push_size _ rfl
  refine ⟨⟨_, hl, rfl⟩, PySem.F.args_list_init_2 _ _, begun (A := A.in1) hh z t _ hl hz fun h' tk got c' hk e hi => ?_⟩
  exact ⟨rfl, hQ h' tk got c' (fun b o q => hk b o (Nat.ne_of_lt (Heap.lt_size q)) (Heap.get?_push_of_some _ q)) e hi⟩
end
end Lw.Ls
namespace Lw
open PySem PySem.Spec PyProof.Rows L2
section
variable {X : Cx}
def signs (z : Str) : List V := z.cps.toList.map fun c => V.str ⟨#[c]⟩
theorem call_list_txt (hc : X.calm = true) : CallR X (.type "list") (fun xs H Q => ∃ z, xs = [.str z] ∧ z.cps.size ≤ sizeLine ∧ ∀ l, H l = none → Q (.ref l) (upd H l (.lst (signs z)))) := by
  intro pins s σ H xs us Q I r h
  obtain ⟨z, rfl, hz, q⟩ := h
  obtain ⟨u, rfl, ru⟩ := vals1 r
  obtain ⟨t, rfl⟩ := ru
  refine Ls.list_text (I.ok.hd hc) hz fun h' tk got c' hk e hi => ?_
  have lz : (signs z).length = z.cps.size := by unfold signs; rw [List.length_map, Array.length_toList]
  refine ⟨.ref s.heap.objs.size, upd H s.heap.objs.size (.lst (signs z)), I.laid hk (Nat.le_refl _) ⟨by rw [lz]; exact hz, got.toList, c', ?_, by rw [Array.toArray_toList]; exact e⟩, rfl, q _ (I.hok.fresh (Nat.le_refl _))⟩
  refine vals_of_idx _ _ (by rw [lz, Array.length_toList]; exact hi.1) fun j u hj => ?_
  obtain ⟨c, t', hcj, rfl⟩ := hi.2 j u (by rw [← Array.getElem?_toList]; exact hj)
  exact ⟨.str ⟨#[c]⟩, by unfold signs; rw [List.getElem?_map, Array.getElem?_toList, hcj]; rfl, ⟨_, rfl⟩⟩
end
end Lw
namespace Lw
open PySem PySem.Spec PyProof.Rows L2

/-! ### try: body / except X as n: suite, the caught exception held behind the suite -/
/-- an exception's object: its class, its dict -/
def ExO (a : Addr) (cls : Value) (d : Option Addr) : HO := .ext fun h => ∃ o, h.get? a = some o ∧ Zc cls d o ∧ ∃ vs, o.data = .fields vs
section
variable {X : Cx} {pins : List (Addr × Obj)} {σ : L2.St} {H : Hp} {s : Shared}
/-- a pinned object is tracked from now on -/
theorem promote {a : Addr} {o : Obj} {cls : Value} {d : Option Addr} (I : Inv X ((a, o) :: pins) σ H s) (hz : Zc cls d o) (hf : ∃ vs, o.data = .fields vs) (new : X.s_0.heap.get? a = none) (apart : ∀ p ∈ X.pn ++ pins, p.1 ≠ a) : Inv X pins σ (upd H a (ExO a cls d)) s := by
  obtain ⟨ha, na, nL, nF, nC⟩ := I.pin (a, o) (List.mem_append_right _ List.mem_cons_self)
  have here : ∀ b, b ≠ a → upd H a (ExO a cls d) b = H b := fun b n => upd_ne n
  have known : ∀ b u, H b = some u → b ≠ a := fun b u e z => by rw [z, na] at e; cases e
  have old : ∀ b u, X.s_0.heap.get? b = some u → b ≠ a := fun b u e z => by rw [z, new] at e; cases e
  refine ⟨I.ok, I.os, I.bare, ⟨I.base.keep, I.base.slot, fun b u e n hx => ?_, I.base.there, fun b xs e => ?_, fun b u v e => ?_, fun b ps e => ?_⟩, I.loc, I.cell, ?_, fun y c e => ?_, fun p hp => ?_, fun b u e => ?_, I.len⟩
  · rw [here b (old b u e)]
    exact I.base.free b u e n hx
  · have z := I.base.tups b xs e
    rw [here b (known b _ z)]
    exact z
  · have z := I.base.frzs b u v e
    rw [here b (known b _ z)]
    exact z
  · obtain ⟨more, z⟩ := I.base.tbls b ps e
    exact ⟨more, by rw [here b (known b _ z)]; exact z⟩
  · rw [here _ nL.symm]
    exact I.free
  · have ne : c ≠ a := fun z => by
      obtain ⟨v, oc, hoc, hdc⟩ := I.cell y c e
      rw [z, ha] at hoc
      cases hoc
      exact nC v hdc
    rw [here c ne]
    exact I.freeC y c e
  · have hp2 : p ∈ X.pn ++ ((a, o) :: pins) := by
      rcases List.mem_append.mp hp with h | h
      · exact List.mem_append_left _ h
      · exact List.mem_append_right _ (List.mem_cons_of_mem _ h)
    obtain ⟨e1, e2, e3⟩ := I.pin p hp2
    exact ⟨e1, by rw [here _ (apart p hp)]; exact e2, e3⟩
  · by_cases q : b = a
    · subst q
      rw [upd_same] at e
      cases e
      refine ⟨⟨o, ha, hz, hf⟩, ⟨o, ha⟩, ?_⟩
      rintro h1 h2 ⟨u, e1, e2⟩ st
      exact ⟨u, st u e1, e2⟩
    · rw [here b q] at e
      exact (I.hok b u e).stay (fun _ _ _ z => z) (fun c z => by rw [here c (known c _ z)]; exact z) fun c xs z => by rw [here c (known c _ z)]; exact z
end
end Lw
namespace Lw
open PySem PySem.Spec PyProof.Rows L2

/-- what the body's exceptions must be: of the class that is named; the suite ends plainly, and the exception stays known behind it -/
def wHeld (K : PySem.W.Frag) (c : Value) (i n : Nat) (ts : Addr → Value → Option Addr → TS) (D : Ends) : WX := fun cls d σ H => σ.length = n →
  PySem.W.exmOne K cls c = some true ∧ ∀ a, H a = none → ts a cls d { nx := fun σ' H' => H' a = none → D.nx (σ'.set i none) (upd H' a (ExO a cls d)), rt := fun _ _ => False, bk := fun _ _ => False, ct := fun _ _ => False } (σ.set i (some (.ref a))) H
section
variable {X : Cx} {x n : Str} {c : Value} {i : Nat} {body suite : List Stmt} {b₀ : Stmt} {np pos pos' : Pos} {tb : WX → TS} {ts : Addr → Value → Option Addr → TS}
theorem ps_try_held (stk : X.stack = X.env :: X.outer) (frm : X.env.frame = some X.env.locals) (hN : X.N.Nodup) (hi : X.N[i]? = some n) (loc : X.env.kindOf n = some .local) (nm : Names X x c) (noex : X.ex = [])
    (hb : ∀ (W : WX) (pn : List (Addr × Obj)) (xe : Value → Shared → Prop), Takes (X.tr pn xe) W → PassesOwn (model X.prog X.w) X.A X.env xe → PSs (X.tr pn xe) body (tb W))
    (hsu : ∀ (a : Addr) (oe : Obj) (cls : Value) (d : Option Addr) (pn : List (Addr × Obj)), Zc cls d oe → (∃ vs, oe.data = .fields vs) → PSs (X.suite a ((a, oe) :: pn)) (b₀ :: suite) (ts a cls d)) :
    PS X (.Try body [.ExceptHandler (some (.Name x np)) (some n) (b₀ :: suite) pos'] [] [] pos) (fun D σ H => tb (wHeld X.K c i X.N.length ts D) D σ H) := by
  refine ⟨fun pins s σ H D I h => ?_⟩
  have ok := I.ok
  have frames : X.A.frames = some (X.env :: X.outer) := by rw [ok.frames, stk]
  refine wpAny_Try_except ?_
  refine wpAny_mono ((hb (wHeld X.K c i X.N.length ts D) (X.pn ++ pins) (fun e s₁ => wpAny (model X.prog X.w) X.A (noteFrame e X.env) (fun _ s₂ => wpAny (model X.prog X.w) X.A (setFlight e none) (fun _ s₃ =>
    wpAny (model X.prog X.w) X.A (handleBy e X.env [.ExceptHandler (some (.Name x np)) (some n) (b₀ :: suite) pos']) (SP X pins D) X.xe s₃) X.xe s₂) X.xe s₁) (fun u s' air => ?_) PassesOwn.looking).run [] s σ H D (I.toTry _) h) (fun f s1 q => ?_) (fun e s1 q => q)
  · obtain ⟨a, B, sI, pins', σ', H', cls, d, rfl, JT, nb, up, sky, na, os, ag, hw⟩ := air
    have J : Inv X pins σ' H' sI := JT.ofTry ok
    obtain ⟨ours, go⟩ := hw J.len
    rw [stk] at sky
    show wpAny (model X.prog X.w) X.A (noteFrame (.ref a) X.env) _ _ _
    refine Sky.land Zc.steady frames frm sky fun hA flA upA => ?_
    have JA : Inv X pins σ' H' { s' with heap := hA } := J.landed nb flA.1 (up.trans upA) os ag
    obtain ⟨oA, vsA, eA, zA, dA⟩ := flA.there
    -- the exception's object is no frame, and it is new
    have noFrame : a ∉ frs (X.env :: X.outer) := fun hm => by
      obtain ⟨_, o', e', hnf⟩ := flA.2.2.1.mem hm
      rw [eA] at e'
      cases e'
      exact hnf _ dA
    have nL : a ≠ X.env.locals := fun z => noFrame (List.mem_filterMap.mpr ⟨X.env, List.mem_cons_self, by rw [frm, z]⟩)
    have nF : a ∉ X.fs := fun hm => by
      obtain ⟨e, he, q⟩ := List.mem_filterMap.mp hm
      exact noFrame (List.mem_filterMap.mpr ⟨e, List.mem_cons_of_mem _ he, q⟩)
    have nB : B.get? a = none := flA.2.1
    have ground : ∀ b o, sI.heap.get? b = some o → b ≠ a := fun b o e z => by
      rw [z] at e
      have k := nb a o e (by rw [stk]; exact noFrame)
      rw [nB] at k
      cases k
    have fresh : X.s_0.heap.get? a = none := by
      cases e : X.s_0.heap.get? a with
      | none => rfl
      | some o =>
        obtain ⟨o', e'⟩ := J.base.there a o e (by rw [noex]; simp)
        exact absurd rfl (ground a o' e')
    have apart : ∀ p ∈ X.pn ++ pins, p.1 ≠ a := fun p hp => ground p.1 p.2 (J.pin p hp).1
    refine wpAny_handleBy_cons (codeAny_handlers_test ?_) (by intro q; cases q)
    have LT : PySem.W.Looks (model X.prog X.w) hA (typeOf (.ref a)) cls := fun A Q E s k q => wpAny_typeOf_ref (k _ _ eA) (by rw [zA.1]; exact q)
    have LM := PySem.W.exm_one (M := model X.prog X.w) JA.kIn LT ours
    have SA := JA.suite eA dA na nL nF
    have look : ∀ {Q : Value → Shared → Prop} {E : Value → Shared → Prop}, Q c { s' with heap := hA } → wpAny (model X.prog X.w) (X.A.mark (some (.ref a))) (eval (.Name x np) X.env) Q E { s' with heap := hA } := fun {Q E} q => by
      rcases nm with ⟨g1, g2, g3 | ⟨g3, g4, g5⟩⟩
      · exact ld_glob (X := X.suite a ((a, oA) :: (X.pn ++ pins))) SA g1 g3 q g2
      · exact ld_blt (X := X.suite a ((a, oA) :: (X.pn ++ pins))) SA g1 g3 g4 q g5 g2
    refine look (LM.here ?_)
    refine codeAny_handlers_suite_as ?_
    refine HandSPX.lands_againZ flA fun hB flB upB => ?_
    have JB : Inv X pins σ' H' { s' with heap := hB } := J.landed nb flB.1 ((up.trans upA).trans upB) os ag
    obtain ⟨oB, vsB, eB, zB, dB⟩ := flB.there
    refine store_ok (X := X.suite a ((a, oB) :: (X.pn ++ pins))) (v := .ref a) (JB.suite eB dB na nL nF) hN hi (.inl loc) rfl (fun s5 S5 => ?_) (.inr loc)
    refine wpAny_mono ((hsu a oB cls d (X.pn ++ pins) zB ⟨_, dB⟩).run [] s5 _ H' _ S5 (go a na)) (fun f s6 q => ?_) (fun _ _ z => False.elim z)
    cases f with
    | next =>
      obtain ⟨σ6, H6, S6, q6⟩ := q
      have held : Inv X ((a, oB) :: pins) σ6 H6 s6 := ⟨ok, S6.os, S6.bare, S6.base, S6.loc, S6.cell, S6.free, S6.freeC, fun p hp => by
        refine S6.pin p (List.mem_append_left _ ?_)
        show p ∈ (a, oB) :: (X.pn ++ pins)
        rcases List.mem_append.mp hp with h | h
        · exact List.mem_cons_of_mem _ (List.mem_append_left _ h)
        · rcases List.mem_cons.mp h with h | h
          · rw [h]; exact List.mem_cons_self
          · exact List.mem_cons_of_mem _ (List.mem_append_right _ h), S6.hok, S6.len⟩
      refine gone_ok held hN hi loc fun s7 I7 => ?_
      exact ⟨_, _, promote I7 zB ⟨_, dB⟩ fresh apart, q6 (I7.pin (a, oB) (List.mem_append_right _ List.mem_cons_self)).2.1⟩
    | brk =>
      obtain ⟨_, _, _, z⟩ := q
      exact z.elim
    | cont =>
      obtain ⟨_, _, _, z⟩ := q
      exact z.elim
    | ret u =>
      obtain ⟨_, _, _, _, _, z⟩ := q
      exact z.elim
  · cases f with
    | next =>
      obtain ⟨σ1, H1, I1, q1⟩ := q
      exact wpAny_execs_nil ⟨σ1, H1, I1.ofTry ok, q1⟩
    | brk =>
      obtain ⟨σ1, H1, I1, q1⟩ := q
      exact ⟨σ1, H1, I1.ofTry ok, q1⟩
    | cont =>
      obtain ⟨σ1, H1, I1, q1⟩ := q
      exact ⟨σ1, H1, I1.ofTry ok, q1⟩
    | ret u =>
      obtain ⟨v1, σ1, H1, I1, r1, q1⟩ := q
      exact ⟨v1, σ1, H1, I1.ofTry ok, r1, q1⟩
end
end Lw
namespace Lw
open PySem PySem.Spec PyProof.Rows L2

section
variable {X : Cx} {pins : List (Addr × Obj)} {σ : L2.St} {H : Hp} {s : Shared}
theorem held_at {a : Addr} {cls : Value} {d : Option Addr} (I : Inv X pins σ H s) (h : H a = some (ExO a cls d)) : ∃ o vs, s.heap.get? a = some o ∧ o.cls = cls ∧ o.dict = d ∧ o.data = .fields vs := by
  obtain ⟨⟨o, h1, h2, vs, h3⟩, _⟩ := (show ObjOk X.prog X.w H s.heap a (ExO a cls d) from I.hok a _ h)
  exact ⟨o, vs, h1, h2.1, h2.2, h3⟩
/-- the exception as an instance, its attributes known -/
theorem held_inst {a C dd : Addr} {fs : List (Str × V)} (I : Inv X pins σ H s) (h : H a = some (ExO a (.ref C) (some dd))) (hd : H dd = some (.xd fs)) : ∃ o od, PySem.W.InstAt s.heap a o C (some od) ∧ ∀ f v, fs.lookup f = some v → ∃ u, PySem.W.lookIn f od = some (some u) ∧ RelV v u := by
  obtain ⟨o, vs, h1, h2, h3, h4⟩ := held_at I h
  obtain ⟨mA, hns, hr⟩ := (show ObjOk X.prog X.w H s.heap dd (.xd fs) from I.hok dd _ hd)
  obtain ⟨od, ho, hl⟩ := lookIn_ns hns
  refine ⟨o, od, ⟨h1, h2, by unfold PySem.W.notCls; rw [h4] <;> rfl, by rw [h3]; exact ho⟩, fun f v e => ?_⟩
  obtain ⟨u, hu, ru⟩ := RelO.some_of (v := v) (o := mA f) (by rw [← e]; exact hr f)
  exact ⟨u, by rw [hl, hu], ru⟩
/-- e.f of an exception that is held -/
def tHeld (C : Addr) (f : Str) (te : TE) : TE := fun σ H Q => te σ H fun x H1 => ∃ (a dd : Addr) (fs : List (Str × V)) (v : V), x = .ref a ∧ H1 a = some (ExO a (.ref C) (some dd)) ∧ H1 dd = some (.xd fs) ∧ fs.lookup f = some v ∧ Q v H1
theorem pe_held {C : Addr} {e : Expr} {te : TE} {pos : Pos} {f : Str} (T : XfC X.K C) (hno : PySem.W.findIn X.K (.ref C) f = some none) (he : PE X e te) (hb : attributeBase e f X.env (eval e X.env) = eval e X.env := by rfl) : PE X (.Attribute e f pos) (tHeld C f te) := by
  refine ⟨fun pins s σ H Q I q => attr_of hb (thn (he.run pins s σ H _ I q) fun u s1 got => ?_)⟩
  obtain ⟨x, H1, I1, rx, a, dd, fs, v, rfl, ha, hd, hl, q⟩ := got
  obtain rfl : u = Value.ref a := rx
  obtain ⟨o, od, J, fld⟩ := held_inst I1 ha hd
  obtain ⟨u, hu, ru⟩ := fld f v hl
  exact HandSPX.exc_get I1.kIn J T.ga T.gg T.exC (PySem.W.findObj_own T.hdC hno rfl hu) (handed_of ru) ⟨v, H1, I1.tok _, ru, q⟩
end
end Lw
namespace Lw.Hx
open PySem PySem.Spec PySem.Calls PyProof.Rows PySem.W

/-! ### isinstance of an exception that has attributes -/
/-- what isinstance asks of the exception's class -/
structure XCls (K : Frag) (D : Addr) : Prop where
  ga : findIn K (.ref D) "__getattribute__" = some (some (.builtin "BaseException.__getattribute__"))
  gt : findIn K (.ref D) "__getattr__" = some none
  sub : subIn K (.ref D) (.type "BaseException") = some true
  dct : hasDictIn K D = true
  ca : findIn K (.ref D) "__class__" = some (some (.builtin "object.__class__"))
  cn : specialIn K (.builtin "object.__class__") "__get__" = some (some (.builtin "getset_descriptor.__get__"))
  ct : takesIn K (.builtin "object.__class__") = some true
  cm : mroIn K D (.type "object") = some true
section
variable {prog : Program} {w : World} {A : Around} {E : Value → Shared → Prop} {s : Shared} {K : Frag} {x D : Addr} {ox : Obj} {od : Option Obj}
theorem finds (c : XCls K D) : findObj K D od "__class__" = some (.bind (.builtin "getset_descriptor.__get__") (.builtin "object.__class__")) := by
  obtain ⟨cd, hc, _⟩ := any_some c.dct
  unfold findObj
  rw [hc, Option.bind_some, c.ca, Option.bind_some]
  simp only [c.cn, c.ct, Option.bind_some]
theorem class_of (c : XCls K D) {Q : Option Value → Shared → Prop} (X : K.In s.heap) (I : InstAt s.heap x ox D od) (h : Q (some (.ref D)) { s with toks := s.toks + 1 }) : wpAny (model prog w) A (getAttr? (.ref x) "__class__") Q E s := by
  have found := finds (od := od) c
  obtain ⟨hp, gs, dr, tk, os⟩ := s
  have kind := I.type (M := model prog w)
  have asks := looks_findIn (M := model prog w) X c.ga
  have more := looks_findIn (M := model prog w) X c.gt
  have seen := looks_find (M := model prog w) X I found
  have under : Looks (model prog w) hp (isInstance (.ref x) (.type "BaseException")) true := kind.andThen (looks_subIn X c.sub)
  have n2 : (Value.builtin "BaseException.__getattribute__" == Value.builtin "object.__getattribute__") = false := by decide +kernel
  have n1 : (onTheHeap (Value.ref D) && Value.builtin "BaseException.__getattribute__" == Value.builtin "object.__getattribute__") = false := by rw [n2]; rfl
  unfold getAttr? getAttrBy? getAttrBy
  refine wpAny_bind (wpAny_mkText (wpAny_bind (wpAny_attempt (wpAny_holding (wpAny_bind (kind.at (wpAny_bind (asks.at ?_))))))))
  show wpAny _ _ (ite ((onTheHeap (Value.ref D) && Value.builtin "BaseException.__getattribute__" == Value.builtin "object.__getattribute__") = true) _ _) _ _ _
  rw [n1, if_neg (by decide)]
  unfold getAttrByItsOwn hookBefore
  refine wpAny_bind ?_
  rw [if_pos (show onTheHeap (.ref D) = true from rfl)]
  refine more.at (wpAny_bind (wpAny_attempt (wpAny_holding ?_)))
  unfold callGetattribute
  rw [if_neg (show ¬ (false && onTheHeap (Value.builtin "BaseException.__getattribute__")) = true from by decide)]
  unfold boundAndCalled
  rw [PySem.F.excAttr_ValueError.ga.bind (.ref x)]
  refine wpAny_bind (wpAny_pure ?_)
  show wpAny _ _ (call (.builtin "BaseException.__getattribute__") [.ref x, .str "__class__" tk]) _ _ _
  refine wpAny_call (codeAny_call_builtin PySem.F.excAttr_ValueError.ga.plain PySem.F.entry_bexc_ga ?_)
  refine @check_slot (model prog w) _ _ ⟨hp, gs, dr, tk + 1, os⟩ "BaseException.__getattribute__" "BaseException" "__getattribute__" (.ref x) [.str "__class__" tk] [] _ (by decide +kernel) (by decide +kernel) under (PySem.F.args_bexc_ga (.ref x) (.str "__class__" tk)) ?_
  unfold Builtin.«object.__getattribute__»
  refine wpAny_bind (wpAny_of_eq (a := ((Value.ref x : Value), [Value.str "__class__" tk])) (by first | rfl | (simp only [slotArgs] <;> rfl)) ?_)
  refine wpAny_bind (wpAny_pure (wpAny_bind (kind.at (wpAny_bind (seen.at ?_)))))
  show wpAny _ _ (holding [Value.builtin "object.__class__"] (call (.builtin "getset_descriptor.__get__") [.builtin "object.__class__", .ref x, .ref D]) >>= ret) _ _ _
  refine wpAny_bind (wpAny_holding (wpAny_call (class_get (s := ⟨hp, gs, dr, tk + 1, os⟩) X I c.cm ?_)))
  refine wpAny_pure ?_
  show wpAny _ _ (handedOut (.ref D)) _ _ _
  rw [handedOut_of (v := .ref D) rfl]
  first
    | exact wpAny_pure (wpAny_pure h)
    | exact wpAny_pure h
    | exact wpAny_pure (wpAny_bind (wpAny_pure (wpAny_pure h)))
theorem no_list (c : XCls K D) : ∃ o cd, K.lookup D = some o ∧ o.data = .cls cd := by
  obtain ⟨cd, hc, _⟩ := any_some c.dct
  unfold clsIn at hc
  split at hc
  · rename_i c' d' cd' sl' ho
    exact ⟨_, _, ho, rfl⟩
  · cases hc
theorem kitx_held (c : XCls K D) : KitX K (.ref x) (.ref D) (fun h => InstAt h x ox D od) where
  ty := fun _ _ _ I => I.type
  it := fun _ _ X _ => by
    obtain ⟨o, cd, ho, hd⟩ := no_list c
    intro A' Q' E' s' k q
    unfold isType loadHead
    refine wpAny_bind (wpAny_loadPart (k _ _ (X _ _ ho)) ?_)
    rw [hd]
    exact wpAny_pure q
  ne := fun h tp dd its n sl X htp => by
    refine Bool.eq_false_iff.mpr fun q => ?_
    have e : D = tp := Value.ref.inj (beq_iff_eq.mp q)
    obtain ⟨o, cd, ho, hd⟩ := no_list c
    have z := X _ _ ho
    rw [e, htp] at z
    cases z
    cases hd
  ca := fun X I k => class_of c X I k
end
end Lw.Hx
namespace Lw
open PySem PySem.Spec PyProof.Rows L2

/-- a value's kind: an exception's that is held, too -/
inductive TyW (K : PySem.W.Frag) (H : Hp) : V → Value → Prop where
  | z {v : V} {t : Value} (h : TyZ K H v t) : TyW K H v t
  | held {a D dd : Addr} {fs : List (Str × V)} (e : H a = some (ExO a (.ref D) (some dd))) (hd : H dd = some (.xd fs)) (c : Hx.XCls K D) : TyW K H (.ref a) (.ref D)
def rIsw (K : PySem.W.Frag) : List V → Hp → VK → Prop := fun xs H Q => ∃ (x c : V) (t u : Value) (b : Bool), xs = [x, c] ∧ ClsV c u ∧ TyW K H x t ∧ PySem.W.kitOne K t u = some b ∧ Q (.bl b) H
theorem call_isw {X : Cx} : CallR X (.builtin "isinstance") (rIsw X.K) := by
  intro pins s σ H xs us Q I r h
  obtain ⟨x, c, t, u, b, rfl, k, ty, e, q⟩ := h
  cases ty with
  | z ty => exact call_isz pins s σ H _ us Q I r ⟨x, c, t, u, b, rfl, k, ty, e, q⟩
  | @held a D dd fs ea hd cl =>
    obtain ⟨w1, w2, rfl, r1, r2⟩ := vals2 r
    obtain rfl := k.eq r2
    obtain rfl : w1 = Value.ref a := r1
    obtain ⟨o, od, J, _⟩ := held_inst I ea hd
    exact PySem.W.kia_one (Hx.kitx_held cl) I.kIn J e (fun z => by cases z) fun tk => ⟨.bl b, H, I.tok tk, rfl, q⟩
end Lw
namespace Lw
open PySem PySem.Spec PyProof.Rows L2

/-! ### C.m(e, ..), m a static method -/
structure SMet (K : PySem.W.Frag) (C : Addr) (m : Str) (p g : Addr) : Prop where
  mc : ∃ mc, PySem.W.typeIn K (.ref C) = some mc ∧ PySem.W.readsIn K C mc = true ∧ PySem.W.findCls K (.ref C) mc m = some (.get (.builtin "staticmethod.__get__") (.ref p) .none (.ref C))
  ga : PySem.W.specialIn K (.ref C) "__getattribute__" = some (some (.builtin "type.__getattribute__"))
  rc : ∃ rest, PySem.W.recIn K p "staticmethod" = some (.ref g :: rest)
  kp : PySem.W.keepIn K (.ref g) = true
def tStatic (C : Addr) (sp : Sp) (dvs : List V) (E : XK) (ta : TE) (t : TA) : TE := fun σ H Q => ta σ H fun x H1 => x = .ref C ∧ t σ H1 fun vs H2 => sp (vs ++ dvs) H2 Q E
section
variable {X : Cx} {CX : CXT} {C p g : Addr} {k : Nat} {fd : FuncData} {ps : List Str} {sp : Sp} {E : XK} {ds : List Value} {dvs : List V} {o e : Expr} {es : List Expr} {m : Str} {pos apos : Pos} {ta : TE} {t : TA} {pl : Sem Bool}
theorem pe_static (he : PE X o ta) (c : SMet X.K C m p g) (F : FnOk X.prog X.w X.K X.mg X.base CX k g fd ps sp) (hr : Room k X.A) (b : Binds X.K fd ps ds) (d : Vals dvs ds) (hx : Passes CX X E) (ha : PA X (e :: es) t)
    (hst : starEach (e :: es) X.env = (false, eval e X.env) :: starEach es X.env := by rfl) (hpl : (backTo pos (starEach es X.env)).any (·.1) = false := by rfl)
    (ht : eval (.Call (.Attribute o m apos) (e :: es) [] pos) X.env = (do
      let ov ← eval o X.env
      standAt apos.atName
      let (f, first) ← holding [ov] (getMethod ov m pl)
      callWith pos f first (backTo pos (starEach (e :: es) X.env)) (backToKw pos (keywordEach [] X.env))) := by rfl) :
    PE X (.Call (.Attribute o m apos) (e :: es) [] pos) (tStatic C sp dvs E ta t) := by
  refine ⟨fun pins s σ H Q I h => ?_⟩
  refine PySem.W.methodCall_KW (pl := pl) (thn (he.run pins s σ H _ I h) fun u s1 ⟨x, H1, I1, rx, ex, q⟩ => ?_) ht
  subst ex
  obtain rfl : u = Value.ref C := rx
  obtain ⟨mc, h1, h2, h3⟩ := c.mc
  obtain ⟨rest, h4⟩ := c.rc
  obtain ⟨fm, hF⟩ := I1.fr
  refine PySem.W.method_cls I1.kIn c.ga (PySem.W.cls_sm hF I1.ok.mod.kin h1 h2 h3 h4 rfl ?_)
  have I2 : Inv X pins σ H1 { s1 with toks := s1.toks + 1 } := I1.tok _
  refine PySem.W.callWith_K (h₀ := X.base) I2.ok.mod.kin c.kp (thn (ha.run pos pins _ σ H1 _ I2 q) fun us s3 ⟨vs, H2, I3, rv, q2⟩ => ⟨I3.kIn, ?_⟩) hst hpl
  exact run_fn F hr b d hx I3 rv q2
end
end Lw
namespace Lw
open PySem PySem.Spec PyProof.Rows L2

/-! ### own operators: + - * // % and the sign, of instances of one class and of a built-in value beside -/
section
variable {X : Cx} {C : Addr} {k j : Nat} {sp : Sp} {pins : List (Addr × Obj)} {σ : L2.St} {H : Hp} {s : Shared}
theorem ins_at {a dx : Addr} {fs : List (Str × V)} (I : Inv X pins σ H s) (h : H a = some (.ins C dx fs)) : ∃ ox od, PySem.W.InstAt s.heap a ox C (some od) := by
  obtain ⟨mA, O, _⟩ := ins_get I.hok h
  obtain ⟨od, J, _⟩ := O.look
  exact ⟨_, od, J⟩
/-- a method of the class, called with an instance and another value -/
theorem run_two {m : Str} {us : List Value} {vs : List V} {Q : VK} (M : C8.Met X.prog X.w X.K X.mg X.base k C m sp []) (hr : Room j X.A) (hk : k ≤ j) (I : Inv X pins σ H s) (r : Vals vs us) (q : sp vs H Q C8.E0) :
    ∃ g : Addr, Meth X.K C m g ∧ wpAny (model X.prog X.w) X.A (call (.ref g) us) (PySem.W.CmpBack (EP X pins σ Q)) X.xe s := by
  obtain ⟨g, fd, ps, ds, hC, hm, F, b, d⟩ := M.ex
  have q' : sp (vs ++ []) H Q C8.E0 := by rw [List.append_nil]; exact q
  refine ⟨g, hm, wpAny_mono (run_fn F (hr.mono hk) b d C8.pass0 I r q') (fun w s' z => ?_) fun _ _ x => x⟩
  obtain ⟨z', H', I', rz, qz⟩ := z
  exact SlX.cmpback rz ⟨z', H', I', rz, qz⟩
def rSame (C : Addr) (sp : Sp) : R2 := fun x y H Q => ∃ a dx fs b dy gs, x = .ref a ∧ y = .ref b ∧ H a = some (.ins C dx fs) ∧ H b = some (.ins C dy gs) ∧ sp [x, y] H Q C8.E0
theorem op_same {op : Operator} (M : C8.Met X.prog X.w X.K X.mg X.base k C (PySem.dunder op.info.2) sp []) (hc : PySem.W.selfFirst X.K C = true) (hr : Room j X.A) (hk : k ≤ j) : OpR X (binaryOp op) (rSame C sp) := by
  intro pins s σ H x y v u Q I rx ry h
  obtain ⟨a, dx, fs, b, dy, gs, rfl, rfl, ha, hb, q⟩ := h
  cases (show v = Value.ref a from rx)
  cases (show u = Value.ref b from ry)
  obtain ⟨_, _, J⟩ := ins_at I ha
  obtain ⟨_, _, J'⟩ := ins_at I hb
  obtain ⟨g, hm, w⟩ := run_two (us := [.ref a, .ref b]) (vs := [.ref a, .ref b]) M hr hk I (.cons rfl (.cons rfl .nil)) q
  obtain ⟨m, hF⟩ := I.fr
  exact PySem.W.binop_K hF I.ok.mod.kin J J'.type hc hm.at_ hm.fn w
/-- what the operator asks of the class and of a built-in type beside it -/
structure Beside (K : PySem.W.Frag) (C : Addr) (op : Operator) (T : String) : Prop where
  first : PySem.W.selfFirst K C = true
  back : ∃ rc, PySem.W.findIn K (.ref C) (dunderR op.info.2) = some rc ∧ (rc = none ∨ ∃ g : Addr, rc = some (.ref g))
  ahead : ∃ fo, PySem.W.findIn K (.type T) (PySem.dunder op.info.2) = some fo
  behind : ∃ ro, PySem.W.findIn K (.type T) (dunderR op.info.2) = some ro
  sub : PySem.W.subIn K (.type T) (.ref C) = some false
/-- a built-in value's kind, as typeOf tells it -/
inductive Kind : V → String → Prop where
  | int (i : Int) : Kind (.int i) "int"
  | bl (b : Bool) : Kind (.bl b) "bool"
  | non : Kind .non "NoneType"
  | str (z : Str) : Kind (.str z) "str"
theorem Kind.type {y : V} {T : String} {u : Value} (h : Kind y T) (r : RelV y u) : typeOf u = pure (.type T) := by
  cases h with
  | int i => obtain ⟨t, e⟩ := (show ∃ t, u = Value.int i t from r); subst e; rfl
  | bl b => cases (show u = Value.bool b from r); rfl
  | non => cases (show u = Value.none from r); rfl
  | str z => obtain ⟨t, e⟩ := (show ∃ t, u = Value.str z t from r); subst e; rfl
def rBeside (K : PySem.W.Frag) (C : Addr) (op : Operator) (sp : Sp) : R2 := fun x y H Q => ∃ a dx fs T, x = .ref a ∧ H a = some (.ins C dx fs) ∧ Kind y T ∧ Beside K C op T ∧ sp [x, y] H Q C8.E0
theorem op_beside {op : Operator} (M : C8.Met X.prog X.w X.K X.mg X.base k C (PySem.dunder op.info.2) sp []) (hr : Room j X.A) (hk : k ≤ j) : OpR X (binaryOp op) (rBeside X.K C op sp) := by
  intro pins s σ H x y v u Q I rx ry h
  obtain ⟨a, dx, fs, T, rfl, ha, hT, hB, q⟩ := h
  cases (show v = Value.ref a from rx)
  obtain ⟨_, _, J⟩ := ins_at I ha
  obtain ⟨g, hm, w⟩ := run_two (us := [.ref a, u]) (vs := [.ref a, y]) M hr hk I (.cons rfl (.cons ry .nil)) q
  obtain ⟨m, hF⟩ := I.fr
  obtain ⟨rc, r1, r2⟩ := hB.back
  obtain ⟨fo, f1⟩ := hB.ahead
  obtain ⟨ro, o1⟩ := hB.behind
  exact PySem.W.ksp_binT hF I.ok.mod.kin J (hT.type ry) hB.first hm.at_ hm.fn r1 r2 f1 o1 hB.sub w
def rSign (C : Addr) (sp : Sp) : V → Hp → VK → Prop := fun x H Q => ∃ a dx fs, x = .ref a ∧ H a = some (.ins C dx fs) ∧ sp [x] H Q C8.E0
theorem un_sign (M : C8.Met X.prog X.w X.K X.mg X.base k C "__neg__" sp []) (hr : Room j X.A) (hk : k ≤ j) : UnR X (unaryOp .USub) (rSign C sp) := by
  intro pins s σ H x v Q I rx h
  obtain ⟨a, dx, fs, rfl, ha, q⟩ := h
  cases (show v = Value.ref a from rx)
  obtain ⟨_, _, J⟩ := ins_at I ha
  obtain ⟨g, fd, ps, ds, hC, hm, F, b, d⟩ := M.ex
  obtain ⟨m, hF⟩ := I.fr
  have q' : sp ([V.ref a] ++ []) H Q C8.E0 := q
  exact PySem.W.ksp_neg hF I.ok.mod.kin J hm.at_ hm.fn (run_fn (us := [.ref a]) (vs := [.ref a]) F (hr.mono hk) b d C8.pass0 I (.cons rfl .nil) q')
end
end Lw
namespace Lw.Ow
open PySem PySem.Spec PyProof.Rows PySem.W PySem.Calls

/-! ### own operators, the instance on the right -/
section
variable {prog : Program} {w : World} {A : Around} {E : Value → Shared → Prop} {s : Shared} {K : Frag} {x C f g : Addr} {ox : Obj} {od : Option Obj}
theorem right_bare {op : Operator} {a : Value} {T : String} {Q : Value → Shared → Prop} (X : K.In s.heap) (I : InstAt s.heap x ox C od) (ht : Looks (model prog w) s.heap (typeOf a) (.type T)) (hc : selfFirst K C = true) (hs : findIn K (.ref C) (PySem.dunder op.info.2) = some (some (.ref f))) (hr : findIn K (.ref C) (dunderR op.info.2) = some (some (.ref g)))
    (hg : isFn K (.ref g) = true) (hL : fillsNumberSlot (.type T) op.info.2 = pure false) (h : wpAny (model prog w) A (call (.ref g) [.ref x, a]) (PySem.W.CmpBack Q) E s) : wpAny (model prog w) A (binaryOp op a (.ref x)) Q E s := by
  obtain ⟨cd, rest, hcd, hm⟩ := ksp_first hc
  rcases hi : op.info with ⟨sym, nm⟩
  rw [hi] at hs hr hL
  dsimp only at hs hr hL
  have one := ksp_try X I hr hg h
  obtain ⟨hh, gg, d, tt, os⟩ := s
  have L2 : Looks (model prog w) hh (typeOf (.ref x)) (.ref C) := I.type
  have L3 : Looks (model prog w) hh (fillsNumberSlot (.ref C) nm) true := fills_K X hcd hm hs
  have hne : (Value.type T == Value.ref C) = false := Bool.eq_false_iff.mpr fun q => by cases beq_iff_eq.mp q
  simp only [binaryOp, hi]
  refine wpAny_holding (wpAny_bind ?_)
  unfold binaryOp1
  refine wpAny_bind (ht.at (wpAny_bind (L2.at (wpAny_bind (wpAny_of_eq hL ?_)))))
  simp only [hne, Bool.false_eq_true, if_false]
  refine wpAny_bind (L3.at ?_)
  simp only [Bool.false_and, Bool.false_eq_true, if_false, pure_bind, Bool.not_false, Bool.and_true, if_true]
  refine wpAny_bind (wpAny_mono one (fun r s' hr' => ?_) fun _ _ e => e)
  obtain ⟨v, rfl, hq⟩ := hr'
  exact wpAny_bind (wpAny_rule (wpAny_pure (wpAny_pure hq)))
theorem right_number {op : Operator} {a : Value} {T id : String} {Q : Value → Shared → Prop} (X : K.In s.heap) (I : InstAt s.heap x ox C od) (ht : typeOf a = pure (.type T)) (hT : s.TypeIs a T) (hc : selfFirst K C = true) (hs : findIn K (.ref C) (PySem.dunder op.info.2) = some (some (.ref f))) (hr : findIn K (.ref C) (dunderR op.info.2) = some (some (.ref g)))
    (hg : isFn K (.ref g) = true) (hL : fillsNumberSlot (.type T) op.info.2 = pure true) (hsub : subIn K (.ref C) (.type T) = some false) (sl : Slot T (PySem.dunder op.info.2) id) (hd : ∀ Q' : Value → Shared → Prop, Q' .notImplemented s → wpAny (model prog w) A (call (.builtin id) [a, .ref x]) Q' E s)
    (h : wpAny (model prog w) A (call (.ref g) [.ref x, a]) (PySem.W.CmpBack Q) E s) : wpAny (model prog w) A (binaryOp op a (.ref x)) Q E s := by
  obtain ⟨cd, rest, hcd, hm⟩ := ksp_first hc
  rcases hi : op.info with ⟨sym, nm⟩
  rw [hi] at hs hr hL sl
  dsimp only at hs hr hL sl
  have one := ksp_try X I hr hg h
  have two := wpAny_tryMethod_declines (Q := fun r s' => r = none ∧ s' = s) hT sl (hd _ ⟨rfl, rfl, rfl⟩)
  obtain ⟨hh, gg, d, tt, os⟩ := s
  have L2 : Looks (model prog w) hh (typeOf (.ref x)) (.ref C) := I.type
  have L3 : Looks (model prog w) hh (fillsNumberSlot (.ref C) nm) true := fills_K X hcd hm hs
  have L4 : Looks (model prog w) hh (isSubtype (.ref C) (.type T)) false := looks_subIn X hsub
  have hpy : numberSlotInPython (.type T) nm = pure false := rfl
  have hne : (Value.type T == Value.ref C) = false := Bool.eq_false_iff.mpr fun q => by cases beq_iff_eq.mp q
  simp only [binaryOp, hi]
  refine wpAny_holding (wpAny_bind ?_)
  unfold binaryOp1
  refine wpAny_bind (wpAny_of_eq ht (wpAny_bind (L2.at (wpAny_bind (wpAny_of_eq hL ?_)))))
  simp only [hne, Bool.false_eq_true, if_false]
  refine wpAny_bind (L3.at ?_)
  simp only [Bool.and_self, if_true]
  refine wpAny_bind (L4.at ?_)
  simp only [Bool.false_eq_true, if_false, pure_bind, Bool.not_false, Bool.and_self, if_true, hpy]
  refine wpAny_bind (wpAny_mono two (fun r s' z => ?_) fun _ _ e => e)
  obtain ⟨rfl, rfl⟩ := z
  refine wpAny_bind (wpAny_mono one (fun r s' hr' => ?_) fun _ _ e => e)
  obtain ⟨v, rfl, hq⟩ := hr'
  exact wpAny_bind (wpAny_rule (wpAny_pure (wpAny_pure hq)))
end
end Lw.Ow
namespace Lw.Ow
open PySem PySem.Spec PyProof.Rows

section
variable {prog : Program} {w : World} {A : Around} {E : Value → Shared → Prop} {s : Shared}
theorem binary_no {nm : String} {f : Int → Int → Sem Fin} {i : Int} {t : Tok} {x : Addr} {o : Obj} {Q : Value → Shared → Prop} (ho : s.heap.get? x = some o) (hp : o.data = .plain) (h : Q .notImplemented s) :
    wpAny (model prog w) A (Builtin.Int.intBinary nm f false ⟨[.int i t, .ref x], []⟩) (fun fin s' => ∃ v, fin = .done (.ret v) ∧ Q v s') E s := by
  unfold Builtin.Int.intBinary
  refine wpAny_bind (wpAny_of_eq (a := (Value.int i t, [Value.ref x])) rfl ?_)
  refine wpAny_bind (wpAny_of_eq (a := i) rfl ?_)
  refine wpAny_bind ?_
  show wpAny _ _ (load x >>= fun ob => match ob.data with | .prim (.int i _) => pure (some i) | _ => pure none) _ _ _
  refine wpAny_bind (wpAny_load ho ?_)
  rw [hp]
  exact wpAny_pure (wpAny_bind (wpAny_rule (wpAny_pure ⟨_, rfl, h⟩)))
theorem no_add {i : Int} {t : Tok} {x : Addr} {o : Obj} {Q : Value → Shared → Prop} (ho : s.heap.get? x = some o) (hp : o.data = .plain) (h : Q .notImplemented s) : wpAny (model prog w) A (call (.builtin "int.__add__") [.int i t, .ref x]) Q E s :=
  wpAny_call_entry F.slot_int_add (typeIs_int s i t) F.entry_int_add (binary_no ho hp h) (F.args_int_add_2 _ _)
theorem no_sub {i : Int} {t : Tok} {x : Addr} {o : Obj} {Q : Value → Shared → Prop} (ho : s.heap.get? x = some o) (hp : o.data = .plain) (h : Q .notImplemented s) : wpAny (model prog w) A (call (.builtin "int.__sub__") [.int i t, .ref x]) Q E s :=
  wpAny_call_entry F.slot_int_sub (typeIs_int s i t) F.entry_int_sub (binary_no ho hp h) (F.args_int_sub_2 _ _)
theorem no_mul {i : Int} {t : Tok} {x : Addr} {o : Obj} {Q : Value → Shared → Prop} (ho : s.heap.get? x = some o) (hp : o.data = .plain) (h : Q .notImplemented s) : wpAny (model prog w) A (call (.builtin "int.__mul__") [.int i t, .ref x]) Q E s :=
  wpAny_call_entry F.slot_int_mul (typeIs_int s i t) F.entry_int_mul (binary_no ho hp h) (F.args_int_mul_2 _ _)
theorem no_mod {i : Int} {t : Tok} {x : Addr} {o : Obj} {Q : Value → Shared → Prop} (ho : s.heap.get? x = some o) (hp : o.data = .plain) (h : Q .notImplemented s) : wpAny (model prog w) A (call (.builtin "int.__mod__") [.int i t, .ref x]) Q E s :=
  wpAny_call_entry F.slot_int_mod (typeIs_int s i t) F.entry_int_mod (binary_no ho hp h) (F.args_int_mod_2 _ _)
theorem no_floordiv {i : Int} {t : Tok} {x : Addr} {o : Obj} {Q : Value → Shared → Prop} (ho : s.heap.get? x = some o) (hp : o.data = .plain) (h : Q .notImplemented s) : wpAny (model prog w) A (call (.builtin "int.__floordiv__") [.int i t, .ref x]) Q E s := by
  refine wpAny_call_entry F.slot_int_floordiv (typeIs_int s i t) F.entry_int_floordiv ?_ (F.args_int_floordiv_2 _ _)
  unfold Builtin.«int.__floordiv__»
  refine wpAny_bind ?_
  unfold Builtin.exactOperandsForPylong
  rw [if_pos (by rfl)]
  dsimp only
  refine wpAny_bind (wpAny_of_eq (a := some i) rfl ?_)
  refine wpAny_bind ?_
  show wpAny _ _ (load x >>= fun ob => match ob.data with | .prim (.int i _) => pure (some i) | _ => pure none) _ _ _
  refine wpAny_bind (wpAny_load ho ?_)
  rw [hp]
  exact wpAny_pure (wpAny_pure (binary_no ho hp h))
end

end Lw.Ow
namespace Lw
open PySem PySem.Spec PyProof.Rows L2
section
variable {X : Cx} {C f : Addr} {k j : Nat} {sp : Sp}
def rRight (C : Addr) (P : V → Prop) (sp : Sp) : R2 := fun x y H Q => ∃ a dx fs, P x ∧ y = .ref a ∧ H a = some (.ins C dx fs) ∧ sp [y, x] H Q C8.E0
theorem ins_plain {pins : List (Addr × Obj)} {σ : L2.St} {H : Hp} {s : Shared} {a dx : Addr} {fs : List (Str × V)} (I : Inv X pins σ H s) (h : H a = some (.ins C dx fs)) : ∃ ox od, PySem.W.InstAt s.heap a ox C (some od) ∧ s.heap.get? a = some ox ∧ ox.data = .plain := by
  obtain ⟨mA, O, _⟩ := ins_get I.hok h
  obtain ⟨od, J, _⟩ := O.look
  exact ⟨_, od, J, J.at_, rfl⟩
/-- an int beside an instance on the right -/
theorem op_rightI {op : Operator} {id : String} (M : C8.Met X.prog X.w X.K X.mg X.base k C (dunderR op.info.2) sp []) (hc : PySem.W.selfFirst X.K C = true) (hs : PySem.W.findIn X.K (.ref C) (PySem.dunder op.info.2) = some (some (.ref f))) (hL : fillsNumberSlot (.type "int") op.info.2 = pure true)
    (hsub : PySem.W.subIn X.K (.ref C) (.type "int") = some false) (sl : Slot "int" (PySem.dunder op.info.2) id) (hd : ∀ {A : Around} {E : Value → Shared → Prop} {s : Shared} {i : Int} {t : Tok} {x : Addr} {o : Obj} {Q' : Value → Shared → Prop}, s.heap.get? x = some o → o.data = .plain → Q' .notImplemented s → wpAny (model X.prog X.w) A (call (.builtin id) [.int i t, .ref x]) Q' E s)
    (hr : Room j X.A) (hk : k ≤ j) : OpR X (binaryOp op) (rRight C (fun x => ∃ i, x = .int i) sp) := by
  intro pins s σ H x y v u Q I rx ry h
  obtain ⟨a, dx, fs, ⟨i, rfl⟩, rfl, ha, q⟩ := h
  cases (show u = Value.ref a from ry)
  obtain ⟨t, rfl⟩ := (show ∃ t, v = Value.int i t from rx)
  obtain ⟨ox, od, J, hx, hp⟩ := ins_plain I ha
  obtain ⟨g, hm, w⟩ := run_two (us := [.ref a, .int i t]) (vs := [.ref a, .int i]) M hr hk I (.cons rfl (.cons ⟨t, rfl⟩ .nil)) q
  exact Ow.right_number I.kIn J rfl (typeIs_int s i t) hc hs hm.at_ hm.fn hL hsub sl (fun Q' z => hd hx hp z) w
/-- a value whose type has no number slot for the operator -/
theorem op_rightB {op : Operator} {T : String} (M : C8.Met X.prog X.w X.K X.mg X.base k C (dunderR op.info.2) sp []) (hc : PySem.W.selfFirst X.K C = true) (hs : PySem.W.findIn X.K (.ref C) (PySem.dunder op.info.2) = some (some (.ref f))) (hL : fillsNumberSlot (.type T) op.info.2 = pure false)
    (hr : Room j X.A) (hk : k ≤ j) : OpR X (binaryOp op) (rRight C (fun x => Kind x T) sp) := by
  intro pins s σ H x y v u Q I rx ry h
  obtain ⟨a, dx, fs, hT, rfl, ha, q⟩ := h
  cases (show u = Value.ref a from ry)
  obtain ⟨ox, od, J, hx, hp⟩ := ins_plain I ha
  obtain ⟨g, hm, w⟩ := run_two (us := [.ref a, v]) (vs := [.ref a, x]) M hr hk I (.cons rfl (.cons rx .nil)) q
  exact Ow.right_bare I.kIn J (PySem.W.Looks.of_pure (hT.type rx)) hc hs hm.at_ hm.fn hL w
end
end Lw
namespace Lw.Ow
open PySem PySem.Spec PyProof.Rows PySem.W PySem.Calls

/-! ### x op= y of instances whose class has no operator of that kind -/
section
variable {prog : Program} {w : World} {A : Around} {E : Value → Shared → Prop} {s : Shared} {K : Frag} {x C f g : Addr} {ox : Obj} {od : Option Obj}
/-- the operator's first half tells a value -/
def Told (Q : Value → Shared → Prop) (r : Option Value) (s' : Shared) : Prop := ∃ v, r = some v ∧ Q v s'
theorem half_same {nm : String} {b : Value} {Q : Value → Shared → Prop} (X : K.In s.heap) (I : InstAt s.heap x ox C od) (hb : Looks (model prog w) s.heap (typeOf b) (.ref C)) (hc : selfFirst K C = true) (hs : findIn K (.ref C) (PySem.dunder nm) = some (some (.ref f))) (hf : isFn K (.ref f) = true)
    (h : wpAny (model prog w) A (call (.ref f) [.ref x, b]) (PySem.W.CmpBack Q) E s) : wpAny (model prog w) A (binaryOp1 nm (.ref x) b) (Told Q) E s := by
  obtain ⟨cd, rest, hcd, hm⟩ := ksp_first hc
  have one := ksp_try X I hs hf h
  obtain ⟨hh, gg, d, tt, os⟩ := s
  have L1 : Looks (model prog w) hh (typeOf (.ref x)) (.ref C) := I.type
  have L2 : Looks (model prog w) hh (typeOf b) (.ref C) := hb
  have L3 : Looks (model prog w) hh (fillsNumberSlot (.ref C) nm) true := fills_K X hcd hm hs
  unfold binaryOp1
  refine wpAny_bind (L1.at (wpAny_bind (L2.at (wpAny_bind (L3.at ?_)))))
  simp only [beq_self_eq_true, if_true]
  refine wpAny_bind (wpAny_pure ?_)
  simp only [Bool.and_false, Bool.false_and, Bool.false_eq_true, if_false, if_true, pure_bind]
  refine wpAny_bind (wpAny_mono one (fun r s' z => ?_) fun _ _ e => e)
  obtain ⟨v, rfl, hq⟩ := z
  exact wpAny_pure ⟨v, rfl, hq⟩
/-- no class above has the operator of that kind -/
theorem bare_inplace {nm : String} {add : Bool} {cd : ClassData} {h : Heap} {M : Model} (X : K.In h) (hc : clsIn K C = some cd) (hm : cd.mro = [.ref C, .type "object"]) (h1 : findIn K (.ref C) (dunderI nm) = some none) (h2 : findIn K (.type "object") (dunderI nm) = some none) : Looks M h (fillsInplaceSlot (.ref C) nm add) false := by
  intro A Q E s k q
  have Lm : Looks M h (mroOf (.ref C)) cd.mro := (looks_clsIn X hc).andThen (f := fun cd => pure cd.mro) .now
  have Lm2 := Lm.keeps k
  obtain ⟨hh, gg, d, tt, os⟩ := s
  have X2 : K.In hh := X.keeps k
  have L1 : Looks M hh (typeLookup (.ref C) (dunderI nm)) none := looks_findIn X2 h1
  have L2 : Looks M hh (typeLookup (.type "object") (dunderI nm)) none := looks_findIn X2 h2
  unfold fillsInplaceSlot
  refine wpAny_bind (Lm2.at ?_)
  rw [hm, List.anyM_cons]
  refine wpAny_bind (wpAny_bind (L1.at ?_))
  refine wpAny_pure ?_
  rw [List.anyM_cons]
  refine wpAny_bind (wpAny_bind (L2.at ?_))
  refine wpAny_pure ?_
  rw [List.anyM_nil]
  exact wpAny_pure q
theorem inplace_of {op : Operator} {b : Value} {cd : ClassData} {Q : Value → Shared → Prop} (X : K.In s.heap) (I : InstAt s.heap x ox C od) (hc : clsIn K C = some cd) (hm : cd.mro = [.ref C, .type "object"]) (h1 : findIn K (.ref C) (dunderI op.info.2) = some none) (h2 : findIn K (.type "object") (dunderI op.info.2) = some none)
    (h : wpAny (model prog w) A (binaryOp1 op.info.2 (.ref x) b) (Told Q) E s) : wpAny (model prog w) A (inplaceOp op (.ref x) b) Q E s := by
  have L1 : Looks (model prog w) s.heap (typeOf (.ref x)) (.ref C) := I.type
  have L2 : Looks (model prog w) s.heap (fillsInplaceSlot (.ref C) op.info.2 (op == .Add)) false := bare_inplace X hc hm h1 h2
  unfold inplaceOp
  refine wpAny_holding ?_
  refine wpAny_bind (L1.here (wpAny_bind (L2.here ?_)))
  simp only [Bool.false_eq_true, if_false, pure_bind]
  refine wpAny_bind (wpAny_mono h (fun r s' z => ?_) fun _ _ e => e)
  obtain ⟨v, rfl, hq⟩ := z
  exact wpAny_pure hq
end
end Lw.Ow
namespace Lw.Ow
open PySem PySem.Spec PyProof.Rows PySem.W PySem.Calls

section
variable {prog : Program} {w : World} {A : Around} {E : Value → Shared → Prop} {s : Shared} {K : Frag} {x C f g : Addr} {ox : Obj} {od : Option Obj}
theorem half_left {nm : String} {b : Value} {T : String} {fo ro rc : Option Value} {Q : Value → Shared → Prop} (X : K.In s.heap) (I : InstAt s.heap x ox C od) (hb : Looks (model prog w) s.heap (typeOf b) (.type T)) (hc : selfFirst K C = true) (hs : findIn K (.ref C) (PySem.dunder nm) = some (some (.ref f))) (hf : isFn K (.ref f) = true)
    (hr : findIn K (.ref C) (dunderR nm) = some rc) (hp : rc = none ∨ ∃ g : Addr, rc = some (.ref g)) (h1 : findIn K (.type T) (PySem.dunder nm) = some fo) (h2 : findIn K (.type T) (dunderR nm) = some ro) (hsub : subIn K (.type T) (.ref C) = some false)
    (h : wpAny (model prog w) A (call (.ref f) [.ref x, b]) (PySem.W.CmpBack Q) E s) : wpAny (model prog w) A (binaryOp1 nm (.ref x) b) (Told Q) E s := by
  obtain ⟨cd, rest, hcd, hm⟩ := ksp_first hc
  have one := ksp_try X I hs hf h
  obtain ⟨hh, gg, d, tt, os⟩ := s
  have L1 : Looks (model prog w) hh (typeOf (.ref x)) (.ref C) := I.type
  have L3 : Looks (model prog w) hh (fillsNumberSlot (.ref C) nm) true := fills_K X hcd hm hs
  have L4 : Looks (model prog w) hh (fillsNumberSlot (.type T) nm) ((fo.isSome && !isSeqSlot fo) || (ro.isSome && !isSeqSlot ro)) := ksp_fillsT X h1 h2
  have L5 : Looks (model prog w) hh (isSubtype (.type T) (.ref C)) false := looks_subIn X hsub
  have L6 : Looks (model prog w) hh (numberSlotInPython (.ref C) nm) true := ksp_inPy X hs hr hp
  have L7 : Looks (model prog w) hh (numberSlotInPython (.type T) nm) false := Looks.of_pure rfl
  have L8 : Looks (model prog w) hh (typeLookup (.type T) (dunderR nm)) ro := looks_findIn X h2
  have hne : (Value.ref C == Value.type T) = false := Bool.eq_false_iff.mpr fun q => by cases beq_iff_eq.mp q
  have done : ∀ {r : Option Value} {s' : Shared}, (∃ v, r = some v ∧ Q v s') → ∃ v, r = some v ∧ Told Q r s' := fun ⟨v, e, q⟩ => ⟨v, e, v, e, q⟩
  generalize ((fo.isSome && !isSeqSlot fo) || (ro.isSome && !isSeqSlot ro)) = right at L4
  unfold binaryOp1
  refine wpAny_bind (L1.at (wpAny_bind (hb.at (wpAny_bind (L3.at ?_)))))
  simp only [hne, Bool.false_eq_true, if_false]
  refine wpAny_bind (L4.at ?_)
  cases right with
  | false =>
    simp only [Bool.and_false, Bool.false_and, Bool.false_eq_true, if_false, if_true, pure_bind]
    refine wpAny_bind (wpAny_mono one (fun r s' z => ?_) fun _ _ e => e)
    obtain ⟨v, rfl, hq⟩ := z
    exact wpAny_pure ⟨v, rfl, hq⟩
  | true =>
    simp only [Bool.and_self, if_true]
    refine wpAny_bind (L5.at ?_)
    simp only [Bool.false_eq_true, if_false, if_true, Bool.not_false, Bool.and_self]
    refine wpAny_bind (L6.at ?_)
    simp only [if_true]
    refine wpAny_bind (L7.at ?_)
    simp only [Bool.not_false, if_true]
    refine wpAny_bind (L8.at ?_)
    refine wpAny_bind (wpAny_mono one (fun r s' z => ?_) fun _ _ e => e)
    obtain ⟨v, rfl, hq⟩ := z
    exact wpAny_pure ⟨v, rfl, hq⟩
theorem half_number {nm : String} {a : Value} {T id : String} {Q : Value → Shared → Prop} (X : K.In s.heap) (I : InstAt s.heap x ox C od) (ht : typeOf a = pure (.type T)) (hT : s.TypeIs a T) (hc : selfFirst K C = true) (hs : findIn K (.ref C) (PySem.dunder nm) = some (some (.ref f))) (hr : findIn K (.ref C) (dunderR nm) = some (some (.ref g)))
    (hg : isFn K (.ref g) = true) (hL : fillsNumberSlot (.type T) nm = pure true) (hsub : subIn K (.ref C) (.type T) = some false) (sl : Slot T (PySem.dunder nm) id) (hd : ∀ Q' : Value → Shared → Prop, Q' .notImplemented s → wpAny (model prog w) A (call (.builtin id) [a, .ref x]) Q' E s)
    (h : wpAny (model prog w) A (call (.ref g) [.ref x, a]) (PySem.W.CmpBack Q) E s) : wpAny (model prog w) A (binaryOp1 nm a (.ref x)) (Told Q) E s := by
  obtain ⟨cd, rest, hcd, hm⟩ := ksp_first hc
  have one := ksp_try X I hr hg h
  have two := wpAny_tryMethod_declines (Q := fun r s' => r = none ∧ s' = s) hT sl (hd _ ⟨rfl, rfl, rfl⟩)
  obtain ⟨hh, gg, d, tt, os⟩ := s
  have L2 : Looks (model prog w) hh (typeOf (.ref x)) (.ref C) := I.type
  have L3 : Looks (model prog w) hh (fillsNumberSlot (.ref C) nm) true := fills_K X hcd hm hs
  have L4 : Looks (model prog w) hh (isSubtype (.ref C) (.type T)) false := looks_subIn X hsub
  have hpy : numberSlotInPython (.type T) nm = pure false := rfl
  have hne : (Value.type T == Value.ref C) = false := Bool.eq_false_iff.mpr fun q => by cases beq_iff_eq.mp q
  unfold binaryOp1
  refine wpAny_bind (wpAny_of_eq ht (wpAny_bind (L2.at (wpAny_bind (wpAny_of_eq hL ?_)))))
  simp only [hne, Bool.false_eq_true, if_false]
  refine wpAny_bind (L3.at ?_)
  simp only [Bool.and_self, if_true]
  refine wpAny_bind (L4.at ?_)
  simp only [Bool.false_eq_true, if_false, pure_bind, Bool.not_false, Bool.and_self, if_true, hpy]
  refine wpAny_bind (wpAny_mono two (fun r s' z => ?_) fun _ _ e => e)
  obtain ⟨rfl, rfl⟩ := z
  refine wpAny_bind (wpAny_mono one (fun r s' z => ?_) fun _ _ e => e)
  obtain ⟨v, rfl, hq⟩ := z
  exact wpAny_bind (wpAny_rule (wpAny_pure ⟨v, rfl, hq⟩))
end
end Lw.Ow
namespace Lw
open PySem PySem.Spec PyProof.Rows L2

/-- a class right below object that has no operator of the kind op= -/
structure NoInplace (K : PySem.W.Frag) (C : Addr) (op : Operator) : Prop where
  mro : ∃ cd, PySem.W.clsIn K C = some cd ∧ cd.mro = [.ref C, .type "object"]
  own : PySem.W.findIn K (.ref C) (dunderI op.info.2) = some none
  obj : PySem.W.findIn K (.type "object") (dunderI op.info.2) = some none
section
variable {X : Cx} {C f : Addr} {k j : Nat} {sp : Sp}
theorem iop_same {op : Operator} (M : C8.Met X.prog X.w X.K X.mg X.base k C (PySem.dunder op.info.2) sp []) (hc : PySem.W.selfFirst X.K C = true) (ni : NoInplace X.K C op) (hr : Room j X.A) (hk : k ≤ j) : OpR X (inplaceOp op) (rSame C sp) := by
  intro pins s σ H x y v u Q I rx ry h
  obtain ⟨a, dx, fs, b, dy, gs, rfl, rfl, ha, hb, q⟩ := h
  cases (show v = Value.ref a from rx)
  cases (show u = Value.ref b from ry)
  obtain ⟨_, _, J⟩ := ins_at I ha
  obtain ⟨_, _, J'⟩ := ins_at I hb
  obtain ⟨g, hm, w⟩ := run_two (us := [.ref a, .ref b]) (vs := [.ref a, .ref b]) M hr hk I (.cons rfl (.cons rfl .nil)) q
  obtain ⟨cd, h1, h2⟩ := ni.mro
  exact Ow.inplace_of I.kIn J h1 h2 ni.own ni.obj (Ow.half_same I.kIn J J'.type hc hm.at_ hm.fn w)
theorem iop_beside {op : Operator} (M : C8.Met X.prog X.w X.K X.mg X.base k C (PySem.dunder op.info.2) sp []) (ni : NoInplace X.K C op) (hr : Room j X.A) (hk : k ≤ j) : OpR X (inplaceOp op) (rBeside X.K C op sp) := by
  intro pins s σ H x y v u Q I rx ry h
  obtain ⟨a, dx, fs, T, rfl, ha, hT, hB, q⟩ := h
  cases (show v = Value.ref a from rx)
  obtain ⟨_, _, J⟩ := ins_at I ha
  obtain ⟨g, hm, w⟩ := run_two (us := [.ref a, u]) (vs := [.ref a, y]) M hr hk I (.cons rfl (.cons ry .nil)) q
  obtain ⟨cd, h1, h2⟩ := ni.mro
  obtain ⟨rc, r1, r2⟩ := hB.back
  obtain ⟨fo, f1⟩ := hB.ahead
  obtain ⟨ro, o1⟩ := hB.behind
  exact Ow.inplace_of I.kIn J h1 h2 ni.own ni.obj (Ow.half_left I.kIn J (PySem.W.Looks.of_pure (hT.type ry)) hB.first hm.at_ hm.fn r1 r2 f1 o1 hB.sub w)
/-- i op= x, i an int, x an instance -/
theorem iop_rightI {op : Operator} {id : String} (M : C8.Met X.prog X.w X.K X.mg X.base k C (dunderR op.info.2) sp []) (hc : PySem.W.selfFirst X.K C = true) (hs : PySem.W.findIn X.K (.ref C) (PySem.dunder op.info.2) = some (some (.ref f))) (hL : fillsNumberSlot (.type "int") op.info.2 = pure true) (hI : fillsInplaceSlot (.type "int") op.info.2 (op == .Add) = pure false)
    (hsub : PySem.W.subIn X.K (.ref C) (.type "int") = some false) (sl : Slot "int" (PySem.dunder op.info.2) id) (hd : ∀ {A : Around} {E : Value → Shared → Prop} {s : Shared} {i : Int} {t : Tok} {x : Addr} {o : Obj} {Q' : Value → Shared → Prop}, s.heap.get? x = some o → o.data = .plain → Q' .notImplemented s → wpAny (model X.prog X.w) A (call (.builtin id) [.int i t, .ref x]) Q' E s)
    (hr : Room j X.A) (hk : k ≤ j) : OpR X (inplaceOp op) (rRight C (fun x => ∃ i, x = .int i) sp) := by
  intro pins s σ H x y v u Q I rx ry h
  obtain ⟨a, dx, fs, ⟨i, rfl⟩, rfl, ha, q⟩ := h
  cases (show u = Value.ref a from ry)
  obtain ⟨t, rfl⟩ := (show ∃ t, v = Value.int i t from rx)
  obtain ⟨ox, od, J, hx, hp⟩ := ins_plain I ha
  obtain ⟨g, hm, w⟩ := run_two (us := [.ref a, .int i t]) (vs := [.ref a, .int i]) M hr hk I (.cons rfl (.cons ⟨t, rfl⟩ .nil)) q
  have half := Ow.half_number I.kIn J rfl (typeIs_int s i t) hc hs hm.at_ hm.fn hL hsub sl (fun Q' z => hd hx hp z) w
  unfold inplaceOp
  refine wpAny_holding ?_
  refine wpAny_bind (wpAny_of_eq (a := Value.type "int") rfl (wpAny_bind (wpAny_of_eq hI ?_)))
  simp only [Bool.false_eq_true, if_false, pure_bind]
  refine wpAny_bind (wpAny_mono half (fun r s' z => ?_) fun _ _ e => e)
  obtain ⟨v, rfl, hq⟩ := z
  exact wpAny_pure hq
theorem int_no_inplace : fillsInplaceSlot (.type "int") "add" true = pure false ∧ fillsInplaceSlot (.type "int") "sub" false = pure false ∧ fillsInplaceSlot (.type "int") "mul" false = pure false := by
  refine ⟨?_, ?_, ?_⟩ <;> · simp only [fillsInplaceSlot, typeLookup_type]; rfl
end
end Lw
namespace Lw
open PySem PySem.Spec PyProof.Rows L2

/-! ### the same operators, their methods may raise -/
/-- a method of the class that may raise what E tells -/
structure MetX (P : Program) (w : World) (K : PySem.W.Frag) (mg : Str → Option Value) (base : Heap) (k : Nat) (C : Addr) (m : Str) (sp : Sp) : Prop where
  ex : ∃ (g : Addr) (fd : FuncData) (ps : List Str), Meth K C m g ∧ FnOk P w K mg base (L2.CX P w) k g fd ps sp ∧ Binds K fd ps []
section
variable {X : Cx} {C f : Addr} {k j : Nat} {sp : Sp} {E : XK} {pins : List (Addr × Obj)} {σ : L2.St} {H : Hp} {s : Shared}
theorem run_met {m : Str} {us : List Value} {vs : List V} {Q : VK} (M : MetX X.prog X.w X.K X.mg X.base k C m sp) (hx : Passes (L2.CX X.prog X.w) X E) (hr : Room j X.A) (hk : k ≤ j) (I : Inv X pins σ H s) (r : Vals vs us) (q : sp vs H Q E) :
    ∃ g : Addr, Meth X.K C m g ∧ wpAny (model X.prog X.w) X.A (call (.ref g) us) (PySem.W.CmpBack (EP X pins σ Q)) X.xe s ∧ wpAny (model X.prog X.w) X.A (call (.ref g) us) (EP X pins σ Q) X.xe s := by
  obtain ⟨g, fd, ps, hm, F, b⟩ := M.ex
  have q' : sp (vs ++ []) H Q E := by rw [List.append_nil]; exact q
  have ran := run_fn F (hr.mono hk) b .nil hx I r q'
  refine ⟨g, hm, wpAny_mono ran (fun w s' z => ?_) (fun _ _ x => x), ran⟩
  obtain ⟨z', H', I', rz, qz⟩ := z
  exact SlX.cmpback rz ⟨z', H', I', rz, qz⟩
def rSameX (C : Addr) (sp : Sp) (E : XK) : R2 := fun x y H Q => ∃ a dx fs b dy gs, x = .ref a ∧ y = .ref b ∧ H a = some (.ins C dx fs) ∧ H b = some (.ins C dy gs) ∧ sp [x, y] H Q E
theorem op_sameX {op : Operator} (M : MetX X.prog X.w X.K X.mg X.base k C (PySem.dunder op.info.2) sp) (hx : Passes (L2.CX X.prog X.w) X E) (hc : PySem.W.selfFirst X.K C = true) (hr : Room j X.A) (hk : k ≤ j) : OpR X (binaryOp op) (rSameX C sp E) := by
  intro pins s σ H x y v u Q I rx ry h
  obtain ⟨a, dx, fs, b, dy, gs, rfl, rfl, ha, hb, q⟩ := h
  cases (show v = Value.ref a from rx)
  cases (show u = Value.ref b from ry)
  obtain ⟨_, _, J⟩ := ins_at I ha
  obtain ⟨_, _, J'⟩ := ins_at I hb
  obtain ⟨g, hm, w, _⟩ := run_met (us := [.ref a, .ref b]) (vs := [.ref a, .ref b]) M hx hr hk I (.cons rfl (.cons rfl .nil)) q
  obtain ⟨m, hF⟩ := I.fr
  exact PySem.W.binop_K hF I.ok.mod.kin J J'.type hc hm.at_ hm.fn w
def rBesideX (K : PySem.W.Frag) (C : Addr) (op : Operator) (sp : Sp) (E : XK) : R2 := fun x y H Q => ∃ a dx fs T, x = .ref a ∧ H a = some (.ins C dx fs) ∧ Kind y T ∧ Beside K C op T ∧ sp [x, y] H Q E
theorem op_besideX {op : Operator} (M : MetX X.prog X.w X.K X.mg X.base k C (PySem.dunder op.info.2) sp) (hx : Passes (L2.CX X.prog X.w) X E) (hr : Room j X.A) (hk : k ≤ j) : OpR X (binaryOp op) (rBesideX X.K C op sp E) := by
  intro pins s σ H x y v u Q I rx ry h
  obtain ⟨a, dx, fs, T, rfl, ha, hT, hB, q⟩ := h
  cases (show v = Value.ref a from rx)
  obtain ⟨_, _, J⟩ := ins_at I ha
  obtain ⟨g, hm, w, _⟩ := run_met (us := [.ref a, u]) (vs := [.ref a, y]) M hx hr hk I (.cons rfl (.cons ry .nil)) q
  obtain ⟨m, hF⟩ := I.fr
  obtain ⟨rc, r1, r2⟩ := hB.back
  obtain ⟨fo, f1⟩ := hB.ahead
  obtain ⟨ro, o1⟩ := hB.behind
  exact PySem.W.ksp_binT hF I.ok.mod.kin J (hT.type ry) hB.first hm.at_ hm.fn r1 r2 f1 o1 hB.sub w
def rSignX (C : Addr) (sp : Sp) (E : XK) : V → Hp → VK → Prop := fun x H Q => ∃ a dx fs, x = .ref a ∧ H a = some (.ins C dx fs) ∧ sp [x] H Q E
theorem un_signX (M : MetX X.prog X.w X.K X.mg X.base k C "__neg__" sp) (hx : Passes (L2.CX X.prog X.w) X E) (hr : Room j X.A) (hk : k ≤ j) : UnR X (unaryOp .USub) (rSignX C sp E) := by
  intro pins s σ H x v Q I rx h
  obtain ⟨a, dx, fs, rfl, ha, q⟩ := h
  cases (show v = Value.ref a from rx)
  obtain ⟨_, _, J⟩ := ins_at I ha
  obtain ⟨g, hm, _, w⟩ := run_met (us := [.ref a]) (vs := [.ref a]) M hx hr hk I (.cons rfl .nil) q
  obtain ⟨m, hF⟩ := I.fr
  exact PySem.W.ksp_neg hF I.ok.mod.kin J hm.at_ hm.fn w
end
end Lw
namespace Lw
open PySem PySem.Spec PyProof.Rows L2
end Lw
namespace Lw.Zm
open PySem PySem.Spec PyProof.Rows L2
/-! ### zip of a list and a tuple -/
/-- the list at a and the tuple at b as they stand at each turn -/
def ItzM (K : PySem.W.Frag) (a b : Addr) : It where
  go i H := ∃ (xs ys : List V) (x y : V), (SqL K H a xs ∧ xs[i]? = some x) ∧ SqT K H b ys ∧ ys[i]? = some y
  yld i H v H' := ∃ T x y, (v = .ref T ∧ H T = none ∧ H' = upd H T (.tup [x, y])) ∧ (∀ xs, SqL K H a xs → xs[i]? = some x) ∧ ∀ ys, SqT K H b ys → ys[i]? = some y
  stop i H := ∃ xs ys : List V, SqL K H a xs ∧ SqT K H b ys ∧ xs.length = ys.length ∧ i = xs.length
theorem sep {z TI TO i1 i2 a b : Addr} (D : ZipApart z TI TO i1 i2 a b) : ZipSep2 z TI TO i1 i2 [i1, a] [i2, b] where
  TIz := D.TIz
  TOz := D.TOz
  TITO := D.TITO
  TIi1 := D.TIi1
  TIi2 := D.TIi2
  mem1 := List.mem_cons_self
  mem2 := List.mem_cons_self
  zf1 := fun h => by
    rcases List.mem_cons.mp h with e | h
    · exact D.i1z e.symm
    · exact D.l1z (List.mem_singleton.mp h).symm
  zf2 := fun h => by
    rcases List.mem_cons.mp h with e | h
    · exact D.i2z e.symm
    · exact D.l2z (List.mem_singleton.mp h).symm
  Tf1 := fun h => by
    rcases List.mem_cons.mp h with e | h
    · exact D.TOi1 e
    · exact D.l1TO (List.mem_singleton.mp h).symm
  Tf2 := fun h => by
    rcases List.mem_cons.mp h with e | h
    · exact D.TOi2 e
    · exact D.l2TO (List.mem_singleton.mp h).symm
  sep1_2 := fun h => by
    rcases List.mem_cons.mp h with e | h
    · exact D.i12 e
    · exact D.l2i1 (List.mem_singleton.mp h).symm
  sep2_1 := fun h => by
    rcases List.mem_cons.mp h with e | h
    · exact D.i12 e.symm
    · exact D.l1i2 (List.mem_singleton.mp h).symm
/-- how the five records of such a zip stand -/
def Rec (z TI TO i1 i2 a b : Addr) (i : Nat) (h : Heap) : Prop := (IsZip h z TI TO .none ∧ IsPair h TI (.ref i1) (.ref i2) ∧ ∃ x y, IsPair h TO x y) ∧ h.IsListIter i1 a i ∧ h.IsTupleIter i2 b i
theorem five {z TI TO i1 i2 c : Addr} (h : c ∈ [z, TI, TO, i1, i2]) : c = z ∨ c = TI ∨ c = TO ∨ c = i1 ∨ c = i2 := by simpa using h
theorem Rec.lt {z TI TO i1 i2 a b : Addr} {i : Nat} {h : Heap} (r : Rec z TI TO i1 i2 a b i h) : ∀ c ∈ [z, TI, TO, i1, i2], ∃ o, h.get? c = some o ∧ ∀ v, o.data ≠ .cell v := by
  obtain ⟨⟨r1, r2, p, q, r3⟩, ⟨o4, g4, _, d4⟩, o5, g5, _, d5⟩ := r
  intro c hc
  rcases five hc with rfl | rfl | rfl | rfl | rfl
  · exact ⟨_, r1, fun v z => nomatch z⟩
  · exact ⟨_, r2, fun v z => nomatch z⟩
  · exact ⟨_, r3, fun v z => nomatch z⟩
  · exact ⟨o4, g4, fun v z => by rw [d4] at z; cases z⟩
  · exact ⟨o5, g5, fun v z => by rw [d5] at z; cases z⟩
theorem turn {P : Program} {w : World} {K : PySem.W.Frag} {elts : List Expr} {kk : Nat} {tpos : Pos} {a b z TI TO i1 i2 : Addr} (D : ZipApart z TI TO i1 i2 a b) :
    Turn P w K (.Tuple elts kk tpos) (ItzM K a b) [z, TI, TO, i1, i2] z (Rec z TI TO i1 i2 a b) where
  mem := List.mem_cons_self
  obj := fun i h r => r.lt
  keep := fun i h h' r k => by
    obtain ⟨⟨r1, r2, p, q, r3⟩, r4, r5⟩ := r
    exact ⟨⟨k _ (by simp) _ r1, k _ (by simp) _ r2, p, q, k _ (by simp) _ r3⟩, r4.at fun o g => k _ (by simp) o g, r5.at fun o g => k _ (by simp) o g⟩
  item := by
    intro X hP hw hK hc i pins s σ H E I hf r hg
    subst hP
    subst hw
    subst hK
    have below := r.lt
    obtain ⟨⟨r1, r2, p, q, r3⟩, r4, r5⟩ := r
    obtain ⟨xs, ys, x, y, ⟨sx, ex⟩, sy, ey⟩ := hg
    obtain ⟨us, ru, pu, _⟩ := I.list sx
    obtain ⟨ws, rw', pw, _⟩ := I.tuple sy
    obtain ⟨u, hu, ru1⟩ := ru.get ex
    obtain ⟨v, hv, rv1⟩ := rw'.get ey
    have l1 : i < us.toArray.size := by
      have := (List.getElem?_eq_some_iff.mp hu).1
      simpa using this
    have l2 : i < ws.toArray.size := by
      have := (List.getElem?_eq_some_iff.mp hv).1
      simpa using this
    have hh := I.ok.hd hc
    refine wpAny_pyNext_zipD2_item (sep D) (Draws.list (A := X.A.in1) hh i1 a D.l1i1 us.toArray) (Draws.tuple (A := X.A.in1) hh i2 b D.l2i2 ws.toArray) r1 r2 r3 ⟨r4, pu.isList⟩ ⟨r5, pw⟩ l1 l2 fun x1 x2 h' tk p1 p2 z1 t1 st1 st2 tT sz kp => ?_
    have e1 : x1 = u := by
      have : us.toArray[i]? = some u := by simpa using hu
      rw [this] at p1
      exact (Option.some.inj p1).symm
    have e2 : x2 = v := by
      have : ws.toArray[i]? = some v := by simpa using hv
      rw [this] at p2
      exact (Option.some.inj p2).symm
    subst e1
    subst e2
    refine ⟨_, rfl, wpAny_letOwnedTupleGo_zip (s := { s with heap := h', toks := tk }) z1 fun h2 z2 sb => ?_⟩
    have lz : ∀ c ∈ [z, TI, TO, i1, i2], c < s.heap.objs.size := fun c hc => by
      obtain ⟨o, g, _⟩ := below c hc
      exact Heap.lt_size g
    have atT : h2.get? s.heap.objs.size = some { cls := .type "tuple", data := .seq #[x1, x2] } := (sb.2 _ (Nat.ne_of_gt (lz z List.mem_cons_self))).trans tT
    have new : ObjOk X.prog X.w (upd H s.heap.objs.size (.tup [x, y])) h2 s.heap.objs.size (.tup [x, y]) := ⟨(show 2 ≤ sizeLine by decide), [x1, x2], .cons ru1 (.cons rv1 .nil), _, atT, rfl, _, rfl⟩
    have same : ∀ c o, c ∉ [z, TI, TO, i1, i2] → s.heap.get? c = some o → h2.get? c = some o := fun c o n g => by
      have ne : ∀ d ∈ [z, TI, TO, i1, i2], c ≠ d := fun d hd e => n (e ▸ hd)
      exact (sb.2 c (ne z (by simp))).trans (kp c o (ne z (by simp)) (ne TO (by simp)) (ne i1 (by simp)) (ne i2 (by simp)) g)
    have J : Inv X pins σ (upd H s.heap.objs.size (.tup [x, y])) { s with heap := h2, toks := tk } := I.turnedNew (ch := [z, TI, TO, i1, i2]) same hf (Nat.le_refl _) new
    refine ⟨.ref s.heap.objs.size, _, J, rfl, ⟨_, x, y, ⟨rfl, I.hok.fresh (Nat.le_refl _), rfl⟩, fun l hl => ?_, fun l hl => ?_⟩, ⟨⟨z2, ?_, x1, x2, ?_⟩, ?_, ?_⟩, fun c hc => ?_⟩
    · rw [I.list_inj hl sx]
      exact ex
    · rw [I.tuple_inj hl sy]
      exact ey
    · exact (sb.2 _ D.TIz).trans (kp _ _ D.TIz D.TITO D.TIi1 D.TIi2 r2)
    · exact (sb.2 _ D.TOz).trans t1
    · exact st1.1.at fun o g => (sb.2 _ D.i1z).trans g
    · exact st2.1.at fun o g => (sb.2 _ D.i2z).trans g
    · rw [upd_ne (Nat.ne_of_lt (lz c hc))]
      exact (hf c hc).1
  done := by
    intro X hP hw hK hc i pins s σ H E I hf r hg
    subst hP
    subst hw
    subst hK
    obtain ⟨⟨r1, r2, p, q, r3⟩, r4, r5⟩ := r
    obtain ⟨xs, ys, sx, sy, el, ei⟩ := hg
    obtain ⟨us, ru, pu, _⟩ := I.list sx
    obtain ⟨ws, rw', pw, _⟩ := I.tuple sy
    have n1 := ru.length
    have n2 := rw'.length
    have hh := I.ok.hd hc
    have m1 : us.toArray.size = us.length := by simp
    have m2 : ws.toArray.size = ws.length := by simp
    refine wpAny_pyNext_zipD2_end (sep D) (Draws.list (A := X.A.in1) hh i1 a D.l1i1 us.toArray) (Draws.tuple (A := X.A.in1) hh i2 b D.l2i2 ws.toArray) r1 r2 r3 ⟨r4, pu.isList⟩ ⟨r5, pw⟩ (by omega) (by omega) (.inl (by omega)) fun h' tk kp => ?_
    refine ⟨rfl, I.turnedL (ch := [z, TI, TO, i1, i2]) (fun c o n g => ?_) hf⟩
    have ne : ∀ d ∈ [z, TI, TO, i1, i2], c ≠ d := fun d hd e => n (e ▸ hd)
    exact kp c o (ne z (by simp)) (ne TO (by simp)) (ne i1 (by simp)) (ne i2 (by simp)) g
  self := fun A i s Q E r h => wpAny_pyIter_zip r.1.1 h
def iZipM (K : PySem.W.Frag) (ta : TA) : TI := fun σ H R => ta σ H fun vs H1 => ∃ a b xs ys, vs = [.ref a, .ref b] ∧ (SqL K H1 a xs ∧ SqT K H1 b ys) ∧ R (ItzM K a b) H1
theorem pi_zipM {X : Cx} {e e2 : Expr} {ta : TA} {p pos tpos : Pos} {elts : List Expr} {kk : Nat} (hg : Gl X "zip") (hm : X.mg "zip" = none) (ha : PA X [e, e2] ta)
    (hs : starEach [e, e2] X.env = (false, eval e X.env) :: starEach [e2] X.env := by rfl) (hpl : (backTo pos (starEach [e2] X.env)).any (·.1) = false := by rfl) :
    PI X (.Tuple elts kk tpos) (.Call (.Name "zip" p) [e, e2] [] pos) (iZipM X.K ta) := by
  refine ⟨fun pins s σ H R I h => Call_ (ld_blt I hg hm PyProof.Rows.boot_zip (PyProof.Rows.callWith_type1 (thn (ha.run pos pins s σ H _ I h) fun us s1 got => ?_) hs hpl))⟩
  obtain ⟨vs, H1, J, rv, a, b, xs, ys, rfl, ⟨sx, sy⟩, go⟩ := got
  obtain ⟨u1, u2, rfl, e1, e2'⟩ := vals2 rv
  obtain rfl : u1 = Value.ref a := e1
  obtain rfl : u2 = Value.ref b := e2'
  obtain ⟨us, ru, pu, _⟩ := J.list sx
  obtain ⟨ws, rw', pw, _⟩ := J.tuple sy
  obtain ⟨ob, gb, _⟩ := id pw
  refine zip_begins2 (begins_list a us.toArray) (begins_tuple b ws.toArray) pu.isList pw fun h' z1 t1 t2 g1 g2 sz kp => wpAny_pyIter_zip z1 ?_
  have J' : Inv X pins σ H1 { s1 with heap := h' } := J.kept (t' := s1.toks) kp
  refine ⟨_, [s1.heap.objs.size + 4, s1.heap.objs.size + 2, s1.heap.objs.size + 3, s1.heap.objs.size, s1.heap.objs.size + 1], _, _, H1, rfl, J', turn (PySem.W.ktu_apart s1.heap.objs.size a b pu.lt (Heap.lt_size gb)), ⟨⟨z1, t1, _, _, t2⟩, ⟨_, g1, rfl, rfl⟩, _, g2, rfl, rfl⟩, fun c hc => ?_, go⟩
  have le : s1.heap.objs.size ≤ c := by
    rcases five hc with rfl | rfl | rfl | rfl | rfl <;> first | exact Nat.le_refl _ | exact Nat.le_add_right _ _
  exact J.fpOk le (J.hok.fresh le)
theorem walk {K : PySem.W.Frag} {a b : Addr} {xs ys : List V} (hl : xs.length = ys.length) : Walk (ItzM K a b) xs.length (fun H => SqL K H a xs ∧ SqT K H b ys) (fun i H v H' => ∃ T x y, (v = .ref T ∧ H T = none ∧ H' = upd H T (.tup [x, y])) ∧ xs[i]? = some x ∧ ys[i]? = some y) := by
  refine ⟨fun i H hi q => ?_, fun H q => ⟨xs, ys, q.1, q.2, hl, rfl⟩, fun i H v H' hi q y => ?_⟩
  · have h2 : i < ys.length := by omega
    exact ⟨xs, ys, xs[i], ys[i], ⟨q.1, by simp [hi]⟩, q.2, by simp [h2]⟩
  · obtain ⟨T, x, z, h1, h2, h3⟩ := y
    exact ⟨T, x, z, h1, h2 _ q.1, h3 _ q.2⟩
end Lw.Zm
namespace Lw
open PySem PySem.Spec PyProof.Rows L2
open SX PySem.NumText TL
abbrev sNumOf : Stmt := top 17
theorem dig_back : ∀ cs : List Nat, AllDigits cs → (cs.map Char.ofNat).map Char.toNat = cs
  | [], _ => rfl
  | c :: r, h => by
    have h1 := h c List.mem_cons_self
    have e : (Char.ofNat c).toNat = c := by
      have k : ∀ d : Nat, d < 58 → (Char.ofNat d).toNat = d := by decide
      exact k c (by omega)
    rw [List.map_cons, List.map_cons, e, dig_back r fun d hd => h d (List.mem_cons_of_mem _ hd)]
theorem num_back {c : Nat} {r : List Nat} (h : AllDigits (c :: r)) (hc : 49 ≤ c ∨ r = []) : numL (digitsVal (c :: r)) = c :: r := by
  unfold numL
  rw [toDigits_digitsVal r.length (c :: r) rfl h (hc.elim (fun h => .inr ⟨c, r, rfl, h⟩) fun e => .inl (by rw [e]; rfl)), dig_back _ h]
theorem num_head : ∀ n : Nat, 0 < n → ∃ c r, numL n = c :: r ∧ 49 ≤ c := by
  intro n
  induction n using Nat.strongRecOn with
  | _ n ih =>
    intro h0
    by_cases h : n < 10
    · exact ⟨48 + n, [], numL_lt h, by omega⟩
    · obtain ⟨c, r, e, hc⟩ := ih (n / 10) (by omega) (by omega)
      exact ⟨c, r ++ [48 + n % 10], by rw [numL_step (by omega), e]; rfl, hc⟩
def numV (x : V) (lo hi : Int) : Option Int := match intV x with
  | some i => if lo ≤ i ∧ i ≤ hi then some i else none
  | none => none
theorem join_any {t : TS} {D : Ends} {σ : L2.St} {H : Hp} (Pj : L2.St → Hp → Prop) (hr : ∀ σ' H', Pj σ' H' → D.nx σ' H') (h : (∀ σ' H', Pj σ' H' → D.nx σ' H') → t D σ H) : t D σ H := h hr
def spNumOf (K : PySem.W.Frag) : Sp := fun vs H Q _ => ∃ x lo hi, vs = [x, .int lo, .int hi] ∧ Anyv K H x ∧ TextOk x ∧ Q (optV (numV x lo hi)) H
section
variable {P : Program} {w : World} {K : PySem.W.Frag} {mg : Str → Option Value} {base : Heap}
theorem scNumOf : FnScope ["word", "least", "most", "value"] ["word", "least", "most"] (C8.fnScope sNumOf) := C8.fnScope_by (by decide +kernel)
theorem fn_numof {f : Addr} {fd : FuncData} (F : C8.Def K mg "number_of" sNumOf f fd) (DI : C8.Cal P w K mg base 1 "integer_of" (spIntOf K) []) (DW : C8.Cal P w K mg base 2 "is_within" (spWithin K) []) :
    FnOk P w K mg base C8.CX0 3 f fd ["word", "least", "most"] (spNumOf K) := by
  refine C8.fn0 F.fn scNumOf (fun vs H Q E h => ?_) (fun cdv A outer st H vs Q E hr h => ?_)
  · obtain ⟨x, lo, hi, rfl, _⟩ := h
    rfl
  · obtain ⟨x, lo, hi, rfl, a, ok, k⟩ := h
    refine ⟨_, (pss_cons (ps_set (i := 3) scNumOf.nd rfl (Or.inl rfl) (C8.pe_c DI hr (by decide) (by rfl) (pa_cons (pv 0) pa_nil)))
  (pss_one (ps_ret (pe_ifExp (pt_val (C8.pe_c DW hr (by decide) (by rfl) (pa_cons (pv 3) (pa_cons (pv 1) (pa_cons (pv 2) pa_nil))))) (pv 3) pe_non)))), ?_⟩
    refine ⟨_, rfl, x, rfl, a, ok, ?_⟩
    have av : Anyv K H (optV (intV x)) := by cases intV x with | none => exact .non | some i => exact .int i
    refine ⟨_, rfl, _, rfl, _, rfl, _, _, _, rfl, av, _, rfl, ?_⟩
    unfold numV at k
    cases e : intV x with
    | none =>
      rw [e] at k
      exact iteF k
    | some i =>
      rw [e] at k
      refine ite2 (fun c => ?_) (fun c => ?_)
      · have h2 : lo ≤ i ∧ i ≤ hi := by
          have c' : (decide (lo ≤ i) && decide (i ≤ hi)) = true := c
          rw [Bool.and_eq_true, decide_eq_true_eq, decide_eq_true_eq] at c'
          exact c'
        refine ⟨_, rfl, ?_⟩
        simp only [h2, and_self, if_true] at k
        exact k
      · have h2 : ¬ (lo ≤ i ∧ i ≤ hi) := fun z => c (by
          show (decide (lo ≤ i) && decide (i ≤ hi)) = true
          rw [decide_eq_true z.1, decide_eq_true z.2]; rfl)
        simp only [h2, if_false] at k
        exact k
theorem cal_numof {f : Addr} {fd : FuncData} (F : C8.Def K mg "number_of" sNumOf f fd) (b : Binds K fd ["word", "least", "most"] []) (DI : C8.Cal P w K mg base 1 "integer_of" (spIntOf K) []) (DW : C8.Cal P w K mg base 2 "is_within" (spWithin K) []) :
    C8.Cal P w K mg base 3 "number_of" (spNumOf K) [] :=
  ⟨f, fd, _, [], fn_numof F DI DW, F.mgf, F.kp, b, .nil⟩
end
end Lw
namespace Lw
open PySem PySem.Spec PyProof.Rows L2
open LamX ClX
/-! ### errors of two fields, raised -/
abbrev sTxE : Stmt := inClass (top 10) 0
abbrev sMnE : Stmt := inClass (top 12) 0
/-- what an __init__ that keeps its two arguments promises -/
def spE2 (C : Addr) (f1 f2 : Str) : Sp := fun vs H Q _ => ∃ (a : Addr) (v1 v2 : V), vs = [.ref a, v1, v2] ∧ H a = some (exo a C none) ∧ ∀ dx, H dx = none → dx ≠ a → ∀ fs, fs.lookup f1 = some v1 → fs.lookup f2 = some v2 → Q .non (upd (upd H dx (exd dx fs)) a (exo a C (some dx)))
theorem two_fields {H : Hp} {a C dx : Addr} {f1 f2 : Str} {v1 v2 : V} (ne : dx ≠ a) : upd (upd (upd H dx (exd dx [(f1, v1)])) a (exo a C (some dx))) dx (exd dx [(f2, v2), (f1, v1)]) = upd (upd H dx (exd dx [(f2, v2), (f1, v1)])) a (exo a C (some dx)) := by
  funext b
  by_cases h1 : b = a
  · rw [h1, upd_ne ne.symm, upd_same, upd_same]
  · by_cases h2 : b = dx
    · rw [h2, upd_same, upd_ne ne, upd_same]
    · rw [upd_ne h2, upd_ne h1, upd_ne h2, upd_ne h1, upd_ne h2]
section
variable {P : Program} {w : World} {K : PySem.W.Frag} {mg : Str → Option Value} {base : Heap}
theorem sctxE : FnScope ["self", "line", "word"] ["self", "line", "word"] (C8.fnScope sTxE) := C8.fnScope_by (by decide +kernel)
theorem fn_txE {C f : Addr} {fd : FuncData} (F : C8.Fun K "__init__" "BadText.__init__" sTxE f fd) (T : OexC K C) (no1 : PySem.W.findIn K (.ref C) "line" = some none) (no2 : PySem.W.findIn K (.ref C) "word" = some none) : FnOk P w K mg base C8.CX0 1 f fd ["self", "line", "word"] (spE2 C "line" "word") := by
  refine C8.fn0 F sctxE (fun vs H Q E h => ?_) (fun cdv A outer st H vs Q E hr h => ?_)
  · obtain ⟨a, v1, v2, rfl, _⟩ := h
    rfl
  · obtain ⟨a, v1, v2, rfl, ha, k⟩ := h
    refine ⟨_, pss_cons (ps_ost (pv 0) (pv 1)) (pss_one (ps_ost (pv 0) (pv 2))), ?_⟩
    refine ⟨_, rfl, _, rfl, a, C, rfl, T, no1, .inl ⟨ha, fun dx h1 h2 => ?_⟩⟩
    refine ⟨_, rfl, _, rfl, a, C, rfl, T, no2, .inr ⟨dx, [("line", v1)], upd_same, (by rw [upd_ne h2]; exact upd_same), (by show 1 ≤ 900; decide), ?_⟩⟩
    rw [two_fields h2]
    exact k dx h1 h2 _ (by rw [lookup_put, if_neg (by decide +kernel), lookup_put, if_pos rfl]) (by rw [lookup_put, if_pos rfl])
theorem scmnE : FnScope ["self", "what", "most"] ["self", "what", "most"] (C8.fnScope sMnE) := C8.fnScope_by (by decide +kernel)
theorem fn_mnE {C f : Addr} {fd : FuncData} (F : C8.Fun K "__init__" "TooMany.__init__" sMnE f fd) (T : OexC K C) (no1 : PySem.W.findIn K (.ref C) "what" = some none) (no2 : PySem.W.findIn K (.ref C) "most" = some none) : FnOk P w K mg base C8.CX0 1 f fd ["self", "what", "most"] (spE2 C "what" "most") := by
  refine C8.fn0 F scmnE (fun vs H Q E h => ?_) (fun cdv A outer st H vs Q E hr h => ?_)
  · obtain ⟨a, v1, v2, rfl, _⟩ := h
    rfl
  · obtain ⟨a, v1, v2, rfl, ha, k⟩ := h
    refine ⟨_, pss_cons (ps_ost (pv 0) (pv 1)) (pss_one (ps_ost (pv 0) (pv 2))), ?_⟩
    refine ⟨_, rfl, _, rfl, a, C, rfl, T, no1, .inl ⟨ha, fun dx h1 h2 => ?_⟩⟩
    refine ⟨_, rfl, _, rfl, a, C, rfl, T, no2, .inr ⟨dx, [("what", v1)], upd_same, (by rw [upd_ne h2]; exact upd_same), (by show 1 ≤ 900; decide), ?_⟩⟩
    rw [two_fields h2]
    exact k dx h1 h2 _ (by rw [lookup_put, if_neg (by decide +kernel), lookup_put, if_pos rfl]) (by rw [lookup_put, if_pos rfl])
end
/-- the error's class, ready to be raised -/
structure Err2 (nm f1 f2 : Str) (P : Program) (w : World) (K : PySem.W.Frag) (mg : Str → Option Value) (base : Heap) (D fE : Addr) (fdE : FuncData) : Prop where
  T : OexC K D
  iC : PySem.W.findIn K (.ref D) "__init__" = some (some (.ref fE))
  tI : PySem.W.typeIn K (.ref fE) = some (.type "function")
  F : FnOk P w K mg base C8.CX0 1 fE fdE ["self", f1, f2] (spE2 D f1 f2)
  b : Binds K fdE ["self", f1, f2] []
  hm : mg nm = some (.ref D)
section
variable {X : Cx} {f1 f2 : Str} {C fI : Addr} {fd : FuncData} {W : WX} {j : Nat} {e1 e2 : Expr} {te1 te2 : TE} {p pos pos2 : Pos}
/-- raise X(e1, e2), X such a class -/
def tBad2 (f1 f2 : Str) (C : Addr) (W : WX) (te1 te2 : TE) : TS := fun _ σ H => tMkO C (spE2 C f1 f2) [] (tCons te1 (tCons te2 tNil)) σ H fun cls d H' => W cls d σ H'
theorem ps_bad2 {x : Str} (hc : X.calm = true) (tk : Takes X W) (T : OexC X.K C) (iC : PySem.W.findIn X.K (.ref C) "__init__" = some (some (.ref fI))) (tI : PySem.W.typeIn X.K (.ref fI) = some (.type "function")) (F : FnOk X.prog X.w X.K X.mg X.base C8.CX0 1 fI fd ["self", f1, f2] (spE2 C f1 f2)) (hr : Room (j + 2) X.A) (hb : Binds X.K fd ["self", f1, f2] [])
    (hg : Gl X x) (hm : X.mg x = some (.ref C)) (he1 : PE X e1 te1) (he2 : PE X e2 te2) (hst2 : starEach [e2] X.env = [(false, eval e2 X.env)] := by rfl) (hst : starEach [e1, e2] X.env = (false, eval e1 X.env) :: starEach [e2] X.env := by rfl) (hdb : (x == ("__debug__" : Str)) = false := by decide) (hpl : (backTo pos (starEach [e2] X.env)).any (·.1) = false := by rfl) :
    PS X (.Raise (some (.Call (.Name x p) [e1, e2] [] pos)) none pos2) (tBad2 f1 f2 C W te1 te2) :=
  ps_raise hc tk (pmk_oex T iC tI F (hr.mono (by omega)) hb .nil C8.pass0 hg hm (pa_cons he1 (pa_cons he2 pa_nil hst2) hst) hdb hst hpl)
theorem bad_leaf2 {H1 : Hp} {v1 v2 : V} {Q : XK} (k : ∀ d fs, H1 d = none → fs.lookup f1 = some v1 → fs.lookup f2 = some v2 → Q (.ref C) (some d) (upd H1 d (.xd fs))) :
    ([v1, v2] : List V).length ≤ 1000 ∧ ∀ a, H1 a = none → spE2 C f1 f2 (.ref a :: ([v1, v2] ++ [])) (upd H1 a (exo a C none)) (fun z H2 => z = .non ∧ ∃ (d : Addr) (fs : List (Str × V)), H2 a = some (exo a C (some d)) ∧ H2 d = some (exd d fs) ∧ H1 d = none ∧ Q (.ref C) (some d) (upd (del H2 a) d (.xd fs))) (fun _ _ _ => False) := by
  refine ⟨(by show 2 ≤ 1000; decide), fun a ha => ⟨a, v1, v2, rfl, upd_same, fun dx h1 h2 fs e1 e2 => ?_⟩⟩
  rw [upd_ne h2] at h1
  refine ⟨rfl, dx, fs, upd_same, by rw [upd_ne h2]; exact upd_same, h1, ?_⟩
  have e : upd (del (upd (upd (upd H1 a (exo a C none)) dx (exd dx fs)) a (exo a C (some dx))) a) dx (.xd fs) = upd H1 dx (.xd fs) := by
    funext b
    by_cases q : b = dx
    · rw [q, upd_same, upd_same]
    · rw [upd_ne q, upd_ne q]
      by_cases q2 : b = a
      · rw [q2, del_same, ha]
      · rw [del_ne q2, upd_ne q2, upd_ne q, upd_ne q2]
  rw [e]
  exact k dx fs h1 e1 e2
end
/-! ### a classmethod by keywords -/
section
variable {X : Cx} {CX : CXT} {C p g : Addr} {mc : Value} {k : Nat} {fd : FuncData} {ps ks : List Str} {sp : Sp} {E : XK} {o : Expr} {kws : List Keyword} {m : Str} {pos apos : Pos} {ta : TE} {tkw : TA} {gU : List Value → List Value → List Value} {gV : List V → List V → List V} {pl : Sem Bool}
theorem pe_cmethK (he : PE X o ta) (r : CRead X.K C mc) (c : CMet X.K C mc m p g) (F : FnOk X.prog X.w X.K X.mg X.base CX k g fd ps sp) (hr : Room k X.A) (hb : KBn X.K fd ps 1 ks gU gV) (hx : Passes CX X E) (hkw : PK X kws tkw)
    (hall : (backToKw pos (keywordEach kws X.env)).all (·.1.isSome) = true := by rfl) (hks : (backToKw pos (keywordEach kws X.env)).filterMap (·.1) = ks := by rfl)
    (hpl : ((backTo pos (starEach [] X.env)).any (·.1) || (backToKw pos (keywordEach kws X.env)).any (·.1.isNone)) = false := by rfl)
    (ht : eval (.Call (.Attribute o m apos) [] kws pos) X.env = (do
      let ov ← eval o X.env
      standAt apos.atName
      let (f, first) ← holding [ov] (getMethod ov m pl)
      callWith pos f first (backTo pos (starEach [] X.env)) (backToKw pos (keywordEach kws X.env))) := by rfl) :
    PE X (.Call (.Attribute o m apos) [] kws pos) (fun σ H Q => ta σ H fun x H1 => x = .ref C ∧ tkw σ H1 fun zs H2 => zs.length = ks.length ∧ sp (gV [.ref C] zs) H2 Q E) := by
  refine ⟨fun pins s σ H Q I h => ?_⟩
  refine PySem.W.methodCall_KW (pl := pl) (thn (he.run pins s σ H _ I h) fun u s1 ⟨x, H1, I1, rx, ex, q⟩ => ?_) ht
  subst ex
  obtain rfl : u = Value.ref C := rx
  refine getmethcm_ok I1 r c fun s2 I2 => ?_
  refine PySem.W.callWith_of (P := PySem.W.MethP X.K s1.heap.objs.size g (.ref C)) hpl (PySem.W.keeps_M c.fi) (evalArgs_kw2_nil hall ?_)
  refine thn (hkw.run pos _ s2 σ H1 _ I2 q) fun ws s3 ⟨zs, H2, I3, rz, l2, q2⟩ => ⟨⟨pin_at I3, I3.kIn⟩, ?_⟩
  rw [hks]
  have hl : ws.length = ks.length := rz.length.symm.trans l2
  have z : wpAny (model X.prog X.w) X.A (call (.ref s1.heap.objs.size) [] (ks.zip ws)) (EP X ((s1.heap.objs.size, PySem.W.methodObj (.ref g) (.ref C)) :: pins) σ Q) X.xe s3 := by
    refine wpAny_call (PySem.W.method_call (pin_at I3) ?_)
    have r2 : Vals (gV [.ref C] zs) (gU [.ref C] ws) := hb.rel (.cons rfl .nil) rz
    refine codeAny_mono (F.run X.A X.stack s3 H2 ⟨[.ref C], ks.zip ws⟩ (gU [.ref C] ws) (gV [.ref C] zs) Q E hr I3.env0 (hb.to s3 [.ref C] ws I3.kIn rfl hl) r2 q2) fun r s' hq => ?_
    cases r with
    | error e => exact hx _ σ H2 s3 e s' I3 hq
    | ok fl =>
      cases fl with
      | ret u => exact I3.after hq
      | next => exact False.elim hq
      | brk => exact False.elim hq
      | cont => exact False.elim hq
  exact thn z fun _ _ y => unpinE y
end
end Lw
namespace Lw
open PySem PySem.Spec PyProof.Rows L2
open SX PySem.NumText TL LamX
/-! ### the Reader -/
abbrev sRI : Stmt := inClass (top 18) 0
abbrev sRah : Stmt := inClass (top 18) 1
abbrev sRrf : Stmt := inClass (top 18) 2
abbrev sRtk : Stmt := inClass (top 18) 3
abbrev sRex : Stmt := inClass (top 18) 5
abbrev sRmo : Stmt := inClass (top 18) 6
abbrev sRfi : Stmt := inClass (top 18) 7
section
variable {X : Cx} {k j : Nat} {C : Addr} {m : Str} {sp : Sp} {E : XK} {o e : Expr} {es : List Expr} {ta : TE} {t : TA} {pos apos : Pos} {pl : Sem Bool}
/-- a method of an own class, called -/
theorem pe_mx0 (he : PE X o ta) (c : Cls X.K C) (M : MetX X.prog X.w X.K X.mg X.base k C m sp) (hr : Room j X.A) (hk : k ≤ j) (hx : Passes (L2.CX X.prog X.w) X E)
    (ht : eval (.Call (.Attribute o m apos) [] [] pos) X.env = (do
      let ov ← eval o X.env
      standAt apos.atName
      let (f, first) ← holding [ov] (getMethod ov m pl)
      callWith pos f first (backTo pos (starEach [] X.env)) (backToKw pos (keywordEach [] X.env))) := by rfl) :
    PE X (.Call (.Attribute o m apos) [] [] pos) (tMeth C m sp [] E ta tNil) := by
  obtain ⟨g, fd, ps, hm, F, b⟩ := M.ex
  exact pe_meth0 he c hm F (hr.mono hk) b .nil hx ht
theorem pe_mx (he : PE X o ta) (c : Cls X.K C) (M : MetX X.prog X.w X.K X.mg X.base k C m sp) (hr : Room j X.A) (hk : k ≤ j) (hx : Passes (L2.CX X.prog X.w) X E) (ha : PA X (e :: es) t)
    (hst : starEach (e :: es) X.env = (false, eval e X.env) :: starEach es X.env := by rfl) (hpl : (backTo pos (starEach es X.env)).any (·.1) = false := by rfl)
    (ht : eval (.Call (.Attribute o m apos) (e :: es) [] pos) X.env = (do
      let ov ← eval o X.env
      standAt apos.atName
      let (f, first) ← holding [ov] (getMethod ov m pl)
      callWith pos f first (backTo pos (starEach (e :: es) X.env)) (backToKw pos (keywordEach [] X.env))) := by rfl) :
    PE X (.Call (.Attribute o m apos) (e :: es) [] pos) (tMeth C m sp [] E ta t) := by
  obtain ⟨g, fd, ps, hm, F, b⟩ := M.ex
  exact pe_meth he c hm F (hr.mono hk) b .nil hx ha hst hpl ht
end
theorem putF_len (f : Str) (v : V) : ∀ fs : List (Str × V), (putF f v fs).length ≤ fs.length + 1
  | [] => Nat.le_refl _
  | (g, x) :: r => by
    unfold putF
    split
    · simp
    · have := putF_len f v r
      rw [List.length_cons, List.length_cons]
      omega
/-- its attributes -/
def rdF (l : Addr) (n : Int) : List (Str × V) := [("_words", .ref l), ("_row", .int 0), ("_at", .int n)]
theorem rdF_words (l : Addr) (n : Int) : (rdF l n).lookup ("_words" : Str) = some (.ref l) := by unfold rdF; rw [lookup_put, if_pos rfl]
theorem rdF_row (l : Addr) (n : Int) : (rdF l n).lookup ("_row" : Str) = some (.int 0) := by unfold rdF; rw [lookup_put, if_neg (by decide +kernel), lookup_put, if_pos rfl]
theorem rdF_at (l : Addr) (n : Int) : (rdF l n).lookup ("_at" : Str) = some (.int n) := by unfold rdF; rw [lookup_put, if_neg (by decide +kernel), lookup_put, if_neg (by decide +kernel), lookup_put, if_pos rfl]
theorem rdF_no {m : Str} (l : Addr) (n : Int) (h1 : m ≠ "_words") (h2 : m ≠ "_row") (h3 : m ≠ "_at") : (rdF l n).lookup m = none := by unfold rdF; rw [lookup_put, if_neg h1, lookup_put, if_neg h2, lookup_put, if_neg h3]; rfl
theorem rdF_put (l : Addr) (n i : Int) : putF "_at" (.int i) (rdF l n) = rdF l i := by
  unfold rdF putF
  rw [if_neg (by decide +kernel)]
  unfold putF
  rw [if_neg (by decide +kernel)]
  unfold putF
  rw [if_pos rfl]
theorem rdF_new (l : Addr) (n : Int) : putF "_at" (.int n) (putF "_row" (.int 0) (putF "_words" (.ref l) [])) = rdF l n := by
  have e1 : putF "_words" (.ref l) [] = [(("_words" : Str), V.ref l)] := rfl
  have e2 : putF "_row" (.int 0) [(("_words" : Str), V.ref l)] = [(("_words" : Str), V.ref l), (("_row" : Str), V.int 0)] := by
    unfold putF
    rw [if_neg (by decide +kernel)]
    rfl
  rw [e1, e2]
  unfold putF
  rw [if_neg (by decide +kernel)]
  unfold putF
  rw [if_neg (by decide +kernel)]
  rfl
/-- the words of a text -/
def wds (cs : List Nat) : List (List Nat) := TL.spl [32] 0 [] cs
theorem split_wds (cs : List Nat) : Txt.split (S cs) (Str.ofString " ") = (wds cs).map S := split_S (b := [32]) (List.cons_ne_nil _ _) rfl
def wV (ws : List (List Nat)) : List V := (ws.map S).map V.str
def RdAt (R : Addr) (H : Hp) (r l : Addr) (ws : List (List Nat)) (n : Nat) : Prop := (∃ dx, H r = some (.ins R dx (rdF l n))) ∧ H l = some (.lst (wV ws))
theorem RdAt.same {R : Addr} {H H' : Hp} {r l : Addr} {ws : List (List Nat)} {n : Nat} (h : RdAt R H r l ws n) (s : Same H H') : RdAt R H' r l ws n := by
  obtain ⟨⟨dx, h1⟩, h2⟩ := h
  exact ⟨⟨dx, s _ _ h1⟩, s _ _ h2⟩
/-- the word at hand -/
def handV (ws : List (List Nat)) (n : Nat) : V := match ws[n]? with
  | some w => .str (S w)
  | none => .non
/-- all but what stands at r is as it was: Kp. A refusal at word n -/
def Rf (D : Addr) (H : Hp) (E : XK) (n : Nat) : Prop := ∀ d fs H', Same H H' → H' d = none → fs.lookup ("line" : Str) = some (.int 0) → fs.lookup ("word" : Str) = some (.int n) → E (.ref D) (some d) (upd H' d (.xd fs))
def spRI (K : PySem.W.Frag) (R D : Addr) : Sp := fun vs H Q E => ∃ (r dx : Addr) (x : V), vs = [.ref r, x, .int 0] ∧ Anyv K H x ∧ H r = some (.ins R dx []) ∧ (isS x = false → Rf D H E 0) ∧
  ∀ z, x = .str z → ∃ cs, z = S cs ∧ cs.length ≤ 100000 ∧ ∀ l, H l = none → Q .non (upd (upd H l (.lst (wV (wds cs)))) r (.ins R dx (rdF l 0)))
def spRah (R : Addr) : Sp := fun vs H Q _ => ∃ r l ws n, vs = [.ref r] ∧ RdAt R H r l ws n ∧ Q (handV ws n) H
def spRrf (R D : Addr) : Sp := fun vs H _ E => ∃ r l ws n, vs = [.ref r] ∧ RdAt R H r l ws n ∧ Rf D H E n
def spRtk (R D : Addr) : Sp := fun vs H Q E => ∃ r l ws n x, vs = [.ref r, x] ∧ RdAt R H r l ws n ∧ (x = .non → Rf D H E n) ∧ (x ≠ .non → ∀ H', Kp r H H' → RdAt R H' r l ws (n + 1) → Q x H')
def spRex (R : Addr) : Sp := fun vs H Q _ => ∃ r l ws n z, vs = [.ref r, .str z] ∧ RdAt R H r l ws n ∧ handV ws n = .str z ∧ ∀ H', Kp r H H' → RdAt R H' r l ws (n + 1) → Q .non H'
def moreB (ws : List (List Nat)) (n : Nat) : Bool := match ws[n]? with
  | some w => !(decide (w = [47]) || decide (w = [59]))
  | none => false
def spRmo (R : Addr) : Sp := fun vs H Q _ => ∃ r l ws n, vs = [.ref r] ∧ RdAt R H r l ws n ∧ ∀ H', Same H H' → Q (.bl (moreB ws n)) H'
def spRfi (R D : Addr) : Sp := fun vs H Q E => ∃ r l ws n, vs = [.ref r] ∧ RdAt R H r l ws n ∧ (n < ws.length → Rf D H E n) ∧ (ws.length ≤ n → Q .non H)
/-- the Reader's class -/
structure RdC (K : PySem.W.Frag) (R : Addr) : Prop where
  cl : Cls K R
  n1 : NoAttr K R "_words"
  n2 : NoAttr K R "_row"
  n3 : NoAttr K R "_at"
theorem eqV_S (a b : List Nat) : eqV (.str (S a)) (.str (S b)) = decide (b = a) := by
  show (S a == S b) = _
  by_cases h : b = a
  · subst h; simp
  · rw [decide_eq_false h]
    exact beq_eq_false_iff_ne.mpr fun e => h (S_inj e).symm
theorem iteT' {A B : Prop} {c : Bool} (hc : c = true) (h : A) : if c = true then A else B := by rw [if_pos hc]; exact h
theorem iteF' {A B : Prop} {c : Bool} (hc : c = false) (h : B) : if c = true then A else B := by rw [if_neg (by rw [hc]; exact Bool.false_ne_true)]; exact h
section
variable {P : Program} {w : World} {K : PySem.W.Frag} {mg : Str → Option Value} {base : Heap}
theorem scRI : FnScope ["self", "text", "row"] ["self", "text", "row"] (C8.fnScope sRI) := C8.fnScope_by (by decide +kernel)
theorem fn_ri {R D f fE : Addr} {fd fdE : FuncData} (F : C8.Fun K "__init__" "Reader.__init__" sRI f fd) (T : Txt mg) (rc : RdC K R) (ER : Err2 "BadText" "line" "word" P w K mg base D fE fdE) : FnOk P w K mg base (L2.CX P w) 3 f fd ["self", "text", "row"] (spRI K R D) := by
  obtain ⟨oc, od, dV, kV, doc, pm, an, cdv, ct, osl, rfl, lk, hcd⟩ := F.ex
  refine fn_of lk hcd scRI (fun vs H Q E h => ?_) fun A outer s H vs Q E hr h => ?_
  · obtain ⟨r, dx, x, rfl, _⟩ := h
    rfl
  · obtain ⟨r, dx, x, rfl, av, hx, k1, k2⟩ := h
    have tk : Takes (cxOf (L2.CX P w) P w K mg base ["self", "text", "row"] "Reader.__init__" (C8.fnScope sRI) f cdv A outer s H E) (fun cls d _ H' => E cls d H') := takes_of rfl rfl rfl rfl
    refine ⟨_, (pss_cons (ps_if (pt_not (pt_val (pe_callB call_isz (by rfl) T.n_isinstance (by decide +kernel) (pa_cons (pv 1) (pa_cons (pe_bltn (v := .ty "str") (by rfl) T.n_str (by decide +kernel) rfl) pa_nil))))) (pss_one (ps_bad2 (x := "BadText") rfl tk ER.T ER.iC ER.tI ER.F hr ER.b (by rfl) ER.hm pe_int pe_int)) pss_nil)
      (pss_cons (ps_fld (pv 0) (pe_split (pv 1) pe_str) rfl)
      (pss_cons (ps_fld (pv 0) (pv 2) rfl)
      (pss_one (ps_fld (pv 0) pe_int rfl))))), ?_⟩
    refine ⟨_, rfl, ?_⟩
    dsimp only [tCons, tC, tNil]
    refine isz_str av ⟨_, rfl, ?_⟩
    have no : isS x = false → tBad2 "line" "word" D (fun cls d _ H' => E cls d H') (tC (.int 0)) (tC (.int 0)) { nx := fun _ H' => Q .non H', rt := Q } [] H := fun e => by
      exact bad_leaf2 fun d fs hd e1 e2 => k1 e d fs H (Same.refl _) hd e1 e2
    cases av with
    | str z =>
      obtain ⟨cs, rfl, hl, go⟩ := k2 z rfl
      have hs : (S cs).length + 2 ≤ sizeLine := by rw [S_len]; exact Nat.le_trans (Nat.add_le_add_right hl 2) (by decide)
      refine iteF ?_
      refine ⟨_, rfl, ⟨_, rfl⟩, _, _, rfl, rfl, by rfl, hs, fun l fl => ?_⟩
      rw [split_wds]
      have ne : l ≠ r := fun e => by rw [e, hx] at fl; cases fl
      refine ⟨_, rfl, r, R, dx, [], rfl, by rw [upd_ne ne.symm]; exact hx, rc.cl, rc.n1, (by show 0 < 1000; decide), ?_⟩
      refine ⟨_, rfl, _, rfl, r, R, dx, _, rfl, upd_same, rc.cl, rc.n2, (by show 1 < 1000; decide), ?_⟩
      refine ⟨_, rfl, r, R, dx, _, rfl, upd_same, rc.cl, rc.n3, ?_, ?_⟩
      · exact Nat.lt_of_le_of_lt (Nat.le_trans (putF_len _ _ _) (Nat.add_le_add_right (putF_len _ _ _) 1)) (by decide)
      rw [upd_upd, upd_upd, rdF_new]
      exact go l fl
    | int i => exact iteT (no rfl)
    | bl b => exact iteT (no rfl)
    | non => exact iteT (no rfl)
    | obj h h1 h2 h3 => exact iteT (no rfl)
theorem hand_any (K : PySem.W.Frag) (H : Hp) (ws : List (List Nat)) (n : Nat) : Anyv K H (handV ws n) := by
  unfold handV
  cases ws[n]? with
  | none => exact .non
  | some w => exact .str _
theorem scRah : FnScope ["self"] ["self"] (C8.fnScope sRah) := C8.fnScope_by (by decide +kernel)
theorem fn_rah {R f : Addr} {fd : FuncData} (F : C8.Fun K "at_hand" "Reader.at_hand" sRah f fd) (T : Txt mg) (rc : RdC K R) : FnOk P w K mg base (L2.CX P w) 1 f fd ["self"] (spRah R) := by
  obtain ⟨oc, od, dV, kV, doc, pm, an, cdv, ct, osl, rfl, lk, hcd⟩ := F.ex
  refine fn_of lk hcd scRah (fun vs H Q E h => ?_) fun A outer s H vs Q E hr h => ?_
  · obtain ⟨r, l, ws, n, rfl, _⟩ := h
    rfl
  · obtain ⟨r, l, ws, n, rfl, ⟨⟨dx, hr1⟩, hl⟩, k⟩ := h
    refine ⟨_, (pss_one (ps_ret (pe_ifExp (pt_cmpR op_lt (pe_fld (pv 0) rfl) (pe_callB call_len_seq (by rfl) T.n_len (by decide +kernel) (pa_cons (pe_fld (pv 0) rfl) pa_nil)) (nomark _)) (pe_ix ix_list (pe_fld (pv 0) rfl) (pe_fld (pv 0) rfl) (fun _ _ => rfl)) pe_non))), ?_⟩
    refine ⟨_, rfl, r, R, dx, _, _, rfl, hr1, rc.cl, rc.n3, rdF_at l n, _, rfl, r, R, dx, _, _, rfl, hr1, rc.cl, rc.n1, rdF_words l n, l, _, rfl, .inl (SqL.of hl), _, _, rfl, rfl, _, rfl, ite2 (fun c => ?_) (fun c => ?_)⟩
    · have c' := of_decide_eq_true c
      have hlen : (wV ws).length = ws.length := by unfold wV; rw [List.length_map, List.length_map]
      rw [hlen] at c'
      have hn : n < ws.length := by omega
      refine ⟨_, rfl, r, R, dx, _, _, rfl, hr1, rc.cl, rc.n1, rdF_words l n, _, rfl, r, R, dx, _, _, rfl, hr1, rc.cl, rc.n3, rdF_at l n, l, _, _, .str (S ws[n]), rfl, rfl, SqL.of hl, atI_nat (by unfold wV; simp [hn]), ?_⟩
      unfold handV at k
      rw [List.getElem?_eq_getElem hn] at k
      exact k
    · have c' := of_decide_eq_false (Bool.eq_false_iff.mpr c)
      have hlen : (wV ws).length = ws.length := by unfold wV; rw [List.length_map, List.length_map]
      rw [hlen] at c'
      unfold handV at k
      rw [List.getElem?_eq_none (by omega)] at k
      exact k
theorem scRrf : FnScope ["self"] ["self"] (C8.fnScope sRrf) := C8.fnScope_by (by decide +kernel)
theorem fn_rrf {R D f fE : Addr} {fd fdE : FuncData} (F : C8.Fun K "refuse" "Reader.refuse" sRrf f fd) (rc : RdC K R) (ER : Err2 "BadText" "line" "word" P w K mg base D fE fdE) : FnOk P w K mg base (L2.CX P w) 3 f fd ["self"] (spRrf R D) := by
  obtain ⟨oc, od, dV, kV, doc, pm, an, cdv, ct, osl, rfl, lk, hcd⟩ := F.ex
  refine fn_of lk hcd scRrf (fun vs H Q E h => ?_) fun A outer s H vs Q E hr h => ?_
  · obtain ⟨r, l, ws, n, rfl, _⟩ := h
    rfl
  · obtain ⟨r, l, ws, n, rfl, ⟨⟨dx, hr1⟩, hl⟩, k⟩ := h
    have tk : Takes (cxOf (L2.CX P w) P w K mg base ["self"] "Reader.refuse" (C8.fnScope sRrf) f cdv A outer s H E) (fun cls d _ H' => E cls d H') := takes_of rfl rfl rfl rfl
    refine ⟨_, (pss_one (ps_bad2 (x := "BadText") rfl tk ER.T ER.iC ER.tI ER.F hr ER.b (by rfl) ER.hm (pe_fld (pv 0) rfl) (pe_fld (pv 0) rfl))), ?_⟩
    refine ⟨_, rfl, r, R, dx, _, _, rfl, hr1, rc.cl, rc.n2, rdF_row l n, _, rfl, r, R, dx, _, _, rfl, hr1, rc.cl, rc.n3, rdF_at l n, ?_⟩
    exact bad_leaf2 fun d fs hd e1 e2 => k d fs H (Same.refl _) hd e1 e2
theorem scRtk : FnScope ["self", "worth"] ["self", "worth"] (C8.fnScope sRtk) := C8.fnScope_by (by decide +kernel)
theorem fn_rtk {R D f : Addr} {fd : FuncData} (F : C8.Fun K "take" "Reader.take" sRtk f fd) (rc : RdC K R) (MR : MetX P w K mg base 3 R "refuse" (spRrf R D)) : FnOk P w K mg base (L2.CX P w) 5 f fd ["self", "worth"] (spRtk R D) := by
  obtain ⟨oc, od, dV, kV, doc, pm, an, cdv, ct, osl, rfl, lk, hcd⟩ := F.ex
  refine fn_of lk hcd scRtk (fun vs H Q E h => ?_) fun A outer s H vs Q E hr h => ?_
  · obtain ⟨r, l, ws, n, x, rfl, _⟩ := h
    rfl
  · obtain ⟨r, l, ws, n, x, rfl, at_, k1, k2⟩ := h
    obtain ⟨⟨dx, hr1⟩, hl⟩ := id at_
    refine ⟨_, (pss_cons (ps_if (pt_cmpR op_isN (pv 1) pe_non (nomark _)) (pss_one (ps_expr (pe_mx0 (pv 0) rc.cl MR hr (by decide) (passes_call (takes_of rfl rfl rfl rfl) (fun _ _ _ _ z => z))))) pss_nil)
      (pss_cons (ps_fldaug (pv 0) pe_int in_add)
      (pss_one (ps_ret (pv 1))))), ?_⟩
    refine ⟨_, rfl, rfl, _, rfl, ite2 (fun c => ?_) (fun c => ?_)⟩
    · exact ⟨_, rfl, r, dx, _, rfl, hr1, rdF_no l n (by decide +kernel) (by decide +kernel) (by decide +kernel), r, l, ws, n, rfl, at_, k1 (of_decide_eq_true c)⟩
    · have nx : x ≠ .non := of_decide_eq_false (Bool.eq_false_iff.mpr c)
      refine ⟨_, rfl, r, R, dx, _, _, rfl, hr1, rc.cl, rc.n3, rdF_at l n, ?_⟩
      refine ⟨_, _, rfl, rfl, dx, _, hr1, (by show 3 < 1000; decide), ?_⟩
      rw [rdF_put]
      have nl : l ≠ r := fun e => by rw [e, hr1] at hl; cases hl
      refine ⟨_, rfl, k2 nx _ (fun b o hb e => by rw [upd_ne hb]; exact e) ⟨⟨dx, ?_⟩, by rw [upd_ne nl]; exact hl⟩⟩
      rw [upd_same]
      rfl
theorem scRex : FnScope ["self", "sign"] ["self", "sign"] (C8.fnScope sRex) := C8.fnScope_by (by decide +kernel)
theorem fn_rex {R D f : Addr} {fd : FuncData} (F : C8.Fun K "expect" "Reader.expect" sRex f fd) (rc : RdC K R) (MA : MetX P w K mg base 1 R "at_hand" (spRah R)) (MT : MetX P w K mg base 5 R "take" (spRtk R D)) : FnOk P w K mg base (L2.CX P w) 7 f fd ["self", "sign"] (spRex R) := by
  obtain ⟨oc, od, dV, kV, doc, pm, an, cdv, ct, osl, rfl, lk, hcd⟩ := F.ex
  refine fn_of lk hcd scRex (fun vs H Q E h => ?_) fun A outer s H vs Q E hr h => ?_
  · obtain ⟨r, l, ws, n, z, rfl, _⟩ := h
    rfl
  · obtain ⟨r, l, ws, n, z, rfl, at_, hz, k⟩ := h
    obtain ⟨⟨dx, hr1⟩, hl⟩ := id at_
    refine ⟨_, (pss_one (ps_expr (pe_mx (E := C8.E0) (pv 0) rc.cl MT hr (by decide) (passes_call takes0 (fun _ _ _ _ z => z)) (pa_cons (pe_ifExp (pt_cmpR op_eq (pe_mx0 (E := C8.E0) (pv 0) rc.cl MA hr (by decide) (passes_call takes0 (fun _ _ _ _ z => z))) (pv 1) (nomark _)) (pv 1) pe_non) pa_nil)))), ?_⟩
    refine ⟨_, rfl, r, dx, _, rfl, hr1, rdF_no l n (by decide +kernel) (by decide +kernel) (by decide +kernel), ?_⟩
    refine ⟨_, rfl, r, dx, _, rfl, hr1, rdF_no l n (by decide +kernel) (by decide +kernel) (by decide +kernel), r, l, ws, n, rfl, at_, ?_⟩
    rw [hz]
    refine ⟨_, rfl, rfl, _, rfl, iteT' (by simp) ?_⟩
    exact ⟨_, rfl, r, l, ws, n, _, rfl, at_, (fun e => by cases e), fun _ H' k1 a1 => k H' k1 a1⟩
theorem scRmo : FnScope ["self"] ["self"] (C8.fnScope sRmo) := C8.fnScope_by (by decide +kernel)
theorem fn_rmo {R f : Addr} {fd : FuncData} (F : C8.Fun K "more" "Reader.more" sRmo f fd) (rc : RdC K R) (MA : MetX P w K mg base 1 R "at_hand" (spRah R)) : FnOk P w K mg base (L2.CX P w) 3 f fd ["self"] (spRmo R) := by
  obtain ⟨oc, od, dV, kV, doc, pm, an, cdv, ct, osl, rfl, lk, hcd⟩ := F.ex
  refine fn_of lk hcd scRmo (fun vs H Q E h => ?_) fun A outer s H vs Q E hr h => ?_
  · obtain ⟨r, l, ws, n, rfl, _⟩ := h
    rfl
  · obtain ⟨r, l, ws, n, rfl, at_, k⟩ := h
    obtain ⟨⟨dx, hr1⟩, hl⟩ := id at_
    refine ⟨_, (pss_one (ps_ret (pe_cmpR op_notIn_seq (pe_mx0 (E := C8.E0) (pv 0) rc.cl MA hr (by decide) (passes_call takes0 (fun _ _ _ _ z => z))) (pe_tup (pa_cons pe_non (pa_cons pe_str (pa_cons pe_str pa_nil)))) (by rfl)))), ?_⟩
    refine ⟨_, rfl, r, dx, _, rfl, hr1, rdF_no l n (by decide +kernel) (by decide +kernel) (by decide +kernel), r, l, ws, n, rfl, at_, ?_⟩
    refine ⟨(by show 3 ≤ sizeLine; decide), fun q hq => ?_⟩
    refine ⟨q, _, rfl, .inr (SqT.of upd_same), by unfold handV; cases ws[n]? <;> rfl, rfl, ?_⟩
    have e : (!inV (handV ws n) [V.non, .str (Str.ofString "/"), .str (Str.ofString ";")]) = moreB ws n := by
      unfold handV moreB
      cases ws[n]? with
      | none => rfl
      | some w =>
        show (!(eqV .non (.str (S w)) || (eqV (.str (Str.ofString "/")) (.str (S w)) || (eqV (.str (Str.ofString ";")) (.str (S w)) || false)))) = _
        have e1 : eqV (.str (Str.ofString "/")) (.str (S w)) = decide (w = [47]) := eqV_S [47] w
        have e2 : eqV (.str (Str.ofString ";")) (.str (S w)) = decide (w = [59]) := eqV_S [59] w
        rw [e1, e2, Bool.or_false]
        rfl
    have := k _ (same_new (o := HO.tup [V.non, .str (Str.ofString "/"), .str (Str.ofString ";")]) hq)
    rw [← e] at this
    exact this
theorem scRfi : FnScope ["self"] ["self"] (C8.fnScope sRfi) := C8.fnScope_by (by decide +kernel)
theorem fn_rfi {R D f : Addr} {fd : FuncData} (F : C8.Fun K "finish" "Reader.finish" sRfi f fd) (T : Txt mg) (rc : RdC K R) (MR : MetX P w K mg base 3 R "refuse" (spRrf R D)) : FnOk P w K mg base (L2.CX P w) 5 f fd ["self"] (spRfi R D) := by
  obtain ⟨oc, od, dV, kV, doc, pm, an, cdv, ct, osl, rfl, lk, hcd⟩ := F.ex
  refine fn_of lk hcd scRfi (fun vs H Q E h => ?_) fun A outer s H vs Q E hr h => ?_
  · obtain ⟨r, l, ws, n, rfl, _⟩ := h
    rfl
  · obtain ⟨r, l, ws, n, rfl, at_, k1, k2⟩ := h
    obtain ⟨⟨dx, hr1⟩, hl⟩ := id at_
    refine ⟨_, (pss_one (ps_if (pt_cmpR op_lt (pe_fld (pv 0) rfl) (pe_callB call_len_seq (by rfl) T.n_len (by decide +kernel) (pa_cons (pe_fld (pv 0) rfl) pa_nil)) (nomark _)) (pss_one (ps_expr (pe_mx0 (pv 0) rc.cl MR hr (by decide) (passes_call (takes_of rfl rfl rfl rfl) (fun _ _ _ _ z => z))))) pss_nil)), ?_⟩
    have hlen : (wV ws).length = ws.length := by unfold wV; rw [List.length_map, List.length_map]
    refine ⟨_, rfl, r, R, dx, _, _, rfl, hr1, rc.cl, rc.n3, rdF_at l n, _, rfl, r, R, dx, _, _, rfl, hr1, rc.cl, rc.n1, rdF_words l n, l, _, rfl, .inl (SqL.of hl), _, _, rfl, rfl, _, rfl, ite2 (fun c => ?_) (fun c => ?_)⟩
    · have c' := of_decide_eq_true c
      rw [hlen] at c'
      exact ⟨_, rfl, r, dx, _, rfl, hr1, rdF_no l n (by decide +kernel) (by decide +kernel) (by decide +kernel), r, l, ws, n, rfl, at_, k1 (by omega)⟩
    · have c' := of_decide_eq_false (Bool.eq_false_iff.mpr c)
      rw [hlen] at c'
      exact k2 (by omega)
end
end Lw
namespace Lw
open PySem PySem.Spec PyProof.Rows L2

open LamX
/-! ### lambdas without captured names, with parameters: made here, called anywhere -/
/-- the object at f is the lambda of this text -/
def LamN (q : Str) (params : Arguments) (body : Expr) (scope : Scope) (f c' : Addr) : HO := .ext fun h => ∃ pm ctv : Value, h.get? f = some (PySem.W.kla_obj "<lambda>" q params body scope [] pm c' ctv)
theorem lamN_ne {q : Str} {params : Arguments} {body : Expr} {scope : Scope} {f c' : Addr} (ps : Array Value) : LamN q params body scope f c' ≠ .tbl ps := fun z => by
  unfold LamN at z
  cases z
/-- what its call does -/
structure LamF (P : Program) (w : World) (K : PySem.W.Frag) (mg : Str → Option Value) (base : Heap) (k : Nat) (ps : List Str) (sp : Sp) (q : Str) (params : Arguments) (body : Expr) (scope : Scope) (f c' : Addr) : Prop where
  S : FnScope ps ps scope
  bind : ∀ (pm cv ctv : Value) (us : List Value), us.length = ps.length → bindArgs (PySem.W.kla_fn "<lambda>" q params body scope [] pm cv ctv) ⟨us, []⟩ = pure (ps.zip us)
  len : ∀ vs H Q E, sp vs H Q E → vs.length = ps.length
  run : ∀ (A : Around) (out : List Env) (s : Shared) (H : Hp) (vs : List V) (Q : VK), Room k (A.deeper (envOfC q scope s.heap.objs.size f (.ref c'))) → sp vs H Q C8.E0 →
    ∃ te, PE (cxOf C8.CX0 P w K mg base ps q scope f (.ref c') A out s H C8.E0) body te ∧ te (start ps vs) H Q
def LamAt (P : Program) (w : World) (K : PySem.W.Frag) (mg : Str → Option Value) (base : Heap) (k : Nat) (ps : List Str) (sp : Sp) (H : Hp) (f : Addr) : Prop := ∃ (q : Str) (params : Arguments) (body : Expr) (scope : Scope) (c' : Addr),
  H f = some (LamN q params body scope f c') ∧ H c' = some (CodeO c' q) ∧ LamF P w K mg base k ps sp q params body scope f c'
theorem LamAt.extn {P : Program} {w : World} {K : PySem.W.Frag} {mg : Str → Option Value} {base : Heap} {k : Nat} {ps : List Str} {sp : Sp} {H H' : Hp} {f : Addr} (h : LamAt P w K mg base k ps sp H f) (e : ExtN H H') : LamAt P w K mg base k ps sp H' f := by
  obtain ⟨q, params, body, scope, c', h1, h2, a⟩ := h
  exact ⟨q, params, body, scope, c', e _ _ h1 lamN_ne, e _ _ h2 codeO_ne, a⟩
section
variable {X : Cx} {pins : List (Addr × Obj)} {σ : L2.St} {H : Hp} {s : Shared} {k : Nat} {ps : List Str} {sp : Sp}
theorem run_lam {f : Addr} {us : List Value} {vs : List V} {Q : VK} (L : LamAt X.prog X.w X.K X.mg X.base k ps sp H f) (hr : Room (k + 1) X.A) (I : Inv X pins σ H s) (r : Vals vs us) (q : sp vs H Q C8.E0) :
    wpAny (model X.prog X.w) X.A (call (.ref f) us) (EP X pins σ Q) X.xe s := by
  obtain ⟨qn, params, body, scope, c', hf, hc, F⟩ := L
  obtain ⟨⟨pm, ctv, of1⟩, _, _⟩ := I.hok f _ hf
  obtain ⟨⟨oc, vc, t', hoc, hdc, hvc⟩, _, _⟩ := I.hok c' _ hc
  have hl : us.length = ps.length := r.length.symm.trans (F.len _ _ _ _ q)
  have kinds : ∀ y ∈ ps.zip us, scope.names.lookup y.1 = some .local ∨ (scope.names.lookup y.1 = some .cell ∧ ((cellsFrom (s.heap.objs.size + 1) scope.names []).lookup y.1).isSome = true) := fun ⟨m, v⟩ hy => by
    rcases F.S.par m (List.of_mem_zip hy).1 with z | z
    · exact .inl z
    · exact .inr ⟨z, PySem.W.cellsFrom_some _ _ _ (.inl z)⟩
  have rc : codeAny (model X.prog X.w) X.A (.call (.ref f) ⟨us, []⟩) (CR C8.CX0 X.stack X.prog X.w H s Q C8.E0) s := by
    refine PySem.W.kla_callFunE hr.depth of1 rfl F.S.co F.S.gen rfl ⟨c', oc, vc, t', rfl, hoc, hdc, hvc⟩ ?_
    rw [F.bind _ _ _ us hl]
    refine wpAny_pure (wpAny_newFunctionEnv_cells F.S.kind kinds fun env he s1 cll => ?_)
    subst he
    refine ⟨I.nolimit.keeps cll.toInCall.keep, ?_⟩
    obtain ⟨te, ht, hq⟩ := F.run X.A X.stack s H vs Q (hr.deeper _) q
    have I0 := inv_start (CX := C8.CX0) (A := X.A) (E := C8.E0) F.S hr.hd I.env0 (F.len _ _ _ _ q) r cll
    refine PySem.W.kla_codeExpr (wpAny_mono (ht.run [] s1 (start ps vs) H _ I0 hq) (fun v s' hs => ?_) fun e s' hs => hs)
    obtain ⟨v', H', J, rv, z⟩ := hs
    exact ⟨v', H', J.os, J.bare, J.base, J.hok, rv, z⟩
  refine wpAny_call (codeAny_mono rc fun r s' hq => ?_)
  match r, hq with
  | .error e, hq => exact hq.elim
  | .ok (.ret u), hq => exact I.after hq
  | .ok .next, hq => exact hq.elim
  | .ok .brk, hq => exact hq.elim
  | .ok .cont, hq => exact hq.elim
/-- e(a, ..), e any expression that gives such a lambda -/
theorem pe_lamcallN {fe a : Expr} {es : List Expr} {pos : Pos} {tf : TE} {ta : TA} (hr : Room (k + 1) X.A) (hf : PE X fe tf) (ha : PA X (a :: es) ta)
    (ht : eval (.Call fe (a :: es) [] pos) X.env = (do callWith pos (← eval fe X.env) [] (backTo pos (starEach (a :: es) X.env)) (backToKw pos (keywordEach [] X.env))) := by rfl)
    (he : starEach (a :: es) X.env = (false, eval a X.env) :: starEach es X.env := by rfl) (hpl : (backTo pos (starEach es X.env)).any (·.1) = false := by rfl) :
    PE X (.Call fe (a :: es) [] pos) (fun σ H Q => tf σ H fun x H1 => ∃ (f : Addr) (ps : List Str) (sp : Sp), x = .ref f ∧ LamAt X.prog X.w X.K X.mg X.base k ps sp H1 f ∧ ta σ H1 fun vs H2 => LamAt X.prog X.w X.K X.mg X.base k ps sp H2 f ∧ sp vs H2 Q C8.E0) := by
  refine ⟨fun pins s σ H Q I h => ?_⟩
  refine Call_ (thn (hf.run pins s σ H _ I h) fun u s1 ⟨x, H1, I1, r1, f, ps, sp, ex, l1, q⟩ => ?_) ht
  subst ex
  obtain rfl : u = Value.ref f := r1
  have fnAt : ∀ {H' : Hp} {t : Shared}, Inv X pins σ H' t → LamAt X.prog X.w X.K X.mg X.base k ps sp H' f → PySem.W.FnAt f t.heap := fun {H' t} J L => by
    obtain ⟨qn, params, body, scope, c', hf, _, _⟩ := L
    obtain ⟨⟨pm, ctv, e⟩, _, _⟩ := J.hok f _ hf
    exact ⟨_, _, _, _, e⟩
  refine PySem.W.callWith_F (fnAt I1 l1) (thn (ha.run pos pins s1 σ H1 _ I1 q) fun us s2 ⟨vs, H2, I2, r2, l2, q2⟩ => ⟨fnAt I2 l2, ?_⟩) he hpl
  exact run_lam l2 hr I2 r2 q2
def tLamN (P : Program) (w : World) (K : PySem.W.Frag) (mg : Str → Option Value) (base : Heap) (k : Nat) (ps : List Str) (sp : Sp) (T : List (Addr × Str)) : TE := fun _ H Q => Tabs T H ∧ ∀ (f : Addr) (H1 : Hp), ExtN H H1 → Tabs T H1 → H f = none → LamAt P w K mg base k ps sp H1 f → Q (.ref f) H1
theorem lay_lamN {h' : Heap} {t' : Nat} {q : Str} {params : Arguments} {body : Expr} {scope : Scope} {c' : Addr} {pm ctv : Value} (I : Inv X pins σ H { s with heap := h', toks := t' }) :
    Inv X pins σ (upd H h'.objs.size (LamN q params body scope h'.objs.size c')) { s with heap := h'.push (PySem.W.kla_obj "<lambda>" q params body scope [] pm c' ctv), toks := t' } := by
  refine I.laid (h' := h'.push _) (t' := t') (fun b u e => Heap.get?_push_of_some _ e) (Nat.le_refl _) ?_
  have g : (h'.push (PySem.W.kla_obj "<lambda>" q params body scope [] pm c' ctv)).get? h'.objs.size = some (PySem.W.kla_obj "<lambda>" q params body scope [] pm c' ctv) := Heap.get?_push_size _ rfl
  refine ⟨⟨pm, ctv, g⟩, ⟨_, g⟩, ?_⟩
  rintro h1 h2 ⟨pm, ctv, e⟩ st
  exact ⟨pm, ctv, st _ e⟩
theorem pe_lamN {T : List (Addr × Str)} {c B : Addr} {params : Arguments} {body : Expr} {scope : Scope} {pos : Pos} (TB : TabB X.base X.mg c B) (hcode : X.env.code = .ref c)
    (hm : (B, X.env.qual ++ "<lambda>") ∈ T) (hu : ∀ p ∈ T, p.1 = B → p.2 = X.env.qual ++ "<lambda>") (hdef : defaultsOf params X.env = ([], [])) (nofree : ∀ y ∈ scope.names, y.2 ≠ .free) (nocl : cloFrom X.env.cells scope.names [] = [])
    (act : ∀ f c', LamF X.prog X.w X.K X.mg X.base k ps sp (X.env.qual ++ "<lambda>") params body scope f c') : PE X (.Lambda params body scope pos) (tLamN X.prog X.w X.K X.mg X.base k ps sp T) := by
  refine ⟨fun pins s σ H Q I h => ?_⟩
  obtain ⟨hT, h⟩ := h
  obtain ⟨pt, hB, trip, amg⟩ := hT _ hm
  refine PySem.W.kla_eval hdef ?_
  have hat : s.heap.get? B = some { cls := .none, data := .fields pt } := I.hok B _ hB
  have blt := TB.bm.keeps I.bk
  have hdc := TB.code.keeps I.bk
  have glb := I.mod.glob.keeps I.bk
  have cl := closure_ok (scope := scope) (env := X.env) (fun y hy e => absurd e (nofree y hy))
  rw [nocl] at cl
  have tell : ∀ {H1 : Hp} {f c' : Addr} {s' : Shared}, Inv X pins σ (upd H1 f (LamN (X.env.qual ++ "<lambda>") params body scope f c')) s' → ExtN H H1 → Tabs T H1 → H1 f = none → H f = none → H1 c' = some (CodeO c' (X.env.qual ++ "<lambda>")) →
      EP X pins σ Q (.ref f) s' := fun {H1 f c' s'} I1 eN T1 n1 n0 hc => by
    have sm := same_new (o := LamN (X.env.qual ++ "<lambda>") params body scope f c') n1
    exact ⟨.ref f, _, I1, rfl, h f _ (fun b o e n => sm _ _ (eN b o e n)) (T1.ext sm) n0 ⟨_, params, body, scope, c', upd_same, sm _ _ hc, act f c'⟩⟩
  rcases hc : codeAmong pos pt.toList with _ | cv
  · refine PySem.W.kla_makeFunction (mg := X.mg) (c := c) (P := B) (ps := pt) cl I.ok.glob glb hcode hdc hat trip hc TB.gP blt ?_
    intro c2 ctv h' tk hx hge hlt hrec htb
    obtain ⟨c3, oc, vs, t', e3, g1, g2, g3⟩ := hrec
    cases e3
    have nC : H c2 = none := I.hok.fresh hge
    have I0 := inv_table (t' := tk) (more := #[rawInt pos.line, rawInt pos.col, .ref c2]) (h' := h') I hB hx htb hge ⟨oc, vs, t', g1, g2, g3⟩
    have stays : ExtN H (upd (upd H B (.tbl (pt ++ #[rawInt pos.line, rawInt pos.col, .ref c2]))) c2 (CodeO c2 (X.env.qual ++ "<lambda>"))) := by
      intro b o e n
      rw [upd_ne (ne_of_none e nC)]
      by_cases hb : b = B
      · subst hb
        rw [hB] at e
        exact absurd (Option.some.inj e).symm (n pt)
      · rw [upd_ne hb]; exact e
    have fresh : H h'.objs.size = none := I.hok.fresh (Nat.le_trans hge (Nat.le_of_lt hlt))
    refine tell (lay_lamN (t' := tk) (c' := c2) (ctv := ctv) I0) stays ?_ ?_ fresh upd_same
    · intro p hp
      by_cases hb : p.1 = B
      · rw [hu p hp hb, hb]
        refine ⟨pt ++ #[rawInt pos.line, rawInt pos.col, .ref c2], ?_, ?_, ?_⟩
        · rw [upd_ne (ne_of_none hB nC), upd_same]
        · rw [show (pt ++ #[rawInt pos.line, rawInt pos.col, .ref c2]).toList = pt.toList ++ [rawInt pos.line, rawInt pos.col, .ref c2] by simp]
          exact PySem.TriplesOk_snoc _ _ _ _ trip
        · intro p' cv' hcv
          rw [show (pt ++ #[rawInt pos.line, rawInt pos.col, .ref c2]).toList = pt.toList ++ [rawInt pos.line, rawInt pos.col, .ref c2] by simp] at hcv
          rcases among_app _ trip hcv with z | z
          · obtain ⟨c0, a1, a2⟩ := amg p' cv' z
            exact ⟨c0, a1, stays _ _ a2 codeO_ne⟩
          · exact ⟨c2, z, upd_same⟩
      · obtain ⟨qs, a1, a2, a3⟩ := hT p hp
        refine ⟨qs, ?_, a2, ?_⟩
        · rw [upd_ne (ne_of_none a1 nC), upd_ne hb]; exact a1
        · intro p' cv' hcv
          obtain ⟨c0, b1, b2⟩ := a3 p' cv' hcv
          exact ⟨c0, b1, stays _ _ b2 codeO_ne⟩
    · have n1 : h'.objs.size ≠ c2 := Nat.ne_of_gt hlt
      have n2 : h'.objs.size ≠ B := Nat.ne_of_gt (Nat.lt_of_lt_of_le (Heap.lt_size hat) (Nat.le_trans hge (Nat.le_of_lt hlt)))
      rw [upd_ne n1, upd_ne n2]
      exact fresh
  · obtain ⟨c2, e, hco⟩ := amg pos cv hc
    subst e
    refine PySem.W.kla_makeFunctionHit (mg := X.mg) (c := c) (P := B) (ps := pt) cl I.ok.glob glb hcode hdc hat trip hc blt ?_
    intro ctv h' tk hx hsz
    have I0 : Inv X pins σ H { s with heap := h', toks := tk } := I.kept hx
    exact tell (lay_lamN (t' := tk) (c' := c2) (ctv := ctv) I0) (ExtN.refl H) hT (I.hok.fresh hsz) (I.hok.fresh hsz) hco
end
end Lw
namespace Lw
open PySem PySem.Spec PyProof.Rows L2
open SX PySem.NumText TL LamX
abbrev sRW : Stmt := top 19
abbrev sRS : Stmt := top 24
/-! ### the sizes ahead of the first word that is none -/
def szO (w : List Nat) : Option Int := numV (.str (S w)) 1 (10 ^ 30)
def szI (w : List Nat) : Int := (szO w).getD 0
def lead (ws : List (List Nat)) : Nat := (ws.takeWhile fun w => (szO w).isSome).length
theorem lead_le (ws : List (List Nat)) : lead ws ≤ ws.length := (List.takeWhile_sublist _).length_le
theorem lead_lt : ∀ {ws : List (List Nat)} {i : Nat}, i < lead ws → ∃ w v, ws[i]? = some w ∧ szO w = some v
  | [], i, h => by unfold lead at h; simp at h
  | w :: r, i, h => by
    unfold lead at h
    rw [List.takeWhile_cons] at h
    split at h
    · rename_i hw
      cases i with
      | zero =>
        obtain ⟨v, hv⟩ := Option.isSome_iff_exists.mp hw
        exact ⟨w, v, rfl, hv⟩
      | succ i =>
        rw [List.length_cons] at h
        obtain ⟨w', v, h1, h2⟩ := lead_lt (ws := r) (i := i) (by unfold lead; omega)
        exact ⟨w', v, by simpa using h1, h2⟩
    · simp at h
theorem lead_at : ∀ {ws : List (List Nat)} {w : List Nat}, ws[lead ws]? = some w → szO w = none
  | [], w, h => by simp at h
  | x :: r, w, h => by
    unfold lead at h
    rw [List.takeWhile_cons] at h
    split at h
    · rename_i hx
      rw [List.length_cons, List.getElem?_cons_succ] at h
      exact lead_at (ws := r) h
    · rename_i hx
      simp at h
      subst h
      simpa using hx
def szV (ws : List (List Nat)) (i : Nat) : List V := (ws.take i).map fun w => V.int (szI w)
theorem szV_succ {ws : List (List Nat)} {i : Nat} {w : List Nat} {v : Int} (h : ws[i]? = some w) (e : szO w = some v) : szV ws (i + 1) = szV ws i ++ [.int v] := by
  unfold szV
  rw [List.take_add_one, h, List.map_append]
  show _ ++ [V.int (szI w)] = _
  unfold szI
  rw [e]; rfl
theorem sz47 : szO [47] = none := by decide +kernel
theorem sz59 : szO [59] = none := by decide +kernel
theorem via {tt : TT} {σ : L2.St} {H : Hp} {QQ : Bool → Hp → Prop} (Pj : Bool → Hp → Prop) (h1 : ∀ b H1, Pj b H1 → QQ b H1) (h2 : (∀ b H1, Pj b H1 → QQ b H1) → tt σ H QQ) : tt σ H QQ := h2 h1
/-- a refusal, the reader's record moved -/
def RfK (r : Addr) (D : Addr) (H : Hp) (E : XK) (n : Nat) : Prop := ∀ d fs H', Kp r H H' → H' d = none → fs.lookup ("line" : Str) = some (.int 0) → fs.lookup ("word" : Str) = some (.int n) → E (.ref D) (some d) (upd H' d (.xd fs))
def spL (K : PySem.W.Frag) : Sp := fun vs H Q _ => ∃ x, vs = [x] ∧ Anyv K H x ∧ TextOk x ∧ Q (optV (numV x 1 (10 ^ 30))) H
def WsOk (ws : List (List Nat)) : Prop := ws ≠ [] ∧ ws.length ≤ 20000 ∧ ∀ w ∈ ws, (∀ c ∈ w, c < 128) ∧ w.length ≤ 5000
def RwR (R D r l : Addr) (ws : List (List Nat)) (H : Hp) (Q : VK) (E : XK) : Prop :=
  (ws[0]? = some [45] → ∀ q H', Kp r H H' → H q = none → H' q = some (.lst []) → RdAt R H' r l ws 1 → Q (.ref q) H') ∧
  (ws[0]? ≠ some [45] → (∀ q H', Kp r H H' → H q = none → H' q = some (.lst (szV ws (lead ws))) → RdAt R H' r l ws (lead ws) → Q (.ref q) H') ∧ (lead ws < ws.length → RfK r D H E (lead ws)))
def spRW (P : Program) (w : World) (K : PySem.W.Frag) (mg : Str → Option Value) (base : Heap) (R D : Addr) : Sp := fun vs H Q E => ∃ r l ws f, vs = [.ref r, .ref f] ∧ RdAt R H r l ws 0 ∧ WsOk ws ∧ LamAt P w K mg base 4 ["word"] (spL K) H f ∧ RwR R D r l ws H Q E
theorem _root_.Lw.LamAt.butI {P : Program} {w : World} {K : PySem.W.Frag} {mg : Str → Option Value} {base : Heap} {k : Nat} {ps : List Str} {sp : Sp} {H H' : Hp} {f p C dx : Addr} {fs : List (Str × V)} (h : LamAt P w K mg base k ps sp H f) (hp : H p = some (.ins C dx fs)) (kp : Kp p H H') : LamAt P w K mg base k ps sp H' f := by
  obtain ⟨q, params, body, scope, c', h1, h2, a⟩ := h
  refine ⟨q, params, body, scope, c', kp _ _ (fun e => ?_) h1, kp _ _ (fun e => ?_) h2, a⟩
  · rw [e, hp] at h1
    unfold LamN at h1
    cases h1
  · rw [e, hp] at h2
    unfold CodeO at h2
    cases h2
theorem _root_.Lw.LamAt.butL {P : Program} {w : World} {K : PySem.W.Frag} {mg : Str → Option Value} {base : Heap} {k : Nat} {ps : List Str} {sp : Sp} {H H' : Hp} {f p : Addr} {xs : List V} (h : LamAt P w K mg base k ps sp H f) (hp : H p = some (.lst xs)) (kp : Kp p H H') : LamAt P w K mg base k ps sp H' f := by
  obtain ⟨q, params, body, scope, c', h1, h2, a⟩ := h
  refine ⟨q, params, body, scope, c', kp _ _ (fun e => ?_) h1, kp _ _ (fun e => ?_) h2, a⟩
  · rw [e, hp] at h1
    unfold LamN at h1
    cases h1
  · rw [e, hp] at h2
    unfold CodeO at h2
    cases h2
/-- the methods of the Reader, ready to be called -/
structure RdMs (P : Program) (w : World) (K : PySem.W.Frag) (mg : Str → Option Value) (base : Heap) (R D : Addr) : Prop where
  rc : RdC K R
  A : MetX P w K mg base 1 R "at_hand" (spRah R)
  T : MetX P w K mg base 5 R "take" (spRtk R D)
  X : MetX P w K mg base 7 R "expect" (spRex R)
  M : MetX P w K mg base 3 R "more" (spRmo R)
  F : MetX P w K mg base 5 R "finish" (spRfi R D)
section
variable {P : Program} {w : World} {K : PySem.W.Frag} {mg : Str → Option Value} {base : Heap}
theorem text_hand (ws : List (List Nat)) (n : Nat) (h : ∀ w ∈ ws, (∀ c ∈ w, c < 128) ∧ w.length ≤ 5000) : TextOk (handV ws n) := fun z e => by
  unfold handV at e
  cases hw : ws[n]? with
  | none => rw [hw] at e; cases e
  | some w =>
    rw [hw] at e
    cases e
    obtain ⟨h1, h2⟩ := h w (List.mem_of_getElem? hw)
    exact ⟨w, rfl, h1, h2⟩
theorem scRW : FnScope ["reader", "worth_of", "worths"] ["reader", "worth_of"] (C8.fnScope sRW) := C8.fnScope_by (by decide +kernel)
theorem fn_rw {R D f : Addr} {fd : FuncData} (F : C8.Def K mg "read_worths" sRW f fd) (T : Txt mg) (RM : RdMs P w K mg base R D) : FnOk P w K mg base (L2.CX P w) 9 f fd ["reader", "worth_of"] (spRW P w K mg base R D) := by
  obtain ⟨oc, od, dV, kV, doc, pm, an, cdv, ct, osl, rfl, lk, hcd⟩ := F.fn.ex
  refine fn_of lk hcd scRW (fun vs H Q E h => ?_) fun A outer s H vs Q E hr h => ?_
  · obtain ⟨r, l, ws, g, rfl, _⟩ := h
    rfl
  · obtain ⟨r, l, ws, g, rfl, at_, ⟨ne, hlen, wok⟩, lam, k1, k2⟩ := h
    refine ⟨_, (pss_cons (ps_set (i := 2) scRW.nd rfl (Or.inl rfl) (pe_lst pa_nil))
      (pss_cons (ps_if (pt_cmpR op_eq (pe_mx0 (E := C8.E0) (pv 0) RM.rc.cl RM.A hr (by decide) (passes_call takes0 (fun _ _ _ _ z => z))) pe_str (nomark _)) (pss_cons (ps_expr (pe_mx (E := C8.E0) (pv 0) RM.rc.cl RM.X hr (by decide) (passes_call takes0 (fun _ _ _ _ z => z)) (pa_cons pe_str pa_nil))) (pss_one (ps_ret (pv 2)))) pss_nil)
      (pss_cons (ps_while (passes_of rfl) (PW.pt (pw_or (pt_not (pt_truth (pv 2) (by intro _; rfl))) (pw_or1 (pt_val (pe_mx0 (E := C8.E0) (pv 0) RM.rc.cl RM.M hr (by decide) (passes_call takes0 (fun _ _ _ _ z => z))))))) 
        (pss_one (ps_expr (pe_bm PySem.F.plainAttrs_list PySem.F.slot_list_append PySem.F.type_list_append mt_append (pv 2) (pa_cons (pe_mx (pv 0) RM.rc.cl RM.T hr (by decide) (passes_call (takes_of rfl rfl rfl rfl) (fun _ _ _ _ z => z)) (pa_cons (pe_lamcallN (k := 4) (hr.mono (by decide)) (pv 1) (pa_cons (pe_mx0 (E := C8.E0) (pv 0) RM.rc.cl RM.A hr (by decide) (passes_call takes0 (fun _ _ _ _ z => z))) pa_nil)) pa_nil)) pa_nil)))))
      (pss_one (ps_ret (pv 2)))))), ?_⟩
    obtain ⟨w0, hw0⟩ : ∃ w0, ws[0]? = some w0 := by
      cases ws with
      | nil => exact absurd rfl ne
      | cons a b => exact ⟨a, rfl⟩
    refine ⟨(by show 0 ≤ sizeLine; decide), fun q fq => ?_⟩
    have s1 := same_new (o := HO.lst []) fq
    have at1 := at_.same s1
    have lam1 := lam.extn (ExtN.of s1)
    have hq1 : upd H q (.lst []) q = some (.lst []) := upd_same
    generalize upd H q (.lst []) = H1 at s1 at1 lam1 hq1 ⊢
    have kp1 : Kp r H H1 := Kp.of s1
    obtain ⟨⟨dx, hr1⟩, hl⟩ := id at1
    have e0 : handV ws 0 = .str (S w0) := by unfold handV; rw [hw0]
    have no : ∀ {n : Nat} {m : Str}, m ≠ "_words" → m ≠ "_row" → m ≠ "_at" → (rdF l n).lookup m = none := fun h1 h2 h3 => rdF_no l _ h1 h2 h3
    refine ⟨_, rfl, r, dx, _, rfl, hr1, no (by decide +kernel) (by decide +kernel) (by decide +kernel), r, l, ws, 0, rfl, at1, ?_⟩
    rw [e0]
    refine ⟨rfl, _, rfl, ite2 (fun c => ?_) (fun c => ?_)⟩
    · have e1 : w0 = [45] := S_inj (V.str.inj (of_decide_eq_true c))
      refine ⟨_, rfl, r, dx, _, rfl, hr1, no (by decide +kernel) (by decide +kernel) (by decide +kernel), r, l, ws, 0, _, rfl, at1, (by rw [e0, e1]; rfl), fun H2 k' a2 => ?_⟩
      have nq : q ≠ r := fun e => by rw [e, hr1] at hq1; cases hq1
      exact ⟨_, rfl, k1 (by rw [hw0, e1]) q H2 (kp1.trans k') fq (k' _ _ nq hq1) a2⟩
    · have n45 : ws[0]? ≠ some [45] := fun e => by
        rw [hw0] at e
        exact c (decide_eq_true (by rw [Option.some.inj e]; rfl))
      obtain ⟨kA, kB⟩ := k2 n45
      refine ⟨fun m σ' H' => ∃ i, m = lead ws + 1 - i ∧ i ≤ lead ws ∧ σ' = [some (.ref r), some (.ref g), some (.ref q)] ∧ Kp r H H' ∧ H' q = some (.lst (szV ws i)) ∧ RdAt R H' r l ws i ∧ LamAt P w K mg base 4 ["word"] (spL K) H' g, ⟨_, 0, rfl, Nat.zero_le _, rfl, kp1, hq1, at1, lam1⟩, ?_⟩
      rintro m σ' H' ⟨i, rfl, hi, rfl, kp', hq', at', lam'⟩
      obtain ⟨⟨dx', hr'⟩, hl'⟩ := id at'
      have lw := lead_le ws
      refine via (fun b H2 => Same H' H2 ∧ (b = true → i < ws.length) ∧ (b = false → i = lead ws)) ?_ (fun go => ?_)
      · rintro b H2 ⟨s2, h1, h2⟩
        have hq2 := s2 _ _ hq'
        have at2 := at'.same s2
        have kp2 := kp'.trans (Kp.of s2)
        have lam2 := lam'.extn (ExtN.of s2)
        have hr2 := s2 _ _ hr'
        cases b with
        | false =>
          refine iteF ?_
          have ei := h2 rfl
          subst ei
          exact ⟨_, rfl, kA q H2 kp2 fq hq2 at2⟩
        | true =>
          refine iteT ?_
          have il := h1 rfl
          refine ⟨fun σ' H3 => i < lead ws ∧ σ' = [some (.ref r), some (.ref g), some (.ref q)] ∧ Kp r H H3 ∧ H3 q = some (.lst (szV ws (i + 1))) ∧ RdAt R H3 r l ws (i + 1) ∧ LamAt P w K mg base 4 ["word"] (spL K) H3 g, ?_, ?_⟩
          · rintro σ' H3 ⟨z1, z2⟩
            exact ⟨_, by omega, i + 1, rfl, z1, z2⟩
          refine ⟨_, rfl, .inl ⟨rfl, _, SqL.of hq2⟩, _, rfl, r, dx', _, rfl, hr2, no (by decide +kernel) (by decide +kernel) (by decide +kernel), ?_⟩
          refine ⟨_, rfl, g, ["word"], spL K, rfl, lam2, ?_⟩
          refine ⟨_, rfl, r, dx', _, rfl, hr2, no (by decide +kernel) (by decide +kernel) (by decide +kernel), r, l, ws, i, rfl, at2, lam2, handV ws i, rfl, hand_any _ _ _ _, text_hand ws i wok, ?_⟩
          refine ⟨r, l, ws, i, _, rfl, at2, ?_⟩
          by_cases hlt : i < lead ws
          · obtain ⟨w', v, hw', hv⟩ := lead_lt hlt
            have eh : handV ws i = .str (S w') := by unfold handV; rw [hw']
            have ex : optV (numV (handV ws i) 1 (10 ^ 30)) = .int v := by
              rw [eh]
              show optV (szO w') = _
              rw [hv]; rfl
            rw [ex]
            refine ⟨fun e => (by cases e), fun _ H3 k3 a3 => ?_⟩
            have nq : q ≠ r := fun e => by rw [e, hr2] at hq2; cases hq2
            refine ⟨q, _, _, rfl, rfl, k3 _ _ nq hq2, ?_, ?_⟩
            · unfold szV
              rw [List.length_map]
              exact Nat.lt_of_le_of_lt (Nat.le_trans (List.length_take_le _ _) (show i ≤ 20000 by omega)) (by decide)
            · have nl : l ≠ q := ne_of_none at_.2 fq
              have hq3 := k3 _ _ nq hq2
              refine ⟨hlt, rfl, fun b o hb e => ?_, ?_, ⟨?_, ?_⟩, ?_⟩
              · rw [upd_ne (ne_of_none e fq)]
                exact k3 _ _ hb (kp2 _ _ hb e)
              · rw [upd_same, szV_succ hw' hv]
              · obtain ⟨⟨dy, y1⟩, _⟩ := a3
                exact ⟨dy, by rw [upd_ne nq.symm]; exact y1⟩
              · rw [upd_ne nl]
                exact a3.2
              · exact (lam2.butI hr2 k3).butL hq3 fun b o hb e => by rw [upd_ne hb]; exact e
          · have ei : i = lead ws := by omega
            have ex : optV (numV (handV ws i) 1 (10 ^ 30)) = .non := by
              have eh : handV ws i = .str (S ws[i]) := by unfold handV; rw [List.getElem?_eq_getElem il]
              rw [eh]
              have : szO ws[i] = none := lead_at (ws := ws) (by rw [← ei]; exact List.getElem?_eq_getElem il)
              show optV (szO ws[i]) = _
              rw [this]; rfl
            rw [ex]
            refine ⟨fun _ d fs H3 s3 hd f1 f2 => ?_, fun h => absurd rfl h⟩
            rw [ei] at f2
            exact kB (by omega) d fs H3 (kp2.trans (Kp.of s3)) hd f1 f2
      · refine ⟨_, rfl, _, .inl ⟨_, SqL.of hq', rfl⟩, ?_⟩
        by_cases i0 : i = 0
        · subst i0
          refine iteT (go _ _ ⟨Same.refl _, fun _ => ?_, fun e => (by cases e)⟩)
          cases ws with
          | nil => exact absurd rfl ne
          | cons a b => simp
        · have nz : (szV ws i).isEmpty = false := by
            have hlen : (szV ws i).length = i := by
              unfold szV
              rw [List.length_map, List.length_take]
              omega
            cases hz : szV ws i with
            | nil => rw [hz] at hlen; exact absurd hlen.symm i0
            | cons a b => rfl
          rw [nz]
          refine iteF ⟨_, rfl, r, dx', _, rfl, hr', no (by decide +kernel) (by decide +kernel) (by decide +kernel), r, l, ws, i, rfl, at', fun H2 s2 => ⟨_, rfl, go _ _ ⟨s2, fun e => ?_, fun e => ?_⟩⟩⟩
          · unfold moreB at e
            cases hw : ws[i]? with
            | none => rw [hw] at e; cases e
            | some w' => exact (List.getElem?_eq_some_iff.mp hw).1
          · refine Classical.byContradiction fun z => ?_
            obtain ⟨w', v, hw', hv⟩ := lead_lt (ws := ws) (i := i) (by omega)
            unfold moreB at e
            rw [hw'] at e
            dsimp only at e
            have n1 : w' ≠ [47] := fun z => by rw [z] at hv; exact absurd hv (by rw [sz47]; exact fun y => by cases y)
            have n2 : w' ≠ [59] := fun z => by rw [z] at hv; exact absurd hv (by rw [sz59]; exact fun y => by cases y)
            rw [decide_eq_false n1, decide_eq_false n2] at e
            cases e
end
end Lw
namespace Lw
open PySem PySem.Spec PyProof.Rows L2
open SX PySem.NumText TL LamX
structure DefC (K : PySem.W.Frag) (mg : Str → Option Value) (x : Str) (st : Stmt) (f : Addr) (fd : FuncData) (c : Addr) : Prop where
  ex : ∃ (oc : Value) (od : Option Addr) (dV kV doc pm : Value) (an : Option Addr) (ct : Value) (osl : Array (Option Value)),
    fd = PySem.W.fnOf x x (C8.fnArgs st) (C8.fnBody st) (C8.fnScope st) dV kV doc pm an (.ref c) ct ∧ K.lookup f = some ⟨oc, od, .func fd, osl⟩ ∧ PySem.W.codeIn K (.ref c) x = true
  mgf : mg x = some (.ref f)
  kp : PySem.W.keepIn K (.ref f) = true
theorem calGC {P : Program} {w : World} {K : PySem.W.Frag} {mg : Str → Option Value} {base : Heap} {x : Str} {st : Stmt} {f c : Addr} {fd : FuncData} {N ps : List Str} {ds : List Value} {dvs : List V} {k : Nat} {sp : Sp} (F : DefC K mg x st f fd c) (b : Binds K fd ps ds) (d : Vals dvs ds) (S : FnScope N ps (C8.fnScope st)) (len : ∀ vs H Q E, sp vs H Q E → vs.length = ps.length)
    (body : ∀ (A : Around) (outer : List Env) (s : Shared) (H : Hp) (vs : List V) (Q : VK) (E : XK), (A.deeper (envOfC x (C8.fnScope st) s.heap.objs.size f (.ref c))).guards = some [] → Room k (A.deeper (envOfC x (C8.fnScope st) s.heap.objs.size f (.ref c))) → sp vs H Q E →
      ∃ t, PSs (cxOf C8.CX0 P w K mg base N x (C8.fnScope st) f (.ref c) A outer s H E).nox (C8.fnBody st) t ∧ t { nx := fun _ H' => Q .non H', rt := Q } (start N vs) H) : CalG P w K mg base (k + 1) x sp dvs := by
  refine ⟨f, fd, ps, ds, ⟨len, ?_⟩, F.mgf, F.kp, b, d⟩
  intro A outer s H args us vs Q E hg hr e0 hb r hs
  obtain ⟨oc, od, dV, kV, doc, pm, an, ct, osl, rfl, lk, hcd⟩ := F.ex
  refine LamX.run_ofS lk hcd S hr e0 hb r (len _ _ _ _ hs) fun hr' => ?_
  obtain ⟨t, h1, h2⟩ := body A outer s H vs Q E hg hr' hs
  exact ⟨t, h1.nox, h2⟩
theorem Tabs.put {T : List (Addr × Str)} {H : Hp} {l : Addr} {o : HO} {xs : List V} (t : Tabs T H) (hl : H l = some (.lst xs)) : Tabs T (upd H l o) := by
  intro q hq
  obtain ⟨ps, h1, h2, h3⟩ := t q hq
  refine ⟨ps, ?_, h2, fun pos cv hc => ?_⟩
  · rw [upd_ne (fun e => by rw [e, hl] at h1; cases h1)]; exact h1
  · obtain ⟨c, e1, e2⟩ := h3 pos cv hc
    refine ⟨c, e1, ?_⟩
    rw [upd_ne (fun e => by rw [e, hl] at e2; unfold CodeO at e2; cases e2)]; exact e2
theorem Tabs.kp {T : List (Addr × Str)} {p pl : Addr} {n : Nat} {H H' : Hp} (t : Tabs T H) (hp : Pen H p pl n) (k : Kp p H H') : Tabs T H' := by
  intro q hq
  obtain ⟨ps, h1, h2, h3⟩ := t q hq
  obtain ⟨xs, a, g, hh, _⟩ := hp
  refine ⟨ps, k _ _ (fun e => ?_) h1, h2, fun pos cv hc => ?_⟩
  · rw [e, hh.at_] at h1; cases h1
  · obtain ⟨c, e1, e2⟩ := h3 pos cv hc
    refine ⟨c, e1, k _ _ (fun e => ?_) e2⟩
    rw [e, hh.at_] at e2
    unfold CodeO at e2
    cases e2
theorem Pen.extn {H H' : Hp} {p l : Addr} {n : Nat} (h : Pen H p l n) (e : ExtN H H') : Pen H' p l n := by
  obtain ⟨xs, a, g, ⟨h1, h2, h3, h4, h5⟩, h6⟩ := h
  have nl : ∀ (ys : List V) ps, HO.lst ys ≠ .tbl ps := fun ys ps z => by cases z
  exact ⟨xs, a, g, ⟨e _ _ h1 (nl _), e _ _ h2 (nl _), h3, h4, h5⟩, h6⟩
/-- the tables of lambdas: of read_sizes, of _law_right, of law -/
abbrev tabT (B0 B1 B2 : Addr) : List (Addr × Str) := [(B0, (("read_sizes" : Str) ++ (".<locals>." : Str)) ++ ("<lambda>" : Str)), (B1, (("_law_right" : Str) ++ (".<locals>." : Str)) ++ ("<lambda>" : Str)), (B2, (("law" : Str) ++ (".<locals>." : Str)) ++ ("<lambda>" : Str))]
structure Apart3 (B0 B1 B2 : Addr) : Prop where
  n01 : B1 ≠ B0
  n02 : B2 ≠ B0
  n12 : B2 ≠ B1
theorem tabT_0 {B0 B1 B2 : Addr} (n : Apart3 B0 B1 B2) (p : Addr × Str) (hp : p ∈ tabT B0 B1 B2) (e : p.1 = B0) : p.2 = (("read_sizes" : Str) ++ (".<locals>." : Str)) ++ ("<lambda>" : Str) := by
  simp only [List.mem_cons, List.not_mem_nil, or_false] at hp
  rcases hp with rfl | rfl | rfl
  · rfl
  · exact absurd e n.n01
  · exact absurd e n.n02
theorem tabT_1 {B0 B1 B2 : Addr} (n : Apart3 B0 B1 B2) (p : Addr × Str) (hp : p ∈ tabT B0 B1 B2) (e : p.1 = B1) : p.2 = (("_law_right" : Str) ++ (".<locals>." : Str)) ++ ("<lambda>" : Str) := by
  simp only [List.mem_cons, List.not_mem_nil, or_false] at hp
  rcases hp with rfl | rfl | rfl
  · exact absurd e.symm n.n01
  · rfl
  · exact absurd e n.n12
theorem tabT_2 {B0 B1 B2 : Addr} (n : Apart3 B0 B1 B2) (p : Addr × Str) (hp : p ∈ tabT B0 B1 B2) (e : p.1 = B2) : p.2 = (("law" : Str) ++ (".<locals>." : Str)) ++ ("<lambda>" : Str) := by
  simp only [List.mem_cons, List.not_mem_nil, or_false] at hp
  rcases hp with rfl | rfl | rfl
  · exact absurd e.symm n.n02
  · exact absurd e.symm n.n12
  · rfl
/-- all but what stands at r, and the tables, is as it was -/
def KpN (r : Addr) (H H' : Hp) : Prop := ∀ b o, b ≠ r → H b = some o → (∀ ps, o ≠ .tbl ps) → H' b = some o
def RsR (R D r l : Addr) (T : List (Addr × Str)) (ws : List (List Nat)) (H : Hp) (Q : VK) (E : XK) : Prop :=
  (ws[0]? = some [45] → ∀ q H', KpN r H H' → Tabs T H' → H' q = some (.lst []) → RdAt R H' r l ws 1 → Q (.ref q) H') ∧
  (ws[0]? ≠ some [45] → (∀ q H', KpN r H H' → Tabs T H' → H' q = some (.lst (szV ws (lead ws))) → RdAt R H' r l ws (lead ws) → Q (.ref q) H') ∧
    (lead ws < ws.length → ∀ d fs H', KpN r H H' → Tabs T H' → H' d = none → fs.lookup ("line" : Str) = some (.int 0) → fs.lookup ("word" : Str) = some (.int (lead ws)) → E (.ref D) (some d) (upd H' d (.xd fs))))
def spRS (R D : Addr) (T : List (Addr × Str)) : Sp := fun vs H Q E => ∃ r l ws, vs = [.ref r] ∧ RdAt R H r l ws 0 ∧ WsOk ws ∧ Tabs T H ∧ RsR R D r l T ws H Q E
theorem Tabs.kpI {T : List (Addr × Str)} {H H' : Hp} {r C dx : Addr} {fs : List (Str × V)} (t : Tabs T H) (hr : H r = some (.ins C dx fs)) (k : Kp r H H') : Tabs T H' := by
  intro q hq
  obtain ⟨ps, h1, h2, h3⟩ := t q hq
  refine ⟨ps, k _ _ (fun e => ?_) h1, h2, fun pos cv hc => ?_⟩
  · rw [e, hr] at h1; cases h1
  · obtain ⟨c, e1, e2⟩ := h3 pos cv hc
    refine ⟨c, e1, k _ _ (fun e => ?_) e2⟩
    rw [e, hr] at e2
    unfold CodeO at e2
    cases e2
theorem KpN.of {r : Addr} {H H1 H2 : Hp} (x : ExtN H H1) (k : Kp r H1 H2) : KpN r H H2 := fun b o hb e n => k b o hb (x b o e n)
section
variable {P : Program} {w : World} {K : PySem.W.Frag} {mg : Str → Option Value} {base : Heap}
theorem scRS : FnScope ["reader"] ["reader"] (C8.fnScope sRS) := C8.fnScope_by (by decide +kernel)
theorem fn_rs {R D f fW c B0 B1 B2 : Addr} {fd fdW : FuncData} (F : DefC K mg "read_sizes" sRS f fd c) (T : Txt mg) (TB : TabB base mg c B0) (n : Apart3 B0 B1 B2) (DN : C8.Cal P w K mg base 3 "number_of" (spNumOf K) []) (DW : C8.Def K mg "read_worths" sRW fW fdW) (bW : Binds K fdW ["reader", "worth_of"] []) (FW : FnOk P w K mg base (L2.CX P w) 9 fW fdW ["reader", "worth_of"] (spRW P w K mg base R D)) :
    FnOk P w K mg base (L2.CX P w) 11 f fd ["reader"] (spRS R D (tabT B0 B1 B2)) := by
  obtain ⟨oc, od, dV, kV, doc, pm, an, ct, osl, rfl, lk, hcd⟩ := F.ex
  obtain ⟨tg, hGS⟩ := T.c_GS
  refine fn_of lk hcd scRS (fun vs H Q E h => ?_) fun A outer s H vs Q E hr h => ?_
  · obtain ⟨r, l, ws, rfl, _⟩ := h
    rfl
  · obtain ⟨r, l, ws, rfl, at_, wo, ht, k1, k2⟩ := h
    refine ⟨_, (pss_one (ps_ret (pe_call FW (hr.mono (by decide)) (by rfl) DW.mgf DW.kp bW .nil (passes_call (takes_of rfl rfl rfl rfl) (fun _ _ _ _ z => z)) (pa_cons (pv 0) (pa_cons (pe_lamN (k := 4) (ps := ["word"]) (sp := spL K) (T := tabT B0 B1 B2) TB rfl (List.Mem.head _) (tabT_0 n) rfl (by decide) rfl
      (fun fl cl => ⟨C8.fnScope_by (by decide +kernel), fun pm cv ctv us hl => (match us, hl with | [_], _ => rfl), fun vs H Q E h => (by obtain ⟨x, rfl, _⟩ := h; rfl), fun A out s H vs Q hr2 h => ⟨_, C8.pe_c DN hr2 (by decide) (by rfl) (pa_cons (pv 0) (pa_cons pe_int (pa_cons (pe_glob (v := .int (10 ^ 30)) rfl hGS ⟨_, rfl⟩) pa_nil))), (by
        obtain ⟨x, rfl, av, tx, q⟩ := h
        exact ⟨_, rfl, x, 1, 10 ^ 30, rfl, av, tx, q⟩)⟩⟩)) pa_nil))))), ?_⟩
    obtain ⟨⟨dx, hr1⟩, hl⟩ := id at_
    refine ⟨_, rfl, ht, fun g H1 x1 t1 ng lam => ?_⟩
    have hrT : H1 r = some (.ins R dx (rdF l 0)) := x1 _ _ hr1 fun ps z => by cases z
    have at1 : RdAt R H1 r l ws 0 := ⟨⟨dx, hrT⟩, x1 _ _ hl fun ps z => by cases z⟩
    refine ⟨r, l, ws, g, rfl, at1, wo, lam, fun h q H2 kp fq hq a2 => ?_, fun h => ⟨fun q H2 kp fq hq a2 => ?_, fun hlt d fs H2 kp hd f1 f2 => ?_⟩⟩
    · exact k1 h q H2 (KpN.of x1 kp) (Lw.Tabs.kpI t1 hrT kp) hq a2
    · exact (k2 h).1 q H2 (KpN.of x1 kp) (Lw.Tabs.kpI t1 hrT kp) hq a2
    · exact (k2 h).2 hlt d fs H2 (KpN.of x1 kp) (Lw.Tabs.kpI t1 hrT kp) hd f1 f2
end
end Lw
namespace Lw
open PySem PySem.Spec PyProof.Rows L2
open SX PySem.NumText TL LamX ClX StX
abbrev sCI : Stmt := inClass (top 21) 1
abbrev sCM : Stmt := top 22
/-! ### Chunks, made -/
/-- its attributes -/
def chF (p : Addr) (t : Int) (e r : Addr) : List (Str × V) := putF "rests" (.ref r) (putF "ends" (.ref e) (putF "total" (.int t) (putF "sizes" (.ref p) [])))
theorem chF_sizes (p : Addr) (t : Int) (e r : Addr) : (chF p t e r).lookup ("sizes" : Str) = some (.ref p) := by
  unfold chF
  rw [lookup_putF, if_neg (by decide +kernel), lookup_putF, if_neg (by decide +kernel), lookup_putF, if_neg (by decide +kernel), lookup_putF, if_pos rfl]
/-- the class's constant, the error's class -/
structure ChC (P : Program) (w : World) (K : PySem.W.Frag) (mg : Str → Option Value) (base : Heap) (CC DM : Addr) (mc : Value) : Prop where
  r : CRead K CC mc
  m : ∃ u, CVal K CC mc "MOST" (.int 5000) u
  hm : mg "Chunks" = some (.ref CC)
  cl : Cls K CC
  n1 : NoAttr K CC "sizes"
  n2 : NoAttr K CC "total"
  n3 : NoAttr K CC "ends"
  n4 : NoAttr K CC "rests"
/-- too many chunks -/
def Mf (DM : Addr) (H : Hp) (E : XK) : Prop := ∀ d fs H', Same H H' → H' d = none → fs.lookup ("what" : Str) = some (.str (Str.ofString "chunks")) → fs.lookup ("most" : Str) = some (.int 5000) → E (.ref DM) (some d) (upd H' d (.xd fs))
def spCM (DM : Addr) : Sp := fun vs H Q E => ∃ m : Int, vs = [.int m] ∧ (m ≤ 5000 → Q .non H) ∧ (5000 < m → Mf DM H E)
def SzOk (ns : List Int) : Prop := (∀ v ∈ ns, 1 ≤ v ∧ v ≤ 10 ^ 30) ∧ ns.length ≤ 20000
def spCI (CC DM : Addr) : Sp := fun vs H Q E => ∃ (x dx p : Addr) (ns : List Int), vs = [.ref x, .ref p] ∧ H x = some (.ins CC dx []) ∧ H p = some (.tup (ns.map V.int)) ∧ SzOk ns ∧
  (ns.length ≤ 5000 → ∀ t e r H', Kp x H H' → H' x = some (.ins CC dx (chF p t e r)) → Q .non H') ∧ (5000 < ns.length → Mf DM H E)
section
variable {P : Program} {w : World} {K : PySem.W.Frag} {mg : Str → Option Value} {base : Heap}
theorem scCM : FnScope ["many"] ["many"] (C8.fnScope sCM) := C8.fnScope_by (by decide +kernel)
theorem fn_cm {CC DM fE f : Addr} {mc : Value} {fd fdE : FuncData} (F : C8.Def K mg "check_many" sCM f fd) (Z : ChC P w K mg base CC DM mc) (ER : Err2 "TooMany" "what" "most" P w K mg base DM fE fdE) : FnOk P w K mg base (L2.CX P w) 3 f fd ["many"] (spCM DM) := by
  obtain ⟨oc, od, dV, kV, doc, pm, an, cdv, ct, osl, rfl, lk, hcd⟩ := F.fn.ex
  obtain ⟨u, hu⟩ := Z.m
  refine fn_of lk hcd scCM (fun vs H Q E h => ?_) fun A outer s H vs Q E hr h => ?_
  · obtain ⟨m, rfl, _⟩ := h
    rfl
  · obtain ⟨m, rfl, k1, k2⟩ := h
    have tk : Takes (cxOf (L2.CX P w) P w K mg base ["many"] "check_many" (C8.fnScope sCM) f cdv A outer s H E) (fun cls d _ H' => E cls d H') := takes_of rfl rfl rfl rfl
    refine ⟨_, (pss_one (ps_if (pt_cmpR op_gt (pv 0) (pe_cval (pe_glob (v := .ref CC) (by rfl) Z.hm rfl)) (nomark _)) (pss_one (ps_bad2 (x := "TooMany") rfl tk ER.T ER.iC ER.tI ER.F hr ER.b (by rfl) ER.hm pe_str (pe_cval (pe_glob (v := .ref CC) (by rfl) Z.hm rfl)))) pss_nil)), ?_⟩
    refine ⟨_, rfl, CC, mc, _, u, rfl, Z.r, hu, _, _, rfl, rfl, _, rfl, ite2 (fun c => ?_) (fun c => ?_)⟩
    · refine ⟨CC, mc, _, u, rfl, Z.r, hu, ?_⟩
      exact bad_leaf2 fun d fs hd e1 e2 => k2 (of_decide_eq_true c) d fs H (Same.refl _) hd e1 e2
    · exact k1 (by have := of_decide_eq_false (Bool.eq_false_iff.mpr c); omega)
theorem scCI : FnScope ["self", "sizes", "size", "ends", "done", "end"] (([("self" : Str)] : List Str) ++ [("sizes" : Str)]) (C8.fnScope sCI) := C8.fnScope_by (by decide +kernel)
theorem fn_ci {CC DM fM f : Addr} {mc : Value} {fd fdM : FuncData} (F : C8.Fun K "__init__" "Chunks.__init__" sCI f fd) (df : fd.defaults = .none) (T : Txt mg) (hz : mg "zip" = none) (htu : mg "tuple" = none) (Z : ChC P w K mg base CC DM mc) (DS : C8.Cal P w K mg base 3 "is_size" (spSize K) []) (DM' : C8.Def K mg "check_many" sCM fM fdM) (bM : Binds K fdM ["many"] []) (FM : FnOk P w K mg base (L2.CX P w) 3 fM fdM ["many"] (spCM DM)) :
    FnR P w K mg base (L2.CX P w) 5 f (fun vs H Q E => ∃ ws rest, vs = ws ++ rest ∧ ws.length = ["self"].length ∧ rest.length ≤ sizeLine ∧ ∀ p, H p = none → spCI CC DM (ws ++ [V.ref p]) (upd H p (.tup rest)) Q E) := by
  obtain ⟨oc, od, dV, kV, doc, pm, an, cdv, ct, osl, rfl, lk, hcd⟩ := F.ex
  have e0 : dV = .none := df
  subst e0
  refine fn_star (ps := ["self"]) (pv := "sizes") lk hcd scCI cxUp (fun us rest hl => bind_star1 (p1 := "self") (pv := "sizes") (B := fun zs => bindArgs _ ⟨zs, []⟩) (fun a => rfl) (fun a r rs => rfl) us rest hl) fun A outer s H vs Q E hr h => ?_
  obtain ⟨x, dx, p, ns, rfl, hx, hp, ⟨so, sl⟩, k1, k2⟩ := h
  refine ⟨_, (pss_cons (ps_for (passes_of rfl) rfl (pi_tup (pv 1)) (pg_name (i := 2) scCI.nd rfl (Or.inl rfl)) (pss_one (ps_if (pt_not (pt_val (C8.pe_c DS hr (by decide) (by rfl) (pa_cons (pv 2) pa_nil)))) (pss_one ps_never) pss_nil)))
    (pss_cons (ps_expr (pe_call FM (hr.mono (by decide)) (by rfl) DM'.mgf DM'.kp bM .nil (passes_call (takes_of rfl rfl rfl rfl) (fun _ _ _ _ z => z)) (pa_cons (pe_callB call_len_seq (by rfl) T.n_len (by decide +kernel) (pa_cons (pv 1) pa_nil)) pa_nil)))
    (pss_cons (ps_set (i := 3) scCI.nd rfl (Or.inl rfl) (pe_lst pa_nil))
    (pss_cons (ps_set (i := 4) scCI.nd rfl (Or.inr rfl) pe_int)
    (pss_cons (ps_for (passes_of rfl) rfl (pi_tup (pv 1)) (pg_name (i := 2) scCI.nd rfl (Or.inl rfl)) (pss_cons (ps_set (i := 4) scCI.nd rfl (Or.inr rfl) (pe_op op_add (pv 4) (pv 2))) (pss_one (ps_expr (pe_bm PySem.F.plainAttrs_list PySem.F.slot_list_append PySem.F.type_list_append mt_append (pv 3) (pa_cons (pv 4) pa_nil))))))
    (pss_cons (ps_fld (pv 0) (pv 1) rfl)
    (pss_cons (ps_fld (pv 0) (pv 4) rfl)
    (pss_cons (ps_fld (pv 0) (pe_callTy call_tuple_of (by rfl) htu (by decide +kernel) (pa_cons (pv 3) pa_nil)) rfl)
    (pss_one (ps_fld (pv 0) (pe_callTy call_tuple_of (by rfl) htu (by decide +kernel) (pa_cons (pe_lc (own := [("end", 5), ("size", 2)]) (g := gTup K 2 (gCons (gName 5) (gCons (gName 2) (gNil)))) (tt := tYes) rfl scCI.nd (Zm.pi_zipM (by rfl) hz (pa_cons (pv 3) (pa_cons (pv 1) pa_nil))) (blkOk_by (own := [("end", 5), ("size", 2)]) (N := ["self", "sizes", "size", "ends", "done", "end"]) (sc := (C8.fnScope sCI)) (by decide +kernel)) (fun _ _ _ _ _ => pg_tup rfl (pgs_cons (pg_name (i := 5) scCI.nd rfl (Or.inl rfl)) (pgs_cons (pg_name (i := 2) scCI.nd rfl (Or.inl rfl)) pgs_nil))) (fun _ _ _ _ _ => pts_nil) (fun _ _ _ _ _ => (pe_op op_add (pe_op op_sub (pv 4) (pv 5)) (pv 2)))) pa_nil)) rfl)))))))))), ?_⟩
  have hlen : (ns.map V.int).length = ns.length := List.length_map _
  have xp : x ≠ p := fun e => by rw [e, hp] at hx; cases hx
  have gets : ∀ {i : Nat} {y : V}, (ns.map V.int)[i]? = some y → ∃ v, y = .int v ∧ 1 ≤ v ∧ v ≤ 10 ^ 30 := fun {i y} e => by
    obtain ⟨v, hv, rfl⟩ := List.mem_map.mp (List.mem_of_getElem? e)
    exact ⟨v, rfl, so v hv⟩
  refine ⟨_, rfl, p, rfl, ⟨_, SqT.of hp⟩, for_tup (xs := ns.map V.int) (fun i σ' H' => ∃ v, σ' = [some (.ref x), some (.ref p), v, none, none, none] ∧ H' = H) ⟨_, rfl, rfl⟩ (fun i σ' H' _ h => by obtain ⟨v, _, rfl⟩ := h; exact SqT.of hp) ?_ ?_⟩
  · rintro i y σ' H' hy ⟨v, rfl, rfl⟩
    obtain ⟨v0, rfl, b1, b2⟩ := gets hy
    exact ⟨_, rfl, .int v0, rfl, .int v0, _, rfl, iteF' (by show (!(decide (1 ≤ v0) && decide (v0 ≤ 10 ^ 30))) = false; rw [decide_eq_true b1, decide_eq_true b2]; rfl) ⟨_, rfl, rfl⟩⟩
  · rintro σ1 H1 ⟨v1, rfl, rfl⟩
    refine ⟨_, rfl, p, _, rfl, .inr (SqT.of hp), _, rfl, fun hm => ?_, fun hm => k2 (by rw [hlen] at hm; omega)⟩
    have lm : ns.length ≤ 5000 := by rw [hlen] at hm; omega
    refine ⟨(by show 0 ≤ sizeLine; decide), fun q fq => ?_⟩
    have s1 := same_new (o := HO.lst []) fq
    have hq1 : upd H1 q (.lst []) q = some (.lst []) := upd_same
    generalize upd H1 q (.lst []) = H2 at s1 hq1 ⊢
    dsimp only [gName, tSeq]
    refine ⟨_, rfl, p, rfl, ⟨_, SqT.of (s1 _ _ hp)⟩, for_tup (xs := ns.map V.int) (fun i σ' H' => ∃ (v : Option V) (t : Int) (es : List Int), σ' = [some (.ref x), some (.ref p), v, some (.ref q), some (.int t), none] ∧ Same H1 H' ∧ H' q = some (.lst (es.map V.int)) ∧ es.length = i) ⟨_, _, [], rfl, s1, hq1, rfl⟩ (fun i σ' H' _ h => by obtain ⟨v, t, es, _, s', _⟩ := h; exact SqT.of (s' _ _ hp)) ?_ ?_⟩
    · rintro i y σ' H' hy ⟨v, t, es, rfl, s', hq', el⟩
      obtain ⟨v0, rfl, _, _⟩ := gets hy
      have hi : i < 20000 := by
        have := (List.getElem?_eq_some_iff.mp hy).1
        rw [hlen] at this
        omega
      refine ⟨_, rfl, _, rfl, _, _, rfl, rfl, ?_⟩
      refine ⟨_, rfl, .inl ⟨rfl, _, SqL.of hq'⟩, _, rfl, q, _, _, rfl, rfl, hq', ?_, ?_⟩
      · rw [List.length_map, el]
        exact Nat.lt_of_lt_of_le hi (by decide)
      · refine ⟨_, _, es ++ [t + v0], rfl, fun b o e => ?_, ?_, ?_⟩
        · rw [upd_ne (ne_of_none e fq)]
          exact s' _ _ e
        · rw [upd_same, List.map_append]; rfl
        · rw [List.length_append, el]; rfl
    · rintro σ2 H3 ⟨v, t, es, rfl, s3, hq3, el⟩
      rw [hlen] at el
      have xq : x ≠ q := fun e => by rw [e, fq] at hx; cases hx
      have hx3 := s3 _ _ hx
      have hp3 := s3 _ _ hp
      refine ⟨_, rfl, _, rfl, x, CC, dx, [], rfl, hx3, Z.cl, Z.n1, (by show 0 < 1000; decide), ?_⟩
      refine ⟨_, rfl, _, rfl, x, CC, dx, _, rfl, upd_same, Z.cl, Z.n2, (by show 1 < 1000; decide), ?_⟩
      rw [upd_upd]
      have f2 : (putF "total" (.int t) (putF "sizes" (.ref p) [])).length < 900 := Nat.lt_of_le_of_lt (Nat.le_trans (putF_len _ _ _) (Nat.add_le_add_right (putF_len _ _ _) 1)) (by decide)
      have kp4 : Kp x H1 (upd H3 x (.ins CC dx (putF "total" (.int t) (putF "sizes" (.ref p) [])))) := fun b o hb e => by rw [upd_ne hb]; exact s3 _ _ e
      have hx4 : upd H3 x (.ins CC dx (putF "total" (.int t) (putF "sizes" (.ref p) []))) x = some (.ins CC dx (putF "total" (.int t) (putF "sizes" (.ref p) []))) := upd_same
      have hq4 : upd H3 x (.ins CC dx (putF "total" (.int t) (putF "sizes" (.ref p) []))) q = some (.lst (es.map V.int)) := by rw [upd_ne xq.symm]; exact hq3
      have hp4 : upd H3 x (.ins CC dx (putF "total" (.int t) (putF "sizes" (.ref p) []))) p = some (.tup (ns.map V.int)) := by rw [upd_ne xp.symm]; exact hp3
      generalize hg : putF "total" (.int t) (putF "sizes" (.ref p) []) = fs at *
      generalize upd H3 x (.ins CC dx fs) = H4 at *
      refine ⟨_, rfl, q, _, rfl, .inl ⟨SqL.of hq4, fun e1 fe => ?_⟩⟩
      have s5 := same_new (o := HO.tup (es.map V.int)) fe
      refine ⟨_, rfl, x, CC, dx, fs, rfl, s5 _ _ hx4, Z.cl, Z.n3, by omega, ?_⟩
      have hx6 : upd (upd H4 e1 (.tup (es.map V.int))) x (.ins CC dx (putF "ends" (.ref e1) fs)) x = some (.ins CC dx (putF "ends" (.ref e1) fs)) := upd_same
      have hq6 : upd (upd H4 e1 (.tup (es.map V.int))) x (.ins CC dx (putF "ends" (.ref e1) fs)) q = some (.lst (es.map V.int)) := by rw [upd_ne xq.symm]; exact s5 _ _ hq4
      have hp6 : upd (upd H4 e1 (.tup (es.map V.int))) x (.ins CC dx (putF "ends" (.ref e1) fs)) p = some (.tup (ns.map V.int)) := by rw [upd_ne xp.symm]; exact s5 _ _ hp4
      have kp6 : Kp x H1 (upd (upd H4 e1 (.tup (es.map V.int))) x (.ins CC dx (putF "ends" (.ref e1) fs))) := fun b o hb e => by rw [upd_ne hb]; exact s5 _ _ (kp4 _ _ hb e)
      generalize upd (upd H4 e1 (.tup (es.map V.int))) x (.ins CC dx (putF "ends" (.ref e1) fs)) = H6 at hx6 hq6 hp6 kp6 ⊢
      have ll : (es.map V.int).length = (ns.map V.int).length := by rw [List.length_map, List.length_map, el]
      refine ⟨_, rfl, _, rfl, q, p, _, _, rfl, ⟨SqL.of hq6, SqT.of hp6⟩, fun D hD => lc_it (Zm.walk (xs := es.map V.int) (ys := ns.map V.int) ll) (fun i H' => Same H6 H' ∧ ∃ rs : List Int, H' D = some (.lst (rs.map V.int)) ∧ rs.length = i) ⟨same_new hD, [], upd_same, rfl⟩ (fun i H' _ h => ⟨SqL.of (h.1 _ _ hq6), SqT.of (h.1 _ _ hp6)⟩) ?_ ?_⟩
      · rintro i y H' H'' hi ⟨s', rs, hd, rl⟩ ⟨T', y1, y2, ⟨rfl, fT, rfl⟩, g1, g2⟩
        obtain ⟨a1, _, rfl⟩ := List.mem_map.mp (List.mem_of_getElem? g1)
        obtain ⟨a2, _, rfl⟩ := List.mem_map.mp (List.mem_of_getElem? g2)
        have sT := same_new (o := HO.tup [V.int a1, V.int a2]) fT
        refine ⟨T', _, rfl, SqT.of upd_same, rfl, _, _, rfl, _, _, rfl, rfl, rfl, ?_⟩
        dsimp only [tYes]
        rw [if_pos rfl]
        refine ⟨_, rfl, _, rfl, _, _, rfl, rfl, _, rfl, _, _, rfl, rfl, _, sT _ _ hd, ?_, fun b o e => ?_, rs ++ [t - a1 + a2], ?_, ?_⟩
        · rw [List.length_map, rl]
          rw [ll, hlen] at hi
          exact Nat.lt_of_lt_of_le hi (Nat.le_trans lm (by decide))
        · rw [upd_ne (ne_of_none e hD)]
          exact sT _ _ (s' _ _ e)
        · rw [upd_same, List.map_append]; rfl
        · rw [List.length_append, rl]; rfl
      · rintro H7 ⟨s7, rs, hd, rl⟩
        refine ⟨D, _, rfl, .inl ⟨SqL.of hd, fun r1 fr => ?_⟩⟩
        have s8 := same_new (o := HO.tup (rs.map V.int)) fr
        refine ⟨_, rfl, x, CC, dx, _, rfl, s8 _ _ (s7 _ _ hx6), Z.cl, Z.n4, Nat.lt_of_le_of_lt (putF_len _ _ _) (by omega), ?_⟩
        refine k1 lm t e1 r1 _ (fun b o hb e => ?_) ?_
        · rw [upd_ne hb]
          exact s8 _ _ (s7 _ _ (kp6 _ _ hb e))
        · rw [upd_same, ← hg]
          rfl
end
end Lw
namespace Lw
open PySem PySem.Spec PyProof.Rows L2
/-! ### str(x) of an own class -/
section
variable {X : Cx} {C f : Addr} {k j : Nat} {sp : Sp} {E : XK} {pins : List (Addr × Obj)} {σ : L2.St} {H : Hp} {s : Shared}
/-- a method that runs one or two levels further in -/
theorem run_metA {A : Around} {m : Str} {us : List Value} {vs : List V} {Q : VK} (M : MetX X.prog X.w X.K X.mg X.base k C m sp) (hx : Passes (L2.CX X.prog X.w) X E) (hr : Room k A) (e0 : Env0 X.prog X.w X.K X.mg X.base A X.stack s H) (I : Inv X pins σ H s) (r : Vals vs us) (q : sp vs H Q E) :
    ∃ g : Addr, Meth X.K C m g ∧ wpAny (model X.prog X.w) A (call (.ref g) us) (EP X pins σ Q) X.xe s := by
  obtain ⟨g, fd, ps, hm, F, b⟩ := M.ex
  have l : us.length = ps.length := r.length.symm.trans (F.len _ _ _ _ q)
  have b' := b s us I.kIn (by rw [List.append_nil]; exact l)
  rw [List.append_nil] at b'
  refine ⟨g, hm, wpAny_call (codeAny_mono (F.run A X.stack s H ⟨us, []⟩ us vs Q E hr e0 b' r q) fun r s' hq => ?_)⟩
  cases r with
  | error e => exact hx pins σ H s e s' I hq
  | ok fl =>
    cases fl with
    | ret u => exact I.after hq
    | next => exact False.elim hq
    | brk => exact False.elim hq
    | cont => exact False.elim hq
/-- str(x) of an instance -/
def rStrOwn (C : Addr) (sp : Sp) (E : XK) : List V → Hp → VK → Prop := fun xs H Q => ∃ a dx fs, xs = [V.ref a] ∧ H a = some (.ins C dx fs) ∧ sp [.ref a] H (fun z H' => ∃ y, z = .str y ∧ Q z H') E
theorem call_strOwn (M : MetX X.prog X.w X.K X.mg X.base k C "__str__" sp) (hx : Passes (L2.CX X.prog X.w) X E) (hr : Room j X.A) (hk : k + 2 ≤ j) : CallR X (.type "str") (rStrOwn C sp E) := by
  intro pins s σ H xs us Q I r h
  obtain ⟨a, dx, fs, rfl, ha, q⟩ := h
  obtain ⟨u, rfl, ru⟩ := r.one
  cases (show u = Value.ref a from ru)
  obtain ⟨_, _, J⟩ := ins_at I ha
  have hr2 : Room k X.A.in1.in1 := (show Room (k + 1) X.A.in1 from Room.in1 (hr.mono hk)).in1
  obtain ⟨g, hm, w⟩ := run_metA (us := [.ref a]) (vs := [.ref a]) M hx hr2 I.env0.in1.in1 I (.cons rfl .nil) q
  refine PySem.W.kso_call hr2.units0 I.kIn J hm.at_ hm.fn (wpAny_mono w (fun v s' z => ?_) fun _ _ x => x)
  obtain ⟨z', H', I', rz, y, rfl, qz⟩ := z
  obtain ⟨t, rfl⟩ := rz
  exact ⟨.str y, H', I', ⟨t, rfl⟩, qz⟩
end
end Lw
namespace Lw.Ow
open PySem PySem.Spec PyProof.Rows PySem.W PySem.Calls
/-! ### != by the own == -/
theorem sl_obj_ne : Slot "object" "__ne__" "object.__ne__" :=
  .of (owner := "object") (n := "__ne__") (by rw [typeLookup_type, builtinLookup_eq_fast]; kernel_rfl) (by decide +kernel) (by decide +kernel) (by decide +kernel)
    (by first | exact .inl (by decide +kernel) | exact .inr (by decide +kernel)) (by rw [isSubtype_type]; kernel_rfl)
section
variable {prog : Program} {w : World} {A : Around} {E : Value → Shared → Prop} {s : Shared} {K : Frag} {x C f : Addr} {ox : Obj} {od : Option Obj}
theorem ifBound_S {M : Model} {name : Str} {id : String} {args : List Value} {Q : Option Value → Shared → Prop} (X : K.In s.heap) (I : InstAt s.heap x ox C od) (hs : findIn K (.ref C) name = some (some (.builtin id))) (hb : ∀ self, bindSpecial (.builtin id) self = pure (.builtin id, [self]))
    (h : wpAny M A (call (.builtin id) (.ref x :: args)) (fun v => Q (some v)) E s) : wpAny M A (callSpecialIfBound? (.ref x) name args) Q E s := by
  simp only [callSpecialIfBound?, bindSpecialIfBound?]
  refine wpAny_holding (wpAny_bind (wpAny_bind (wpAny_bind (I.type.here ((looks_findIn X hs).here ?_)))))
  refine wpAny_bind (wpAny_askSetting (wpAny_ite ?_))
  have fin : wpAny M A (call (.builtin id) ([.ref x] ++ args) >>= fun v => pure (some v)) Q E s := wpAny_bind (wpAny_mono h (fun v s' h' => wpAny_pure h') fun _ _ h' => h')
  split
  · exact wpAny_bind ((Looks.of_pure (hb _)).here (wpAny_pure (by exact fin)))
  · exact wpAny_tryCatch (wpAny_bind ((Looks.of_pure (hb _)).here (wpAny_pure (by exact fin))))
theorem try_ne {b : Value} {Q : Value → Shared → Prop} (hu : A.in1.units < cLine) (X : K.In s.heap) (I : InstAt s.heap x ox C od) (hm : mroIn K C (.type "object") = some true) (hn : findIn K (.ref C) "__ne__" = some (some (.builtin "object.__ne__"))) (he : findIn K (.ref C) "__eq__" = some (some (.ref f))) (hf : isFn K (.ref f) = true)
    (h : wpAny (model prog w) A.in1 (call (.ref f) [.ref x, b]) (fun v s' => ∃ c, v = .bool c ∧ Q (.bool (!c)) s') E s) : wpAny (model prog w) A (tryCompare (.ref x) "__ne__" b) (fun r s' => ∃ v, r = some v ∧ Q v s') E s := by
  unfold tryCompare
  refine wpAny_bind (ifBound_S X I hn sl_obj_ne.bind (wpAny_call (codeAny_call_builtin sl_obj_ne.plain F.cmpEntry_ne (check_slot (i := "object.__ne__") (owner := "object") (n := "__ne__") F.cmpKind_ne F.cmpSplit_ne (I.type.andThen (looks_mroIn X hm)) (F.cmpArgs_ne _ _) ?_))))
  unfold Builtin.«object.__ne__»
  refine wpAny_bind (wpAny_of_eq (a := (Value.ref x, [b])) rfl ?_)
  refine wpAny_bind (m := cRoomFor _ _) (wpAny_cRoomFor hu ?_)
  refine wpAny_bind (m := callSpecialIfBound? (.ref x) (Str.ofString "__eq__") _) (ifBound_K X I he hf (wpAny_mono h (fun r s' hq => ?_) fun _ _ y => y))
  obtain ⟨c, rfl, q⟩ := hq
  refine wpAny_bind (m := truthy (.bool c)) (wpAny_truthy_bool ?_)
  first | exact wpAny_pure (wpAny_pure ⟨_, rfl, q⟩) | exact wpAny_pure ⟨_, rfl, q⟩ | exact ⟨_, rfl, wpAny_pure ⟨_, rfl, q⟩⟩
theorem cmp_ne {b tb : Value} {Q : Value → Shared → Prop} (hu : A.units < cLine) (X : K.In s.heap) (I : InstAt s.heap x ox C od) (hb : Looks (model prog w) s.heap (typeOf b) tb) (hn : notFirst K C tb = true)
    (one : wpAny (model prog w) A (tryCompare (.ref x) "__ne__" b) (fun r s' => ∃ v, r = some v ∧ Q v s') E s) : wpAny (model prog w) A (richCompare .NotEq (.ref x) b) Q E s := by
  unfold richCompare
  simp only [oneThing_ref]
  refine wpAny_holding (wpAny_bind (wpAny_cRoomFor hu ?_))
  refine wpAny_bind (I.type.here (wpAny_bind (hb.here ?_)))
  split
  · rename_i q
    have e : subIn K tb (.ref C) = some false := by
      rcases Bool.or_eq_true_iff.mp hn with e | e
      · rw [beq_iff_eq.mp e] at q; simp at q
      · exact beq_iff_eq.mp e
    refine wpAny_bind ((looks_subIn X e).here ?_)
    simp only [Bool.false_eq_true, if_false]
    refine wpAny_bind (wpAny_mono one (fun r s' z => ?_) fun _ _ e => e)
    obtain ⟨v, rfl, hq⟩ := z
    exact wpAny_pure hq
  · refine wpAny_bind (wpAny_pure ?_)
    simp only [Bool.false_eq_true, if_false]
    refine wpAny_bind (wpAny_mono one (fun r s' z => ?_) fun _ _ e => e)
    obtain ⟨v, rfl, hq⟩ := z
    exact wpAny_pure hq
end
end Lw.Ow
namespace Lw
open PySem PySem.Spec PyProof.Rows L2 LamX
section
variable {X : Cx} {C f : Addr} {k j : Nat} {sp : Sp} {E : XK} {pins : List (Addr × Obj)} {σ : L2.St} {H : Hp} {s : Shared}
structure NeC (K : PySem.W.Frag) (C : Addr) : Prop where
  m : PySem.W.mroIn K C (.type "object") = some true
  n : PySem.W.findIn K (.ref C) "__ne__" = some (some (.builtin "object.__ne__"))
def Nb (Q : VK) : VK := fun v H => ∃ c, v = .bl c ∧ Q (.bl (!c)) H
def rNR (C : Addr) (sp : Sp) (E : XK) : R2 := fun x y H Q => ∃ a dx fs b dy gs, x = .ref a ∧ H a = some (.ins C dx fs) ∧ y = .ref b ∧ H b = some (.ins C dy gs) ∧ sp [x, y] H (Nb Q) E
theorem op_neR (nc : NeC X.K C) (M : MetX X.prog X.w X.K X.mg X.base k C "__eq__" sp) (hx : Passes (L2.CX X.prog X.w) X E) (hr : Room j X.A) (hk : k + 1 ≤ j) : OpR X (compareOp .NotEq) (rNR C sp E) := by
  intro pins s σ H x y v u Q I rx ry h
  obtain ⟨a, dx, fs, b, dy, gs, rfl, ha, rfl, hb, q⟩ := h
  cases (show v = Value.ref a from rx)
  cases (show u = Value.ref b from ry)
  obtain ⟨_, _, J⟩ := ins_at I ha
  obtain ⟨_, _, J'⟩ := ins_at I hb
  have hr1 : Room k X.A.in1 := Room.in1 (hr.mono hk)
  obtain ⟨g, hm, w⟩ := run_metA (us := [.ref a, .ref b]) (vs := [.ref a, .ref b]) M hx hr1 I.env0.in1 I (.cons rfl (.cons rfl .nil)) q
  refine Ow.cmp_ne hr.units0 I.kIn J J'.type (by simp [PySem.W.notFirst]) (Ow.try_ne hr1.units0 I.kIn J nc.m nc.n hm.at_ hm.fn (wpAny_mono w (fun v s' z => ?_) fun _ _ x => x))
  obtain ⟨z', H', I', rz, c, rfl, qz⟩ := z
  cases (show v = Value.bool c from rz)
  exact ⟨c, rfl, .bl (!c), H', I', rfl, qz⟩
end
theorem TyX.same {K : PySem.W.Frag} {H H' : Hp} {v : V} {t : Value} (s : Same H H') (h : TyX K H v t) : TyX K H' v t := by
  cases h with
  | base h =>
    refine .base ?_
    cases h with
    | non => exact .non
    | bl x => exact .bl x
    | int i => exact .int i
    | str x => exact .str x
    | flt x => exact .flt x
    | lst e => exact .lst (s _ _ e)
    | frz e => exact .frz (s _ _ e)
    | tup e => exact .tup (s _ _ e)
    | dK e => exact .dK (s _ _ e)
    | dT e => exact .dT (s _ _ e)
    | ins e cl ha hn htk hm => exact .ins (s _ _ e) cl ha hn htk hm
  | byt b => exact .byt b
  | set e => exact .set (s _ _ e)
  | kList e c => exact .kList e c
  | kTuple e c => exact .kTuple e c
  | kDict e c => exact .kDict e c
  | fTuple e => exact .fTuple (s _ _ e)
  | fDict e => exact .fDict (s _ _ e)
theorem TyZ.same {K : PySem.W.Frag} {H H' : Hp} {v : V} {t : Value} (s : Same H H') (h : TyZ K H v t) : TyZ K H' v t := by
  cases h with
  | x h => exact .x (Lw.TyX.same s h)
  | fn e => exact .fn (s _ _ e)
theorem Anyv.same {K : PySem.W.Frag} {H H' : Hp} {v : V} (s : Same H H') (h : Anyv K H v) : Anyv K H' v := by
  cases h with
  | int i => exact .int i
  | non => exact .non
  | bl b => exact .bl b
  | str z => exact .str z
  | obj h h1 h2 h3 => exact .obj (Lw.TyZ.same s h) h1 h2 h3
open SX PySem.NumText TL
theorem tl_neg {n : Nat} (h : 0 < n) : (Str.ofString (toString (-((n : Nat) : Int)))).cps.toList = 45 :: numL n := by
  obtain ⟨m, rfl⟩ : ∃ m, n = m + 1 := ⟨n - 1, by omega⟩
  rw [PyProof.Rows.signs_ofString]
  have e : toString (-(((m + 1 : Nat) : Int))) = "-" ++ Nat.repr (m + 1) := rfl
  rw [e, String.toList_append, List.map_append, Nat.toList_repr]
  rfl
theorem str_neg {n : Nat} (h : 0 < n) : Str.ofString (toString (-((n : Nat) : Int))) = S (45 :: numL n) := TL.ext_tl (tl_neg h)
/-- the figures of an integer, its sign ahead -/
def intL (i : Int) : List Nat := if i < 0 then 45 :: numL i.natAbs else numL i.natAbs
theorem str_int (i : Int) : Str.ofString (toString i) = S (intL i) := by
  unfold intL
  by_cases h : i < 0
  · rw [if_pos h]
    obtain ⟨n, rfl⟩ : ∃ n : Nat, i = -((n : Nat) : Int) := ⟨i.natAbs, by omega⟩
    rw [show (-((n : Nat) : Int)).natAbs = n by omega]
    exact str_neg (by omega)
  · rw [if_neg h]
    obtain ⟨n, rfl⟩ : ∃ n : Nat, i = ((n : Nat) : Int) := ⟨i.natAbs, by omega⟩
    rw [Int.natAbs_natCast]
    exact num_S n
open SX PySem.NumText TL LamX ClX StX
abbrev sCof : Stmt := inClass (top 21) 2
abbrev sCst : Stmt := inClass (top 21) 20
abbrev sCeq : Stmt := inClass (top 21) 19
/-! ### C(*xs) -/
section
variable {X : Cx} {CX : CXT} {k : Nat} {f C : Addr} {sp : Sp} {E : XK} {x : Str} {e : Expr} {te : TE} {p sp_ pos : Pos}
def tMakeS (K : PySem.W.Frag) (C : Addr) (sp : Sp) (E : XK) (te : TE) : TE := fun σ H Q => te σ H fun y H1 => ∃ a xs, y = V.ref a ∧ (SqT K H1 a xs ∨ SqL K H1 a xs) ∧ ∀ x dx, H1 x = Option.none → H1 dx = Option.none → dx ≠ x →
  sp (V.ref x :: xs) (upd (upd H1 dx (.own x)) x (.ins C dx [])) (fun v H2 => v = .non ∧ Q (.ref x) H2) E
theorem pe_makeS1 (M : Mk X.K C f) (F : FnR X.prog X.w X.K X.mg X.base CX k f sp) (hr : Room (k + 1) X.A) (hg : Gl X x) (hm : X.mg x = some (.ref C)) (hx : Passes CX X E) (he : PE X e te) (hd : (x == ("__debug__" : Str)) = false := by decide)
    (hst : starEach [.Starred e sp_] X.env = [(true, eval e X.env)] := by rfl) :
    PE X (.Call (.Name x p) [.Starred e sp_] [] pos) (tMakeS X.K C sp E te) := by
  refine ⟨fun pins s σ H Q I h => ?_⟩
  refine wpAny_Call_Name_kw (ld_glob I hg hm ?_ hd)
  refine PySem.W.callWith_S (h₀ := X.base) I.ok.mod.kin M.kp (thn (he.run pins s σ H _ I h) fun v s1 ⟨y, H1, I1, ry, a, xs, ey, hxs, q⟩ => ?_) hst
  subst ey
  obtain rfl : v = Value.ref a := ry
  exact star_any I1 hxs fun us s2 I2 rv => ⟨I2.kIn, run_makeR M F hr hx I2 rv q⟩
end
theorem seq_cls {K : PySem.W.Frag} {H : Hp} {a : Addr} {xs : List V} (h : H a = some (.lst xs) ∨ H a = some (.tup xs)) : ∃ t, TyX K H (.ref a) t ∧ PySem.W.kitAny K t [.type "list", .type "tuple"] = some true := by
  rcases h with h | h
  · exact ⟨.type "list", .base (.lst h), kitAny_cons (kit_ty (r := true) (by decide +kernel)) (fun z => by cases z) (fun _ => rfl)⟩
  · exact ⟨.type "tuple", .base (.tup h), kitAny_cons (kit_ty (r := false) (by decide +kernel)) (fun _ => kitAny_cons (kit_ty (r := true) (by decide +kernel)) (fun z => by cases z) (fun _ => rfl)) (fun z => by cases z)⟩
/-! ### Chunks -/
/-- Chunks of these sizes -/
def ChAt (CC : Addr) (H : Hp) (c : Addr) (ns : List Int) : Prop := ∃ dx p t e r, H c = some (.ins CC dx (chF p t e r)) ∧ H p = some (.tup (ns.map V.int))
theorem ChAt.same {CC : Addr} {H H' : Hp} {c : Addr} {ns : List Int} (h : ChAt CC H c ns) (s : Same H H') : ChAt CC H' c ns := by
  obtain ⟨dx, p, t, e, r, h1, h2⟩ := h
  exact ⟨dx, p, t, e, r, s _ _ h1, s _ _ h2⟩
theorem ChAt.extn {CC : Addr} {H H' : Hp} {c : Addr} {ns : List Int} (h : ChAt CC H c ns) (s : ExtN H H') : ChAt CC H' c ns := by
  obtain ⟨dx, p, t, e, r, h1, h2⟩ := h
  exact ⟨dx, p, t, e, r, s _ _ h1 (fun ps z => by cases z), s _ _ h2 (fun ps z => by cases z)⟩
theorem Mf.of {DM : Addr} {H H' : Hp} {E : XK} (h : Mf DM H E) (s : Same H H') : Mf DM H' E := fun d fs H2 s2 hd f1 f2 => h d fs H2 (s.trans s2) hd f1 f2
def spCof (CC DM : Addr) : Sp := fun vs H Q E => ∃ (l : Addr) (ns : List Int), vs = [.ref l] ∧ (H l = some (.lst (ns.map V.int)) ∨ H l = some (.tup (ns.map V.int))) ∧ SzOk ns ∧
  (ns.length ≤ 5000 → ∀ c H', Same H H' → H c = none → ChAt CC H' c ns → Q (.ref c) H') ∧ (5000 < ns.length → Mf DM H E)
/-- Chunks.__init__, ready to be called with a star -/
structure ChM (P : Program) (w : World) (K : PySem.W.Frag) (mg : Str → Option Value) (base : Heap) (CC DM fI : Addr) (mc : Value) : Prop where
  Z : ChC P w K mg base CC DM mc
  M : Mk K CC fI
  F : FnR P w K mg base (L2.CX P w) 5 fI (fun vs H Q E => ∃ ws rest, vs = ws ++ rest ∧ ws.length = ["self"].length ∧ rest.length ≤ sizeLine ∧ ∀ p, H p = none → spCI CC DM (ws ++ [V.ref p]) (upd H p (.tup rest)) Q E)
/-- the text of these sizes -/
def chTx : List Int → List Nat
  | [] => [45]
  | n :: r => joinL [32] ((n :: r).map intL)
def spCst (CC : Addr) : Sp := fun vs H Q _ => ∃ c ns, vs = [.ref c] ∧ ChAt CC H c ns ∧ SzOk ns ∧ ns.length ≤ 5000 ∧ ∀ H', Same H H' → Q (.str (S (chTx ns))) H'
def spCeq (CC : Addr) : Sp := fun vs H Q _ => ∃ (a b : Addr) (ns ms : List Int), vs = [.ref a, .ref b] ∧ ChAt CC H a ns ∧ ChAt CC H b ms ∧ Q (.bl (decide (ns = ms))) H
theorem eqvs_ints : ∀ ns ms : List Int, PyData.eqvAll (ns.map PyData.int) (ms.map PyData.int) = decide (ns = ms)
  | [], [] => rfl
  | [], _ :: _ => rfl
  | _ :: _, [] => rfl
  | n :: r, m :: q => by
    show ((n == m) && PyData.eqvAll (r.map PyData.int) (q.map PyData.int)) = _
    rw [eqvs_ints r q]
    by_cases h : n = m
    · subst h; simp
    · simp [h]
theorem lays_ints : ∀ ns : List Int, PyData.canLayAll0 (ns.map PyData.int) = true
  | [] => rfl
  | n :: r => by show (true && PyData.canLayAll0 (r.map PyData.int)) = true; rw [lays_ints r]; rfl
theorem depths_ints : ∀ ns : List Int, PyData.depthAll (ns.map PyData.int) = 0
  | [] => rfl
  | n :: r => by show max 0 (PyData.depthAll (r.map PyData.int)) = 0; rw [depths_ints r]; rfl
theorem shaped_tints (ns : List Int) : SeqAt.shaped (.tuple (ns.map PyData.int)) = true := by
  unfold SeqAt.shaped
  have h1 : PyData.canLay0 (.tuple (ns.map PyData.int)) = true := lays_ints ns
  have h2 : PyData.depth (.tuple (ns.map PyData.int)) = 1 := by
    show PyData.depthAll (ns.map PyData.int) + 1 = 1
    rw [depths_ints]
  rw [h1, h2]; rfl
theorem intL_len2 {i : Int} (h : i.natAbs ≤ 10 ^ 30) : (intL i).length ≤ 32 := by
  have l : (numL i.natAbs).length ≤ 31 := numL_len (k := 31) (by decide) (Nat.lt_of_le_of_lt h (by decide +kernel))
  unfold intL
  split
  · rw [List.length_cons]; omega
  · omega
theorem sum_le {xs : List (List Nat)} {m : Nat} (h : ∀ x ∈ xs, x.length ≤ m) : ((xs.map S).map (·.length)).sum ≤ xs.length * m := by
  induction xs with
  | nil => simp
  | cons x r ih =>
    rw [List.map_cons, List.map_cons, List.sum_cons, List.length_cons, S_len]
    have h1 := h x List.mem_cons_self
    have h2 := ih fun y hy => h y (List.mem_cons_of_mem _ hy)
    rw [Nat.add_mul]
    omega
section
variable {P : Program} {w : World} {K : PySem.W.Frag} {mg : Str → Option Value} {base : Heap}
theorem scCof : FnScope ["sizes"] ["sizes"] (C8.fnScope sCof) := C8.fnScope_by (by decide +kernel)
theorem fn_cof {CC DM fI f : Addr} {mc : Value} {fd : FuncData} (F : C8.Fun K "of" "Chunks.of" sCof f fd) (T : Txt mg) (htu : mg "tuple" = none) (CM : ChM P w K mg base CC DM fI mc) : FnOk P w K mg base (L2.CX P w) 7 f fd ["sizes"] (spCof CC DM) := by
  obtain ⟨oc, od, dV, kV, doc, pm, an, cdv, ct, osl, rfl, lk, hcd⟩ := F.ex
  refine fn_of lk hcd scCof (fun vs H Q E h => ?_) fun A outer s H vs Q E hr h => ?_
  · obtain ⟨l, ns, rfl, _⟩ := h
    rfl
  · obtain ⟨l, ns, rfl, hl, ok, k1, k2⟩ := h
    refine ⟨_, (pss_cons (ps_if (pt_not (pt_val (pe_callB call_isiT (by rfl) T.n_isinstance (by decide +kernel) (pa_cons (pv 0) (pa_cons (pe_tup (pa_cons (pe_bltn (v := .ty "list") (by rfl) T.n_list (by decide +kernel) rfl) (pa_cons (pe_bltn (v := .ty "tuple") (by rfl) htu (by decide +kernel) rfl) pa_nil))) pa_nil))))) (pss_one ps_never) pss_nil)
      (pss_one (ps_ret (pe_makeS1 CM.M CM.F (hr.mono (by decide)) (by rfl) CM.Z.hm (passes_call (takes_of rfl rfl rfl rfl) (fun _ _ _ _ z => z)) (pv 0))))), ?_⟩
    refine ⟨_, rfl, (by show 2 ≤ sizeLine; decide), fun t ft => ?_⟩
    have s1 := same_new (o := HO.tup [V.ty "list", V.ty "tuple"]) ft
    have et : upd H t (HO.tup [V.ty "list", V.ty "tuple"]) t = some (.tup [V.ty "list", V.ty "tuple"]) := upd_same
    generalize upd H t _ = H1 at s1 et ⊢
    obtain ⟨ty, hty, hk⟩ := seq_cls (K := K) hl
    refine ⟨_, t, _, ty, _, true, rfl, et, .cons (.ty _) (.cons (.ty _) .nil), Lw.TyX.same s1 hty, hk, ?_⟩
    refine ⟨_, rfl, iteF ?_⟩
    have hl1 : SqT K H1 l (ns.map V.int) ∨ SqL K H1 l (ns.map V.int) := hl.elim (fun z => .inr (SqL.of (s1 _ _ z))) (fun z => .inl (SqT.of (s1 _ _ z)))
    refine ⟨_, rfl, l, _, rfl, hl1, fun x dx hx hdx ne => ?_⟩
    have hlen : (ns.map V.int).length = ns.length := List.length_map _
    refine ⟨[V.ref x], ns.map V.int, rfl, rfl, (by rw [hlen]; exact Nat.le_trans ok.2 (by decide)), fun p hp => ?_⟩
    have s2 : Same H1 (upd (upd H1 dx (.own x)) x (.ins CC dx [])) := (same_new hdx).trans (same_new (by rw [upd_ne ne.symm]; exact hx))
    have s3 := s2.trans (same_new (o := HO.tup (ns.map V.int)) hp)
    have xp : x ≠ p := fun e => by rw [← e, upd_same] at hp; cases hp
    refine ⟨x, dx, p, ns, rfl, (by rw [upd_ne xp]; exact upd_same), upd_same, ok, fun h5 t e r H' kp hx' => ⟨rfl, ?_⟩, fun h5 => (k2 h5).of (s1.trans s3)⟩
    refine k1 h5 x H' (fun b o e' => kp b o (fun q => ?_) (s3 _ _ (s1 _ _ e'))) (s1.free hx) ⟨dx, p, t, e, r, hx', kp p _ xp.symm upd_same⟩
    rw [q] at e'
    rw [s1 _ _ e'] at hx
    cases hx
theorem scCst : FnScope ["self", "size"] ["self"] (C8.fnScope sCst) := C8.fnScope_by (by decide +kernel)
theorem fn_cst {CC DM f : Addr} {mc : Value} {fd : FuncData} (F : C8.Fun K "__str__" "Chunks.__str__" sCst f fd) (T : Txt mg) (Z : ChC P w K mg base CC DM mc) : FnOk P w K mg base (L2.CX P w) 2 f fd ["self"] (spCst CC) := by
  obtain ⟨oc, od, dV, kV, doc, pm, an, cdv, ct, osl, rfl, lk, hcd⟩ := F.ex
  refine fn_of lk hcd scCst (fun vs H Q E h => ?_) fun A outer s H vs Q E hr h => ?_
  · obtain ⟨c, ns, rfl, _⟩ := h
    rfl
  · obtain ⟨c, ns, rfl, ⟨dx, p, t, e, r, hc, hp⟩, ⟨so, _⟩, lm, k⟩ := h
    refine ⟨_, (pss_cons (ps_if (pt_not (pt_truth (pe_fld (pv 0) rfl) (by intro _; rfl))) (pss_one (ps_ret pe_str)) pss_nil)
      (pss_one (ps_ret (pe_join pe_str (pe_lc (own := [("size", 1)]) (g := gName 1) (tt := tYes) rfl scCst.nd (pi_tup (pe_fld (pv 0) rfl)) (blkOk_by (own := [("size", 1)]) (N := ["self", "size"]) (sc := (C8.fnScope sCst)) (by decide +kernel)) (fun _ _ _ _ _ => pg_name (i := 1) scCst.nd rfl (Or.inl rfl)) (fun _ _ _ _ _ => pts_nil) (fun _ _ _ _ _ => (pe_callTy call_str_int (by rfl) T.n_str (by decide +kernel) (pa_cons (pv 1) pa_nil)))))))), ?_⟩
    have lmem : ∀ v ∈ ns, v.natAbs ≤ 10 ^ 30 := fun v hv => by
      obtain ⟨h1, h2⟩ := so v hv
      have e : ((10 : Int) ^ 30) = ((10 ^ 30 : Nat) : Int) := by decide +kernel
      rw [e] at h2
      omega
    refine ⟨_, rfl, c, CC, dx, _, _, rfl, hc, Z.cl, Z.n1, chF_sizes p t e r, _, .inr (.inl ⟨_, SqT.of hp, rfl⟩), ?_⟩
    cases ns with
    | nil => exact iteT (k H (Same.refl _))
    | cons n0 r0 =>
      refine iteF ?_
      generalize hns : n0 :: r0 = ns at *
      have hlen : (ns.map V.int).length = ns.length := List.length_map _
      refine ⟨⟨_, rfl⟩, _, rfl, c, CC, dx, _, _, rfl, hc, Z.cl, Z.n1, chF_sizes p t e r, p, rfl, ⟨_, SqT.of hp⟩, fun D hD => ?_⟩
      refine lc_tup (xs := ns.map V.int) (fun i H' => Same H H' ∧ H' D = some (.lst ((((ns.take i).map intL).map S).map V.str))) ⟨same_new hD, upd_same⟩ (fun i H' _ h => SqT.of (h.1 _ _ hp)) ?_ ?_
      · rintro i y H' hy ⟨s', hd⟩
        obtain ⟨v, hv, rfl⟩ : ∃ v, ns[i]? = some v ∧ y = .int v := by
          rw [List.getElem?_map] at hy
          cases hq : ns[i]? with
          | none => rw [hq] at hy; cases hy
          | some v => rw [hq] at hy; cases hy; exact ⟨v, rfl, rfl⟩
        have hi : i < ns.length := (List.getElem?_eq_some_iff.mp hv).1
        refine ⟨rfl, ?_⟩
        dsimp only [tYes]
        rw [if_pos rfl]
        refine ⟨_, rfl, v, rfl, ?_, _, hd, ?_, fun b o e => ?_, ?_⟩
        · have := lmem v (List.mem_of_getElem? hv)
          by_cases z : v.natAbs = 0
          · rw [z]; decide
          · exact (Nat.log2_lt z).mpr (Nat.lt_of_le_of_lt this (by decide +kernel))
        · rw [List.length_map, List.length_map, List.length_map]
          exact Nat.lt_of_le_of_lt (Nat.le_trans (List.length_take_le _ _) (Nat.le_trans (Nat.le_of_lt hi) lm)) (by decide)
        · rw [upd_ne (ne_of_none e hD)]
          exact s' _ _ e
        · rw [upd_same, List.take_add_one, hv, str_int]
          simp
      · rintro H2 ⟨s2, hd⟩
        rw [List.take_of_length_le (by rw [hlen]; exact Nat.le_refl _)] at hd
        refine ⟨_, D, (ns.map intL).map S, rfl, rfl, .inl (SqL.of hd), ?_, ?_⟩
        · have h1 := sum_le (xs := ns.map intL) (m := 32) fun x hx => by
            obtain ⟨v, hv, rfl⟩ := List.mem_map.mp hx
            exact intL_len2 (lmem v hv)
          rw [List.length_map] at h1
          rw [List.length_map, List.length_map, show (Str.ofString " ").length = 1 from rfl]
          omega
        · have e1 : chTx ns = joinL [32] (ns.map intL) := by rw [← hns]; rfl
          rw [show (Str.ofString " ") = S [32] from rfl, join_S, ← e1]
          exact k H2 s2
theorem scCeq : FnScope ["self", "other"] ["self", "other"] (C8.fnScope sCeq) := C8.fnScope_by (by decide +kernel)
theorem fn_ceq {CC DM f : Addr} {mc : Value} {fd : FuncData} (F : C8.Fun K "__eq__" "Chunks.__eq__" sCeq f fd) (T : Txt mg) (Z : ChC P w K mg base CC DM mc) (I : C8.InsC K CC) : FnOk P w K mg base (L2.CX P w) 2 f fd ["self", "other"] (spCeq CC) := by
  obtain ⟨oc, od, dV, kV, doc, pm, an, cdv, ct, osl, rfl, lk, hcd⟩ := F.ex
  refine fn_of lk hcd scCeq (fun vs H Q E h => ?_) fun A outer s H vs Q E hr h => ?_
  · obtain ⟨a, b, ns, ms, rfl, _⟩ := h
    rfl
  · obtain ⟨a, b, ns, ms, rfl, ⟨dxa, pa, ta, ea, ra, ha, hpa⟩, ⟨dxb, pb, tb, eb, rb, hb, hpb⟩, go⟩ := h
    refine ⟨_, (pss_one (ps_ret (pe_and (pe_callB call_isz (by rfl) T.n_isinstance (by decide +kernel) (pa_cons (pv 1) (pa_cons (pe_glob (v := .ref CC) (by rfl) Z.hm rfl) pa_nil))) (pe_one (pe_cmpR (op_eqD hr.units) (pe_fld (pv 0) rfl) (pe_fld (pv 1) rfl) (nomark _)))))), ?_⟩
    have ty : TyZ K H (.ref b) (.ref CC) := .x (.base (.ins hb I.cl I.ha I.hn I.htk I.hm))
    refine ⟨_, rfl, _, .ref CC, .ref CC, .ref CC, true, rfl, .own CC, ty, I.me, _, rfl, iteT ?_⟩
    refine ⟨_, rfl, a, CC, dxa, _, _, rfl, ha, Z.cl, Z.n1, chF_sizes _ _ _ _, _, rfl, b, CC, dxb, _, _, rfl, hb, Z.cl, Z.n1, chF_sizes _ _ _ _, .tuple (ns.map PyData.int), .tuple (ms.map PyData.int), .tup (SqT.of hpa) (dp_ints ns), .tup (SqT.of hpb) (dp_ints ms), shaped_tints ns, shaped_tints ms, ?_⟩
    rw [show PyData.eqv (.tuple (ns.map PyData.int)) (.tuple (ms.map PyData.int)) = decide (ns = ms) from eqvs_ints ns ms]
    exact go
end
end Lw
namespace Lw
open PySem PySem.Spec PyProof.Rows L2
open SX PySem.NumText TL LamX ClX StX
abbrev sCrd : Stmt := inClass (top 21) 3
/-! ### Chunks.read -/
inductive Out where
  | sz (ns : List Int)
  | bad (n : Nat)
  | many
/-- what is read of these words -/
def outW (ws : List (List Nat)) : Out :=
  if ws[0]? = some [45] then (if ws.length = 1 then .sz [] else .bad 1)
  else if lead ws < ws.length then .bad (lead ws)
  else if ws.length ≤ 5000 then .sz (ws.map szI) else .many
def OutOf (x : V) (o : Out) : Prop := (isS x = false ∧ o = .bad 0) ∨ ∃ cs, x = .str (S cs) ∧ cs.length ≤ 100000 ∧ WsOk (wds cs) ∧ o = outW (wds cs)
/-- what a reading that may raise answers -/
def RdE (CC D DM : Addr) (T : List (Addr × Str)) (H : Hp) (Q : VK) (E : XK) : Out → Prop
  | .sz ns => ∀ c H', ExtN H H' → Tabs T H' → ChAt CC H' c ns → SzOk ns → ns.length ≤ 5000 → Q (.ref c) H'
  | .bad n => ∀ d fs H', ExtN H H' → Tabs T H' → H' d = none → fs.lookup ("line" : Str) = some (.int 0) → fs.lookup ("word" : Str) = some (.int n) → E (.ref D) (some d) (upd H' d (.xd fs))
  | .many => ∀ d fs H', ExtN H H' → Tabs T H' → H' d = none → fs.lookup ("what" : Str) = some (.str (Str.ofString "chunks")) → fs.lookup ("most" : Str) = some (.int 5000) → E (.ref DM) (some d) (upd H' d (.xd fs))
def spCrd (K : PySem.W.Frag) (CC D DM : Addr) (T : List (Addr × Str)) : Sp := fun vs H Q E => ∃ x o, vs = [.ref CC, x] ∧ Anyv K H x ∧ OutOf x o ∧ Tabs T H ∧ RdE CC D DM T H Q E o
/-- Reader, ready to be made -/
structure RdK (P : Program) (w : World) (K : PySem.W.Frag) (mg : Str → Option Value) (base : Heap) (R D f : Addr) (fd : FuncData) (ds : List Value) : Prop where
  M : Mk K R f
  F : FnOk P w K mg base (L2.CX P w) 3 f fd ["self", "text", "row"] (spRI K R D)
  hm : mg "Reader" = some (.ref R)
  b1 : Binds K fd ["self", "text", "row"] ds
  d1 : Vals [.int 0] ds
theorem sz_math {ws : List (List Nat)} (h : ws.length ≤ lead ws) : ∀ n, szV ws n = ((ws.take n).map szI).map V.int := fun n => by unfold szV; rw [List.map_map]; rfl
theorem szI_ok {ws : List (List Nat)} {n : Nat} (hn : n ≤ lead ws) : ∀ v ∈ (ws.take n).map szI, 1 ≤ v ∧ v ≤ 10 ^ 30 := fun v hv => by
  obtain ⟨w, hw, rfl⟩ := List.mem_map.mp hv
  obtain ⟨i, hi, e⟩ := List.mem_iff_getElem.mp hw
  rw [List.length_take] at hi
  rw [List.getElem_take] at e
  obtain ⟨w', v, h1, h2⟩ := lead_lt (ws := ws) (i := i) (by omega)
  have h3 : ws[i]? = some w := by rw [← e]; exact List.getElem?_eq_getElem (by omega)
  rw [h1] at h3
  cases h3
  unfold szI
  rw [h2]
  show 1 ≤ v ∧ v ≤ 10 ^ 30
  have h4 := h2
  unfold szO numV at h4
  split at h4
  · split at h4
    · rename_i hh
      cases h4
      exact hh
    · cases h4
  · cases h4
theorem extn_of {r : Addr} {H H0 H2 : Hp} (s : Same H H0) (hr : H r = none) (k : KpN r H0 H2) : ExtN H H2 := fun b o e n => k b o (ne_of_none e hr) (s _ _ e) n
theorem KpN.up {r : Addr} {H0 H1 H2 : Hp} (k : Kp r H0 H1) (k2 : KpN r H1 H2) : KpN r H0 H2 := fun b o hb e n => k2 b o hb (k _ _ hb e) n
section
variable {P : Program} {w : World} {K : PySem.W.Frag} {mg : Str → Option Value} {base : Heap}
theorem scCrd : FnScope ["cls", "text", "reader", "sizes"] ["cls", "text"] (C8.fnScope sCrd) := C8.fnScope_by (by decide +kernel)
theorem fn_crd {CC D DM R fR g fS pO gO B0 B1 B2 : Addr} {fdR fdg fdS fdO : FuncData} {ds : List Value} (F : C8.Fun K "read" "Chunks.read" sCrd g fdg) (RK : RdK P w K mg base R D fR fdR ds) (RM : RdMs P w K mg base R D)
    (mS : mg "read_sizes" = some (.ref fS)) (kS : PySem.W.keepIn K (.ref fS) = true) (bS : Binds K fdS ["reader"] []) (FS : FnOk P w K mg base (L2.CX P w) 11 fS fdS ["reader"] (spRS R D (tabT B0 B1 B2)))
    (SM : SMet K CC "of" pO gO) (FO : FnOk P w K mg base (L2.CX P w) 7 gO fdO ["sizes"] (spCof CC DM)) (bO : Binds K fdO ["sizes"] []) : FnOk P w K mg base (L2.CX P w) 12 g fdg ["cls", "text"] (spCrd K CC D DM (tabT B0 B1 B2)) := by
  obtain ⟨oc, od, dV, kV, doc, pm, an, cdv, ct, osl, rfl, lk, hcd⟩ := F.ex
  refine fn_of lk hcd scCrd (fun vs H Q E h => ?_) fun A outer s H vs Q E hr h => ?_
  · obtain ⟨x, o, rfl, _⟩ := h
    rfl
  · obtain ⟨x, o, rfl, av, ho, ht, h⟩ := h
    refine ⟨_, (pss_cons (ps_set (i := 2) scCrd.nd rfl (Or.inl rfl) (pe_make RK.M RK.F (hr.mono (by decide)) (by rfl) RK.hm RK.b1 RK.d1 (passes_call (takes_of rfl rfl rfl rfl) (fun _ _ _ _ z => z)) (pa_cons (pv 1) pa_nil)))
      (pss_cons (ps_set (i := 3) scCrd.nd rfl (Or.inl rfl) (pe_call FS (hr.mono (by decide)) (by rfl) mS kS bS .nil (passes_call (takes_of rfl rfl rfl rfl) (fun _ _ _ _ z => z)) (pa_cons (pv 2) pa_nil)))
      (pss_cons (ps_expr (pe_mx0 (pv 2) RM.rc.cl RM.F hr (by decide) (passes_call (takes_of rfl rfl rfl rfl) (fun _ _ _ _ z => z))))
      (pss_one (ps_ret (pe_static (pv 0) SM FO (hr.mono (by decide)) bO .nil (passes_call (takes_of rfl rfl rfl rfl) (fun _ _ _ _ z => z)) (pa_cons (pv 3) pa_nil))))))), ?_⟩
    refine ⟨_, rfl, fun r dx hr0 hdx ne => ?_⟩
    have s0 : Same H (upd (upd H dx (.own r)) r (.ins R dx [])) := (same_new hdx).trans (same_new (by rw [upd_ne ne.symm]; exact hr0))
    have hr1 : upd (upd H dx (.own r)) r (.ins R dx []) r = some (.ins R dx []) := upd_same
    generalize upd (upd H dx (.own r)) r (.ins R dx []) = H0 at s0 hr1 ⊢
    refine ⟨r, dx, x, rfl, Lw.Anyv.same s0 av, hr1, fun hx d fs H' s' hd f1 f2 => ?_, fun z hz => ?_⟩
    · rcases ho with ⟨_, rfl⟩ | ⟨cs, rfl, _⟩
      · exact h d fs H' (ExtN.of (s0.trans s')) (ht.ext (s0.trans s')) hd f1 f2
      · cases hx
    · rcases ho with ⟨hx, _⟩ | ⟨cs, rfl, hl, wo, rfl⟩
      · subst hz; cases hx
      · cases hz
        refine ⟨cs, rfl, hl, fun l fl => ⟨rfl, ?_⟩⟩
        have nl : l ≠ r := fun e => by rw [e, hr1] at fl; cases fl
        have kp1 : Kp r H0 (upd (upd H0 l (.lst (wV (wds cs)))) r (.ins R dx (rdF l 0))) := fun b o hb e => by
          rw [upd_ne hb, upd_ne (ne_of_none e fl)]; exact e
        have at1 : RdAt R (upd (upd H0 l (.lst (wV (wds cs)))) r (.ins R dx (rdF l 0))) r l (wds cs) 0 := ⟨⟨dx, upd_same⟩, by rw [upd_ne nl]; exact upd_same⟩
        generalize upd (upd H0 l (.lst (wV (wds cs)))) r (.ins R dx (rdF l 0)) = H1 at kp1 at1 ⊢
        have ht1 : Tabs (tabT B0 B1 B2) H1 := Lw.Tabs.kpI (ht.ext s0) hr1 kp1
        generalize wds cs = ws at *
        have no : ∀ {n : Nat} {m : Str}, m ≠ "_words" → m ≠ "_row" → m ≠ "_at" → (rdF l n).lookup m = none := fun h1 h2 h3 => rdF_no l _ h1 h2 h3
        have up : ∀ {H2 H3 : Hp}, KpN r H1 H2 → Same H2 H3 → ExtN H H3 := fun k s => (extn_of s0 hr0 (KpN.up kp1 k)).trans (ExtN.of s)
        -- behind the words
        have fin : ∀ (q : Addr) (H2 : Hp) (n : Nat), KpN r H1 H2 → Tabs (tabT B0 B1 B2) H2 → H2 q = some (.lst (szV ws (if ws[0]? = some [45] then 0 else n))) → RdAt R H2 r l ws n → n ≤ ws.length → (ws[0]? = some [45] → n = 1) → (ws[0]? ≠ some [45] → n = lead ws) →
            tSeq (tDrop (tMeth R (Str.ofString "finish") (spRfi R D) [] E (tVar 2) tNil)) (tRet (tStatic CC (spCof CC DM) [] E (tVar 0) (tCons (tVar 3) tNil))) { nx := fun _ H' => Q .non H', rt := Q } [some (.ref CC), some (.str (S cs)), some (.ref r), some (.ref q)] H2 := fun q H2 n k2 t2 hq at2 hn e1 e2 => by
          obtain ⟨⟨dx2, hr2⟩, hl2⟩ := id at2
          refine ⟨_, rfl, r, dx2, _, rfl, hr2, no (by decide +kernel) (by decide +kernel) (by decide +kernel), r, l, ws, n, rfl, at2, fun hlt d fs H3 s3 hd f1 f2 => ?_, fun hge => ?_⟩
          · by_cases c : ws[0]? = some [45]
            · have e := e1 c
              subst e
              have eo : outW ws = .bad 1 := by unfold outW; rw [if_pos c, if_neg (by omega)]
              rw [eo] at h
              exact h d fs H3 (up k2 s3) (t2.ext s3) hd f1 f2
            · have e := e2 c
              subst e
              have eo : outW ws = .bad (lead ws) := by unfold outW; rw [if_neg c, if_pos (by omega)]
              rw [eo] at h
              exact h d fs H3 (up k2 s3) (t2.ext s3) hd f1 f2
          · have en : n = ws.length := by omega
            by_cases c : ws[0]? = some [45]
            · rw [if_pos c] at hq
              have eo : outW ws = .sz [] := by unfold outW; rw [if_pos c, if_pos (by rw [← en]; exact e1 c)]
              rw [eo] at h
              refine ⟨_, rfl, rfl, _, rfl, q, [], rfl, .inl hq, ⟨fun v hv => (by cases hv), by decide⟩, fun h5 c H3 s3 fc hc => ?_, fun h5 => absurd h5 (by decide)⟩
              exact h c H3 (up k2 s3) (t2.ext s3) hc ⟨fun v hv => (by cases hv), by decide⟩ (by decide)
            · rw [if_neg c] at hq
              have el : ws.length = lead ws := by rw [← en]; exact e2 c
              rw [sz_math (by omega), List.take_of_length_le (by omega)] at hq
              have ok : SzOk (ws.map szI) := ⟨fun v hv => szI_ok (ws := ws) (n := ws.length) (by omega) v (by rw [List.take_of_length_le (Nat.le_refl _)]; exact hv), by rw [List.length_map]; exact wo.2.1⟩
              refine ⟨_, rfl, rfl, _, rfl, q, ws.map szI, rfl, .inl hq, ok, fun h5 c' H3 s3 fc hc => ?_, fun h5 d fs H3 s3 hd f1 f2 => ?_⟩
              · rw [List.length_map] at h5
                have eo : outW ws = .sz (ws.map szI) := by unfold outW; rw [if_neg c, if_neg (by omega), if_pos h5]
                rw [eo] at h
                exact h c' H3 (up k2 s3) (t2.ext s3) hc ok (by rw [List.length_map]; exact h5)
              · rw [List.length_map] at h5
                have eo : outW ws = .many := by unfold outW; rw [if_neg c, if_neg (by omega), if_neg (by omega)]
                rw [eo] at h
                exact h d fs H3 (up k2 s3) (t2.ext s3) hd f1 f2
        refine ⟨_, rfl, r, l, ws, rfl, at1, wo, ht1, fun c q H2 k2 t2 hq a2 => fin q H2 1 k2 t2 (by rw [if_pos c]; exact hq) a2 ?_ (fun _ => rfl) (fun n => absurd c n), fun c => ⟨fun q H2 k2 t2 hq a2 => fin q H2 (lead ws) k2 t2 (by rw [if_neg c]; exact hq) a2 (lead_le ws) (fun n => absurd n c) (fun _ => rfl), fun hlt d fs H2 k2 t2 hd f1 f2 => ?_⟩⟩
        · cases ws with
          | nil => cases c
          | cons a b => simp
        · have eo : outW ws = .bad (lead ws) := by unfold outW; rw [if_neg c, if_pos hlt]
          rw [eo] at h
          exact h d fs H2 (up k2 (Same.refl _)) t2 hd f1 f2
end
end Lw
namespace Lw
open PySem PySem.Spec PyProof.Rows L2
open SX PySem.NumText TL LamX ClX
abbrev sHea : Stmt := top 30
/-- the caught errors' classes -/
structure HrdC (K : PySem.W.Frag) (D : Addr) (f1 f2 : Str) : Prop where
  xf : XfC K D
  n1 : PySem.W.findIn K (.ref D) f1 = some none
  n2 : PySem.W.findIn K (.ref D) f2 = some none
  xc : Hx.XCls K D
  me : PySem.W.kitOne K (.ref D) (.ref D) = some true
structure Hrd (K : PySem.W.Frag) (mg : Str → Option Value) (D DM L : Addr) : Prop where
  T : HrdC K D "line" "word"
  M : HrdC K DM "what" "most"
  tm : PySem.W.kitOne K (.ref D) (.ref DM) = some false
  mt : PySem.W.kitOne K (.ref DM) (.ref D) = some false
  ml : mg "LateError" = some (.ref L)
  md : mg "BadText" = some (.ref D)
  mm : mg "TooMany" = some (.ref DM)
  xT : PySem.W.exmOne K (.ref D) (.ref L) = some true
  xM : PySem.W.exmOne K (.ref DM) (.ref L) = some true
def hdT (l n : Int) : List V := [.str (Str.ofString "text"), .str (Str.ofString (toString l)), .str (Str.ofString (toString n))]
/-- what is heard of an exception -/
def HeardX (D DM : Addr) (Q : VK) (cls : Value) (d : Option Addr) (H1 : Hp) : Prop :=
  (cls = .ref D ∧ ∃ (dd : Addr) (fs : List (Str × V)) (l n : Int), d = some dd ∧ H1 dd = some (.xd fs) ∧ fs.lookup ("line" : Str) = some (.int l) ∧ fs.lookup ("word" : Str) = some (.int n) ∧ l.natAbs.log2 < 1920 ∧ n.natAbs.log2 < 1920 ∧ ∀ t H3, Same H1 H3 → H1 t = none → H3 t = some (.tup (hdT l n)) → Q (.ref t) H3) ∨
  (cls = .ref DM ∧ ∃ (dd : Addr) (fs : List (Str × V)) (w m : V), d = some dd ∧ H1 dd = some (.xd fs) ∧ fs.lookup ("what" : Str) = some w ∧ fs.lookup ("most" : Str) = some m ∧ ∀ t H3, Same H1 H3 → H1 t = none → H3 t = some (.tup [.str (Str.ofString "many"), w, m]) → Q (.ref t) H3)
def HeardV (Q : VK) (x : V) (H1 : Hp) : Prop := ∀ t H3, Same H1 H3 → H1 t = none → H3 t = some (.lst [x]) → Q (.ref t) H3
def TTheard (D DM : Addr) : (XK → Hp → VK → Prop) → Hp → VK → Prop := fun tl H Q => ∀ H2, Same H H2 → tl (HeardX D DM Q) H2 (HeardV Q)
abbrev NHea : List Str := ["_law_ask", "_law_caught", "_law_found", "error"]
theorem scHea : FnScope NHea ["_law_ask"] (C8.fnScope sHea) := C8.fnScope_by (by decide +kernel)
theorem pe_weak {X : Cx} {e : Expr} {te : TE} (he : PE X e te) : PE X e (fun σ H Q => ∃ Qx : VK, te σ H Qx ∧ ∀ x H1, Qx x H1 → Q x H1) :=
  ⟨fun pins s σ H Q I ⟨Qx, h, m⟩ => wpAny_mono (he.run pins s σ H Qx I h) (fun v s' ⟨x, H', I', r, q⟩ => ⟨x, H', I', r, m _ _ q⟩) (fun _ _ e => e)⟩
theorem heard_gives {X : Cx} {q : Str} {g D DM L : Addr} {cdg : Value} (R : Hrd X.K X.mg D DM L) (T : Txt X.mg) (hr0 : Room 1 X.A) :
    GivesTo X NHea "_law_heard" (C8.fnScope sHea) g cdg (C8.fnBody sHea) "_law_ask" q (TTheard D DM) := by
  intro f c' s H Q tl act hc h
  have hr : Room 0 (cxOf C8.CX0 X.prog X.w X.K X.mg X.base NHea "_law_heard" (C8.fnScope sHea) g cdg X.A X.stack s H C8.E0).nox.A := hr0.deeper _
  refine ⟨_, pss_cons (ps_asg (pe_tup (pa_cons pe_non (pa_cons pe_non pa_nil))) (pg_tup rfl (pgs_cons (pg_name (i := 1) scHea.nd rfl (Or.inl rfl)) (pgs_cons (pg_name (i := 2) scHea.nd rfl (Or.inl rfl)) pgs_nil))))
    (pss_cons (ps_try_held (X := (cxOf C8.CX0 X.prog X.w X.K X.mg X.base NHea "_law_heard" (C8.fnScope sHea) g cdg X.A X.stack s H C8.E0).nox) (c := .ref L) (i := 3)
      (tb := fun W Dn σ H => ∃ Ech : XK, (∀ cls d σ' H', Ech cls d H' → W cls d σ' H') ∧ σ[0]? = some (some (.ref f)) ∧ H c' = some (CodeO c' q) ∧ ∃ Qx : VK, tl Ech H Qx ∧ ∀ x H1, Qx x H1 → Dn.nx (σ.set 2 (some x)) H1)
      rfl rfl scHea.nd rfl (by rfl) ⟨by rfl, by decide, .inl R.ml⟩ rfl (fun W pn xe tk _ => ?_) (fun a oe cls d pn _ _ => pss_one (ps_set (i := 1) scHea.nd rfl (Or.inl rfl) (pv 3))))
    (pss_cons (ps_if (pt_cmpR op_isN (pv 1) pe_non (nomark _)) (pss_one (ps_ret (pe_lst (pa_cons (pv 2) pa_nil)))) pss_nil)
    (pss_cons (ps_if (PW.pt (pw_and (pt_val (pe_callB call_isw (by rfl) T.n_isinstance (by decide +kernel) (pa_cons (pv 1) (pa_cons (pe_glob (v := .ref D) (by rfl) R.md rfl) pa_nil)))) (pw_and1 (pt_not (pt_val (pe_callB call_isw (by rfl) T.n_isinstance (by decide +kernel) (pa_cons (pv 1) (pa_cons (pe_glob (v := .ref DM) (by rfl) R.mm rfl) pa_nil))))))))
      (pss_one (ps_ret (pe_tup (pa_cons pe_str (pa_cons (pe_callB SkE.call_repr_int (by rfl) T.n_repr (by decide +kernel) (pa_cons (pe_held R.T.xf R.T.n1 (pv 1)) pa_nil)) (pa_cons (pe_callB SkE.call_repr_int (by rfl) T.n_repr (by decide +kernel) (pa_cons (pe_held R.T.xf R.T.n2 (pv 1)) pa_nil)) pa_nil)))))) pss_nil)
    (pss_one (ps_ret (pe_ifExp (pt_val (pe_callB call_isw (by rfl) T.n_isinstance (by decide +kernel) (pa_cons (pv 1) (pa_cons (pe_glob (v := .ref DM) (by rfl) R.mm rfl) pa_nil))))
      (pe_tup (pa_cons pe_str (pa_cons (pe_held R.M.xf R.M.n1 (pv 1)) (pa_cons (pe_held R.M.xf R.M.n2 (pv 1)) pa_nil))))
      (pe_tup (pa_cons pe_str pa_nil)))))))), ?_⟩
  · refine ⟨fun pins s' σ H' Dn I h' => ?_⟩
    obtain ⟨Ech, hW, h1, h2, h3⟩ := h'
    obtain ⟨Qx, h3, h4⟩ := h3
    refine PSs.run (t := tAsg (fun σ H Q => ∃ Qx : VK, (fun σZ HZ Q => σZ[0]? = some (some (V.ref f)) ∧ HZ c' = some (CodeO c' q) ∧ tl Ech HZ Q) σ H Qx ∧ ∀ x H1, Qx x H1 → Q x H1) (gName 2)) ?hp pins s' σ H' Dn I ⟨Qx, ⟨h1, h2, h3⟩, h4⟩
    case hp => exact pss_one (ps_set (i := 2) scHea.nd rfl (Or.inl rfl) (pe_weak (act W pn xe Ech _ _ tk hW)))
  · refine ⟨(by show 2 ≤ sizeLine; decide), fun tt ft0 => ⟨tt, _, rfl, SqT.of upd_same, rfl, _, _, rfl, _, _, rfl, rfl, ?_⟩⟩
    have s0 := same_new (o := HO.tup [V.non, V.non]) ft0
    have hc0 := s0 _ _ hc
    have h0 := h _ s0
    refine ⟨HeardX D DM Q, fun cls d σ' H' z => ?_, rfl, hc0, ?_⟩
    · intro hl
      obtain ⟨x0, x1, x2, x3, rfl⟩ : ∃ x0 x1 x2 x3, σ' = [x0, x1, x2, x3] := by
        match σ', hl with
        | [x0, x1, x2, x3], _ => exact ⟨x0, x1, x2, x3, rfl⟩
      rcases z with ⟨rfl, dd, fs, l, w, rfl, e1, f1, f2, g1, g2, go⟩ | ⟨rfl, dd, fs, w, m, rfl, e1, f1, f2, go⟩
      · refine ⟨R.xT, fun a na => ⟨_, rfl, fun na' => ?_⟩⟩
        have dx : dd ≠ a := fun e => by rw [e, na] at e1; cases e1
        have s1 : Same H' (upd H' a (ExO a (.ref D) (some dd))) := same_new na
        refine ⟨_, rfl, rfl, _, rfl, iteF ?_⟩
        refine ⟨_, rfl, _, .ref D, .ref D, .ref D, true, rfl, .own D, .held upd_same (s1 _ _ e1) R.T.xc, R.T.me, _, rfl, iteT ?_⟩
        refine ⟨_, rfl, _, .ref DM, .ref D, .ref DM, false, rfl, .own DM, .held upd_same (s1 _ _ e1) R.T.xc, R.tm, _, rfl, iteT ?_⟩
        refine ⟨_, rfl, a, dd, _, _, rfl, upd_same, s1 _ _ e1, f1, l, rfl, g1, _, rfl, a, dd, _, _, rfl, upd_same, s1 _ _ e1, f2, w, rfl, g2, (by show 3 ≤ sizeLine; decide), fun t ft => ?_⟩
        exact go t _ (s1.trans (same_new ft)) (s1.free ft) upd_same
      · refine ⟨R.xM, fun a na => ⟨_, rfl, fun na' => ?_⟩⟩
        have dx : dd ≠ a := fun e => by rw [e, na] at e1; cases e1
        have s1 : Same H' (upd H' a (ExO a (.ref DM) (some dd))) := same_new na
        refine ⟨_, rfl, rfl, _, rfl, iteF ?_⟩
        refine ⟨_, rfl, _, .ref D, .ref DM, .ref D, false, rfl, .own D, .held upd_same (s1 _ _ e1) R.M.xc, R.mt, _, rfl, iteF ?_⟩
        refine ⟨_, rfl, _, .ref DM, .ref DM, .ref DM, true, rfl, .own DM, .held upd_same (s1 _ _ e1) R.M.xc, R.M.me, _, rfl, iteT ?_⟩
        refine ⟨_, rfl, a, dd, _, _, rfl, upd_same, s1 _ _ e1, f1, _, rfl, a, dd, _, _, rfl, upd_same, s1 _ _ e1, f2, (by show 3 ≤ sizeLine; decide), fun t ft => ?_⟩
        exact go t _ (s1.trans (same_new ft)) (s1.free ft) upd_same
    · refine ⟨_, h0, ?_⟩
      rintro x H1 go
      refine ⟨_, rfl, rfl, _, rfl, iteT ?_⟩
      refine ⟨_, rfl, (by show 1 ≤ sizeLine; decide), fun t ft => ?_⟩
      exact go t _ (same_new ft) ft upd_same
end Lw
namespace Lw
open PySem PySem.Spec PyProof.Rows L2
open SX PySem.NumText TL LamX
abbrev sLsz : Stmt := top 31
abbrev sLis : Stmt := top 32
abbrev sLdu : Stmt := top 33
abbrev sLbe : Stmt := top 34
def SzB (ns : List Int) : Prop := ∀ v ∈ ns, 1 ≤ v ∧ v ≤ 10 ^ 30
def some8 : List V := [V.int 1, V.int 1, V.int 2, V.int 3, V.int 5, V.int 8, V.int ((10 : Int) ^ (30 : Int).toNat), V.int ((10 : Int) ^ (30 : Int).toNat - 7)]
theorem some9 {r : Int} (h0 : 0 ≤ r) (h1 : r < 1000) {v : V} (h : v ∈ some8 ++ [V.int (1 + r)]) : ∃ x, v = V.int x ∧ 1 ≤ x ∧ x ≤ 10 ^ 30 := by
  have e : ((10 : Int) ^ 30) = 1000000000000000000000000000000 := by decide +kernel
  rcases List.mem_append.mp h with h | h
  · unfold some8 at h
    simp only [List.mem_cons, List.not_mem_nil, or_false] at h
    rcases h with rfl | rfl | rfl | rfl | rfl | rfl | rfl | rfl
    · exact ⟨_, rfl, by decide, by rw [e]; decide⟩
    · exact ⟨_, rfl, by decide, by rw [e]; decide⟩
    · exact ⟨_, rfl, by decide, by rw [e]; decide⟩
    · exact ⟨_, rfl, by decide, by rw [e]; decide⟩
    · exact ⟨_, rfl, by decide, by rw [e]; decide⟩
    · exact ⟨_, rfl, by decide, by rw [e]; decide⟩
    · exact ⟨_, rfl, by decide +kernel, by decide +kernel⟩
    · exact ⟨_, rfl, by decide +kernel, by decide +kernel⟩
  · rw [List.mem_singleton] at h
    exact ⟨_, h, by omega, by rw [e]; omega⟩
def spLsz : Sp := fun vs H Q _ => ∃ (p pl : Addr) (n : Nat) (m : Int), vs = [.ref p, .int m] ∧ 0 ≤ m ∧ m ≤ 100 ∧ Pen H p pl n ∧ n ≤ 900000 ∧
  ∀ l ns H', SzB ns → (ns.length : Int) ≤ m → H' l = some (.lst (ns.map V.int)) → H l = none → Pen H' p pl (n + 301) → Kp p H H' → Q (.ref l) H'
section
variable {P : Program} {w : World} {K : PySem.W.Frag} {mg : Str → Option Value} {base : Heap}
theorem scLsz : FnScope ["_law_pen_here", "_law_most", "_law_some", "_law_spot"] ["_law_pen_here", "_law_most"] (C8.fnScope sLsz) := C8.fnScope_by (by decide +kernel)
theorem cal_lsz {f : Addr} {fd : FuncData} (F : C8.Def K mg "_law_sizes" sLsz f fd) (b : Binds K fd ["_law_pen_here", "_law_most"] []) (T : Txt mg) (DD : C8.Cal P w K mg base 1 "_law_draw" spDraw []) (DP : C8.Cal P w K mg base 2 "_law_pick" (spPick K) []) : C8.Cal P w K mg base 3 "_law_sizes" spLsz [] := by
  refine C8.cal0 F b .nil scLsz (fun vs H Q E h => ?_) (fun cdv A outer st H vs Q E hr h => ?_)
  · obtain ⟨p, pl, n, m, rfl, _⟩ := h
    rfl
  · obtain ⟨p, pl, n, m, rfl, m0, m1, hp, hn, k⟩ := h
    refine ⟨_, (pss_cons (ps_set (i := 2) scLsz.nd rfl (Or.inr rfl) (pe_lst (pa_cons pe_int (pa_cons pe_int (pa_cons pe_int (pa_cons pe_int (pa_cons pe_int (pa_cons pe_int (pa_cons (pe_op op_pow pe_int pe_int) (pa_cons (pe_op op_sub (pe_op op_pow pe_int pe_int) pe_int) pa_nil))))))))))
  (pss_one (ps_ret (pe_lc (own := [("_law_spot", 3)]) (g := gName 3) (tt := tYes) rfl scLsz.nd (pi_range1 (by rfl) T.n_range (pa_cons (C8.pe_c DD hr (by decide) (by rfl) (pa_cons (pv 0) (pa_cons (pe_op op_add (pv 1) pe_int) pa_nil))) pa_nil)) (blkOk_by (own := [("_law_spot", 3)]) (N := ["_law_pen_here", "_law_most", "_law_some", "_law_spot"]) (sc := (C8.fnScope sLsz)) (by decide +kernel)) (fun _ _ _ _ _ => pg_name (i := 3) scLsz.nd rfl (Or.inl rfl)) (fun _ _ _ _ _ => pts_nil) (fun _ _ _ _ _ => (C8.pe_c DP hr (by decide) (by rfl) (pa_cons (pv 0) (pa_cons (pe_op op_cat (pv 2) (pe_lst (pa_cons (pe_op op_add pe_int (C8.pe_c DD hr (by decide) (by rfl) (pa_cons (pv 0) (pa_cons pe_int pa_nil)))) pa_nil))) pa_nil)))))))), ?_⟩
    refine ⟨_, _, rfl, rfl, (by unfold CPow; decide), _, _, rfl, rfl, (by unfold CPow; decide), _, _, rfl, rfl, (by show 8 ≤ sizeLine; decide), fun q fq => ?_⟩
    generalize hL : upd H q _ = H1
    have s1 : Same H H1 := by rw [← hL]; exact same_new fq
    have hq1 : H1 q = some (.lst some8) := by rw [← hL]; exact upd_same
    clear hL
    have qp : q ≠ p := hp.ne_new fq
    dsimp only [gName, tSeq]
    refine ⟨_, rfl, _, rfl, _, _, rfl, rfl, p, pl, n, m + 1, rfl, by omega, by omega, hp.keep s1, by omega, fun r H2 r0 r1 hp2 k2 => ?_⟩
    refine ⟨r, rfl, by omega, by omega, fun D hD => ?_⟩
    have Dp := hp2.ne_new hD
    have Dl := hp2.ne_new2 hD
    have kD : Kp p H (upd H2 D (.lst [])) := ((Kp.of s1).trans k2).trans (.of (same_new hD))
    have qD : q ≠ D := fun e => by rw [← e, k2 _ _ qp hq1] at hD; cases hD
    have fD : H D = none := by
      cases e : H D with
      | none => rfl
      | some o => rw [k2 _ _ Dp (s1 _ _ e)] at hD; cases hD
    refine lc_range (lo := 0) (n := r.toNat) (fun i H' => Pen H' p pl (n + 1 + 2 * i) ∧ Kp p H H' ∧ H' q = some (.lst some8) ∧ ∃ ns, SzB ns ∧ ns.length = i ∧ H' D = some (.lst (ns.map V.int))) ⟨hp2.keep (same_new hD), kD, same_new hD _ _ (k2 _ _ qp hq1), [], (fun v hv => by cases hv), rfl, upd_same⟩ (fun i H' hi ⟨hpi, ki, hqi, ns, sb, ln, hd⟩ => ?_) (fun H' ⟨hpi, ki, hqi, ns, sb, ln, hd⟩ => ?_)
    · refine ⟨rfl, ?_⟩
      dsimp only [tYes]
      rw [if_pos rfl]
      refine ⟨_, rfl, _, rfl, _, rfl, p, pl, _, 1000, rfl, by decide, by decide, hpi, by omega, fun r2 H3 r20 r21 hp3 k3 => ?_⟩
      refine ⟨_, _, rfl, rfl, (by show 1 ≤ sizeLine; decide), fun q2 fq2 => ?_⟩
      have hq3 := k3 _ _ qp hqi
      have n12 : q ≠ q2 := fun e => by rw [← e, hq3] at fq2; cases fq2
      refine ⟨q, q2, _, _, rfl, rfl, by rw [upd_ne n12]; exact hq3, upd_same, (by show 8 + 1 ≤ sizeLine; decide), fun q3 fq3 => ?_⟩
      generalize hL : upd (upd H3 q2 _) q3 _ = H4
      have s4 : Same H3 H4 := by rw [← hL]; exact (same_new fq2).trans (same_new fq3)
      have hq4 : H4 q3 = some (.lst (some8 ++ [V.int (1 + r2)])) := by rw [← hL]; exact upd_same
      have f3 : H3 q3 = none := (same_new fq2).free fq3
      clear hL
      refine ⟨p, pl, q3, _, _, rfl, hp3.keep s4, by omega, SqL.of hq4, hp3.ne_new f3, (by show 0 < 9; decide), (by show 9 < 1000000; decide), fun j v H5 hj hp5 k5 => ?_⟩
      obtain ⟨x, rfl, x1, x2⟩ : ∃ x, v = V.int x ∧ 1 ≤ x ∧ x ≤ 10 ^ 30 := some9 r20 r21 (List.mem_of_getElem? hj)
      have hd5 := k5 _ _ Dp (s4 _ _ (k3 _ _ Dp hd))
      refine ⟨_, hd5, ?_, (hp5.more (by omega)).over Dp Dl, fun b o hb e => ?_, ?_, ns ++ [x], fun v hv => ?_, ?_, ?_⟩
      · rw [List.length_map, ln]
        exact Nat.lt_of_lt_of_le (show i < 101 by omega) (by decide)
      · rw [upd_ne (ne_of_none e fD)]
        exact k5 _ _ hb (s4 _ _ (k3 _ _ hb (ki _ _ hb e)))
      · rw [upd_ne qD]
        exact k5 _ _ qp (s4 _ _ (k3 _ _ qp hqi))
      · rcases List.mem_append.mp hv with hv | hv
        · exact sb v hv
        · rw [List.mem_singleton.mp hv]; exact ⟨x1, x2⟩
      · rw [List.length_append, ln]; rfl
      · rw [upd_same, List.map_append]; rfl
    · exact k D ns H' sb (by rw [ln]; omega) hd fD (hpi.more (by omega)) ki
end
end Lw
namespace Lw
open PySem PySem.Spec PyProof.Rows L2
open SX PySem.NumText TL LamX
theorem num_dig (n : Nat) : digB (numL n) = true := by
  unfold digB
  rw [Bool.and_eq_true]
  refine ⟨?_, List.all_eq_true.mpr fun c hc => ?_⟩
  · cases e : numL n with
    | nil => exact absurd e (numL_ne n)
    | cons c r => rfl
  · have := numL_digits n c hc
    rw [Bool.and_eq_true, decide_eq_true_eq, decide_eq_true_eq]
    exact this
theorem figs_num (n : Nat) : figs (numL n) = numL n := by
  cases e : numL n with
  | nil => rfl
  | cons c r =>
    have := numL_digits n c (by rw [e]; exact List.mem_cons_self)
    exact figs_other r (by omega)
theorem num_48 {n : Nat} (h : (numL n).head? = some 48) : n = 0 := by
  refine Classical.byContradiction fun z => ?_
  obtain ⟨c, r, e, hc⟩ := num_head n (by omega)
  rw [e] at h
  have := Option.some.inj h
  omega
theorem intOf_intL (i : Int) : intOf (intL i) = some i := by
  unfold intL
  by_cases h : i < 0
  · rw [if_pos h]
    unfold intOf
    rw [figs_minus, if_pos (num_dig _), if_neg (fun z => ?_), if_pos (show (45 :: numL i.natAbs).head? = some 45 from rfl), numL_val]
    · exact congrArg some (by omega)
    · have := num_48 z.1
      omega
  · rw [if_neg h]
    unfold intOf
    rw [figs_num, if_pos (num_dig _), if_neg (fun z => ?_), if_neg (fun z => ?_), numL_val]
    · exact congrArg some (by omega)
    · cases e : numL i.natAbs with
      | nil => exact absurd e (numL_ne _)
      | cons c r =>
        have := numL_digits i.natAbs c (by rw [e]; exact List.mem_cons_self)
        rw [e] at z
        have := Option.some.inj z
        omega
    · have e := num_48 z.1
      rw [e] at z
      exact z.2 rfl

theorem at0 {v : V} {xs : List V} : atI (v :: xs) 0 = some v := atI_nat (j := 0) rfl
theorem at1 {v u : V} {xs : List V} : atI (v :: u :: xs) 1 = some u := atI_nat (j := 1) rfl
/-! ### words -/
theorem wds_one {cs : List Nat} (h : 32 ∉ cs) : wds cs = [cs] := spl_last1 h
theorem wds_cut {a b : List Nat} (h : 32 ∉ a) : wds (a ++ 32 :: b) = a :: wds b := spl_part1 (S := []) (acc := []) (rest := b) h
theorem wds_or (cs : List Nat) : (32 ∉ cs ∧ wds cs = [cs]) ∨ ∃ a b, cs = a ++ 32 :: b ∧ 32 ∉ a ∧ wds cs = a :: wds b := by
  by_cases h : 32 ∈ cs
  · obtain ⟨a, b, e, ha⟩ := List.eq_append_cons_of_mem h
    exact .inr ⟨a, b, e, ha, by rw [e]; exact wds_cut ha⟩
  · exact .inl ⟨h, wds_one h⟩
theorem wds_pos (cs : List Nat) : 0 < (wds cs).length := by
  rcases wds_or cs with ⟨_, e⟩ | ⟨a, b, _, _, e⟩ <;> rw [e] <;> simp
theorem wds_ne (cs : List Nat) : wds cs ≠ [] := fun e => by have := wds_pos cs; rw [e] at this; exact absurd this (by decide)
theorem wds_mem : ∀ (n : Nat) (cs : List Nat), cs.length = n → ∀ p ∈ wds cs, p.length ≤ cs.length ∧ ∀ c ∈ p, c ∈ cs := by
  intro n
  induction n using Nat.strongRecOn with
  | _ n ih =>
    intro cs hn p hp
    rcases wds_or cs with ⟨_, e⟩ | ⟨a, b, e0, _, e⟩
    · rw [e, List.mem_singleton] at hp
      subst hp
      exact ⟨Nat.le_refl _, fun c hc => hc⟩
    · rw [e] at hp
      rcases List.mem_cons.mp hp with rfl | hp
      · rw [e0]
        exact ⟨by rw [List.length_append]; omega, fun c hc => List.mem_append_left _ hc⟩
      · have hb : b.length < n := by rw [← hn, e0, List.length_append, List.length_cons]; omega
        obtain ⟨h1, h2⟩ := ih b.length hb b rfl p hp
        exact ⟨by rw [e0, List.length_append, List.length_cons]; omega, fun c hc => by rw [e0]; exact List.mem_append_right _ (List.mem_cons_of_mem _ (h2 c hc))⟩
theorem wds_len (cs : List Nat) : (wds cs).length ≤ cs.length + 1 := by
  obtain ⟨n, hn⟩ : ∃ n, n = cs.length := ⟨_, rfl⟩
  induction n using Nat.strongRecOn generalizing cs with
  | _ n ih =>
    rcases wds_or cs with ⟨_, e⟩ | ⟨a, b, e0, _, e⟩
    · rw [e]; simp
    · have hb : b.length < n := by rw [hn, e0, List.length_append, List.length_cons]; omega
      have := ih b.length hb b rfl
      rw [e, List.length_cons, e0, List.length_append, List.length_cons]
      omega
theorem ws_ok {cs : List Nat} (h : ∀ c ∈ cs, c < 128) (l : cs.length ≤ 5000) : WsOk (wds cs) :=
  ⟨wds_ne cs, Nat.le_trans (wds_len cs) (by omega), fun w hw => by
    obtain ⟨h1, h2⟩ := wds_mem _ cs rfl w hw
    exact ⟨fun c hc => h c (h2 c hc), by omega⟩⟩
theorem wds_join {ws : List (List Nat)} (ne : ws ≠ []) (h : ∀ w ∈ ws, 32 ∉ w) : wds (joinL [32] ws) = ws := TL.spl_join ne h
theorem joinL_len {m : Nat} : ∀ {ws : List (List Nat)}, (∀ w ∈ ws, w.length ≤ m) → (joinL [32] ws).length ≤ ws.length * (m + 1)
  | [], _ => by show 0 ≤ _; omega
  | [p], h => by
    have := h p List.mem_cons_self
    show p.length ≤ 1 * (m + 1)
    omega
  | p :: q :: r, h => by
    have h1 := h p List.mem_cons_self
    have h2 := joinL_len (ws := q :: r) fun w hw => h w (List.mem_cons_of_mem _ hw)
    show (p ++ ([32] ++ joinL [32] (q :: r))).length ≤ ((q :: r).length + 1) * (m + 1)
    rw [List.length_append, List.length_append, Nat.add_mul]
    have : ([32] : List Nat).length = 1 := rfl
    omega
theorem joinL_mem : ∀ {ws : List (List Nat)} {c : Nat}, c ∈ joinL [32] ws → c = 32 ∨ ∃ w ∈ ws, c ∈ w
  | [], c, h => by cases h
  | [p], c, h => .inr ⟨p, List.mem_cons_self, h⟩
  | p :: q :: r, c, h => by
    have h' : c ∈ p ++ ([32] ++ joinL [32] (q :: r)) := h
    rcases List.mem_append.mp h' with h | h
    · exact .inr ⟨p, List.mem_cons_self, h⟩
    · rcases List.mem_append.mp h with h | h
      · exact .inl (List.mem_singleton.mp h)
      · rcases joinL_mem h with h | ⟨w, hw, h⟩
        · exact .inl h
        · exact .inr ⟨w, List.mem_cons_of_mem _ hw, h⟩
/-! ### sizes -/
theorem szO_eq (cs : List Nat) : szO cs = match intOf cs with
  | some i => if 1 ≤ i ∧ i ≤ 10 ^ 30 then some i else none
  | none => none := by
  unfold szO numV
  show (match intOf (S cs).cps.toList with | some i => _ | none => none) = _
  rw [show (S cs).cps.toList = cs by simp [S]]
theorem val_zero : ∀ {r : List Nat}, AllDigits r → digitsVal r = 0 → r = List.replicate r.length 48
  | [], _, _ => rfl
  | c :: r, h, e => by
    have hc := h c List.mem_cons_self
    have e1 : digitsVal ([c] ++ r) = digitsVal [c] * 10 ^ r.length + digitsVal r := val_app [c] r
    have e2 : digitsVal [c] = c - 48 := by show 0 * 10 + (c - 48) = _; omega
    have e3 : digitsVal ([c] ++ r) = 0 := e
    rw [e3, e2] at e1
    have hp : 0 < 10 ^ r.length := Nat.pow_pos (by decide)
    have h1 : c - 48 = 0 := by
      refine Classical.byContradiction fun z => ?_
      have : 1 * 10 ^ r.length ≤ (c - 48) * 10 ^ r.length := Nat.mul_le_mul_right _ (by omega)
      omega
    rw [h1, Nat.zero_mul] at e1
    have ih := val_zero (fun d hd => h d (List.mem_cons_of_mem _ hd)) (show digitsVal r = 0 by omega)
    have c48 : c = 48 := by omega
    rw [List.length_cons, List.replicate_succ, ← ih, c48]
theorem figs_self {cs : List Nat} (h : cs.head? ≠ some 45) : figs cs = cs := by
  cases cs with
  | nil => rfl
  | cons c r => exact figs_other r fun e => h (by rw [e]; rfl)
theorem big31 {c : Nat} {r : List Nat} (h : 49 ≤ c) : 10 ^ r.length ≤ digitsVal (c :: r) ∧ digitsVal (c :: r) = (c - 48) * 10 ^ r.length + digitsVal r := by
  have e1 : digitsVal ([c] ++ r) = digitsVal [c] * 10 ^ r.length + digitsVal r := val_app [c] r
  have e2 : digitsVal [c] = c - 48 := by show 0 * 10 + (c - 48) = _; omega
  rw [e2] at e1
  have : 1 * 10 ^ r.length ≤ (c - 48) * 10 ^ r.length := Nat.mul_le_mul_right _ (by omega)
  exact ⟨by show _ ≤ digitsVal ([c] ++ r); omega, e1⟩
def SzL (cs : List Nat) : Prop := cs ≠ [] ∧ AllDigits cs ∧ cs.head? ≠ some 48 ∧ (cs.length < 31 ∨ cs = 49 :: List.replicate 30 48)
theorem ten30 : ((10 : Int) ^ 30) = ((10 ^ 30 : Nat) : Int) := by decide +kernel
theorem sz_some {cs : List Nat} (h : SzL cs) : szO cs = some ((digitsVal cs : Nat) : Int) := by
  obtain ⟨ne, hd, h48, hl⟩ := h
  obtain ⟨c, r, rfl⟩ : ∃ c r, cs = c :: r := by
    cases cs with
    | nil => exact absurd rfl ne
    | cons c r => exact ⟨c, r, rfl⟩
  have hc := hd c List.mem_cons_self
  have c48 : c ≠ 48 := fun e => h48 (by rw [e]; rfl)
  have h45 : (c :: r).head? ≠ some 45 := fun e => by have := Option.some.inj e; omega
  have hdB : digB (c :: r) = true := by
    unfold digB
    rw [Bool.and_eq_true]
    refine ⟨rfl, List.all_eq_true.mpr fun d hd' => ?_⟩
    have := hd d hd'
    rw [Bool.and_eq_true, decide_eq_true_eq, decide_eq_true_eq]
    exact this
  have e : intOf (c :: r) = some ((digitsVal (c :: r) : Nat) : Int) := by
    unfold intOf
    rw [figs_self h45, if_pos hdB, if_neg (fun z => h48 z.1), if_neg h45]
  rw [szO_eq, e]
  have hpos : 0 < digitsVal (c :: r) := digitsVal_pos (by omega)
  refine if_pos ⟨by omega, ?_⟩
  rw [ten30]
  have hle : digitsVal (c :: r) ≤ 10 ^ 30 := by
    rcases hl with hl | hl
    · have h1 := val_lt _ hd
      exact Nat.le_trans (Nat.le_of_lt h1) (Nat.pow_le_pow_right (by decide) (by omega))
    · rw [hl]; decide +kernel
  omega
theorem sz_iff (cs : List Nat) : (szO cs).isSome = true ↔ SzL cs := by
  constructor
  · intro h
    rw [szO_eq] at h
    cases hi : intOf cs with
    | none => rw [hi] at h; cases h
    | some i =>
      rw [hi] at h
      dsimp only at h
      split at h
      · rename_i hb
        unfold intOf at hi
        split at hi
        · rename_i hd
          split at hi
          · cases hi
          · rename_i h48
            split at hi
            · cases hi
              have := hb.1
              omega
            · rename_i h45
              cases hi
              rw [figs_self h45] at hd h48 hb
              obtain ⟨hall, ne⟩ := digB_all hd
              obtain ⟨c, r, rfl⟩ : ∃ c r, cs = c :: r := by
                cases cs with
                | nil => exact absurd rfl ne
                | cons c r => exact ⟨c, r, rfl⟩
              have hc := hall c List.mem_cons_self
              have n48 : (c :: r).head? ≠ some 48 := fun e => by
                have e1 : c :: r = [48] := Classical.byContradiction fun z => h48 ⟨e, z⟩
                rw [e1] at hb
                exact absurd hb.1 (by decide)
              have c49 : 49 ≤ c := by
                have : c ≠ 48 := fun e => n48 (by rw [e]; rfl)
                omega
              refine ⟨ne, hall, n48, ?_⟩
              obtain ⟨b1, b2⟩ := big31 (r := r) c49
              have hle : digitsVal (c :: r) ≤ 10 ^ 30 := by
                have := hb.2
                rw [ten30] at this
                omega
              by_cases hl : (c :: r).length < 31
              · exact .inl hl
              · rw [List.length_cons] at hl
                have l1 : r.length < 31 := Classical.byContradiction fun z => by
                  have : 10 ^ 31 ≤ 10 ^ r.length := Nat.pow_le_pow_right (by decide) (by omega)
                  have : (10 : Nat) ^ 31 ≤ 10 ^ 30 := Nat.le_trans this (Nat.le_trans b1 hle)
                  exact absurd this (by decide)
                have l2 : r.length = 30 := by omega
                rw [l2] at b1 b2
                have c1 : c = 49 := by
                  refine Classical.byContradiction fun z => ?_
                  have : 2 * 10 ^ 30 ≤ (c - 48) * 10 ^ 30 := Nat.mul_le_mul_right _ (by omega)
                  have p : 0 < 10 ^ 30 := by decide
                  omega
                subst c1
                have hz : digitsVal r = 0 := by
                  have : (49 - 48) * 10 ^ 30 = 10 ^ 30 := by decide
                  omega
                refine .inr ?_
                rw [val_zero (fun d hd => hall d (List.mem_cons_of_mem _ hd)) hz, l2]
        · cases hi
      · cases h
  · intro h
    rw [sz_some h]; rfl
theorem szO_intL {n : Int} (h1 : 1 ≤ n) (h2 : n ≤ 10 ^ 30) : szO (intL n) = some n := by
  rw [szO_eq, intOf_intL]
  exact if_pos ⟨h1, h2⟩
theorem intL_chars {n : Int} {c : Nat} (h : c ∈ intL n) : c = 45 ∨ (48 ≤ c ∧ c ≤ 57) := by
  unfold intL at h
  split at h
  · rcases List.mem_cons.mp h with h | h
    · exact .inl h
    · exact .inr (numL_digits _ _ h)
  · exact .inr (numL_digits _ _ h)
end Lw
namespace Lw
open PySem PySem.Spec PyProof.Rows L2
open SX PySem.NumText TL LamX
def figures : List Nat := [48, 49, 50, 51, 52, 53, 54, 55, 56, 57]
theorem fig_iff (c : Nat) : decide (c ∈ figures) = (decide (48 ≤ c) && decide (c ≤ 57)) := by
  rw [← Bool.decide_and]
  refine decide_eq_decide.mpr ?_
  simp only [figures, List.mem_cons, List.not_mem_nil, or_false]
  omega
def spLis : Sp := fun vs H Q _ => ∃ cs : List Nat, vs = [.str (S cs)] ∧ (∀ c ∈ cs, c < 128) ∧ cs.length ≤ 1000 ∧ ∀ H', Same H H' → Q (.bl (szO cs).isSome) H'
section
variable {P : Program} {w : World} {K : PySem.W.Frag} {mg : Str → Option Value} {base : Heap}
theorem scLis : FnScope ["_law_word", "_law_sign"] ["_law_word"] (C8.fnScope sLis) := C8.fnScope_by (by decide +kernel)
theorem cal_lis {f : Addr} {fd : FuncData} (F : C8.Def K mg "_law_is_size" sLis f fd) (b : Binds K fd ["_law_word"] []) (T : Txt mg) : C8.Cal P w K mg base 1 "_law_is_size" spLis [] := by
  refine C8.cal0 F b .nil scLis (fun vs H Q E h => ?_) (fun cdv A outer st H vs Q E hr h => ?_)
  · obtain ⟨cs, rfl, _⟩ := h
    rfl
  · obtain ⟨cs, rfl, h128, hlen, k⟩ := h
    refine ⟨_, (pss_cons (ps_if (PW.pt (pw_or (pt_cmpR op_eq (pv 0) pe_str (nomark _)) (pw_or (pt_cmpR (op_neD hr.units) (pe_lc (own := [("_law_sign", 1)]) (g := gName 1) rfl scLis.nd (pi_str (pv 0)) (blkOk_by (own := [("_law_sign", 1)]) (N := ["_law_word", "_law_sign"]) (sc := (C8.fnScope sLis)) (by decide +kernel)) (fun _ _ _ _ _ => pg_name (i := 1) scLis.nd rfl (Or.inl rfl)) (fun _ _ _ _ _ => pts_one (pt_cmpR op_notIn_sign (pv 1) pe_str (by rfl))) (fun _ _ _ _ _ => (pv 1))) (pe_lst pa_nil) (nomark _)) (pw_or1 (pt_cmpR op_eq (pe_ix ix_str (pv 0) pe_int (fun _ _ => rfl)) pe_str (nomark _)))))) (pss_one (ps_ret pe_bl)) pss_nil)
  (pss_one (ps_ret (L2.pe_or (pe_cmpR op_lt (pe_callB call_len_str (by rfl) T.n_len (by decide +kernel) (pa_cons (pv 0) pa_nil)) pe_int (nomark _)) (pe_one (pe_cmpR op_eq (pv 0) (pe_op op_add_str pe_str (pe_op op_mulS pe_str pe_int)) (nomark _))))))), ?_⟩
    have hl : (S cs).length ≤ sizeLine := by rw [S_len]; exact Nat.le_trans hlen (by decide)
    have no : ∀ H', Same H H' → ¬ SzL cs → Q (.bl false) H' := fun H' s n => by
      have := k H' s
      rw [show (szO cs).isSome = false from Bool.eq_false_iff.mpr fun e => n ((sz_iff cs).mp e)] at this
      exact this
    dsimp only [tSeq]
    refine join_any (fun σ' H' => Same H H' ∧ σ' = [some (V.str (S cs)), none] ∧ cs ≠ [] ∧ AllDigits cs ∧ cs.head? ≠ some 48) ?rest (fun go => ?_)
    case rest =>
      rintro σ' H' ⟨s1, rfl, c1, c2, c3⟩
      refine ⟨_, rfl, S cs, rfl, hl, _, _, rfl, rfl, _, rfl, ?_⟩
      rw [S_len]
      have kk : ∀ b : Bool, (b = true ↔ (cs.length < 31 ∨ cs = 49 :: List.replicate 30 48)) → Q (.bl b) H' := fun b e => by
        have e2 : b = (szO cs).isSome := by
          rw [Bool.eq_iff_iff, sz_iff, e]
          exact ⟨fun h => ⟨c1, c2, c3, h⟩, fun h => h.2.2.2⟩
        rw [e2]
        exact k H' s1
      refine ite2 (fun c => ?_) (fun c => ?_)
      · refine kk _ ⟨fun _ => .inl ?_, fun _ => rfl⟩
        have := of_decide_eq_true c
        omega
      · refine ⟨_, rfl, [48], 30, rfl, rfl, by decide, by decide, by decide, _, _, rfl, rfl, ?_, rfl, ?_⟩
        · rw [S_len]; decide
        · have c' : ¬ ((cs.length : Int) < 31) := of_decide_eq_false (Bool.eq_false_iff.mpr c)
          rw [show Str.ofString "1" = S [49] from rfl, S_cat]
          refine kk _ ?_
          rw [decide_eq_true_eq]
          refine ⟨fun e => .inr (S_inj (V.str.inj e)), fun e => ?_⟩
          rcases e with e | e
          · omega
          · rw [e]; rfl
    refine ⟨_, rfl, rfl, _, rfl, ite2 (fun c0 => ?_) (fun c0 => ?_)⟩
    · refine iteT (no _ (Same.refl _) fun z => z.1 ?_)
      exact S_inj (V.str.inj (of_decide_eq_true c0))
    · have hne : cs ≠ [] := fun e => c0 (by rw [e]; rfl)
      refine ⟨_, rfl, S cs, rfl, fun D hD => lc_text (fun c => [some (.str (S cs)), some (.str ⟨#[c]⟩)]) (fun c => !decide (c ∈ figures)) (fun c => .str ⟨#[c]⟩) (fun _ _ _ h => h) (fun _ => rfl)
        (fun c _ _ h => ⟨_, rfl, c, _, rfl, rfl, _, rfl, h⟩) (fun c _ _ _ h => ⟨_, rfl, h⟩) (by show cs.toArray.size ≤ _; simp; omega) ?_⟩
      refine ⟨(by show 0 ≤ sizeLine; decide), fun q hq => ?_⟩
      have sD := same_new (o := HO.lst ((cs.filter fun c => !decide (c ∈ figures)).map fun c => V.str ⟨#[c]⟩)) hD
      have nq : D ≠ q := fun e => by rw [← e, upd_same] at hq; cases hq
      have okc : ∀ c ∈ (cs.filter fun c => !decide (c ∈ figures)), c < 1114112 := fun c hc => Nat.lt_trans (h128 c (List.mem_filter.mp hc).1) (by decide)
      refine ⟨_, _, .lst (SqL.of ?_) (dp_signs _), .lst (SqL.of upd_same) .nil, shaped_signs _ okc, rfl, _, rfl, ?_⟩
      · rw [upd_ne nq, upd_same]
      · rw [eqv_signs, filt_nil]
        have s3 := sD.trans (same_new (o := HO.lst []) hq)
        cases hd : cs.all fun c => decide (c ∈ figures) with
        | false =>
          refine iteT (iteT (no _ s3 fun z => ?_))
          have : (cs.all fun c => decide (c ∈ figures)) = true := List.all_eq_true.mpr fun c hc => by
            rw [fig_iff, Bool.and_eq_true, decide_eq_true_eq, decide_eq_true_eq]
            exact z.2.1 c hc
          rw [this] at hd; cases hd
        | true =>
          have hall : AllDigits cs := fun c hc => by
            have := List.all_eq_true.mp hd c hc
            rw [fig_iff, Bool.and_eq_true, decide_eq_true_eq, decide_eq_true_eq] at this
            exact this
          refine iteF ?_
          obtain ⟨c, r, rfl⟩ : ∃ c r, cs = c :: r := by
            cases cs with
            | nil => exact absurd rfl hne
            | cons c r => exact ⟨c, r, rfl⟩
          refine ⟨_, rfl, S (c :: r), 0, c, rfl, rfl, hl, atI_nat (j := 0) (by simp [S]), rfl, _, rfl, ite2 (fun c2 => ?_) (fun c2 => ?_)⟩
          · refine no _ s3 fun z => z.2.2.1 ?_
            have e : V.str (S [c]) = V.str (S [48]) := of_decide_eq_true c2
            have e2 := (List.cons.inj (S_inj (V.str.inj e))).1
            rw [e2]; rfl
          · refine go _ _ ⟨s3, rfl, hne, hall, fun e => c2 ?_⟩
            have e2 : c = 48 := Option.some.inj e
            rw [e2]; rfl
end
end Lw
namespace Lw
open PySem PySem.Spec PyProof.Rows L2
open SX PySem.NumText TL LamX
/-- what the law takes as due -/
def DuR (H : Hp) (Q : VK) : Out → Prop
  | .sz ns => ∀ l t H', Same H H' → H l = none → H' l = some (.lst [.ref t]) → H' t = some (.tup (ns.map V.int)) → Q (.ref l) H'
  | .bad n => ∀ t H', Same H H' → H t = none → H' t = some (.tup [.str (Str.ofString "text"), .str (Str.ofString "0"), .str (Str.ofString (toString (n : Int)))]) → Q (.ref t) H'
  | .many => False
def spLdu : Sp := fun vs H Q _ => ∃ cs : List Nat, vs = [.str (S cs)] ∧ (∀ c ∈ cs, c < 128) ∧ cs.length ≤ 900 ∧ DuR H Q (outW (wds cs))
section
variable {P : Program} {w : World} {K : PySem.W.Frag} {mg : Str → Option Value} {base : Heap}
theorem scLdu : FnScope ["_law_text", "_law_words", "_law_spot", "_law_word"] ["_law_text"] (C8.fnScope sLdu) := C8.fnScope_by (by decide +kernel)
theorem cal_ldu {f : Addr} {fd : FuncData} (F : C8.Def K mg "_law_due" sLdu f fd) (b : Binds K fd ["_law_text"] []) (T : Txt mg) (htu : mg "tuple" = none) (DZ : C8.Cal P w K mg base 1 "_law_is_size" spLis []) : C8.Cal P w K mg base 2 "_law_due" spLdu [] := by
  refine C8.cal0 F b .nil scLdu (fun vs H Q E h => ?_) (fun cdv A outer st H vs Q E hr h => ?_)
  · obtain ⟨cs, rfl, _⟩ := h
    rfl
  · obtain ⟨cs, rfl, h128, hlen, k⟩ := h
    refine ⟨_, (pss_cons (ps_set (i := 1) scLdu.nd rfl (Or.inl rfl) (pe_split (pv 0) pe_str))
  (pss_cons (ps_if (pt_cmpR op_eq (pe_ix ix_list (pv 1) pe_int (fun _ _ => rfl)) pe_str (nomark _)) (pss_one (ps_ret (pe_ifExp (pt_cmpR op_eq (pe_callB call_len_seq (by rfl) T.n_len (by decide +kernel) (pa_cons (pv 1) pa_nil)) pe_int (nomark _)) (pe_lst (pa_cons (pe_tup pa_nil) pa_nil)) (pe_tup (pa_cons pe_str (pa_cons pe_str (pa_cons pe_str pa_nil))))))) pss_nil)
  (pss_cons (ps_for PassesOwn.never rfl (pi_range1 (by rfl) T.n_range (pa_cons (pe_callB call_len_seq (by rfl) T.n_len (by decide +kernel) (pa_cons (pv 1) pa_nil)) pa_nil)) (pg_name (i := 2) scLdu.nd rfl (Or.inl rfl)) (pss_one (ps_if (pt_not (pt_val (C8.pe_c DZ hr (by decide) (by rfl) (pa_cons (pe_ix ix_list (pv 1) (pv 2) (fun _ _ => rfl)) pa_nil)))) (pss_one (ps_ret (pe_tup (pa_cons pe_str (pa_cons pe_str (pa_cons (pe_callB SkE.call_repr_int (by rfl) T.n_repr (by decide +kernel) (pa_cons (pv 2) pa_nil)) pa_nil)))))) pss_nil)))
  (pss_one (ps_ret (pe_lst (pa_cons (pe_callTy call_tuple_of (by rfl) htu (by decide +kernel) (pa_cons (pe_lc (own := [("_law_word", 3)]) (g := gName 3) (tt := tYes) rfl scLdu.nd (pi_list (pv 1)) (blkOk_by (own := [("_law_word", 3)]) (N := ["_law_text", "_law_words", "_law_spot", "_law_word"]) (sc := (C8.fnScope sLdu)) (by decide +kernel)) (fun _ _ _ _ _ => pg_name (i := 3) scLdu.nd rfl (Or.inl rfl)) (fun _ _ _ _ _ => pts_nil) (fun _ _ _ _ _ => (pe_callTy call_int_str (by rfl) T.n_int (by decide +kernel) (pa_cons (pv 3) pa_nil)))) pa_nil)) pa_nil))))))), ?_⟩
    have hs : (S cs).length + 2 ≤ sizeLine := by rw [S_len]; exact Nat.le_trans (Nat.add_le_add_right hlen 2) (by decide)
    refine ⟨_, rfl, ⟨_, rfl⟩, _, _, rfl, rfl, by rfl, hs, fun l fl => ?_⟩
    rw [split_wds]
    have s1 : Same H (upd H l (.lst (wV (wds cs)))) := same_new fl
    have hl1 : upd H l (.lst (wV (wds cs))) l = some (.lst (wV (wds cs))) := upd_same
    have wl := wds_len cs
    have wm := wds_mem _ cs rfl
    have wn := wds_pos cs
    change gName _ _ _ (upd H l (.lst (wV (wds cs)))) _
    generalize upd H l (.lst (wV (wds cs))) = H1 at s1 hl1 ⊢
    generalize wds cs = ws at *
    have hlv : (wV ws).length = ws.length := by unfold wV; rw [List.length_map, List.length_map]
    have getw : ∀ {i : Nat}, i < ws.length → (wV ws)[i]? = some (.str (S (ws[i]?.getD []))) := fun {i} h => by unfold wV; simp [h]
    dsimp only [gName, tSeq]
    have h0 := getw wn
    refine ⟨_, rfl, l, _, 0, _, rfl, rfl, SqL.of hl1, atI_nat (j := 0) h0, rfl, _, rfl, ite2 (fun c => ?_) (fun c => ?_)⟩
    · have e45 : ws[0]? = some [45] := by
        have e := S_inj (V.str.inj (of_decide_eq_true c))
        have : ws[0]? = some (ws[0]?.getD []) := by simp [wn]
        rw [this]; exact congrArg some e
      refine ⟨_, rfl, l, _, rfl, .inl (SqL.of hl1), rfl, _, rfl, ite2 (fun c1 => ?_) (fun c1 => ?_)⟩
      · have lw : ws.length = 1 := by
          have := V.int.inj (of_decide_eq_true c1)
          rw [hlv] at this
          omega
        have eo : outW ws = .sz [] := by unfold outW; rw [if_pos e45, if_pos lw]
        rw [eo] at k
        refine ⟨(by show 0 ≤ sizeLine; decide), fun t ft => ⟨(by show 1 ≤ sizeLine; decide), fun l2 fl2 => ?_⟩⟩
        have nt : t ≠ l2 := fun e => by rw [← e, upd_same] at fl2; cases fl2
        exact k l2 t _ ((s1.trans (same_new ft)).trans (same_new fl2)) ((s1.trans (same_new ft)).free fl2) upd_same (by rw [upd_ne nt]; exact upd_same)
      · have lw : ws.length ≠ 1 := fun e => c1 (decide_eq_true (by rw [hlv, e]; rfl))
        have eo : outW ws = .bad 1 := by unfold outW; rw [if_pos e45, if_neg lw]
        rw [eo] at k
        refine ⟨(by show 3 ≤ sizeLine; decide), fun t ft => ?_⟩
        exact k t _ (s1.trans (same_new ft)) (s1.free ft) (by rw [upd_same]; rfl)
    · have n45 : ws[0]? ≠ some [45] := fun e => c (decide_eq_true (by rw [e]; rfl))
      dsimp only [tNext, tSeq]
      refine ⟨_, rfl, l, _, rfl, .inl (SqL.of hl1), _, rfl, by rw [hlv]; omega, by rw [hlv]; omega, for_range (n := (wV ws).length) (fun i σ' H' => ∃ v, σ' = [some (.str (S cs)), some (.ref l), v, none] ∧ Same H1 H' ∧ i ≤ lead ws) ⟨_, rfl, Same.refl _, Nat.zero_le _⟩ ?_ ?_⟩
      · rintro i σ' H' hi ⟨v, rfl, s2, il⟩
        rw [hlv] at hi
        have hw : ws[i]? = some (ws[i]?.getD []) := by simp [hi]
        have hg := getw hi
        generalize ws[i]?.getD [] = wd at hw hg
        obtain ⟨m1, m2⟩ := wm wd (List.mem_of_getElem? hw)
        refine ⟨_, rfl, _, rfl, l, _, _, _, rfl, rfl, SqL.of (s2 _ _ hl1), (by rw [Int.zero_add]; exact atI_nat hg), wd, rfl, fun c hc => h128 c (m2 c hc), by omega, fun H2 s3 => ⟨_, rfl, ?_⟩⟩
        cases hz : (szO wd).isSome with
        | false =>
          have ei : i = lead ws := Classical.byContradiction fun z => by
            obtain ⟨w', v', h1, h2⟩ := lead_lt (ws := ws) (i := i) (by omega)
            rw [hw] at h1
            cases h1
            rw [h2] at hz
            cases hz
          have eo : outW ws = .bad (lead ws) := by unfold outW; rw [if_neg n45, if_pos (by omega)]
          rw [eo, ← ei] at k
          refine iteT ⟨_, rfl, 0 + (i : Int), rfl, ?_, (by show 3 ≤ sizeLine; decide), fun t ft => ?_⟩
          · rw [Int.zero_add, Int.natAbs_natCast]
            exact Nat.lt_of_le_of_lt (Nat.log2_le_self i) (by omega)
          · exact k t _ (((s1.trans s2).trans s3).trans (same_new ft)) (((s1.trans s2).trans s3).free ft) (by rw [upd_same, Int.zero_add])
        | true =>
          refine iteF ⟨_, rfl, s2.trans s3, ?_⟩
          refine Classical.byContradiction fun z => ?_
          have ei : i = lead ws := by omega
          rw [ei] at hw
          rw [lead_at hw] at hz
          cases hz
      · rintro σ2 H2 ⟨v, rfl, s2, il⟩
        rw [hlv] at il
        have el : ws.length = lead ws := by have := lead_le ws; omega
        have eo : outW ws = .sz (ws.map szI) := by unfold outW; rw [if_neg n45, if_neg (by omega), if_pos (by omega)]
        rw [eo] at k
        have hl2 := s2 _ _ hl1
        refine ⟨_, rfl, l, rfl, ⟨_, SqL.of hl2⟩, fun D hD => ?_⟩
        refine lc_list (xs := wV ws) (fun i H3 => Same H2 H3 ∧ H3 D = some (.lst (((ws.take i).map szI).map V.int))) ⟨same_new hD, upd_same⟩ (fun i H3 _ h => SqL.of (h.1 _ _ hl2)) ?_ ?_
        · rintro i y H3 hy ⟨s3, yD⟩
          have hi : i < ws.length := by rw [← hlv]; exact (List.getElem?_eq_some_iff.mp hy).1
          have hw : ws[i]? = some (ws[i]?.getD []) := by simp [hi]
          rw [getw hi] at hy
          generalize ws[i]?.getD [] = wd at hw hy
          cases hy
          obtain ⟨w', v', h1, h2⟩ := lead_lt (ws := ws) (i := i) (by omega)
          rw [hw] at h1
          cases h1
          have hsz : SzL wd := (sz_iff wd).mp (by rw [h2]; rfl)
          have hv : szI wd = ((digitsVal wd : Nat) : Int) := by unfold szI; rw [sz_some hsz]; rfl
          have hlw : wd.length ≤ 31 := by
            rcases hsz.2.2.2 with h | h
            · omega
            · rw [h]; decide
          have it : PySem.intText? (S wd) = some ((digitsVal wd : Nat) : Int) := by
            have := intText_digits (x := S wd) (by simpa [S] using hsz.2.1) (by simpa [S] using hsz.1) (by rw [S_len]; omega)
            simpa [S] using this
          refine ⟨rfl, ?_⟩
          dsimp only [tYes]
          rw [if_pos rfl]
          refine ⟨_, rfl, S wd, _, rfl, it, by rw [S_len]; omega, _, yD, ?_, fun b o e => ?_, ?_⟩
          · rw [List.length_map, List.length_map]
            exact Nat.lt_of_le_of_lt (Nat.le_trans (List.length_take_le _ _) (show i ≤ 1000 by omega)) (by decide)
          · rw [upd_ne (ne_of_none e hD)]
            exact s3 _ _ e
          · rw [upd_same, List.take_add_one, hw, List.map_append, List.map_append, ← hv]; rfl
        · rintro H3 ⟨s3, yD⟩
          rw [List.take_of_length_le (by rw [hlv]; exact Nat.le_refl _)] at yD
          refine ⟨D, _, rfl, .inl ⟨SqL.of yD, fun t ft => ⟨(by show 1 ≤ sizeLine; decide), fun l2 fl2 => ?_⟩⟩⟩
          have nt : t ≠ l2 := fun e => by rw [← e, upd_same] at fl2; cases fl2
          have sA := ((s1.trans s2).trans s3).trans (same_new (o := HO.tup ((ws.map szI).map V.int)) ft)
          exact k l2 t _ (sA.trans (same_new fl2)) (sA.free fl2) upd_same (by rw [upd_ne nt]; exact upd_same)
end
end Lw
namespace Lw
open PySem PySem.Spec PyProof.Rows L2
open SX PySem.NumText TL LamX
def WdB (ws : List (List Nat)) : Prop := ws ≠ [] ∧ ws.length ≤ 8 ∧ ∀ w ∈ ws, 32 ∉ w ∧ (∀ c ∈ w, c < 128) ∧ w.length ≤ 32
theorem cut_wV (ws : List (List Nat)) (lo hi : Option Int) : ∃ a, cutV (wV ws) lo hi = wV a ∧ (∀ w ∈ a, w ∈ ws) ∧ a.length ≤ ws.length := by
  refine ⟨(ws.drop (HT.sIx ws.length 0 lo)).take (HT.sIx ws.length ws.length hi - HT.sIx ws.length 0 lo), ?_, fun w hw => List.mem_of_mem_drop (List.mem_of_mem_take hw), ?_⟩
  · unfold cutV wV
    rw [List.length_map, List.length_map, List.map_take, List.map_take, List.map_drop, List.map_drop]
  · rw [List.length_take, List.length_drop]; omega
def some14 : List V := [V.str (Str.ofString "0"), V.str (Str.ofString "-"), V.str (Str.ofString ""), V.str (Str.ofString "07"), V.str (Str.ofString "+3"), V.str (Str.ofString "-2"), V.str (Str.ofString "x"), V.str (Str.ofString "3.0"),
  V.str (Str.ofString "1" ++ S (List.replicate (30 : Int).toNat [48]).flatten), V.str (Str.ofString "1" ++ S (List.replicate (29 : Int).toNat [48]).flatten ++ Str.ofString "1"), V.str (Str.ofString "1" ++ S (List.replicate (31 : Int).toNat [48]).flatten), V.str (Str.ofString "12"), V.str (Str.ofString "5\n"), V.str (Str.ofString "1_0")]
def WB (a : List (List Nat)) : Prop := ∀ w ∈ a, (∀ c ∈ w, c < 128) ∧ w.length ≤ 32
theorem some14_ok {v : V} (h : v ∈ some14) : ∃ w, v = V.str (S w) ∧ (∀ c ∈ w, c < 128) ∧ w.length ≤ 32 := by
  unfold some14 at h
  simp only [List.mem_cons, List.not_mem_nil, or_false] at h
  rcases h with rfl | rfl | rfl | rfl | rfl | rfl | rfl | rfl | rfl | rfl | rfl | rfl | rfl | rfl
  · exact ⟨[48], rfl, by decide, by decide⟩
  · exact ⟨[45], rfl, by decide, by decide⟩
  · exact ⟨[], rfl, by decide, by decide⟩
  · exact ⟨[48, 55], rfl, by decide, by decide⟩
  · exact ⟨[43, 51], rfl, by decide, by decide⟩
  · exact ⟨[45, 50], rfl, by decide, by decide⟩
  · exact ⟨[120], rfl, by decide, by decide⟩
  · exact ⟨[51, 46, 48], rfl, by decide, by decide⟩
  · exact ⟨[49] ++ (List.replicate (30 : Int).toNat [48]).flatten, congrArg V.str (S_cat [49] _), by decide +kernel, by decide +kernel⟩
  · exact ⟨[49] ++ (List.replicate (29 : Int).toNat [48]).flatten ++ [49], congrArg V.str (by rw [show Str.ofString "1" = S [49] from rfl, S_cat, S_cat]), by decide +kernel, by decide +kernel⟩
  · exact ⟨[49] ++ (List.replicate (31 : Int).toNat [48]).flatten, congrArg V.str (S_cat [49] _), by decide +kernel, by decide +kernel⟩
  · exact ⟨[49, 50], rfl, by decide, by decide⟩
  · exact ⟨[53, 10], rfl, by decide, by decide⟩
  · exact ⟨[49, 95, 48], rfl, by decide, by decide⟩
def spLbe : Sp := fun vs H Q _ => ∃ (p pl : Addr) (n : Nat) (ws : List (List Nat)), vs = [.ref p, .str (S (joinL [32] ws))] ∧ WdB ws ∧ Pen H p pl n ∧ n ≤ 900000 ∧
  ∀ (ds : List Nat) (H' : Hp), (∀ c ∈ ds, c < 128) → ds.length ≤ 600 → Pen H' p pl (n + 3) → Kp p H H' → Q (.str (S ds)) H'
section
variable {P : Program} {w : World} {K : PySem.W.Frag} {mg : Str → Option Value} {base : Heap}
theorem scLbe : FnScope ["_law_pen_here", "_law_text", "_law_some", "_law_words", "_law_way", "_law_spot", "_law_word"] ["_law_pen_here", "_law_text"] (C8.fnScope sLbe) := C8.fnScope_by (by decide +kernel)
theorem cal_lbe {f : Addr} {fd : FuncData} (F : C8.Def K mg "_law_bent" sLbe f fd) (b : Binds K fd ["_law_pen_here", "_law_text"] []) (T : Txt mg) (DD : C8.Cal P w K mg base 1 "_law_draw" spDraw []) (DP : C8.Cal P w K mg base 2 "_law_pick" (spPick K) []) : C8.Cal P w K mg base 3 "_law_bent" spLbe [] := by
  refine C8.cal0 F b .nil scLbe (fun vs H Q E h => ?_) (fun cdv A outer st H vs Q E hr h => ?_)
  · obtain ⟨p, pl, n, ws, rfl, _⟩ := h
    rfl
  · obtain ⟨p, pl, n, ws, rfl, ⟨ne, lw, wb⟩, hp, hn, k⟩ := h
    refine ⟨_, (pss_cons (ps_par (i := 3) (j := 4) rfl scLbe.nd rfl rfl (by decide) rfl rfl (pa_cons (pe_split (pv 1) pe_str) (pa_cons (C8.pe_c DD hr (by decide) (by rfl) (pa_cons (pv 0) (pa_cons pe_int pa_nil))) pa_nil)) (by rfl))
  (pss_cons (ps_set (i := 2) scLbe.nd rfl (Or.inl rfl) (pe_lst (pa_cons pe_str (pa_cons pe_str (pa_cons pe_str (pa_cons pe_str (pa_cons pe_str (pa_cons pe_str (pa_cons pe_str (pa_cons pe_str (pa_cons (pe_op op_add_str pe_str (pe_op op_mulS pe_str pe_int)) (pa_cons (pe_op op_add_str (pe_op op_add_str pe_str (pe_op op_mulS pe_str pe_int)) pe_str) (pa_cons (pe_op op_add_str pe_str (pe_op op_mulS pe_str pe_int)) (pa_cons pe_str (pa_cons pe_str (pa_cons pe_str pa_nil))))))))))))))))
  (pss_cons (ps_par (i := 5) (j := 6) rfl scLbe.nd rfl rfl (by decide) rfl rfl (pa_cons (C8.pe_c DD hr (by decide) (by rfl) (pa_cons (pv 0) (pa_cons (pe_callB call_len_seq (by rfl) T.n_len (by decide +kernel) (pa_cons (pv 3) pa_nil)) pa_nil))) (pa_cons (C8.pe_c DP hr (by decide) (by rfl) (pa_cons (pv 0) (pa_cons (pv 2) pa_nil))) pa_nil)) (by rfl))
  (pss_cons (ps_if (pt_cmpR op_eq (pv 4) pe_int (nomark _)) (pss_one (ps_ret (pe_join pe_str (pe_op op_cat (pe_op op_cat (pe_slice sl_list (pv 3) po_none (po_some (pv 5))) (pe_lst (pa_cons (pv 6) pa_nil))) (pe_slice sl_list (pv 3) (po_some (pe_op op_add (pv 5) pe_int)) po_none))))) pss_nil)
  (pss_cons (ps_if (pt_cmpR op_eq (pv 4) pe_int (nomark _)) (pss_one (ps_ret (pe_join pe_str (pe_op op_cat (pe_op op_cat (pe_slice sl_list (pv 3) po_none (po_some (pv 5))) (pe_lst (pa_cons (pv 6) pa_nil))) (pe_slice sl_list (pv 3) (po_some (pv 5)) po_none))))) pss_nil)
  (pss_cons (ps_if (pt_cmpR op_eq (pv 4) pe_int (nomark _)) (pss_one (ps_ret (pe_join pe_str (pe_op op_cat (pe_slice sl_list (pv 3) po_none (po_some (pv 5))) (pe_slice sl_list (pv 3) (po_some (pe_op op_add (pv 5) pe_int)) po_none))))) pss_nil)
  (pss_one (ps_ret (pe_ifExp (pt_cmpR op_eq (pv 4) pe_int (nomark _)) (pe_op op_add_str (pv 1) pe_str) (pe_join pe_str (pe_op op_cat (pv 3) (pe_lst (pa_cons (pv 6) pa_nil))))))))))))), ?_⟩
    have jl : (joinL [32] ws).length ≤ 264 := by
      have h1 := joinL_len (ws := ws) (m := 32) fun w hw => (wb w hw).2.2
      have h2 : ws.length * (32 + 1) ≤ 8 * 33 := Nat.mul_le_mul_right _ lw
      omega
    have hs : (S (joinL [32] ws)).length + 2 ≤ sizeLine := by rw [S_len]; exact Nat.le_trans (Nat.add_le_add_right jl 2) (by decide)
    refine ⟨_, rfl, ⟨_, rfl⟩, _, _, rfl, rfl, by rfl, hs, fun l fl => ?_⟩
    rw [split_wds, wds_join ne fun w hw => (wb w hw).1]
    generalize hL : upd H l _ = H1
    have s1 : Same H H1 := by rw [← hL]; exact same_new fl
    have hl1 : H1 l = some (.lst (wV ws)) := by rw [← hL]; exact upd_same
    clear hL
    have lp : l ≠ p := hp.ne_new fl
    refine ⟨_, rfl, p, pl, n, 5, rfl, by decide, by decide, hp.keep s1, by omega, fun r1 H2 r10 r11 hp2 k2 => ⟨_, _, rfl, ?_⟩⟩
    have hl2 := k2 _ _ lp hl1
    dsimp only [gName, tSeq]
    refine ⟨[48], 30, rfl, rfl, by decide, by decide, by decide, _, _, rfl, rfl, by decide +kernel, [48], 29, rfl, rfl, by decide, by decide, by decide, _, _, rfl, rfl, by decide +kernel, _, _, rfl, rfl, by decide +kernel, [48], 31, rfl, rfl, by decide, by decide, by decide, _, _, rfl, rfl, by decide +kernel, (by show 14 ≤ sizeLine; decide), fun q fq => ?_⟩
    generalize hL : upd H2 q _ = H3
    have s3 : Same H2 H3 := by rw [← hL]; exact same_new fq
    have hq3 : H3 q = some (.lst some14) := by rw [← hL]; exact upd_same
    clear hL
    have qp : q ≠ p := hp2.ne_new fq
    have hlv : (wV ws).length = ws.length := by unfold wV; rw [List.length_map, List.length_map]
    have wpos : 0 < ws.length := by
      cases ws with
      | nil => exact absurd rfl ne
      | cons a b => simp
    refine ⟨_, rfl, _, rfl, l, _, rfl, .inl (SqL.of (s3 _ _ hl2)), p, pl, _, _, rfl, (by rw [hlv]; omega), (by rw [hlv]; omega), hp2.keep s3, by omega, fun r2 H4 r20 r21 hp4 k4 => ?_⟩
    refine ⟨_, rfl, _, rfl, p, pl, q, _, some14, rfl, hp4, by omega, SqL.of (k4 _ _ qp hq3), qp, (by show 0 < 14; decide), (by show 14 < 1000000; decide), fun j v H5 hj hp5 k5 => ⟨_, _, rfl, ?_⟩⟩
    obtain ⟨w, rfl, w1, w2⟩ := some14_ok (List.mem_of_getElem? hj)
    have hl5 := k5 _ _ lp (k4 _ _ lp (s3 _ _ hl2))
    have kp5 : Kp p H H5 := ((((Kp.of s1).trans k2).trans (.of s3)).trans k4).trans k5
    clear hq3 s3 k2 k4 k5 s1 hj hp2 hp4 hl1 hl2 fl fq
    have wW : WB ws := fun w hw => (wb w hw).2
    have fin : ∀ (a : List (List Nat)) (H' : Hp), Same H5 H' → WB a → a.length ≤ 17 → Q (.str (S (joinL [32] a))) H' := fun a H' s wa la => by
      refine k _ _ (fun c hc => ?_) ?_ (hp5.keep s) (kp5.trans (.of s))
      · rcases joinL_mem hc with rfl | ⟨w, hw, hc⟩
        · decide
        · exact (wa w hw).1 c hc
      · have h1 := joinL_len (ws := a) (m := 32) fun w hw => (wa w hw).2
        have h2 : a.length * (32 + 1) ≤ 17 * 33 := Nat.mul_le_mul_right _ la
        omega
    have jn : ∀ (c : Addr) (H' : Hp) (a : List (List Nat)) (xs : List V), xs = wV a → Same H5 H' → H' c = some (.lst xs) → WB a → a.length ≤ 17 →
        ∃ (s : Str) (p : Addr) (ys : List Str), V.str (Str.ofString " ") = .str s ∧ [V.ref c] = [V.ref p] ∧ (SqL K H' p (ys.map V.str) ∨ SqT K H' p (ys.map V.str)) ∧ (ys.map (·.length)).sum + ys.length * s.length ≤ 16777216 ∧ Q (.str (Txt.join s ys)) H' := fun c H' a xs ex s hc wa la => by
      subst ex
      refine ⟨_, c, a.map S, rfl, rfl, .inl (SqL.of hc), ?_, ?_⟩
      · have h1 := sum_le (xs := a) (m := 32) fun x hx => (wa x hx).2
        rw [List.length_map, show (Str.ofString " ").length = 1 from rfl]
        omega
      · rw [show (Str.ofString " ") = S [32] from rfl, join_S]
        exact fin a H' s wa la
    have wcat : ∀ {a b : List (List Nat)}, WB a → WB b → WB (a ++ b) := fun ha hb w hw => (List.mem_append.mp hw).elim (ha w) (hb w)
    have w1' : WB [w] := fun x hx => by rw [List.mem_singleton.mp hx]; exact ⟨w1, w2⟩
    have app : ∀ a b : List (List Nat), wV a ++ wV b = wV (a ++ b) := fun a b => by unfold wV; rw [List.map_append, List.map_append]
    have lV : ∀ a : List (List Nat), (wV a).length = a.length := fun a => by unfold wV; rw [List.length_map, List.length_map]
    obtain ⟨a1, eA, mA, lA⟩ := cut_wV ws none (some r2)
    obtain ⟨a2, eB, mB, lB⟩ := cut_wV ws (some (r2 + 1)) none
    obtain ⟨a3, eC, mC, lC⟩ := cut_wV ws (some r2) none
    have wA : WB a1 := fun x hx => wW x (mA x hx)
    have wB : WB a2 := fun x hx => wW x (mB x hx)
    have wC : WB a3 := fun x hx => wW x (mC x hx)
    have big : 100 ≤ sizeLine := by decide
    refine ⟨_, rfl, rfl, _, rfl, ite2 (fun c0 => ?_) (fun c0 => ?_)⟩
    · refine ⟨⟨_, rfl⟩, _, rfl, _, rfl, _, rfl, l, _, rfl, SqL.of hl5, fun c1 f1 => ?_⟩
      rw [eA]
      refine ⟨_, rfl, (by show 1 ≤ sizeLine; decide), fun c2 f2 => ⟨c1, c2, _, _, rfl, rfl, same_new f2 _ _ upd_same, upd_same, (by rw [lV]; show a1.length + 1 ≤ _; omega), fun c3 f3 => ?_⟩⟩
      have sx := ((same_new (o := HO.lst (wV a1)) f1).trans (same_new (o := HO.lst [V.str (S w)]) f2)).trans (same_new (o := HO.lst (wV a1 ++ [V.str (S w)])) f3)
      refine ⟨_, rfl, _, rfl, _, _, rfl, rfl, _, rfl, l, _, rfl, SqL.of (sx _ _ hl5), fun c4 f4 => ?_⟩
      rw [eB]
      refine ⟨c3, c4, _, _, rfl, rfl, same_new f4 _ _ upd_same, upd_same, (by rw [List.length_append, lV, lV]; show a1.length + 1 + a2.length ≤ _; omega), fun c5 f5 => ?_⟩
      exact jn c5 _ (a1 ++ [w] ++ a2) _ (by rw [← app, ← app]; rfl) ((sx.trans (same_new f4)).trans (same_new f5)) upd_same (wcat (wcat wA w1') wB) (by rw [List.length_append, List.length_append]; show a1.length + 1 + a2.length ≤ 17; omega)
    refine ⟨_, rfl, rfl, _, rfl, ite2 (fun c0 => ?_) (fun c0 => ?_)⟩
    · refine ⟨⟨_, rfl⟩, _, rfl, _, rfl, _, rfl, l, _, rfl, SqL.of hl5, fun c1 f1 => ?_⟩
      rw [eA]
      refine ⟨_, rfl, (by show 1 ≤ sizeLine; decide), fun c2 f2 => ⟨c1, c2, _, _, rfl, rfl, same_new f2 _ _ upd_same, upd_same, (by rw [lV]; show a1.length + 1 ≤ _; omega), fun c3 f3 => ?_⟩⟩
      have sx := ((same_new (o := HO.lst (wV a1)) f1).trans (same_new (o := HO.lst [V.str (S w)]) f2)).trans (same_new (o := HO.lst (wV a1 ++ [V.str (S w)])) f3)
      refine ⟨_, rfl, _, rfl, _, rfl, l, _, rfl, SqL.of (sx _ _ hl5), fun c4 f4 => ?_⟩
      rw [eC]
      refine ⟨c3, c4, _, _, rfl, rfl, same_new f4 _ _ upd_same, upd_same, (by rw [List.length_append, lV, lV]; show a1.length + 1 + a3.length ≤ _; omega), fun c5 f5 => ?_⟩
      exact jn c5 _ (a1 ++ [w] ++ a3) _ (by rw [← app, ← app]; rfl) ((sx.trans (same_new f4)).trans (same_new f5)) upd_same (wcat (wcat wA w1') wC) (by rw [List.length_append, List.length_append]; show a1.length + 1 + a3.length ≤ 17; omega)
    refine ⟨_, rfl, rfl, _, rfl, ite2 (fun c0 => ?_) (fun c0 => ?_)⟩
    · refine ⟨⟨_, rfl⟩, _, rfl, _, rfl, _, rfl, l, _, rfl, SqL.of hl5, fun c1 f1 => ?_⟩
      rw [eA]
      have sx := same_new (o := HO.lst (wV a1)) f1
      refine ⟨_, rfl, _, rfl, _, _, rfl, rfl, _, rfl, l, _, rfl, SqL.of (sx _ _ hl5), fun c4 f4 => ?_⟩
      rw [eB]
      refine ⟨c1, c4, _, _, rfl, rfl, same_new f4 _ _ upd_same, upd_same, (by rw [lV, lV]; omega), fun c5 f5 => ?_⟩
      exact jn c5 _ (a1 ++ a2) _ (by rw [← app]) ((sx.trans (same_new f4)).trans (same_new f5)) upd_same (wcat wA wB) (by rw [List.length_append]; omega)
    refine ⟨_, rfl, rfl, _, rfl, ite2 (fun c0 => ?_) (fun c0 => ?_)⟩
    · refine ⟨_, rfl, _, _, rfl, rfl, (by rw [S_len]; show (joinL [32] ws).length + 1 ≤ _; exact Nat.le_trans (Nat.add_le_add_right jl 1) (by decide)), ?_⟩
      rw [show (Str.ofString " ") = S [32] from rfl, S_cat]
      refine k _ _ (fun c hc => ?_) (by rw [List.length_append]; show _ + 1 ≤ _; omega) (hp5.keep (Same.refl _)) kp5
      rcases List.mem_append.mp hc with hc | hc
      · rcases joinL_mem hc with rfl | ⟨w, hw, hc⟩
        · decide
        · exact (wW w hw).1 c hc
      · rw [List.mem_singleton.mp hc]; decide
    · refine ⟨⟨_, rfl⟩, _, rfl, _, rfl, (by show 1 ≤ sizeLine; decide), fun c2 f2 => ?_⟩
      have sx := same_new (o := HO.lst [V.str (S w)]) f2
      refine ⟨l, c2, _, _, rfl, rfl, sx _ _ hl5, upd_same, (by rw [lV]; show ws.length + 1 ≤ _; omega), fun c5 f5 => ?_⟩
      exact jn c5 _ (ws ++ [w]) _ (by rw [← app]; rfl) (sx.trans (same_new f5)) upd_same (wcat wW w1') (by rw [List.length_append]; show ws.length + 1 ≤ 17; omega)
end
end Lw
namespace Lw
open PySem PySem.Spec PyProof.Rows L2
open SX PySem.NumText TL LamX ClX StX
abbrev sRig : Stmt := top 35
/-- Chunks.read, ready to be called -/
structure ChR (P : Program) (w : World) (K : PySem.W.Frag) (mg : Str → Option Value) (base : Heap) (CC D DM p g : Addr) (T : List (Addr × Str)) (mc : Value) (fd : FuncData) : Prop where
  r : CRead K CC mc
  c : CMet K CC mc "read" p g
  F : FnOk P w K mg base (L2.CX P w) 12 g fd ["cls", "text"] (spCrd K CC D DM T)
  b : Binds K fd ["cls", "text"] []
theorem ChR.R {P : Program} {w : World} {K : PySem.W.Frag} {mg : Str → Option Value} {base : Heap} {CC D DM p g : Addr} {T : List (Addr × Str)} {mc : Value} {fd : FuncData} (R : ChR P w K mg base CC D DM p g T mc fd) : FnR P w K mg base (L2.CX P w) 12 g (spCrd K CC D DM T) :=
  (FnOk.raw R.F R.b .nil).imp fun vs H Q E h => by rw [List.append_nil]; exact h
theorem ChAt.kp {CC : Addr} {H H' : Hp} {c p pl : Addr} {n : Nat} {ns : List Int} (h : ChAt CC H c ns) (hp : Pen H p pl n) (k : Kp p H H') : ChAt CC H' c ns := by
  obtain ⟨dx, q, t, e, r, h1, h2⟩ := h
  obtain ⟨xs, a, g, hh, _⟩ := hp
  exact ⟨dx, q, t, e, r, k _ _ (fun z => by rw [z, hh.at_] at h1; cases h1) h1, k _ _ (fun z => by rw [z, hh.at_] at h2; cases h2) h2⟩
/-- the words of the text of these sizes -/
def chWs : List Int → List (List Nat)
  | [] => [[45]]
  | n :: r => (n :: r).map intL
theorem chTx_ws (ns : List Int) : chTx ns = joinL [32] (chWs ns) := by cases ns <;> rfl
theorem chWs_ok {ns : List Int} (h : SzB ns) (l : ns.length ≤ 6) : WdB (chWs ns) := by
  cases ns with
  | nil => exact ⟨(fun e => by cases e), by decide, fun w hw => by rw [List.mem_singleton.mp hw]; exact ⟨by decide, by decide, by decide⟩⟩
  | cons n r =>
    refine ⟨(fun e => by cases e), by show ((n :: r).map intL).length ≤ 8; rw [List.length_map]; omega, fun w hw => ?_⟩
    obtain ⟨v, hv, rfl⟩ := List.mem_map.mp (show w ∈ (n :: r).map intL from hw)
    obtain ⟨v1, v2⟩ := h v hv
    have lv : v.natAbs ≤ 10 ^ 30 := by rw [ten30] at v2; omega
    refine ⟨fun z => ?_, fun c hc => ?_, intL_len2 lv⟩
    · have := intL_chars z; omega
    · have := intL_chars hc; omega
theorem wds_tx {ns : List Int} (h : SzB ns) (l : ns.length ≤ 6) : wds (chTx ns) = chWs ns := by
  obtain ⟨ne, _, wb⟩ := chWs_ok h l
  rw [chTx_ws]
  exact wds_join ne fun w hw => (wb w hw).1
theorem lead_all : ∀ {ns : List Int}, SzB ns → lead (ns.map intL) = ns.length ∧ (ns.map intL).map szI = ns
  | [], _ => ⟨rfl, rfl⟩
  | n :: r, h => by
    obtain ⟨h1, h2⟩ := h n List.mem_cons_self
    obtain ⟨e1, e2⟩ := lead_all (ns := r) fun v hv => h v (List.mem_cons_of_mem _ hv)
    have e := szO_intL h1 h2
    constructor
    · unfold lead
      rw [List.map_cons, List.takeWhile_cons, e]
      show ((intL n) :: _).length = _
      rw [List.length_cons, List.length_cons]
      exact congrArg (· + 1) e1
    · rw [List.map_cons, List.map_cons, e2]
      show szI (intL n) :: r = _
      unfold szI
      rw [e]; rfl
theorem out_tx {ns : List Int} (h : SzB ns) (l : ns.length ≤ 6) : outW (wds (chTx ns)) = .sz ns := by
  rw [wds_tx h l]
  cases ns with
  | nil => rfl
  | cons n r =>
    obtain ⟨e1, e2⟩ := lead_all h
    show outW ((n :: r).map intL) = _
    unfold outW
    rw [if_neg, if_neg, if_pos, e2]
    · rw [List.length_map]; omega
    · rw [e1, List.length_map]; omega
    · intro z
      have e : intL n = [45] := Option.some.inj z
      obtain ⟨h1, h2⟩ := h n List.mem_cons_self
      have := szO_intL h1 h2
      rw [e] at this
      rw [show szO [45] = none by decide +kernel] at this
      cases this
theorem out_few {ws : List (List Nat)} (h : ws.length ≤ 5000) : outW ws ≠ .many := by
  unfold outW
  split
  · split <;> exact fun e => by cases e
  · split
    · exact fun e => by cases e
    · exact fun e => by cases e
theorem tx_asc {ns : List Int} (h : SzB ns) (l : ns.length ≤ 6) : (∀ c ∈ chTx ns, c < 128) ∧ (chTx ns).length ≤ 264 := by
  obtain ⟨ne, l8, wb⟩ := chWs_ok h l
  rw [chTx_ws]
  refine ⟨fun c hc => ?_, ?_⟩
  · rcases joinL_mem hc with rfl | ⟨w, hw, hc⟩
    · decide
    · exact (wb w hw).2.1 c hc
  · have h1 := joinL_len (ws := chWs ns) (m := 32) fun w hw => (wb w hw).2.2
    have h2 : (chWs ns).length * (32 + 1) ≤ 8 * 33 := Nat.mul_le_mul_right _ l8
    omega
theorem outOf_txt {cs : List Nat} (h : ∀ c ∈ cs, c < 128) (l : cs.length ≤ 5000) : OutOf (.str (S cs)) (outW (wds cs)) := .inr ⟨cs, rfl, by omega, ws_ok h l, rfl⟩
theorem out_bad {ws : List (List Nat)} {n : Nat} (h : outW ws = .bad n) : n ≤ ws.length + 1 := by
  unfold outW at h
  split at h
  · split at h
    · cases h
    · cases h; omega
  · split at h
    · have := lead_le ws
      cases h; omega
    · split at h <;> cases h
theorem strOk_S {cs : List Nat} (h : ∀ c ∈ cs, c < 128) : PyData.canLay0 (.str (S cs)) = true := by
  show cs.toArray.all (· < 1114112) = true
  rw [List.all_toArray, List.all_eq_true]
  intro c hc
  exact decide_eq_true (Nat.lt_trans (h c hc) (by decide))
theorem strOk_int (i : Int) : PyData.canLay0 (.str (Str.ofString (toString i))) = true := by
  rw [str_int]
  exact strOk_S fun c hc => by have := intL_chars hc; omega
def pT (b c : Str) : PyData := .tuple [.str (Str.ofString "text"), .str b, .str c]
theorem dp_pT {K : PySem.W.Frag} {H : Hp} {t : Addr} {b c : Str} (h : H t = some (.tup [.str (Str.ofString "text"), .str b, .str c])) : Dp K H (.ref t) (pT b c) := .tup (SqT.of h) (.cons (.str _) (.cons (.str _) (.cons (.str _) .nil)))
theorem shaped_pT {b c : Str} (hb : PyData.canLay0 (.str b) = true) (hc : PyData.canLay0 (.str c) = true) : SeqAt.shaped (pT b c) = true := by
  unfold SeqAt.shaped pT
  have h1 : PyData.canLay0 (.tuple [.str (Str.ofString "text"), .str b, .str c]) = true := by
    show (PyData.canLay0 (.str (Str.ofString "text")) && (PyData.canLay0 (.str b) && (PyData.canLay0 (.str c) && true))) = true
    rw [hb, hc]; decide +kernel
  rw [h1]; rfl
theorem eqv_pT (b c : Str) : PyData.eqv (pT b c) (pT b c) = true := by simp [pT, PyData.eqv, PyData.eqvAll]
theorem ts0 : Str.ofString (toString (0 : Int)) = Str.ofString "0" := by decide +kernel
theorem shaped_ltints (ns : List Int) : SeqAt.shaped (.list [.tuple (ns.map PyData.int)]) = true := by
  unfold SeqAt.shaped
  have h1 : PyData.canLay0 (.list [.tuple (ns.map PyData.int)]) = true := by
    show (PyData.canLayAll0 (ns.map PyData.int) && true) = true
    rw [lays_ints]; rfl
  have h2 : PyData.depth (.list [.tuple (ns.map PyData.int)]) = 2 := by
    show max (PyData.depthAll (ns.map PyData.int) + 1) 0 + 1 = 2
    rw [depths_ints]; rfl
  rw [h1, h2]; rfl
theorem eqv_ltints (ns : List Int) : PyData.eqv (.list [.tuple (ns.map PyData.int)]) (.list [.tuple (ns.map PyData.int)]) = true := by
  show (PyData.eqvAll (ns.map PyData.int) (ns.map PyData.int) && true) = true
  rw [eqvs_ints]; simp
structure NoB (K : PySem.W.Frag) (C : Addr) : Prop where
  i : PySem.W.kitOne K (.ref C) (.type "int") = some false
  b : PySem.W.kitOne K (.ref C) (.type "bool") = some false
  s : PySem.W.kitOne K (.ref C) (.type "str") = some false
def spRig (T : List (Addr × Str)) : Sp := fun vs H Q _ => ∃ (p pl : Addr) (n : Nat), vs = [.ref p] ∧ Pen H p pl n ∧ n ≤ 100000 ∧ Tabs T H ∧ ∀ H', Pen H' p pl (n + 400) → Tabs T H' → Q (.bl true) H'
section
variable {P : Program} {w : World} {K : PySem.W.Frag} {mg : Str → Option Value} {base : Heap}
theorem scRig : FnScope ["_law_pen_here", "_law_sizes_here", "_law_made", "_law_text", "_law_turn", "_law_odd", "_law_bent_here", "_law_heard_here", "_law_due_here", "_law_size"] ["_law_pen_here"] (C8.fnScope sRig) := C8.fnScope_by (by decide +kernel)
theorem cal_rig {f c B0 B1 B2 CC D DM L gH pO gO pR gR fI : Addr} {mc : Value} {fd fdH fdO fdR : FuncData} (F : DefC K mg "_law_right" sRig f fd c) (b : Binds K fd ["_law_pen_here"] []) (FH : C8.Def K mg "_law_heard" sHea gH fdH) (bH : Binds K fdH ["_law_ask"] []) (TB : TabB base mg c B1) (nB : Apart3 B0 B1 B2)
    (R : Hrd K mg D DM L) (T : Txt mg) (htu : mg "tuple" = none) (CM : ChM P w K mg base CC DM fI mc) (I : C8.InsC K CC) (nb : NoB K CC) (RR : ChR P w K mg base CC D DM pR gR (tabT B0 B1 B2) mc fdR) (kb : ∃ gU : List Value → List Value → List Value, KBn K fdR ["cls", "text"] 1 ["text"] gU (fun us zs => us ++ zs))
    (SM : SMet K CC "of" pO gO) (FO : FnOk P w K mg base (L2.CX P w) 7 gO fdO ["sizes"] (spCof CC DM)) (bO : Binds K fdO ["sizes"] []) (MS : MetX P w K mg base 2 CC "__str__" (spCst CC)) (NC : NeC K CC) (ME : MetX P w K mg base 2 CC "__eq__" (spCeq CC))
    (DP : C8.Cal P w K mg base 2 "_law_pick" (spPick K) []) (DS : C8.Cal P w K mg base 3 "_law_sizes" spLsz []) (DU : C8.Cal P w K mg base 2 "_law_due" spLdu []) (DBe : C8.Cal P w K mg base 3 "_law_bent" spLbe []) :
    CalG P w K mg base 15 "_law_right" (spRig (tabT B0 B1 B2)) [] := by
  obtain ⟨gU3, KB⟩ := kb
  obtain ⟨ocH, odH, dVH, kVH, docH, pmH, anH, cdvH, ctH, oslH, rfl, lkH, cdH⟩ := FH.fn.ex
  refine calGC F b .nil scRig (fun vs H Q E h => ?_) (fun A outer st H vs Q E hG hr h => ?_)
  · obtain ⟨p, pl, n, rfl, _⟩ := h
    rfl
  · obtain ⟨p, pl, n, rfl, hp, hn, ht, k⟩ := h
    refine ⟨_, (pss_cons (ps_set (i := 1) scRig.nd rfl (Or.inl rfl) (C8.pe_c DS hr (by decide) (by rfl) (pa_cons (pv 0) (pa_cons pe_int pa_nil))))
  (pss_cons (ps_set (i := 2) scRig.nd rfl (Or.inl rfl) (pe_static (E := C8.E0) (pe_glob (v := .ref CC) (by rfl) CM.Z.hm rfl) SM FO (hr.mono (by decide)) bO .nil (passes_call takes0 (fun _ _ _ _ z => z)) (pa_cons (pv 1) pa_nil)))
  (pss_cons (ps_set (i := 3) scRig.nd rfl (Or.inl rfl) (pe_ifExp (pt_cmpR (op_neD hr.units) (pv 1) (pe_lst pa_nil) (nomark _)) (pe_join pe_str (pe_lc (own := [("_law_size", 9)]) (g := gName 9) (tt := tYes) rfl scRig.nd (pi_list (pv 1)) (blkOk_by (own := [("_law_size", 9)]) (N := ["_law_pen_here", "_law_sizes_here", "_law_made", "_law_text", "_law_turn", "_law_odd", "_law_bent_here", "_law_heard_here", "_law_due_here", "_law_size"]) (sc := (C8.fnScope sRig)) (by decide +kernel)) (fun _ _ _ _ _ => pg_name (i := 9) scRig.nd rfl (Or.inl rfl)) (fun _ _ _ _ _ => pts_nil) (fun _ _ _ _ _ => (pe_callTy call_str_int (by rfl) T.n_str (by decide +kernel) (pa_cons (pv 9) pa_nil))))) pe_str))
  (pss_cons (ps_if (PW.pt (pw_or (pt_cmpR op_ne (pe_callTy (call_strOwn (E := C8.E0) MS (passes_call takes0 (fun _ _ _ _ z => z)) hr (by decide)) (by rfl) T.n_str (by decide +kernel) (pa_cons (pv 2) pa_nil)) (pv 3) (nomark _)) (pw_or (pt_cmpR (op_neR (E := C8.E0) NC ME (passes_call takes0 (fun _ _ _ _ z => z)) hr (by decide)) (pe_cmeth (E := C8.E0) (pe_glob (v := .ref CC) (by rfl) CM.Z.hm rfl) RR.r RR.c RR.R (hr.mono (by decide)) (passes_call takes0 (fun _ _ _ _ z => z)) (pa_cons (pv 3) pa_nil)) (pv 2) (nomark _)) (pw_or1 (pt_cmpR (op_neD hr.units) (pe_fld (pe_cmethK (E := C8.E0) (pe_glob (v := .ref CC) (by rfl) CM.Z.hm rfl) RR.r RR.c RR.F (hr.mono (by decide)) KB (passes_call takes0 (fun _ _ _ _ z => z)) (pk_cons (pe_callTy (call_strOwn (E := C8.E0) MS (passes_call takes0 (fun _ _ _ _ z => z)) hr (by decide)) (by rfl) T.n_str (by decide +kernel) (pa_cons (pv 2) pa_nil)) pk_nil)) rfl) (pe_fld (pv 2) rfl) (nomark _)))))) (pss_one (ps_ret pe_bl)) pss_nil)
  (pss_cons (ps_for PassesOwn.never rfl (pi_range1 (by rfl) T.n_range (pa_cons pe_int pa_nil)) (pg_name (i := 4) scRig.nd rfl (Or.inl rfl)) (pss_cons (ps_set (i := 6) scRig.nd rfl (Or.inr rfl) (C8.pe_c DBe hr (by decide) (by rfl) (pa_cons (pv 0) (pa_cons (pv 3) pa_nil))))
  (pss_cons (ps_par (i := 7) (j := 8) rfl scRig.nd rfl rfl (by decide) rfl rfl (pa_cons (pe_lamcall (k := 12) (T := tabT B0 B1 B2) (TT := TTheard D DM) (t := fun E => tFld K (tCMeth CC (spCrd K CC D DM (tabT B0 B1 B2)) E (tC (.ref CC)) (tCons (tVar 6) tNil)) "sizes") (by rfl) FH.mgf FH.kp lkH cdH bH scHea rfl (.inl rfl) (heard_gives R T (hr.mono (by decide))) TB rfl (List.mem_cons_of_mem _ List.mem_cons_self) (tabT_1 nB) (hr.mono (by decide)) (lamS_by (by rfl)) rfl (fun _ _ _ _ _ => rfl)
      (fun A outer s H E f c2 hr2 => (pe_fld (pe_cmeth (pe_glob (v := .ref CC) (by rfl) CM.Z.hm rfl) RR.r RR.c RR.R hr2 (passes_call (takes_of rfl rfl rfl rfl) (fun _ _ _ _ z => z)) (pa_cons (pv 6) pa_nil)) rfl))) (pa_cons (C8.pe_c DU hr (by decide) (by rfl) (pa_cons (pv 6) pa_nil)) pa_nil)) (by rfl))
  (pss_one (ps_if (pt_cmpR (op_neD hr.units) (pv 7) (pv 8) (nomark _)) (pss_one (ps_ret pe_bl)) pss_nil)))))
  (pss_cons (ps_set (i := 5) scRig.nd rfl (Or.inr rfl) (C8.pe_c DP hr (by decide) (by rfl) (pa_cons (pv 0) (pa_cons (pe_lst (pa_cons pe_non (pa_cons pe_int (pa_cons (pv 2) (pa_cons (pv 1) (pa_cons (pe_callTy call_tuple_of (by rfl) htu (by decide +kernel) (pa_cons (pv 1) pa_nil)) (pa_cons pe_bl (pa_cons pe_dnewK pa_nil)))))))) pa_nil))))
  (pss_one (ps_ret (pe_cmpR (op_eqD hr.units) (pe_lamcall (k := 12) (T := tabT B0 B1 B2) (TT := TTheard D DM) (t := fun E => tCMeth CC (spCrd K CC D DM (tabT B0 B1 B2)) E (tC (.ref CC)) (tCons (tVar 5) tNil)) (by rfl) FH.mgf FH.kp lkH cdH bH scHea rfl (.inl rfl) (heard_gives R T (hr.mono (by decide))) TB rfl (List.mem_cons_of_mem _ List.mem_cons_self) (tabT_1 nB) (hr.mono (by decide)) (lamS_by (by rfl)) rfl (fun _ _ _ _ _ => rfl)
      (fun A outer s H E f c2 hr2 => (pe_cmeth (pe_glob (v := .ref CC) (by rfl) CM.Z.hm rfl) RR.r RR.c RR.R hr2 (passes_call (takes_of rfl rfl rfl rfl) (fun _ _ _ _ z => z)) (pa_cons (pv 5) pa_nil)))) (pe_tup (pa_cons pe_str (pa_cons pe_str (pa_cons pe_str pa_nil)))) (nomark _)))))))))), ?_⟩
    refine ⟨_, rfl, p, pl, n, 6, rfl, by decide, by decide, hp, by omega, fun l ns H1 sb lw hl fl hp1 k1 => ?_⟩
    have ht1 := Lw.Tabs.kp ht hp k1
    have l6 : ns.length ≤ 6 := by omega
    have ok : SzOk ns := ⟨sb, by omega⟩
    have lp : l ≠ p := hp.ne_new fl
    refine ⟨rfl, _, rfl, l, ns, rfl, .inl hl, ok, fun h5 ch H2 s2 fc hc => ?_, fun h5 => absurd h5 (by omega)⟩
    have hp2 := hp1.keep s2
    have ht2 := ht1.ext s2
    have hl2 := s2 _ _ hl
    have e0 : ∀ v : V, v = .str (S (chTx ns)) → v = .str (S (chTx ns)) := fun _ e => e
    obtain ⟨asc, len⟩ := tx_asc sb l6
    have eo := out_tx sb l6
    dsimp only [gName, tSeq]
    refine join_any (fun σ' H' => Same H2 H' ∧ σ' = [some (.ref p), some (.ref l), some (.ref ch), some (.str (S (chTx ns))), none, none, none, none, none, none]) ?r1 (fun go => ?_)
    rotate_left
    · refine ⟨_, rfl, (by show 0 ≤ sizeLine; decide), fun q hq => ?_⟩
      have sq := same_new (o := HO.lst []) hq
      refine ⟨.list (ns.map PyData.int), .list [], .lst (SqL.of (sq _ _ hl2)) (dp_ints ns), .lst (SqL.of upd_same) .nil, shaped_ints ns, rfl, _, rfl, ?_⟩
      cases ns with
      | nil => exact iteF (go _ _ ⟨sq, rfl⟩)
      | cons n0 r0 =>
        refine iteT ?_
        generalize hns : n0 :: r0 = ns at *
        have hlen : (ns.map V.int).length = ns.length := List.length_map _
        have lmem : ∀ v ∈ ns, v.natAbs ≤ 10 ^ 30 := fun v hv => by
          obtain ⟨h1, h2⟩ := sb v hv
          rw [ten30] at h2
          omega
        have hl3 := sq _ _ hl2
        generalize upd H2 q (.lst []) = H3 at sq hl3 ⊢
        refine ⟨⟨_, rfl⟩, _, rfl, l, rfl, ⟨_, SqL.of hl3⟩, fun D hD => ?_⟩
        refine lc_list (xs := ns.map V.int) (fun i H' => Same H3 H' ∧ H' D = some (.lst ((((ns.take i).map intL).map S).map V.str))) ⟨same_new hD, upd_same⟩ (fun i H' _ h => SqL.of (h.1 _ _ hl3)) ?_ ?_
        · rintro i y H' hy ⟨s', hd⟩
          obtain ⟨v, hv, rfl⟩ : ∃ v, ns[i]? = some v ∧ y = .int v := by
            rw [List.getElem?_map] at hy
            cases hq : ns[i]? with
            | none => rw [hq] at hy; cases hy
            | some v => rw [hq] at hy; cases hy; exact ⟨v, rfl, rfl⟩
          have hi : i < ns.length := (List.getElem?_eq_some_iff.mp hv).1
          refine ⟨rfl, ?_⟩
          dsimp only [tYes]
          rw [if_pos rfl]
          refine ⟨_, rfl, v, rfl, ?_, _, hd, ?_, fun b o e => ?_, ?_⟩
          · have := lmem v (List.mem_of_getElem? hv)
            by_cases z : v.natAbs = 0
            · rw [z]; decide
            · exact (Nat.log2_lt z).mpr (Nat.lt_of_le_of_lt this (by decide +kernel))
          · rw [List.length_map, List.length_map, List.length_map]
            exact Nat.lt_of_le_of_lt (Nat.le_trans (List.length_take_le _ _) (show i ≤ 6 by omega)) (by decide)
          · rw [upd_ne (ne_of_none e hD)]
            exact s' _ _ e
          · rw [upd_same, List.take_add_one, hv, str_int]
            simp
        · rintro H4 ⟨s4, hd⟩
          rw [List.take_of_length_le (by rw [hlen]; exact Nat.le_refl _)] at hd
          refine ⟨_, D, (ns.map intL).map S, rfl, rfl, .inl (SqL.of hd), ?_, ?_⟩
          · have h1 := sum_le (xs := ns.map intL) (m := 32) fun x hx => by
              obtain ⟨v, hv, rfl⟩ := List.mem_map.mp hx
              exact intL_len2 (lmem v hv)
            rw [List.length_map] at h1
            rw [List.length_map, List.length_map, show (Str.ofString " ").length = 1 from rfl]
            omega
          · have e1 : chTx ns = joinL [32] (ns.map intL) := by rw [← hns]; rfl
            rw [show (Str.ofString " ") = S [32] from rfl, join_S, ← e1]
            exact go _ _ ⟨sq.trans s4, rfl⟩
    case r1 =>
    rintro σ3 H3 ⟨s3, rfl⟩
    have hp3 := hp2.keep s3
    have ht3 := ht2.ext s3
    have hl3 := s3 _ _ hl2
    have hc3 := hc.same s3
    clear hc hl2 ht2 hp2 s3 hp1 ht1 hl
    dsimp only [gName, tSeq]
    obtain ⟨dx, pp, ti, ei, ri, hci, hpi⟩ := id hc3
    have oo : OutOf (.str (S (chTx ns))) (.sz ns) := by rw [← eo]; exact outOf_txt asc (by omega)
    have nt : ∀ {C dx : Addr} {fs : List (Str × V)} (ps), HO.ins C dx fs ≠ .tbl ps := fun ps z => by cases z
    have ntt : ∀ {xs : List V} (ps), HO.tup xs ≠ .tbl ps := fun ps z => by cases z
    have ntl : ∀ {xs : List V} (ps), HO.lst xs ≠ .tbl ps := fun ps z => by cases z
    refine join_any (fun σ' H' => σ' = [some (.ref p), some (.ref l), some (.ref ch), some (.str (S (chTx ns))), none, none, none, none, none, none] ∧ ExtN H3 H' ∧ Tabs (tabT B0 B1 B2) H') ?r2 (fun go => ?_)
    rotate_left
    · refine ⟨_, rfl, ch, dx, _, rfl, hci, ch, ns, rfl, hc3, ok, by omega, fun H4 s4 => ⟨_, rfl, _, rfl, rfl, _, rfl, iteF' (by simp) ?_⟩⟩
      refine ⟨rfl, _, rfl, _, .sz ns, rfl, .str _, oo, ht3.ext s4, fun c2 H5 x5 t5 hc5 ok5 l5 => ?_⟩
      have hcx5 := (hc3.same s4).extn x5
      have hci5 := x5 _ _ (s4 _ _ hci) nt
      obtain ⟨dx2, p2, t2', e2', r2', hc2i, hp2i⟩ := id hc5
      refine ⟨_, rfl, c2, dx2, _, ch, dx, _, rfl, hc2i, rfl, hci5, c2, ch, ns, ns, rfl, hc5, hcx5, _, rfl, _, rfl, iteF' (by simp) ?_⟩
      refine ⟨rfl, _, rfl, ch, dx, _, rfl, hci5, ch, ns, rfl, hcx5, ok, by omega, fun H6 s6 => ⟨_, rfl, rfl, _, .sz ns, rfl, .str _, oo, t5.ext s6, fun c3 H7 x7 t7 hc7 ok7 l7 => ?_⟩⟩
      obtain ⟨dx3, p3, t3', e3', r3', hc3i, hp3i⟩ := id hc7
      have hci7 := x7 _ _ (s6 _ _ hci5) nt
      have hpi7 := x7 _ _ (s6 _ _ (x5 _ _ (s4 _ _ hpi) ntt)) ntt
      refine ⟨c3, CC, dx3, _, _, rfl, hc3i, CM.Z.cl, CM.Z.n1, chF_sizes _ _ _ _, _, rfl, ch, CC, dx, _, _, rfl, hci7, CM.Z.cl, CM.Z.n1, chF_sizes _ _ _ _, .tuple (ns.map PyData.int), .tuple (ns.map PyData.int), .tup (SqT.of hp3i) (dp_ints ns), .tup (SqT.of hpi7) (dp_ints ns), shaped_tints ns, shaped_tints ns, _, rfl, iteF' ?_ ?_⟩
      · show (!PyData.eqvAll (ns.map PyData.int) (ns.map PyData.int)) = false
        rw [eqvs_ints]; simp
      · exact go _ _ ⟨rfl, ((ExtN.of s4).trans x5).trans ((ExtN.of s6).trans x7), t7⟩
    case r2 =>
    rintro σ4 H7 ⟨rfl, x37, t7⟩
    have hp7 := hp3.extn x37
    have hc7 := hc3.extn x37
    have hl7 := x37 _ _ hl3 ntl
    clear hp3 ht3 hl3 hci hpi hc3 x37
    dsimp only [gName, tSeq]
    refine ⟨_, rfl, by decide, by decide, for_range (fun i σ' H' => ∃ x4 x6 x7 x8, σ' = [some (.ref p), some (.ref l), some (.ref ch), some (.str (S (chTx ns))), x4, none, x6, x7, x8, none] ∧ Pen H' p pl (n + 301 + 3 * i) ∧ Tabs (tabT B0 B1 B2) H' ∧ ChAt CC H' ch ns ∧ H' l = some (.lst (ns.map V.int))) ⟨_, _, _, _, rfl, hp7, t7, hc7, hl7⟩ ?_ ?_⟩
    · rintro i σ5 H8 hi ⟨x4, x6, x7, x8, rfl, hp8, t8, hc8, hl8⟩
      have hi4 : i < 4 := hi
      refine ⟨_, rfl, _, rfl, p, pl, _, chWs ns, congrArg (fun z => [V.ref p, V.str (S z)]) (chTx_ws ns), chWs_ok sb l6, hp8, by omega, fun ds H9 da dl hp9 k9 => ?_⟩
      have t9 := Lw.Tabs.kp t8 hp8 k9
      have hc9 := hc8.kp hp8 k9
      have hl9 := k9 _ _ lp hl8
      have inv : ∀ (x7 x8 : Option V) (H' : Hp), ExtN H9 H' → Tabs (tabT B0 B1 B2) H' → ∃ x4 x6' x7' x8', [some (V.ref p), some (.ref l), some (.ref ch), some (.str (S (chTx ns))), some (.int (0 + (i : Int))), none, some (.str (S ds)), x7, x8, none] = [some (.ref p), some (.ref l), some (.ref ch), some (.str (S (chTx ns))), x4, none, x6', x7', x8', none] ∧ Pen H' p pl (n + 301 + 3 * (i + 1)) ∧ Tabs (tabT B0 B1 B2) H' ∧ ChAt CC H' ch ns ∧ H' l = some (.lst (ns.map V.int)) := fun x7 x8 H' x t => ⟨_, _, _, _, rfl, (hp9.extn x).more (by omega), t, hc9.extn x, x _ _ hl9 ntl⟩
      clear hp8 t8 hc8 hl8 hp9 hc9 hl9 k9
      refine ⟨t9, fun H10 x10 t10 H11 s11 => ?_⟩
      refine ⟨rfl, _, rfl, _, outW (wds ds), rfl, .str _, outOf_txt da (by omega), t10.ext s11, ?_⟩
      have wl := wds_len ds
      cases ho : outW (wds ds) with
      | many => exact absurd ho (out_few (by omega))
      | sz ms =>
        intro c4 H12 x12 t12 hc12 ok12 l12
        obtain ⟨dx4, p4, t4', e4', r4', h4i, h4p⟩ := id hc12
        refine ⟨c4, CC, dx4, _, _, rfl, h4i, CM.Z.cl, CM.Z.n1, chF_sizes _ _ _ _, fun t H13 s13 nt' h13 => ?_⟩
        refine ⟨_, rfl, ds, rfl, da, by omega, ?_⟩
        rw [ho]
        intro l5 t5 H14 s14 nl h14 h14t
        refine ⟨_, _, rfl, ?_⟩
        refine ⟨_, rfl, _, rfl, .list [.tuple (ms.map PyData.int)], .list [.tuple (ms.map PyData.int)], .lst (SqL.of (s14 _ _ h13)) (.cons (.tup (SqT.of (s14 _ _ (s13 _ _ h4p))) (dp_ints ms)) .nil), .lst (SqL.of h14) (.cons (.tup (SqT.of h14t) (dp_ints ms)) .nil), shaped_ltints ms, shaped_ltints ms, _, rfl, iteF' ?_ ?_⟩
        · rw [eqv_ltints]; rfl
        · exact inv _ _ _ (((x10.trans (ExtN.of s11)).trans x12).trans ((ExtN.of s13).trans (ExtN.of s14))) ((t12.ext s13).ext s14)
      | bad m =>
        intro d fs H12 x12 t12 hd f1 f2
        have hm := out_bad ho
        refine .inl ⟨rfl, d, fs, 0, m, rfl, upd_same, f1, f2, by decide, ?_, fun t H13 s13 nt' h13 => ?_⟩
        · rw [Int.natAbs_natCast]
          exact Nat.lt_of_le_of_lt (Nat.log2_le_self m) (by omega)
        refine ⟨_, rfl, ds, rfl, da, by omega, ?_⟩
        rw [ho]
        intro t2 H14 s14 nl h14
        refine ⟨_, _, rfl, ?_⟩
        have h13' : H13 t = some (.tup [.str (Str.ofString "text"), .str (Str.ofString "0"), .str (Str.ofString (toString (m : Int)))]) := by rw [h13]; unfold hdT; rw [ts0]
        refine ⟨_, rfl, _, rfl, pT _ _, pT _ _, dp_pT (s14 _ _ h13'), dp_pT h14, shaped_pT (by decide +kernel) (strOk_int m), shaped_pT (by decide +kernel) (strOk_int m), _, rfl, iteF' ?_ ?_⟩
        · rw [eqv_pT]; rfl
        · have sd := same_new (o := HO.xd fs) hd
          exact inv _ _ _ (((x10.trans (ExtN.of s11)).trans x12).trans (((ExtN.of sd).trans (ExtN.of s13)).trans (ExtN.of s14))) (((t12.ext sd).ext s13).ext s14)
    · rintro σ5 H8 ⟨x4, x6, x7, x8, rfl, hp8, t8, hc8, hl8⟩
      dsimp only [gName, tSeq]
      refine ⟨_, rfl, _, rfl, _, rfl, _, rfl, l, _, rfl, .inl ⟨SqL.of hl8, fun tq ftq dq fdq => ⟨(by show 7 ≤ sizeLine; decide), fun q fq => ?_⟩⟩⟩
      have s1 := same_new (o := HO.tup (ns.map V.int)) ftq
      have s2' := same_new (o := HO.dK []) fdq
      have s3' := same_new (o := HO.lst [V.non, V.int 0, V.ref ch, V.ref l, V.ref tq, V.bl true, V.ref dq]) fq
      have etq : upd H8 tq (.tup (ns.map V.int)) tq = some (.tup (ns.map V.int)) := upd_same
      have edq : upd (upd H8 tq (.tup (ns.map V.int))) dq (.dK []) dq = some (.dK []) := upd_same
      have tqp := hp8.ne_new ftq
      have dqp := (hp8.keep s1).ne_new fdq
      obtain ⟨dx, pp, ti, ei, ri, hci, hpi⟩ := id hc8
      have chp : ch ≠ p := fun e => by
        obtain ⟨xs, a, g, hh, _⟩ := hp8
        rw [e, hh.at_] at hci; cases hci
      have hpX := ((hp8.keep s1).keep s2').keep s3'
      have tX := ((t8.ext s1).ext s2').ext s3'
      have qp := ((hp8.keep s1).keep s2').ne_new fq
      refine ⟨p, pl, q, _, _, rfl, hpX, by omega, SqL.of upd_same, qp, (by show 0 < 7; decide), (by show 7 < 1000000; decide), fun j v H9 hj hp9 k9 => ?_⟩
      have t9 := Lw.Tabs.kp tX hpX k9
      have kept : ∀ {a : Addr} {o : HO}, a ≠ p → upd (upd H8 tq (.tup (ns.map V.int))) dq (.dK []) a = some o → (∀ ps, o ≠ .tbl ps) → ∀ H', ExtN H9 H' → H' a = some o := fun ha e n H' x => x _ _ (k9 _ _ ha (s3' _ _ e)) n
      obtain ⟨av, wv⟩ : (∀ H', ExtN H9 H' → Anyv K H' v) ∧ isS v = false := by
        have hv := List.mem_of_getElem? hj
        simp only [List.mem_cons, List.not_mem_nil, or_false] at hv
        have od : ∀ {H' : Hp} {q : Addr} {T : String}, T = "tuple" ∨ T = "list" ∨ T = "dict" → TyX K H' (.ref q) (.type T) → Anyv K H' (.ref q) := fun {H' q T} e z => by
          rcases e with rfl | rfl | rfl <;> exact .obj (.x z) (kit_ty (by decide +kernel)) (kit_ty (by decide +kernel)) (kit_ty (by decide +kernel))
        rcases hv with rfl | rfl | rfl | rfl | rfl | rfl | rfl
        · exact ⟨fun _ _ => .non, rfl⟩
        · exact ⟨fun _ _ => .int 0, rfl⟩
        · exact ⟨fun H' x' => .obj (.x (.base (.ins (kept chp (s2' _ _ (s1 _ _ hci)) nt H' x') I.cl I.ha I.hn I.htk I.hm))) nb.i nb.b nb.s, rfl⟩
        · exact ⟨fun H' x' => od (.inr (.inl rfl)) (.base (.lst (kept lp (s2' _ _ (s1 _ _ hl8)) ntl H' x'))), rfl⟩
        · exact ⟨fun H' x' => od (.inl rfl) (.base (.tup (kept tqp (s2' _ _ etq) ntt H' x'))), rfl⟩
        · exact ⟨fun _ _ => .bl true, rfl⟩
        · exact ⟨fun H' x' => od (.inr (.inr rfl)) (.base (.dK (kept dqp edq (fun ps z => by cases z) H' x'))), rfl⟩
      clear kept k9 s1 s2' s3' hci hpi hc8 hl8 t8 tX hpX hj
      refine ⟨t9, fun H10 x10 t10 H11 s11 => ⟨rfl, _, rfl, v, .bad 0, rfl, av _ (x10.trans (ExtN.of s11)), .inl ⟨wv, rfl⟩, t10.ext s11, fun d fs H12 x12 t12 hd f1 f2 => .inl ⟨rfl, d, fs, 0, 0, rfl, upd_same, f1, f2, by decide, by decide, fun t H13 s13 nt' h13 => ?_⟩⟩⟩
      refine ⟨(by show 3 ≤ sizeLine; decide), fun t2 ft2 => ?_⟩
      have h13' : H13 t = some (.tup [.str (Str.ofString "text"), .str (Str.ofString "0"), .str (Str.ofString "0")]) := by rw [h13]; unfold hdT; rw [ts0]
      have sd := same_new (o := HO.xd fs) hd
      have s14 := same_new (o := HO.tup [.str (Str.ofString "text"), .str (Str.ofString "0"), .str (Str.ofString "0")]) ft2
      refine ⟨pT _ _, pT _ _, dp_pT (s14 _ _ h13'), dp_pT upd_same, shaped_pT (by decide +kernel) (by decide +kernel), shaped_pT (by decide +kernel) (by decide +kernel), ?_⟩
      rw [eqv_pT]
      have xx := ((x10.trans (ExtN.of s11)).trans x12).trans (((ExtN.of sd).trans (ExtN.of s13)).trans (ExtN.of s14))
      exact k _ ((hp9.extn xx).more (by omega)) (((t12.ext sd).ext s13).ext s14)
end
end Lw
namespace Lw
open PySem PySem.Spec PyProof.Rows L2
open SX PySem.NumText TL LamX ClX StX
abbrev sLaw : Stmt := top 36
/-- the law's def, its code object known -/
structure LawC (K : PySem.W.Frag) (x : Str) (st : Stmt) (f : Addr) (fd : FuncData) (c : Addr) : Prop where
  ex : ∃ (oc : Value) (od : Option Addr) (dV kV doc pm : Value) (an : Option Addr) (ct : Value) (osl : Array (Option Value)),
    fd = PySem.W.fnOf x x (C8.fnArgs st) (C8.fnBody st) (C8.fnScope st) dV kV doc pm an (.ref c) ct ∧ K.lookup f = some ⟨oc, od, .func fd, osl⟩ ∧ PySem.W.codeIn K (.ref c) x = true
theorem fnGC {P : Program} {w : World} {K : PySem.W.Frag} {mg : Str → Option Value} {base : Heap} {x : Str} {st : Stmt} {f c : Addr} {fd : FuncData} {N ps : List Str} {k : Nat} {sp : Sp} (F : LawC K x st f fd c) (S : FnScope N ps (C8.fnScope st)) (len : ∀ vs H Q E, sp vs H Q E → vs.length = ps.length)
    (body : ∀ (A : Around) (outer : List Env) (s : Shared) (H : Hp) (vs : List V) (Q : VK) (E : XK), (A.deeper (envOfC x (C8.fnScope st) s.heap.objs.size f (.ref c))).guards = some [] → Room k (A.deeper (envOfC x (C8.fnScope st) s.heap.objs.size f (.ref c))) → sp vs H Q E →
      ∃ t, PSs (cxOf C8.CX0 P w K mg base N x (C8.fnScope st) f (.ref c) A outer s H E).nox (C8.fnBody st) t ∧ t { nx := fun _ H' => Q .non H', rt := Q } (start N vs) H) : FnG P w K mg base (k + 1) f fd ps sp := by
  refine ⟨len, ?_⟩
  intro A outer s H args us vs Q E hg hr e0 hb r hs
  obtain ⟨oc, od, dV, kV, doc, pm, an, ct, osl, rfl, lk, hcd⟩ := F.ex
  refine LamX.run_ofS lk hcd S hr e0 hb r (len _ _ _ _ hs) fun hr' => ?_
  obtain ⟨t, h1, h2⟩ := body A outer s H vs Q E hg hr' hs
  exact ⟨t, h1.nox, h2⟩
/-! ### the law's own expressions, by name -/
def tJn (K : PySem.W.Frag) (to te : TE) : TE := tM1 (fun x xs H Q => ∃ a p, ∃ ys : List Str, x = .str a ∧ xs = [.ref p] ∧ (SqL K H p (ys.map V.str) ∨ SqT K H p (ys.map V.str)) ∧ (ys.map (·.length)).sum + ys.length * a.length ≤ 16777216 ∧ Q (.str (Txt.join a ys)) H) to te
theorem pe_jn {X : Cx} {o e : Expr} {to te : TE} {apos pos : Pos} (ho : PE X o to) (he : PE X e te) (hs : starEach [e] X.env = [(false, eval e X.env)] := by rfl) (hbase : attributeBase o "join" X.env (eval o X.env) = eval o X.env := by rfl) (hline : (apos.endLine == pos.line) = true := by rfl) :
    PE X (.Call (.Attribute o "join" apos) [e] [] pos) (tJn X.K to te) := pe_join ho he hs hbase hline
def rAsx : R2 := fun x y H Q => ∃ i j : Str, x = .str i ∧ y = .str j ∧ i.length + j.length ≤ sizeLine ∧ Q (.str (i ++ j)) H
theorem op_asx {X : Cx} : OpR X (binaryOp .Add) rAsx := op_add_str
theorem rep_flat {α : Type} (v : α) : ∀ n : Nat, (List.replicate n [v]).flatten = List.replicate n v
  | 0 => rfl
  | n + 1 => by rw [List.replicate_succ, List.flatten_cons, rep_flat v n, List.replicate_succ]; rfl
section
variable {X : Cx} {CX : CXT} {k : Nat} {f C : Addr} {sp : Sp} {E : XK} {x : Str} {p pos : Pos}
theorem pe_makeR0 (M : Mk X.K C f) (F : FnR X.prog X.w X.K X.mg X.base CX k f sp) (hr : Room (k + 1) X.A) (hg : Gl X x) (hm : X.mg x = some (.ref C)) (hx : Passes CX X E) (hdb : (x == ("__debug__" : Str)) = false := by decide) : PE X (.Call (.Name x p) [] [] pos) (tMakeR C sp E tNil) := by
  refine ⟨fun pins s σ H Q I h => ?_⟩
  refine wpAny_Call_Name_kw (ld_glob I hg hm ?_ hdb)
  exact PySem.W.callWith_K0 I.kIn M.kp (run_makeR M F hr hx I .nil h)
end
/-! ### the long texts -/
def ones : List (List Nat) := List.replicate 5001 [49]
theorem sz49 : szO [49] = some 1 := by decide +kernel
theorem lead_rep (ws : List (List Nat)) : ∀ n : Nat, lead (List.replicate n [49] ++ ws) = n + lead ws
  | 0 => by rw [List.replicate_zero, List.nil_append, Nat.zero_add]
  | n + 1 => by
    have ih := lead_rep ws n
    unfold lead at ih ⊢
    rw [List.replicate_succ, List.cons_append, List.takeWhile_cons, sz49]
    show (_ :: _).length = _
    rw [List.length_cons, ih]; omega
theorem joinL_snoc (y : List Nat) : ∀ xs : List (List Nat), xs ≠ [] → joinL [32] (xs ++ [y]) = joinL [32] xs ++ (32 :: y)
  | [], h => absurd rfl h
  | [p], _ => rfl
  | p :: q :: r, _ => by
    have ih := joinL_snoc y (q :: r) (List.cons_ne_nil _ _)
    show p ++ ([32] ++ joinL [32] ((q :: r) ++ [y])) = (p ++ ([32] ++ joinL [32] (q :: r))) ++ (32 :: y)
    rw [ih, List.append_assoc, List.append_assoc]
theorem ones_ne : ones ≠ [] := fun e => by have := congrArg List.length e; rw [ones, List.length_replicate] at this; cases this
theorem ones_mem {w : List Nat} (h : w ∈ ones) : w = [49] := List.eq_of_mem_replicate h
theorem wds_ones : wds (joinL [32] ones) = ones := wds_join ones_ne fun w hw => by rw [ones_mem hw]; decide
theorem ones_len : ones.length = 5001 := List.length_replicate
theorem lead_ones : lead ones = 5001 := by
  have := lead_rep [] 5001
  rw [List.append_nil] at this
  exact this
theorem out_ones : outW ones = .many := by
  unfold outW
  rw [if_neg, if_neg, if_neg]
  · rw [ones_len]; decide
  · rw [lead_ones, ones_len]; decide
  · intro e
    have : ones[0]? = some [49] := rfl
    rw [this] at e
    cases e
theorem len_jones : (joinL [32] ones).length ≤ 10002 := by
  have := joinL_len (ws := ones) (m := 1) fun w hw => by rw [ones_mem hw]; decide
  rw [ones_len] at this
  exact this
theorem outOf_ones : OutOf (.str (S (joinL [32] ones))) .many := .inr ⟨_, rfl, Nat.le_trans len_jones (by decide), by
  rw [wds_ones]
  exact ⟨ones_ne, by rw [ones_len]; decide, fun w hw => by rw [ones_mem hw]; exact ⟨by decide, by decide⟩⟩, by rw [wds_ones, out_ones]⟩
theorem outOf_onesx : OutOf (.str (S (joinL [32] ones ++ [32, 120]))) (.bad 5001) := by
  have e : wds (joinL [32] ones ++ [32, 120]) = ones ++ [[120]] := by
    rw [show ([32, 120] : List Nat) = 32 :: [120] from rfl, ← joinL_snoc [120] ones ones_ne]
    refine wds_join (fun z => ?_) fun w hw => ?_
    · have := congrArg List.length z
      rw [List.length_append] at this
      cases this
    · rcases List.mem_append.mp hw with hw | hw
      · rw [ones_mem hw]; decide
      · rw [List.mem_singleton.mp hw]; decide
  have l1 : lead (ones ++ [[120]]) = 5001 := by
    have := lead_rep [[120]] 5001
    rw [show lead [[120]] = 0 by decide +kernel] at this
    exact this
  have l2 : (ones ++ [[120]]).length = 5002 := by rw [List.length_append, ones_len]; rfl
  refine .inr ⟨_, rfl, ?_, ?_, ?_⟩
  · rw [List.length_append]
    have := len_jones
    show _ + 2 ≤ _
    omega
  · rw [e]
    refine ⟨fun z => ?_, by rw [l2]; decide, fun w hw => ?_⟩
    · have := congrArg List.length z
      rw [l2] at this
      cases this
    · rcases List.mem_append.mp hw with hw | hw
      · rw [ones_mem hw]; exact ⟨by decide, by decide⟩
      · rw [List.mem_singleton.mp hw]; exact ⟨by decide, by decide⟩
  · rw [e]
    unfold outW
    rw [if_neg, if_pos, l1]
    · rw [l1, l2]; decide
    · intro z
      have : (ones ++ [[120]])[0]? = some [49] := rfl
      rw [this] at z
      cases z
theorem outOf_nil : OutOf (.str (Str.ofString "")) (.bad 0) := .inr ⟨[], rfl, by decide, ws_ok (fun c hc => by cases hc) (by decide), by
  have l0 : lead [[]] = 0 := by decide +kernel
  rw [show wds [] = [[]] from wds_one (by decide)]
  unfold outW
  rw [if_neg (by decide), if_pos (by rw [l0]; decide), l0]⟩
theorem jn_ones {K : PySem.W.Frag} {σ : L2.St} {H : Hp} {Q : VK} (h : ∀ H', Same H H' → Q (.str (S (joinL [32] ones))) H') : tJn K (tC (.str (Str.ofString " "))) (tOp rRep (tLst (tCons (tC (.str (Str.ofString "1"))) tNil)) (tC (.int 5001))) σ H Q := by
  refine ⟨⟨_, rfl⟩, (by show 1 ≤ sizeLine; decide), fun q1 f1 => ⟨q1, 5001, _, rfl, rfl, upd_same, by decide, by decide, (by show 1 * 5001 ≤ sizeLine; decide), fun q2 f2 => ?_⟩⟩
  have e : (List.replicate (5001 : Int).toNat [V.str (Str.ofString "1")]).flatten = (ones.map S).map V.str := by
    rw [rep_flat]; unfold ones; rw [List.map_replicate, List.map_replicate]; rfl
  rw [e]
  refine ⟨_, q2, ones.map S, rfl, rfl, .inl (SqL.of upd_same), ?_, ?_⟩
  · have h1 := sum_le (xs := ones) (m := 1) fun x hx => by rw [ones_mem hx]; decide
    rw [ones_len] at h1
    rw [List.length_map, ones_len, show (Str.ofString " ").length = 1 from rfl]
    omega
  · rw [show Str.ofString " " = S [32] from rfl, join_S]
    exact h _ ((same_new f1).trans (same_new f2))
theorem cast_bl {Q : VK} {b : Bool} {H : Hp} (e : b = true) (h : Q (.bl true) H) : Q (.bl b) H := by rw [e]; exact h
def pMany : PyData := .tuple [.str (Str.ofString "many"), .str (Str.ofString "chunks"), .int 5000]
def pAll : PyData := .list [pMany, pT (Str.ofString "0") (Str.ofString "5001"), pT (Str.ofString "0") (Str.ofString "0")]
theorem dp_all {K : PySem.W.Frag} {H : Hp} {l a b c : Addr} (hl : H l = some (.lst [.ref a, .ref b, .ref c])) (ha : H a = some (.tup [.str (Str.ofString "many"), .str (Str.ofString "chunks"), .int 5000]))
    (hb : H b = some (.tup [.str (Str.ofString "text"), .str (Str.ofString "0"), .str (Str.ofString "5001")])) (hc : H c = some (.tup [.str (Str.ofString "text"), .str (Str.ofString "0"), .str (Str.ofString "0")])) : Dp K H (.ref l) pAll :=
  .lst (SqL.of hl) (.cons (.tup (SqT.of ha) (.cons (.str _) (.cons (.str _) (.cons (.int _) .nil)))) (.cons (dp_pT hb) (.cons (dp_pT hc) .nil)))
theorem shaped_all : SeqAt.shaped pAll = true := by decide +kernel
theorem eqv_all : PyData.eqv pAll pAll = true := by decide +kernel
theorem ts5 : Str.ofString (toString (((5001 : Nat) : Int))) = Str.ofString "5001" := by decide +kernel
theorem ts00 : Str.ofString (toString (((0 : Nat) : Int))) = Str.ofString "0" := by decide +kernel
def spLaw (K : PySem.W.Frag) (T : List (Addr × Str)) : Sp := fun vs H Q _ => ∃ (a : Addr) (ns : List Int), vs = [.ref a] ∧ SqL K H a (ns.map V.int) ∧ ns.length ≤ 63 ∧ Tabs T H ∧ ∀ H', Q (.bl true) H'
section
variable {P : Program} {w : World} {K : PySem.W.Frag} {mg : Str → Option Value} {base : Heap}
theorem scLaw : FnScope ["_law_script", "_law_pen_here", "_law_turn", "_law_heard_here"] ["_law_script"] (C8.fnScope sLaw) := C8.fnScope_by (by decide +kernel)
theorem fn_law {f c B0 B1 B2 CC D DM L gH pR gR fI : Addr} {mc : Value} {fd fdH fdR : FuncData} (F : LawC K "law" sLaw f fd c) (FH : C8.Def K mg "_law_heard" sHea gH fdH) (bH : Binds K fdH ["_law_ask"] []) (TB : TabB base mg c B2) (nB : Apart3 B0 B1 B2)
    (R : Hrd K mg D DM L) (T : Txt mg) (CM : ChM P w K mg base CC DM fI mc) (RR : ChR P w K mg base CC D DM pR gR (tabT B0 B1 B2) mc fdR) (MS : MetX P w K mg base 2 CC "__str__" (spCst CC))
    (D0 : C8.Cal P w K mg base 1 "_law_pen" (spPen K) []) (DR : CalG P w K mg base 15 "_law_right" (spRig (tabT B0 B1 B2)) []) : FnG P w K mg base 18 f fd ["_law_script"] (spLaw K (tabT B0 B1 B2)) := by
  obtain ⟨ocH, odH, dVH, kVH, docH, pmH, anH, cdvH, ctH, oslH, rfl, lkH, cdH⟩ := FH.fn.ex
  refine fnGC F scLaw (fun vs H Q E h => ?_) (fun A outer st H vs Q E hG hr h => ?_)
  · obtain ⟨a, ns, rfl, _⟩ := h
    rfl
  · obtain ⟨a, ns, rfl, hs, hl, ht, k⟩ := h
    refine ⟨_, (pss_cons (ps_set (i := 1) scLaw.nd rfl (Or.inl rfl) (C8.pe_c D0 hr (by decide) (by rfl) (pa_cons (pv 0) pa_nil)))
  (pss_cons (ps_for PassesOwn.never rfl (pi_range1 (by rfl) T.n_range (pa_cons pe_int pa_nil)) (pg_name (i := 2) scLaw.nd rfl (Or.inl rfl)) (pss_one (ps_if (pt_not (pt_val (pe_g DR hG hr (by decide) (by rfl) (pa_cons (pv 1) pa_nil)))) (pss_one (ps_ret pe_bl)) pss_nil)))
  (pss_cons (ps_set (i := 3) scLaw.nd rfl (Or.inl rfl) (pe_lst (pa_cons (pe_lamcall (k := 12) (T := tabT B0 B1 B2) (TT := TTheard D DM) (t := fun E => tCMeth CC (spCrd K CC D DM (tabT B0 B1 B2)) E (tC (.ref CC)) (tCons (tJn K (tC (.str (Str.ofString " "))) (tOp rRep (tLst (tCons (tC (.str (Str.ofString "1"))) tNil)) (tC (.int 5001)))) tNil)) (by rfl) FH.mgf FH.kp lkH cdH bH scHea rfl (.inl rfl) (heard_gives R T (hr.mono (by decide))) TB rfl (List.mem_cons_of_mem _ (List.mem_cons_of_mem _ List.mem_cons_self)) (tabT_2 nB) (hr.mono (by decide)) (lamS_by (by rfl)) rfl (fun _ _ _ _ _ => rfl)
      (fun A outer s H E f c2 hr2 => (pe_cmeth (pe_glob (v := .ref CC) (by rfl) CM.Z.hm rfl) RR.r RR.c RR.R hr2 (passes_call (takes_of rfl rfl rfl rfl) (fun _ _ _ _ z => z)) (pa_cons (pe_jn pe_str (pe_op op_rep (pe_lst (pa_cons pe_str pa_nil)) pe_int)) pa_nil)))) pa_nil)))
  (pss_cons (ps_expr (pe_bm PySem.F.plainAttrs_list PySem.F.slot_list_append PySem.F.type_list_append mt_append (pv 3) (pa_cons (pe_lamcall (k := 12) (T := tabT B0 B1 B2) (TT := TTheard D DM) (t := fun E => tCMeth CC (spCrd K CC D DM (tabT B0 B1 B2)) E (tC (.ref CC)) (tCons (tOp rAsx (tJn K (tC (.str (Str.ofString " "))) (tOp rRep (tLst (tCons (tC (.str (Str.ofString "1"))) tNil)) (tC (.int 5001)))) (tC (.str (Str.ofString " x")))) tNil)) (by rfl) FH.mgf FH.kp lkH cdH bH scHea rfl (.inl rfl) (heard_gives R T (hr.mono (by decide))) TB rfl (List.mem_cons_of_mem _ (List.mem_cons_of_mem _ List.mem_cons_self)) (tabT_2 nB) (hr.mono (by decide)) (lamS_by (by rfl)) rfl (fun _ _ _ _ _ => rfl)
      (fun A outer s H E f c2 hr2 => (pe_cmeth (pe_glob (v := .ref CC) (by rfl) CM.Z.hm rfl) RR.r RR.c RR.R hr2 (passes_call (takes_of rfl rfl rfl rfl) (fun _ _ _ _ z => z)) (pa_cons (pe_op op_asx (pe_jn pe_str (pe_op op_rep (pe_lst (pa_cons pe_str pa_nil)) pe_int)) pe_str) pa_nil)))) pa_nil)))
  (pss_cons (ps_expr (pe_bm PySem.F.plainAttrs_list PySem.F.slot_list_append PySem.F.type_list_append mt_append (pv 3) (pa_cons (pe_lamcall (k := 12) (T := tabT B0 B1 B2) (TT := TTheard D DM) (t := fun E => tCMeth CC (spCrd K CC D DM (tabT B0 B1 B2)) E (tC (.ref CC)) (tCons (tC (.str (Str.ofString ""))) tNil)) (by rfl) FH.mgf FH.kp lkH cdH bH scHea rfl (.inl rfl) (heard_gives R T (hr.mono (by decide))) TB rfl (List.mem_cons_of_mem _ (List.mem_cons_of_mem _ List.mem_cons_self)) (tabT_2 nB) (hr.mono (by decide)) (lamS_by (by rfl)) rfl (fun _ _ _ _ _ => rfl)
      (fun A outer s H E f c2 hr2 => (pe_cmeth (pe_glob (v := .ref CC) (by rfl) CM.Z.hm rfl) RR.r RR.c RR.R hr2 (passes_call (takes_of rfl rfl rfl rfl) (fun _ _ _ _ z => z)) (pa_cons pe_str pa_nil)))) pa_nil)))
  (pss_one (ps_ret (pe_and (pe_cmpR (op_eqD hr.units) (pv 3) (pe_lst (pa_cons (pe_tup (pa_cons pe_str (pa_cons pe_str (pa_cons pe_int pa_nil)))) (pa_cons (pe_tup (pa_cons pe_str (pa_cons pe_str (pa_cons pe_str pa_nil)))) (pa_cons (pe_tup (pa_cons pe_str (pa_cons pe_str (pa_cons pe_str pa_nil)))) pa_nil)))) (nomark _)) (pe_one (pe_cmpR op_eq (pe_callTy (call_strOwn (E := C8.E0) MS (passes_call takes0 (fun _ _ _ _ z => z)) hr (by decide)) (by rfl) T.n_str (by decide +kernel) (pa_cons (pe_makeR0 (E := C8.E0) CM.M CM.F (hr.mono (by decide)) (by rfl) CM.Z.hm (passes_call takes0 (fun _ _ _ _ z => z))) pa_nil)) pe_str (nomark _))))))))))), ?_⟩
    refine ⟨_, rfl, a, ns, rfl, hs, hl, fun p pl H1 hp1 s1 _ => ?_⟩
    have ht1 := ht.ext s1
    refine ⟨_, rfl, by decide, by decide, for_range (fun i σ' H' => ∃ x2, σ' = [some (V.ref a), some (V.ref p), x2, none] ∧ Pen H' p pl (400 * i) ∧ Tabs (tabT B0 B1 B2) H') ⟨_, rfl, hp1, ht1⟩ ?_ ?_⟩
    · rintro i σ1 H2 hi ⟨x2, rfl, hp2, ht2⟩
      have hi6 : i < 6 := hi
      refine ⟨_, rfl, p, pl, 400 * i, rfl, hp2, by omega, ht2, fun H3 hp3 ht3 => ⟨_, rfl, iteF ?_⟩⟩
      exact ⟨_, rfl, hp3, ht3⟩
    · rintro σ1 H2 ⟨x2, rfl, hp2, ht2⟩
      clear hp1 ht1 ht s1 hp2
      dsimp only [gName, tSeq]
      have nt : ∀ {xs : List V} (ps), HO.tup xs ≠ .tbl ps := fun ps z => by cases z
      have nl : ∀ {xs : List V} (ps), HO.lst xs ≠ .tbl ps := fun ps z => by cases z
      refine ⟨ht2, fun H3 x3 t3 H4 s4 => ⟨rfl, jn_ones fun H5 s5 => ⟨_, .many, rfl, .str _, outOf_ones, (t3.ext s4).ext s5, fun d1 fs1 H6 x6 t6 hd1 f1 f2 => .inr ⟨rfl, d1, fs1, _, _, rfl, upd_same, f1, f2, fun a1 H7 s7 n7 h7 => ?_⟩⟩⟩⟩
      have t7 := (t6.ext (same_new (o := HO.xd fs1) hd1)).ext s7
      clear t6 x6 s4 s5 x3 t3 hd1 f1 f2 ht2
      refine ⟨(by show 1 ≤ sizeLine; decide), fun l fl => ?_⟩
      have h8 := same_new (o := HO.lst [V.ref a1]) fl _ _ h7
      have t8 := t7.ext (same_new (o := HO.lst [V.ref a1]) fl)
      have hl8 : upd H7 l (.lst [V.ref a1]) l = some (.lst [V.ref a1]) := upd_same
      generalize hL : upd H7 l _ = H8
      rw [hL] at h8 t8 hl8
      clear hL t7 h7
      dsimp only [gName, tSeq]
      refine ⟨_, rfl, .inl ⟨rfl, _, SqL.of hl8⟩, t8, fun H9 x9 t9 H10 s10 => ⟨rfl, ?_⟩⟩
      dsimp only [tCons, tOp]
      refine jn_ones fun H11 s11 => ⟨_, _, rfl, rfl, ?_, ?_⟩
      · rw [S_len]
        have := len_jones
        exact Nat.le_trans (show (joinL [32] ones).length + 2 ≤ 10004 by omega) (by decide)
      refine ⟨_, .bad 5001, rfl, .str _, (by rw [show Str.ofString " x" = S [32, 120] from rfl, S_cat]; exact outOf_onesx), (t9.ext s10).ext s11, fun d2 fs2 H12 x12 t12 hd2 f1 f2 => .inl ⟨rfl, d2, fs2, _, _, rfl, upd_same, f1, f2, by decide +kernel, by decide +kernel, fun a2 H13 s13 n13 h13 => ?_⟩⟩
      have sd2 := same_new (o := HO.xd fs2) hd2
      have X13 : ExtN H8 H13 := ((x9.trans (ExtN.of s10)).trans (ExtN.of s11)).trans ((x12.trans (ExtN.of sd2)).trans (ExtN.of s13))
      have t13 := (t12.ext sd2).ext s13
      have h13b : H13 a1 = _ := X13 _ _ h8 nt
      have hl13 : H13 l = _ := X13 _ _ hl8 nl
      clear X13 sd2 s13 t12 x12 hd2 f1 f2 t9 x9 s10 s11 h8 t8 hl8
      have ne1 : a1 ≠ l := fun e => by rw [e, hl13] at h13b; cases h13b
      have ne2 : a2 ≠ l := fun e => by rw [e, hl13] at h13; cases h13
      refine ⟨l, _, _, rfl, rfl, hl13, (by show 1 < sizeLine; decide), ?_⟩
      have t14 := Lw.Tabs.put (o := HO.lst ([V.ref a1] ++ [V.ref a2])) t13 hl13
      have h14a : upd H13 l (.lst ([V.ref a1] ++ [V.ref a2])) a1 = some (.tup [.str (Str.ofString "many"), .str (Str.ofString "chunks"), .int 5000]) := by rw [upd_ne ne1]; exact h13b
      have h14b : upd H13 l (.lst ([V.ref a1] ++ [V.ref a2])) a2 = some (.tup [.str (Str.ofString "text"), .str (Str.ofString "0"), .str (Str.ofString "5001")]) := by rw [upd_ne ne2, h13]; unfold hdT; rw [ts0, ts5]
      have hl14 : upd H13 l (.lst ([V.ref a1] ++ [V.ref a2])) l = some (.lst [V.ref a1, V.ref a2]) := upd_same
      generalize hL : upd H13 l _ = H14
      rw [hL] at t14 h14a h14b hl14
      clear hL t13 h13b hl13 h13
      dsimp only [tSeq]
      refine ⟨_, rfl, .inl ⟨rfl, _, SqL.of hl14⟩, t14, fun H9 x9 t9 H10 s10 => ⟨rfl, _, .bad 0, rfl, .str _, outOf_nil, t9.ext s10, fun d3 fs3 H12 x12 t12 hd3 f1 f2 => .inl ⟨rfl, d3, fs3, _, _, rfl, upd_same, f1, f2, by decide +kernel, by decide +kernel, fun a3 H15 s15 n15 h15 => ?_⟩⟩⟩
      have sd3 := same_new (o := HO.xd fs3) hd3
      have X15 : ExtN H14 H15 := (x9.trans (ExtN.of s10)).trans ((x12.trans (ExtN.of sd3)).trans (ExtN.of s15))
      have h15a := X15 _ _ h14a nt
      have h15b := X15 _ _ h14b nt
      have hl15 := X15 _ _ hl14 nl
      clear X15 sd3 s15 t12 x12 hd3 f1 f2 t9 x9 s10 h14a h14b t14 hl14
      refine ⟨l, _, _, rfl, rfl, hl15, (by show 2 < sizeLine; decide), ?_⟩
      have nn : ∀ {q : Addr} {xs : List V}, H15 q = some (.tup xs) → q ≠ l := fun e z => by rw [z, hl15] at e; cases e
      have h16a : upd H15 l (.lst ([V.ref a1, V.ref a2] ++ [V.ref a3])) a1 = some (.tup [.str (Str.ofString "many"), .str (Str.ofString "chunks"), .int 5000]) := by rw [upd_ne (nn h15a)]; exact h15a
      have h16b : upd H15 l (.lst ([V.ref a1, V.ref a2] ++ [V.ref a3])) a2 = some (.tup [.str (Str.ofString "text"), .str (Str.ofString "0"), .str (Str.ofString "5001")]) := by rw [upd_ne (nn h15b)]; exact h15b
      have h16c : upd H15 l (.lst ([V.ref a1, V.ref a2] ++ [V.ref a3])) a3 = some (.tup [.str (Str.ofString "text"), .str (Str.ofString "0"), .str (Str.ofString "0")]) := by rw [upd_ne (nn h15), h15]; unfold hdT; rw [ts0, ts00]
      have hl16 : upd H15 l (.lst ([V.ref a1, V.ref a2] ++ [V.ref a3])) l = some (.lst [V.ref a1, V.ref a2, V.ref a3]) := upd_same
      generalize hL : upd H15 l _ = H16
      rw [hL] at h16a h16b h16c hl16
      clear hL h15a h15b hl15 h15 nn
      refine ⟨_, rfl, (by show 3 ≤ sizeLine; decide), fun u1 g1 => ⟨(by show 3 ≤ sizeLine; decide), fun u2 g2 => ⟨(by show 3 ≤ sizeLine; decide), fun u3 g3 => ⟨(by show 3 ≤ sizeLine; decide), fun u4 g4 => ?_⟩⟩⟩⟩
      have S1 := same_new (o := HO.tup [.str (Str.ofString "many"), .str (Str.ofString "chunks"), .int 5000]) g1
      have S2 := same_new (o := HO.tup [.str (Str.ofString "text"), .str (Str.ofString "0"), .str (Str.ofString "5001")]) g2
      have S3 := same_new (o := HO.tup [.str (Str.ofString "text"), .str (Str.ofString "0"), .str (Str.ofString "0")]) g3
      have S4 := same_new (o := HO.lst [V.ref u1, V.ref u2, V.ref u3]) g4
      have SS := ((S1.trans S2).trans S3).trans S4
      refine ⟨pAll, pAll, dp_all (SS _ _ hl16) (SS _ _ h16a) (SS _ _ h16b) (SS _ _ h16c), dp_all upd_same (S4 _ _ (S3 _ _ (S2 _ _ upd_same))) (S4 _ _ (S3 _ _ upd_same)) (S4 _ _ upd_same), shaped_all, shaped_all, _, rfl, iteT' eqv_all ?_⟩
      intro x dx hx hdx ne
      have xp : ∀ {p : Addr} {Hz : Hp}, Hz p = none → Hz x ≠ none → x ≠ p := fun e1 e2 e => e2 (by rw [e]; exact e1)
      refine ⟨[V.ref x], [], rfl, rfl, by decide, fun p hp => ⟨x, dx, p, [], rfl, ?_, upd_same, ⟨fun v hv => (by cases hv), by decide⟩, fun _ t e r H' kp hx' => ⟨rfl, x, dx, _, rfl, hx', x, [], rfl, ⟨dx, p, t, e, r, hx', kp p _ ?_ upd_same⟩, ⟨fun v hv => (by cases hv), by decide⟩, by decide, fun H'' s'' => ⟨_, rfl, rfl, ?_⟩⟩, fun h5 => absurd h5 (by decide)⟩⟩
      · have : x ≠ p := xp hp (by rw [upd_same]; exact fun z => by cases z)
        rw [upd_ne this]; exact upd_same
      · exact (xp hp (by rw [upd_same]; exact fun z => by cases z)).symm
      · exact cast_bl (decide_eq_true rfl) (k _)
end
end Lw
namespace Lw
open PySem PySem.Spec PyProof.Rows L2
open LamX
/-! ### the call of the law where nothing is being shown, with tables of code objects -/
/-- what is tracked when the law is entered: the tables, and the script unless it is written -/
def Entry (K : PySem.W.Frag) (h : Heap) (a : Addr) (Bs : List Addr) (ns : List Int) (H : Hp) : Prop :=
  (∀ B ∈ Bs, H B = some (.tbl #[])) ∧ SqL K H a (ns.map V.int) ∧ (∀ b u, H b = some u → (b ∈ Bs ∧ u = .tbl #[]) ∨ (b = a ∧ K.lookup a = none ∧ ∃ o xs, u = .frz o (.lst xs) ∧ h.get? a = some o))
theorem entry {P : Program} {w : World} {K : PySem.W.Frag} {h : Heap} {a : Addr} {Bs : List Addr} {vs : List Value} {ns : List Int} (KX : K.In h) (hT : ∀ B ∈ Bs, h.get? B = some { cls := .none, data := .fields #[] }) (ha : h.get? a = some { cls := .type "list", data := .seq vs.toArray }) (hi : IntsAre vs ns) (hl : ns.length ≤ sizeLine) :
    a ∉ Bs ∧ ∃ H, Entry K h a Bs ns H ∧ HOk P w H h := by
  have rv := vals_ints hi
  have lv := hi.length
  have ne : a ∉ Bs := fun e => by
    have hT := hT a e
    rw [ha] at hT
    have z : Data.seq vs.toArray _ = Data.fields #[] := congrArg Obj.data (Option.some.inj hT)
    cases z
  refine ⟨ne, ?_⟩
  cases hk : K.lookup a with
  | some o =>
    have e := KX a o hk
    rw [ha] at e
    cases e
    refine ⟨fun b => if b ∈ Bs then some (.tbl #[]) else none, ⟨fun B hB => if_pos hB, .inr ⟨_, vs.toArray, _, hk, rfl, rfl, rfl, by rw [List.size_toArray, lv]; exact hl, by simpa using rv⟩, fun b u z => ?_⟩, fun b u z => ?_⟩
    · by_cases q : b ∈ Bs
      · exact .inl ⟨q, (Option.some.inj ((if_pos q).symm.trans z)).symm⟩
      · cases (if_neg q).symm.trans z
    · by_cases q : b ∈ Bs
      · cases (if_pos q).symm.trans z
        exact hT b q
      · cases (if_neg q).symm.trans z
  | none =>
    refine ⟨fun b => if b ∈ Bs then some (.tbl #[]) else if b = a then some (.frz { cls := .type "list", data := .seq vs.toArray } (.lst (ns.map V.int))) else none,
      ⟨fun B hB => if_pos hB, .inl (.inr ⟨_, (if_neg ne).trans (if_pos rfl)⟩), fun b u z => ?_⟩, fun b u z => ?_⟩
    · by_cases q : b ∈ Bs
      · exact .inl ⟨q, (Option.some.inj ((if_pos q).symm.trans z)).symm⟩
      · have z2 := (if_neg q).symm.trans z
        by_cases q2 : b = a
        · exact .inr ⟨q2, hk, _, _, (Option.some.inj ((if_pos q2).symm.trans z2)).symm, ha⟩
        · cases (if_neg q2).symm.trans z2
    · by_cases q : b ∈ Bs
      · cases (if_pos q).symm.trans z
        exact hT b q
      · have z2 := (if_neg q).symm.trans z
        by_cases q2 : b = a
        · cases (if_pos q2).symm.trans z2
          rw [q2]
          exact ⟨ha, by rw [List.length_map]; exact hl, vs, _, rv, ha⟩
        · cases (if_neg q2).symm.trans z2
theorem law_end {P : Program} {w : World} {K : PySem.W.Frag} {mg mb : Str → Option Value} {k : Nat} {fa a : Addr} {Bs : List Addr} {fd : FuncData} {x : Str} {sp : Sp} {s₁ : Shared} {vs : List Value} {ns : List Int}
    (KX : K.In s₁.heap) (hns : s₁.heap.Ns mainGlobals mg) (hb : s₁.heap.Ns builtinsNs mb) (hbb : ∀ x : Str, x ≠ "__name__" → mb x = bootBuiltins x) (hlim : s₁.heap.NoLimit) (hg : s₁.gens = #[])
    (hT : ∀ B ∈ Bs, s₁.heap.get? B = some { cls := .none, data := .fields #[] }) (nT : ∀ B ∈ Bs, K.lookup B = none) (C : ∀ B ∈ Bs, ∃ c, PySem.W.CodeHd s₁.heap c B)
    (hbm : ∃ (bm : Addr) (ob : Obj), mg "__builtins__" = some (.ref bm) ∧ bm ≠ builtinsNs ∧ s₁.heap.get? bm = some ob ∧ ob.cls = .type "module" ∧ ob.dict = some builtinsNs ∧ ob.data = .plain)
    (ha : s₁.heap.get? a = some { cls := .type "list", data := .seq vs.toArray }) (hi : IntsAre vs ns) (hl : ns.length ≤ sizeLine) (hr : Room k callerA)
    (F : ∀ base : Heap, K.In base → base.Ns mainGlobals mg → (∀ B ∈ Bs, ∀ c, PySem.W.CodeHd s₁.heap c B → TabB base mg c B) → FnG P w K mg base k fa fd [x] sp) (hbind : ∀ (s : Shared) (u : Value), BindsTo s fd ⟨[u], []⟩ [(x, u)])
    (hsp : ∀ H : Hp, (∀ B ∈ Bs, H B = some (.tbl #[])) → SqL K H a (ns.map V.int) → sp [.ref a] H (fun v _ => v = .bl true) C8.E0) :
    codeAny (model P w) callerA (.call (.ref fa) ⟨[.ref a], []⟩) (fun r s' => r = .ok (.ret (.bool true)) ∧ OldK s₁.heap s'.heap ∧ s'.os = s₁.os ∧ AllBare s'.gens) s₁ := by
  obtain ⟨ne, H, ⟨hB, hS, hA⟩, hok⟩ := entry (P := P) (w := w) KX hT ha hi hl
  -- what is neither a table nor the script is untracked
  have free : ∀ {b : Addr} {o : Obj}, s₁.heap.get? b = some o → (∀ vs n, o.data ≠ .seq vs n) → o.data ≠ .fields #[] → H b = none := fun {b o} e h1 h2 => by
    cases q : H b with
    | none => rfl
    | some u =>
      rcases hA b u q with ⟨e', _⟩ | ⟨e', _⟩
      · rw [hT b e'] at e
        cases e
        exact absurd rfl h2
      · rw [e', ha] at e
        cases e
        exact absurd rfl (h1 _ _)
  have through : ∀ {b : Addr} {o : Obj}, s₁.heap.get? b = some o → H b = none → (hidT s₁.heap H).get? b = some o := fun e n => hidT_get e n
  have nsT : ∀ {b : Addr} {m : Str → Option Value}, s₁.heap.Ns b m → (hidT s₁.heap H).Ns b m := fun {b m} ⟨o, es, ep, e, d, r⟩ => by
    refine ⟨o, es, ep, through e (free e (fun vs n z => ?_) fun z => ?_), d, r⟩ <;> · rw [d] at z; cases z
  have inT : K.In (hidT s₁.heap H) := fun b o e => by
    refine through (KX b o e) ?_
    cases q : H b with
    | none => rfl
    | some u =>
      rcases hA b u q with ⟨e', _⟩ | ⟨e', n, _⟩
      · rw [nT b e'] at e; cases e
      · rw [e', n] at e; cases e
  have modT : L2.Mod K mg (hidT s₁.heap H) := by
    obtain ⟨mc, h1, h2⟩ := hlim
    exact ⟨inT, nsT hns, ⟨mb, nsT hb, hbb⟩, ⟨mc, nsT h1, h2⟩⟩
  have tabT : ∀ B ∈ Bs, ∀ c, PySem.W.CodeHd s₁.heap c B → TabB (hidT s₁.heap H) mg c B := fun B hBs c C => by
    refine ⟨?_, ?_, fun z => ?_⟩
    · obtain ⟨o, us, file, tf, flags, tg, inF, text, tt, e1, r1, r2, r3, r4⟩ := C
      refine ⟨o, us, file, tf, flags, tg, inF, text, tt, through e1 (free e1 (fun vs n z => ?_) fun z => ?_), r1, r2, r3, r4⟩
      · rw [r2] at z; cases z
      · rw [r2] at z; cases z
        simp at r3
    · obtain ⟨bm, ob, b1, b2, b3, b4, b5, b6⟩ := hbm
      refine ⟨bm, ob, b1, b2, fun q => ?_, fun q => ?_, through b3 (free b3 (fun vs n z => ?_) fun z => ?_), b4, b5, b6⟩
      · obtain ⟨o, es, ep, e, d, _⟩ := hns
        rw [q, e] at b3
        cases b3
        rw [d] at b6
        cases b6
      · rw [q, hT B hBs] at b3
        cases b3
        cases b6
      · rw [b6] at z; cases z
      · rw [b6] at z; cases z
    · obtain ⟨o, es, ep, e, d, _⟩ := hns
      rw [z, hT B hBs] at e
      cases e
      cases d
  have e0 : Env0 P w K mg (hidT s₁.heap H) callerA [] s₁ H := ⟨rfl, modT, fun b o e => of_hidT e, Nat.le_of_eq (hidT_size _ _), trivial, fun b hb => absurd (show b ∈ ([] : List Addr) from hb) (by simp), hok, .of_eq hg⟩
  refine codeAny_mono ((F _ inT (nsT hns) tabT).run callerA [] s₁ H ⟨[.ref a], []⟩ [.ref a] [.ref a] _ _ rfl hr e0 (hbind s₁ (.ref a)) (.cons rfl .nil) (hsp H hB hS)) fun r s' q => ?_
  match r, q with
  | .error e, q => exact (show False from q).elim
  | .ok .next, q => exact (show False from q).elim
  | .ok .brk, q => exact (show False from q).elim
  | .ok .cont, q => exact (show False from q).elim
  | .ok (.ret u), q =>
    obtain ⟨v, H', os, bare, un, hok', r', qv⟩ := q
    have qv' : v = .bl true := qv
    subst qv'
    obtain rfl : u = Value.bool true := r'
    have same : ∀ b o, b ∉ Bs → s₁.heap.get? b = some o → s'.heap.get? b = some o := fun b o nb e => by
      cases q : H b with
      | none => exact un.keep b o e q (by intro z; exact absurd (show b ∈ ([] : List Addr) from z) (by simp)) (by simp)
      | some u =>
        rcases hA b u q with ⟨z, _⟩ | ⟨e', _, ob, xs, rfl, hob⟩
        · exact absurd z nb
        · obtain ⟨e2, _⟩ := hok' b _ (un.frzs b ob _ q)
          rw [e', hob] at e
          cases e
          exact e2
    refine ⟨rfl, ⟨fun b o e => ?_, fun b o e => ?_⟩, os, bare⟩
    · by_cases hb : b ∈ Bs
      · obtain ⟨more, hmore⟩ := un.tbls b #[] (hB b hb)
        have atB := hok' b _ hmore
        obtain ⟨c, C⟩ := C b hb
        have hT := hT b hb
        rw [hT] at e
        cases e
        exact .inr (.inl ⟨(C.tab hT).isCodeTable, rfl, #[], _, rfl, atB⟩)
      · exact .inl (same b o hb e)
    · by_cases hb : b ∈ Bs
      · obtain ⟨more, hmore⟩ := un.tbls b #[] (hB b hb)
        exact ⟨_, hok' b _ hmore⟩
      · exact ⟨o, same b o hb e⟩
theorem tabIn_of {K : PySem.W.Frag} {x : Str} {f c B : Addr} {oc occ : Value} {od odc : Option Addr} {fd : FuncData} {sl slc : Array (Option Value)} {us : Array Value} (h1 : PySem.W.nsIn K mainGlobals x = some (some (.ref f))) (h2 : K.lookup f = some ⟨oc, od, .func fd, sl⟩) (hc : fd.code = .ref c)
    (h3 : K.lookup c = some ⟨occ, odc, .fields us, slc⟩) (h4 : us[11]? = some (.ref B)) : PySem.W.tabIn K x = some (c, B) := by
  unfold PySem.W.tabIn
  rw [h1]
  dsimp only
  rw [h2]
  dsimp only
  rw [hc]
  dsimp only
  rw [h3]
  dsimp only
  rw [h4]
/-- the walk's end, with any number of tables of code objects (tb: the def's name, its code object, its table) -/
theorem walk_endL {l : PySem.W.OpenLaw} {n k : Nat} {q : Program} {loose : List Str} {XP : (Str → Option Value) → Heap → Prop} {YP : World → Heap → Prop} {d : DefRec} {K : Params → PySem.W.Frag} {x : Str} {xts : List Str}
    (hn : l.most = some n) (hn2 : n ≤ 63) (hdf : d.params.defaults = []) (hr : Room k callerA) (hY : ∀ (w : World) (h : Heap), YP w h → (K w.params).In h) (hrec : (xts.all fun xt => ((recsOf q).find? fun e => e.name == xt).isSome) = true)
    (F : ∀ (w : World) (mg : Str → Option Value) (fa : Addr) (h : Heap), (K w.params).In h → h.Ns mainGlobals mg → mg d.name = some (.ref fa) → ∃ (fd : FuncData) (tb : List (Str × Addr × Addr)) (sp : Sp), (∀ e ∈ tb, e.1 ∈ xts ∧ PySem.W.tabIn (K w.params) e.1 = some (e.2.1, e.2.2) ∧ (K w.params).lookup e.2.2 = none) ∧ (∀ (s : Shared) (u : Value), BindsTo s fd ⟨[u], []⟩ [(x, u)]) ∧
      (∀ base : Heap, (K w.params).In base → base.Ns mainGlobals mg → (∀ e ∈ tb, TabB base mg e.2.1 e.2.2) → FnG l.prog w (K w.params) mg base k fa fd [x] sp) ∧
      ∀ (H : Hp) (a : Addr) (ns : List Int), (∀ e ∈ tb, H e.2.2 = some (.tbl #[])) → SqL (K w.params) H a (ns.map V.int) → ns.length ≤ 63 → sp [.ref a] H (fun v _ => v = .bl true) C8.E0) :
    PySem.W.WalkO q loose XP YP l.row.toRowW d [] (fun f vs => PySem.call f vs) := by
  refine Att.attach_callB hn hdf fun w s₀ s₁ mg mb fa o pm cd doc a vs ns G Y ho hd hcd hmg hobj hints hlen hbits hg => ?_
  have KX := hY w _ Y
  obtain ⟨fd, tb, sp, ht, hb, hF, hsp⟩ := F w mg fa _ KX G.T.g hmg
  have tab : ∀ e ∈ tb, PySem.W.CodeHd s₁.heap e.2.1 e.2.2 ∧ s₁.heap.get? e.2.2 = some { cls := .none, data := .fields #[] } := fun e he => by
    obtain ⟨h1, h2, h3⟩ := ht e he
    obtain ⟨dr, hdr⟩ := Option.isSome_iff_exists.mp (List.all_eq_true.mp hrec _ h1)
    exact PySem.W.tab_of G.T KX hdr h2
  have mem : ∀ {p : Addr → Prop}, (∀ e ∈ tb, p e.2.2) → ∀ b ∈ tb.map (·.2.2), p b := fun {p} h b hb => by
    obtain ⟨e, he, rfl⟩ := List.mem_map.mp hb
    exact h e he
  exact law_end (Bs := tb.map (·.2.2)) KX G.T.g G.T.b G.T.builtins G.T.nolimit hg (mem fun e he => (tab e he).2) (mem fun e he => (ht e he).2.2) (mem fun e he => ⟨_, (tab e he).1⟩) G.T.bmain hobj hints (Nat.le_trans (Nat.le_trans hlen hn2) (by decide)) hr
    (fun base kin ns' tbb => hF base kin ns' fun e he => tbb e.2.2 (List.mem_map.mpr ⟨e, he, rfl⟩) e.2.1 (tab e he).1) hb fun H hB hS => hsp H a ns (fun e he => hB e.2.2 (List.mem_map.mpr ⟨e, he, rfl⟩)) hS (Nat.le_trans hlen hn2)
end Lw
namespace Lw
open PySem PySem.Spec PyProof.Rows L2

open LamX ClX
/-- no defaults: one value, then one by its keyword -/
theorem kb_one {K : PySem.W.Frag} {x q : Str} {st : Stmt} {f : Addr} {fd : FuncData} (F : C8.Fun K x q st f fd) (df : fd.defaults = .none) (h : ∀ (kV doc pm : Value) (an : Option Addr) (cdv ct : Value) (us ws : List Value), us.length = 1 → ws.length = 1 → bindArgs (PySem.W.fnOf x q (C8.fnArgs st) (C8.fnBody st) (C8.fnScope st) .none kV doc pm an cdv ct) ⟨us, (["text"] : List Str).zip ws⟩ = pure ((["cls", "text"] : List Str).zip (us ++ ws))) :
    KBn K fd ["cls", "text"] 1 ["text"] (fun us ws => us ++ ws) (fun us zs => us ++ zs) := by
  obtain ⟨oc, od, dV, kV, doc, pm, an, cdv, ct, osl, rfl, lk, hcd⟩ := F.ex
  have e : dV = .none := df
  subst e
  exact ⟨fun s us ws X h1 h2 => .of_eq (h kV doc pm an cdv ct us ws h1 h2), fun r1 r2 => r1.append r2⟩

theorem all_known {l : PySem.W.OpenLaw} {w : World} {K : PySem.W.Frag} {h : Heap} {mg : Str → Option Value} {fa : Addr} (X : K.In h) (G : h.Ns mainGlobals mg) (hfa : mg "law" = some (.ref fa))
    {L : Addr}
    {fii : Addr} {ocii kVii dcii pmii ctii cdii : Value} {odii anii : Option Addr} {slii : Array (Option Value)}
    {fiw : Addr} {ociw kViw dciw pmiw ctiw cdiw : Value} {odiw aniw : Option Addr} {sliw : Array (Option Value)}
    {fis : Addr} {ocis kVis dcis pmis ctis cdis : Value} {odis anis : Option Addr} {slis : Array (Option Value)}
    {fio : Addr} {ocio kVio dcio pmio ctio cdio : Value} {odio anio : Option Addr} {slio : Array (Option Value)}
    {fno : Addr} {ocno kVno dcno pmno ctno cdno : Value} {odno anno : Option Addr} {slno : Array (Option Value)}
    {frw : Addr} {ocrw kVrw dcrw pmrw ctrw cdrw : Value} {odrw anrw : Option Addr} {slrw : Array (Option Value)}
    {fcm : Addr} {occm kVcm dccm pmcm ctcm cdcm : Value} {odcm ancm : Option Addr} {slcm : Array (Option Value)}
    {flp : Addr} {oclp kVlp dclp pmlp ctlp cdlp : Value} {odlp anlp : Option Addr} {sllp : Array (Option Value)}
    {fld : Addr} {ocld kVld dcld pmld ctld cdld : Value} {odld anld : Option Addr} {slld : Array (Option Value)}
    {flk : Addr} {oclk kVlk dclk pmlk ctlk cdlk : Value} {odlk anlk : Option Addr} {sllk : Array (Option Value)}
    {flh : Addr} {oclh kVlh dclh pmlh ctlh cdlh : Value} {odlh anlh : Option Addr} {sllh : Array (Option Value)}
    {flz : Addr} {oclz kVlz dclz pmlz ctlz cdlz : Value} {odlz anlz : Option Addr} {sllz : Array (Option Value)}
    {flq : Addr} {oclq kVlq dclq pmlq ctlq cdlq : Value} {odlq anlq : Option Addr} {sllq : Array (Option Value)}
    {flu : Addr} {oclu kVlu dclu pmlu ctlu cdlu : Value} {odlu anlu : Option Addr} {sllu : Array (Option Value)}
    {flb : Addr} {oclb kVlb dclb pmlb ctlb cdlb : Value} {odlb anlb : Option Addr} {sllb : Array (Option Value)}
    {frs : Addr} {ocrs kVrs dcrs pmrs ctrs : Value} {odrs anrs : Option Addr} {slrs : Array (Option Value)}
    {flr : Addr} {oclr kVlr dclr pmlr ctlr : Value} {odlr anlr : Option Addr} {sllr : Array (Option Value)}
    {fla : Addr} {ocla kVla dcla pmla ctla : Value} {odla anla : Option Addr} {slla : Array (Option Value)}
    {c0 B0 : Addr} {oc_c0 : Value} {od_c0 : Option Addr} {us_c0 : Array Value} {sl_c0 : Array (Option Value)}
    {c1 B1 : Addr} {oc_c1 : Value} {od_c1 : Option Addr} {us_c1 : Array Value} {sl_c1 : Array (Option Value)}
    {c2 B2 : Addr} {oc_c2 : Value} {od_c2 : Option Addr} {us_c2 : Array Value} {sl_c2 : Array (Option Value)}
    {CC : Addr} {mcCC : Value}
    {tM : Tok} {vM : Int}
    {fci : Addr} {occi kVci dcci pmci ctci cdci : Value} {odci anci : Option Addr} {slci : Array (Option Value)}
    {fco : Addr} {occo kVco dcco pmco ctco cdco : Value} {odco anco : Option Addr} {slco : Array (Option Value)}
    {pco : Addr} {rsco : List Value}
    {fcr : Addr} {occr kVcr dccr pmcr ctcr cdcr : Value} {odcr ancr : Option Addr} {slcr : Array (Option Value)}
    {pcr : Addr} {rscr : List Value}
    {fcs : Addr} {occs kVcs dccs pmcs ctcs cdcs : Value} {odcs ancs : Option Addr} {slcs : Array (Option Value)}
    {fce : Addr} {occe kVce dcce pmce ctce cdce : Value} {odce ance : Option Addr} {slce : Array (Option Value)}
    {R : Addr}
    {fri : Addr} {ocri kVri dcri pmri ctri cdri : Value} {odri anri : Option Addr} {slri : Array (Option Value)}
    {Tdri : Addr} {ocDri : Value} {odDri : Option Addr} {slDri : Array (Option Value)} {tDri : Tok} {nDri : Nat}
    {fra : Addr} {ocra kVra dcra pmra ctra cdra : Value} {odra anra : Option Addr} {slra : Array (Option Value)}
    {frr : Addr} {ocrr kVrr dcrr pmrr ctrr cdrr : Value} {odrr anrr : Option Addr} {slrr : Array (Option Value)}
    {frt : Addr} {ocrt kVrt dcrt pmrt ctrt cdrt : Value} {odrt anrt : Option Addr} {slrt : Array (Option Value)}
    {frx : Addr} {ocrx kVrx dcrx pmrx ctrx cdrx : Value} {odrx anrx : Option Addr} {slrx : Array (Option Value)}
    {frm : Addr} {ocrm kVrm dcrm pmrm ctrm cdrm : Value} {odrm anrm : Option Addr} {slrm : Array (Option Value)}
    {frf : Addr} {ocrf kVrf dcrf pmrf ctrf cdrf : Value} {odrf anrf : Option Addr} {slrf : Array (Option Value)}
    {D fEt : Addr} {ocEt kVEt dcEt pmEt cdEt ctEt : Value} {odEt anEt : Option Addr} {slEt : Array (Option Value)} {nmDt qDt : Str} {NDt : Addr} {bsDt bmDt : List Value} {snDt : List Str} {subDt : List Value} {abDt : Bool} {colDt : Option Bool} {ddDt : Option Addr} {e0t e1t e2t e3t e5t : Option Value}
    {DM fEm : Addr} {ocEm kVEm dcEm pmEm cdEm ctEm : Value} {odEm anEm : Option Addr} {slEm : Array (Option Value)} {nmDm qDm : Str} {NDm : Addr} {bsDm bmDm : List Value} {snDm : List Str} {subDm : List Value} {abDm : Bool} {colDm : Option Bool} {ddDm : Option Addr} {e0m e1m e2m e3m e5m : Option Value}
    {tPF : Tok} {vPF : Int}
    {tPW : Tok} {vPW : Int}
    {tGS : Tok} {vGS : Int}
    (aL : PySem.W.nsIn K mainGlobals "LateError" = some (some (.ref L)))
    (aii : PySem.W.nsIn K mainGlobals "is_integer" = some (some (.ref fii)))
    (lii : K.lookup fii = some ⟨ocii, odii, .func (PySem.W.fnOf "is_integer" "is_integer" (C8.fnArgs sIsInt) (C8.fnBody sIsInt) (C8.fnScope sIsInt) .none kVii dcii pmii anii cdii ctii), slii⟩)
    (cii : PySem.W.codeIn K cdii "is_integer" = true)
    (kii : PySem.W.keepIn K (.ref fii) = true)
    (aiw : PySem.W.nsIn K mainGlobals "is_within" = some (some (.ref fiw)))
    (liw : K.lookup fiw = some ⟨ociw, odiw, .func (PySem.W.fnOf "is_within" "is_within" (C8.fnArgs sWithin) (C8.fnBody sWithin) (C8.fnScope sWithin) .none kViw dciw pmiw aniw cdiw ctiw), sliw⟩)
    (ciw : PySem.W.codeIn K cdiw "is_within" = true)
    (kiw : PySem.W.keepIn K (.ref fiw) = true)
    (ais : PySem.W.nsIn K mainGlobals "is_size" = some (some (.ref fis)))
    (lis : K.lookup fis = some ⟨ocis, odis, .func (PySem.W.fnOf "is_size" "is_size" (C8.fnArgs sSize) (C8.fnBody sSize) (C8.fnScope sSize) .none kVis dcis pmis anis cdis ctis), slis⟩)
    (cis : PySem.W.codeIn K cdis "is_size" = true)
    (kis : PySem.W.keepIn K (.ref fis) = true)
    (aio : PySem.W.nsIn K mainGlobals "integer_of" = some (some (.ref fio)))
    (lio : K.lookup fio = some ⟨ocio, odio, .func (PySem.W.fnOf "integer_of" "integer_of" (C8.fnArgs sIntOf) (C8.fnBody sIntOf) (C8.fnScope sIntOf) .none kVio dcio pmio anio cdio ctio), slio⟩)
    (cio : PySem.W.codeIn K cdio "integer_of" = true)
    (kio : PySem.W.keepIn K (.ref fio) = true)
    (ano : PySem.W.nsIn K mainGlobals "number_of" = some (some (.ref fno)))
    (lno : K.lookup fno = some ⟨ocno, odno, .func (PySem.W.fnOf "number_of" "number_of" (C8.fnArgs sNumOf) (C8.fnBody sNumOf) (C8.fnScope sNumOf) .none kVno dcno pmno anno cdno ctno), slno⟩)
    (cno : PySem.W.codeIn K cdno "number_of" = true)
    (kno : PySem.W.keepIn K (.ref fno) = true)
    (arw : PySem.W.nsIn K mainGlobals "read_worths" = some (some (.ref frw)))
    (lrw : K.lookup frw = some ⟨ocrw, odrw, .func (PySem.W.fnOf "read_worths" "read_worths" (C8.fnArgs sRW) (C8.fnBody sRW) (C8.fnScope sRW) .none kVrw dcrw pmrw anrw cdrw ctrw), slrw⟩)
    (crw : PySem.W.codeIn K cdrw "read_worths" = true)
    (krw : PySem.W.keepIn K (.ref frw) = true)
    (acm : PySem.W.nsIn K mainGlobals "check_many" = some (some (.ref fcm)))
    (lcm : K.lookup fcm = some ⟨occm, odcm, .func (PySem.W.fnOf "check_many" "check_many" (C8.fnArgs sCM) (C8.fnBody sCM) (C8.fnScope sCM) .none kVcm dccm pmcm ancm cdcm ctcm), slcm⟩)
    (ccm : PySem.W.codeIn K cdcm "check_many" = true)
    (kcm : PySem.W.keepIn K (.ref fcm) = true)
    (alp : PySem.W.nsIn K mainGlobals "_law_pen" = some (some (.ref flp)))
    (llp : K.lookup flp = some ⟨oclp, odlp, .func (PySem.W.fnOf "_law_pen" "_law_pen" (C8.fnArgs sPen) (C8.fnBody sPen) (C8.fnScope sPen) .none kVlp dclp pmlp anlp cdlp ctlp), sllp⟩)
    (clp : PySem.W.codeIn K cdlp "_law_pen" = true)
    (klp : PySem.W.keepIn K (.ref flp) = true)
    (ald : PySem.W.nsIn K mainGlobals "_law_draw" = some (some (.ref fld)))
    (lld : K.lookup fld = some ⟨ocld, odld, .func (PySem.W.fnOf "_law_draw" "_law_draw" (C8.fnArgs sDraw) (C8.fnBody sDraw) (C8.fnScope sDraw) .none kVld dcld pmld anld cdld ctld), slld⟩)
    (cld : PySem.W.codeIn K cdld "_law_draw" = true)
    (kld : PySem.W.keepIn K (.ref fld) = true)
    (alk : PySem.W.nsIn K mainGlobals "_law_pick" = some (some (.ref flk)))
    (llk : K.lookup flk = some ⟨oclk, odlk, .func (PySem.W.fnOf "_law_pick" "_law_pick" (C8.fnArgs sPick) (C8.fnBody sPick) (C8.fnScope sPick) .none kVlk dclk pmlk anlk cdlk ctlk), sllk⟩)
    (clk : PySem.W.codeIn K cdlk "_law_pick" = true)
    (klk : PySem.W.keepIn K (.ref flk) = true)
    (alh : PySem.W.nsIn K mainGlobals "_law_heard" = some (some (.ref flh)))
    (llh : K.lookup flh = some ⟨oclh, odlh, .func (PySem.W.fnOf "_law_heard" "_law_heard" (C8.fnArgs sHea) (C8.fnBody sHea) (C8.fnScope sHea) .none kVlh dclh pmlh anlh cdlh ctlh), sllh⟩)
    (clh : PySem.W.codeIn K cdlh "_law_heard" = true)
    (klh : PySem.W.keepIn K (.ref flh) = true)
    (alz : PySem.W.nsIn K mainGlobals "_law_sizes" = some (some (.ref flz)))
    (llz : K.lookup flz = some ⟨oclz, odlz, .func (PySem.W.fnOf "_law_sizes" "_law_sizes" (C8.fnArgs sLsz) (C8.fnBody sLsz) (C8.fnScope sLsz) .none kVlz dclz pmlz anlz cdlz ctlz), sllz⟩)
    (clz : PySem.W.codeIn K cdlz "_law_sizes" = true)
    (klz : PySem.W.keepIn K (.ref flz) = true)
    (alq : PySem.W.nsIn K mainGlobals "_law_is_size" = some (some (.ref flq)))
    (llq : K.lookup flq = some ⟨oclq, odlq, .func (PySem.W.fnOf "_law_is_size" "_law_is_size" (C8.fnArgs sLis) (C8.fnBody sLis) (C8.fnScope sLis) .none kVlq dclq pmlq anlq cdlq ctlq), sllq⟩)
    (clq : PySem.W.codeIn K cdlq "_law_is_size" = true)
    (klq : PySem.W.keepIn K (.ref flq) = true)
    (alu : PySem.W.nsIn K mainGlobals "_law_due" = some (some (.ref flu)))
    (llu : K.lookup flu = some ⟨oclu, odlu, .func (PySem.W.fnOf "_law_due" "_law_due" (C8.fnArgs sLdu) (C8.fnBody sLdu) (C8.fnScope sLdu) .none kVlu dclu pmlu anlu cdlu ctlu), sllu⟩)
    (clu : PySem.W.codeIn K cdlu "_law_due" = true)
    (klu : PySem.W.keepIn K (.ref flu) = true)
    (alb : PySem.W.nsIn K mainGlobals "_law_bent" = some (some (.ref flb)))
    (llb : K.lookup flb = some ⟨oclb, odlb, .func (PySem.W.fnOf "_law_bent" "_law_bent" (C8.fnArgs sLbe) (C8.fnBody sLbe) (C8.fnScope sLbe) .none kVlb dclb pmlb anlb cdlb ctlb), sllb⟩)
    (clb : PySem.W.codeIn K cdlb "_law_bent" = true)
    (klb : PySem.W.keepIn K (.ref flb) = true)
    (ars : PySem.W.nsIn K mainGlobals "read_sizes" = some (some (.ref frs)))
    (lrs : K.lookup frs = some ⟨ocrs, odrs, .func (PySem.W.fnOf "read_sizes" "read_sizes" (C8.fnArgs sRS) (C8.fnBody sRS) (C8.fnScope sRS) .none kVrs dcrs pmrs anrs (.ref c0) ctrs), slrs⟩)
    (crs : PySem.W.codeIn K (.ref c0) "read_sizes" = true)
    (krs : PySem.W.keepIn K (.ref frs) = true)
    (alr : PySem.W.nsIn K mainGlobals "_law_right" = some (some (.ref flr)))
    (llr : K.lookup flr = some ⟨oclr, odlr, .func (PySem.W.fnOf "_law_right" "_law_right" (C8.fnArgs sRig) (C8.fnBody sRig) (C8.fnScope sRig) .none kVlr dclr pmlr anlr (.ref c1) ctlr), sllr⟩)
    (clr : PySem.W.codeIn K (.ref c1) "_law_right" = true)
    (klr : PySem.W.keepIn K (.ref flr) = true)
    (ala : PySem.W.nsIn K mainGlobals "law" = some (some (.ref fla)))
    (lla : K.lookup fla = some ⟨ocla, odla, .func (PySem.W.fnOf "law" "law" (C8.fnArgs sLaw) (C8.fnBody sLaw) (C8.fnScope sLaw) .none kVla dcla pmla anla (.ref c2) ctla), slla⟩)
    (cla : PySem.W.codeIn K (.ref c2) "law" = true)
    (kla : PySem.W.keepIn K (.ref fla) = true)
    (ltrs : K.lookup c0 = some ⟨oc_c0, od_c0, .fields us_c0, sl_c0⟩)
    (vtrs : us_c0[11]? = some (.ref B0))
    (ntrs : K.lookup B0 = none)
    (ltlr : K.lookup c1 = some ⟨oc_c1, od_c1, .fields us_c1, sl_c1⟩)
    (vtlr : us_c1[11]? = some (.ref B1))
    (ntlr : K.lookup B1 = none)
    (ltla : K.lookup c2 = some ⟨oc_c2, od_c2, .fields us_c2, sl_c2⟩)
    (vtla : us_c2[11]? = some (.ref B2))
    (ntla : K.lookup B2 = none)
    (nB1 : B1 ≠ B0)
    (nB2 : B2 ≠ B0)
    (nB3 : B2 ≠ B1)
    (aCC : PySem.W.nsIn K mainGlobals "Chunks" = some (some (.ref CC)))
    (sTCC : PySem.W.typeIn K (.ref CC) = some mcCC)
    (sRCC : PySem.W.readsIn K CC mcCC = true)
    (sGCC : PySem.W.specialIn K (.ref CC) "__getattribute__" = some (some (.builtin "type.__getattribute__")))
    (pgCC : PySem.W.plainGet K CC Str.empty = true)
    (hdCC : PySem.W.hasDictIn K CC = true)
    (poCC : PySem.W.plainOver K CC = true)
    (saCC : PySem.W.findIn K (.ref CC) "__setattr__" = some (some (.builtin "object.__setattr__")))
    (mkCC : PySem.W.makesIn K CC = true)
    (kCCC : PySem.W.keepIn K (.ref CC) = true)
    (noCC_sizes : PySem.W.findIn K (.ref CC) "sizes" = some none)
    (noCC_total : PySem.W.findIn K (.ref CC) "total" = some none)
    (noCC_ends : PySem.W.findIn K (.ref CC) "ends" = some none)
    (noCC_rests : PySem.W.findIn K (.ref CC) "rests" = some none)
    (hCCC : PySem.W.findIn K (.ref CC) "__class__" = some (some (.builtin "object.__class__")))
    (hMCC : PySem.W.mroIn K CC (.type "object") = some true)
    (hG : PySem.W.specialIn K (.builtin "object.__class__") "__get__" = some (some (.builtin "getset_descriptor.__get__")))
    (hK : PySem.W.takesIn K (.builtin "object.__class__") = some true)
    (nECC : PySem.W.findIn K (.ref CC) "__ne__" = some (some (.builtin "object.__ne__")))
    (oiCC : PySem.W.kitOne K (.ref CC) (.type "int") = some false)
    (obCC : PySem.W.kitOne K (.ref CC) (.type "bool") = some false)
    (osCC : PySem.W.kitOne K (.ref CC) (.type "str") = some false)
    (cM : PySem.W.findCls K (.ref CC) mcCC "MOST" = some (.val (.int vM tM)))
    (eM : vM = 5000)
    (aci : PySem.W.findIn K (.ref CC) "__init__" = some (some (.ref fci)))
    (ici : PySem.W.isFn K (.ref fci) = true)
    (lci : K.lookup fci = some ⟨occi, odci, .func (PySem.W.fnOf "__init__" "Chunks.__init__" (C8.fnArgs sCI) (C8.fnBody sCI) (C8.fnScope sCI) .none kVci dcci pmci anci cdci ctci), slci⟩)
    (cci : PySem.W.codeIn K cdci "Chunks.__init__" = true)
    (kci : PySem.W.keepIn K (.ref fci) = true)
    (lco : K.lookup fco = some ⟨occo, odco, .func (PySem.W.fnOf "of" "Chunks.of" (C8.fnArgs sCof) (C8.fnBody sCof) (C8.fnScope sCof) .none kVco dcco pmco anco cdco ctco), slco⟩)
    (cco : PySem.W.codeIn K cdco "Chunks.of" = true)
    (kco : PySem.W.keepIn K (.ref fco) = true)
    (sco : PySem.W.findCls K (.ref CC) mcCC "of" = some (.get (.builtin "staticmethod.__get__") (.ref pco) .none (.ref CC)))
    (rco : PySem.W.recIn K pco "staticmethod" = some (.ref fco :: rsco))
    (lcr : K.lookup fcr = some ⟨occr, odcr, .func (PySem.W.fnOf "read" "Chunks.read" (C8.fnArgs sCrd) (C8.fnBody sCrd) (C8.fnScope sCrd) .none kVcr dccr pmcr ancr cdcr ctcr), slcr⟩)
    (ccr : PySem.W.codeIn K cdcr "Chunks.read" = true)
    (ficr : PySem.W.fnIn K fcr = true)
    (scr : PySem.W.findCls K (.ref CC) mcCC "read" = some (.get (.builtin "classmethod.__get__") (.ref pcr) .none (.ref CC)))
    (rcr : PySem.W.recIn K pcr "classmethod" = some (.ref fcr :: rscr))
    (acs : PySem.W.findIn K (.ref CC) "__str__" = some (some (.ref fcs)))
    (ics : PySem.W.isFn K (.ref fcs) = true)
    (lcs : K.lookup fcs = some ⟨occs, odcs, .func (PySem.W.fnOf "__str__" "Chunks.__str__" (C8.fnArgs sCst) (C8.fnBody sCst) (C8.fnScope sCst) .none kVcs dccs pmcs ancs cdcs ctcs), slcs⟩)
    (ccs : PySem.W.codeIn K cdcs "Chunks.__str__" = true)
    (kcs : PySem.W.keepIn K (.ref fcs) = true)
    (ace : PySem.W.findIn K (.ref CC) "__eq__" = some (some (.ref fce)))
    (ice : PySem.W.isFn K (.ref fce) = true)
    (lce : K.lookup fce = some ⟨occe, odce, .func (PySem.W.fnOf "__eq__" "Chunks.__eq__" (C8.fnArgs sCeq) (C8.fnBody sCeq) (C8.fnScope sCeq) .none kVce dcce pmce ance cdce ctce), slce⟩)
    (cce : PySem.W.codeIn K cdce "Chunks.__eq__" = true)
    (kce : PySem.W.keepIn K (.ref fce) = true)
    (aR : PySem.W.nsIn K mainGlobals "Reader" = some (some (.ref R)))
    (pgR : PySem.W.plainGet K R Str.empty = true)
    (hdR : PySem.W.hasDictIn K R = true)
    (poR : PySem.W.plainOver K R = true)
    (saR : PySem.W.findIn K (.ref R) "__setattr__" = some (some (.builtin "object.__setattr__")))
    (mkR : PySem.W.makesIn K R = true)
    (kCR : PySem.W.keepIn K (.ref R) = true)
    (noR__words : PySem.W.findIn K (.ref R) "_words" = some none)
    (noR__row : PySem.W.findIn K (.ref R) "_row" = some none)
    (noR__at : PySem.W.findIn K (.ref R) "_at" = some none)
    (ari : PySem.W.findIn K (.ref R) "__init__" = some (some (.ref fri)))
    (iri : PySem.W.isFn K (.ref fri) = true)
    (lri : K.lookup fri = some ⟨ocri, odri, .func (PySem.W.fnOf "__init__" "Reader.__init__" (C8.fnArgs sRI) (C8.fnBody sRI) (C8.fnScope sRI) (.ref Tdri) kVri dcri pmri anri cdri ctri), slri⟩)
    (cri : PySem.W.codeIn K cdri "Reader.__init__" = true)
    (kri : PySem.W.keepIn K (.ref fri) = true)
    (lDri : K.lookup Tdri = some ⟨ocDri, odDri, .seq #[.int 0 tDri] nDri, slDri⟩)
    (ara : PySem.W.findIn K (.ref R) "at_hand" = some (some (.ref fra)))
    (ira : PySem.W.isFn K (.ref fra) = true)
    (lra : K.lookup fra = some ⟨ocra, odra, .func (PySem.W.fnOf "at_hand" "Reader.at_hand" (C8.fnArgs sRah) (C8.fnBody sRah) (C8.fnScope sRah) .none kVra dcra pmra anra cdra ctra), slra⟩)
    (cra : PySem.W.codeIn K cdra "Reader.at_hand" = true)
    (kra : PySem.W.keepIn K (.ref fra) = true)
    (arr : PySem.W.findIn K (.ref R) "refuse" = some (some (.ref frr)))
    (irr : PySem.W.isFn K (.ref frr) = true)
    (lrr : K.lookup frr = some ⟨ocrr, odrr, .func (PySem.W.fnOf "refuse" "Reader.refuse" (C8.fnArgs sRrf) (C8.fnBody sRrf) (C8.fnScope sRrf) .none kVrr dcrr pmrr anrr cdrr ctrr), slrr⟩)
    (crr : PySem.W.codeIn K cdrr "Reader.refuse" = true)
    (krr : PySem.W.keepIn K (.ref frr) = true)
    (art : PySem.W.findIn K (.ref R) "take" = some (some (.ref frt)))
    (irt : PySem.W.isFn K (.ref frt) = true)
    (lrt : K.lookup frt = some ⟨ocrt, odrt, .func (PySem.W.fnOf "take" "Reader.take" (C8.fnArgs sRtk) (C8.fnBody sRtk) (C8.fnScope sRtk) .none kVrt dcrt pmrt anrt cdrt ctrt), slrt⟩)
    (crt : PySem.W.codeIn K cdrt "Reader.take" = true)
    (krt : PySem.W.keepIn K (.ref frt) = true)
    (arx : PySem.W.findIn K (.ref R) "expect" = some (some (.ref frx)))
    (irx : PySem.W.isFn K (.ref frx) = true)
    (lrx : K.lookup frx = some ⟨ocrx, odrx, .func (PySem.W.fnOf "expect" "Reader.expect" (C8.fnArgs sRex) (C8.fnBody sRex) (C8.fnScope sRex) .none kVrx dcrx pmrx anrx cdrx ctrx), slrx⟩)
    (crx : PySem.W.codeIn K cdrx "Reader.expect" = true)
    (krx : PySem.W.keepIn K (.ref frx) = true)
    (arm : PySem.W.findIn K (.ref R) "more" = some (some (.ref frm)))
    (irm : PySem.W.isFn K (.ref frm) = true)
    (lrm : K.lookup frm = some ⟨ocrm, odrm, .func (PySem.W.fnOf "more" "Reader.more" (C8.fnArgs sRmo) (C8.fnBody sRmo) (C8.fnScope sRmo) .none kVrm dcrm pmrm anrm cdrm ctrm), slrm⟩)
    (crm : PySem.W.codeIn K cdrm "Reader.more" = true)
    (krm : PySem.W.keepIn K (.ref frm) = true)
    (arf : PySem.W.findIn K (.ref R) "finish" = some (some (.ref frf)))
    (irf : PySem.W.isFn K (.ref frf) = true)
    (lrf : K.lookup frf = some ⟨ocrf, odrf, .func (PySem.W.fnOf "finish" "Reader.finish" (C8.fnArgs sRfi) (C8.fnBody sRfi) (C8.fnScope sRfi) .none kVrf dcrf pmrf anrf cdrf ctrf), slrf⟩)
    (crf : PySem.W.codeIn K cdrf "Reader.finish" = true)
    (krf : PySem.W.keepIn K (.ref frf) = true)
    (aDt : PySem.W.nsIn K mainGlobals "BadText" = some (some (.ref D)))
    (xDt : K.lookup D = some (excClassObj nmDt qDt D NDt bsDt bmDt true snDt subDt abDt colDt ddDt e0t e1t e2t e3t e5t "ValueError.__new__"))
    (xBt : PySem.HandSPX.refsVE bmDt = true)
    (xst : PySem.W.findIn K (.ref D) "__setattr__" = some (some (.builtin "object.__setattr__")))
    (xet : PySem.W.subIn K (.ref D) (.type "BaseException") = some true)
    (xtt : PySem.W.typeIn K (.ref D) = some (.type "type"))
    (xkt : PySem.W.keepIn K (.ref D) = true)
    (xit : PySem.W.findIn K (.ref D) "__init__" = some (some (.ref fEt)))
    (xft : PySem.W.typeIn K (.ref fEt) = some (.type "function"))
    (lEt : K.lookup fEt = some ⟨ocEt, odEt, .func (PySem.W.fnOf "__init__" "BadText.__init__" (C8.fnArgs sTxE) (C8.fnBody sTxE) (C8.fnScope sTxE) .none kVEt dcEt pmEt anEt cdEt ctEt), slEt⟩)
    (cEt : PySem.W.codeIn K cdEt "BadText.__init__" = true)
    (xvt0 : PySem.W.findIn K (.ref D) "line" = some none)
    (xvt1 : PySem.W.findIn K (.ref D) "word" = some none)
    (xgt : PySem.W.findIn K (.ref D) "__getattribute__" = some (some (.builtin "BaseException.__getattribute__")))
    (xnt : PySem.W.findIn K (.ref D) "__getattr__" = some none)
    (xdt : PySem.W.hasDictIn K D = true)
    (xct : PySem.W.findIn K (.ref D) "__class__" = some (some (.builtin "object.__class__")))
    (xmt : PySem.W.mroIn K D (.type "object") = some true)
    (xot : PySem.W.kitOne K (.ref D) (.ref D) = some true)
    (xLt : PySem.W.exmOne K (.ref D) (.ref L) = some true)
    (aDm : PySem.W.nsIn K mainGlobals "TooMany" = some (some (.ref DM)))
    (xDm : K.lookup DM = some (excClassObj nmDm qDm DM NDm bsDm bmDm true snDm subDm abDm colDm ddDm e0m e1m e2m e3m e5m "ValueError.__new__"))
    (xBm : PySem.HandSPX.refsVE bmDm = true)
    (xsm : PySem.W.findIn K (.ref DM) "__setattr__" = some (some (.builtin "object.__setattr__")))
    (xem : PySem.W.subIn K (.ref DM) (.type "BaseException") = some true)
    (xtm : PySem.W.typeIn K (.ref DM) = some (.type "type"))
    (xkm : PySem.W.keepIn K (.ref DM) = true)
    (xim : PySem.W.findIn K (.ref DM) "__init__" = some (some (.ref fEm)))
    (xfm : PySem.W.typeIn K (.ref fEm) = some (.type "function"))
    (lEm : K.lookup fEm = some ⟨ocEm, odEm, .func (PySem.W.fnOf "__init__" "TooMany.__init__" (C8.fnArgs sMnE) (C8.fnBody sMnE) (C8.fnScope sMnE) .none kVEm dcEm pmEm anEm cdEm ctEm), slEm⟩)
    (cEm : PySem.W.codeIn K cdEm "TooMany.__init__" = true)
    (xvm0 : PySem.W.findIn K (.ref DM) "what" = some none)
    (xvm1 : PySem.W.findIn K (.ref DM) "most" = some none)
    (xgm : PySem.W.findIn K (.ref DM) "__getattribute__" = some (some (.builtin "BaseException.__getattribute__")))
    (xnm : PySem.W.findIn K (.ref DM) "__getattr__" = some none)
    (xdm : PySem.W.hasDictIn K DM = true)
    (xcm : PySem.W.findIn K (.ref DM) "__class__" = some (some (.builtin "object.__class__")))
    (xmm : PySem.W.mroIn K DM (.type "object") = some true)
    (xom : PySem.W.kitOne K (.ref DM) (.ref DM) = some true)
    (xLm : PySem.W.exmOne K (.ref DM) (.ref L) = some true)
    (tm : PySem.W.kitOne K (.ref D) (.ref DM) = some false)
    (mt : PySem.W.kitOne K (.ref DM) (.ref D) = some false)
    (gPF : PySem.W.nsIn K mainGlobals "PIECE_FIGURES" = some (some (.int vPF tPF)))
    (ePF : vPF = 60)
    (gPW : PySem.W.nsIn K mainGlobals "PIECE_WORTH" = some (some (.int vPW tPW)))
    (ePW : vPW = 10 ^ 60)
    (gGS : PySem.W.nsIn K mainGlobals "GREATEST_SIZE" = some (some (.int vGS tGS)))
    (eGS : vGS = 10 ^ 30)
    (z_int : PySem.W.nsIn K mainGlobals "int" = some none)
    (z_list : PySem.W.nsIn K mainGlobals "list" = some none)
    (z_len : PySem.W.nsIn K mainGlobals "len" = some none)
    (z_abs : PySem.W.nsIn K mainGlobals "abs" = some none)
    (z_bool : PySem.W.nsIn K mainGlobals "bool" = some none)
    (z_str : PySem.W.nsIn K mainGlobals "str" = some none)
    (z_isinstance : PySem.W.nsIn K mainGlobals "isinstance" = some none)
    (z_range : PySem.W.nsIn K mainGlobals "range" = some none)
    (z_repr : PySem.W.nsIn K mainGlobals "repr" = some none)
    (z_all : PySem.W.nsIn K mainGlobals "all" = some none)
    (z_zip : PySem.W.nsIn K mainGlobals "zip" = some none)
    (z_tuple : PySem.W.nsIn K mainGlobals "tuple" = some none) :
    ∃ (fd : FuncData) (tb : List (Str × Addr × Addr)) (sp : Sp), (∀ e ∈ tb, e.1 ∈ (["read_sizes", "_law_right", "law"] : List Str) ∧ PySem.W.tabIn K e.1 = some (e.2.1, e.2.2) ∧ K.lookup e.2.2 = none) ∧ (∀ (s : Shared) (u : Value), BindsTo s fd ⟨[u], []⟩ [("_law_script", u)]) ∧
      (∀ base : Heap, K.In base → base.Ns mainGlobals mg → (∀ e ∈ tb, TabB base mg e.2.1 e.2.2) → FnG l.prog w K mg base 18 fa fd ["_law_script"] sp) ∧
      ∀ (H : Hp) (a : Addr) (ns : List Int), (∀ e ∈ tb, H e.2.2 = some (.tbl #[])) → SqL K H a (ns.map V.int) → ns.length ≤ 63 → sp [.ref a] H (fun v _ => v = .bl true) C8.E0 := by
  have e := hfa.symm.trans (PySem.W.mg_of X G ala)
  cases e
  subst eM ePF ePW eGS
  have Fii : C8.Def K mg "is_integer" sIsInt fii _ := ⟨⟨_, _, _, _, _, _, _, _, _, _, rfl, lii, cii⟩, PySem.W.mg_of X G aii, kii⟩
  have bii : Binds K _ ["value"] [] := Fii.fn.binds rfl fun _ _ _ _ _ _ us hl => match us, hl with | [_], _ => rfl
  have Fiw : C8.Def K mg "is_within" sWithin fiw _ := ⟨⟨_, _, _, _, _, _, _, _, _, _, rfl, liw, ciw⟩, PySem.W.mg_of X G aiw, kiw⟩
  have biw : Binds K _ ["value", "least", "most"] [] := Fiw.fn.binds rfl fun _ _ _ _ _ _ us hl => match us, hl with | [_, _, _], _ => rfl
  have Fis : C8.Def K mg "is_size" sSize fis _ := ⟨⟨_, _, _, _, _, _, _, _, _, _, rfl, lis, cis⟩, PySem.W.mg_of X G ais, kis⟩
  have bis : Binds K _ ["value"] [] := Fis.fn.binds rfl fun _ _ _ _ _ _ us hl => match us, hl with | [_], _ => rfl
  have Fio : C8.Def K mg "integer_of" sIntOf fio _ := ⟨⟨_, _, _, _, _, _, _, _, _, _, rfl, lio, cio⟩, PySem.W.mg_of X G aio, kio⟩
  have bio : Binds K _ ["word"] [] := Fio.fn.binds rfl fun _ _ _ _ _ _ us hl => match us, hl with | [_], _ => rfl
  have Fno : C8.Def K mg "number_of" sNumOf fno _ := ⟨⟨_, _, _, _, _, _, _, _, _, _, rfl, lno, cno⟩, PySem.W.mg_of X G ano, kno⟩
  have bno : Binds K _ ["word", "least", "most"] [] := Fno.fn.binds rfl fun _ _ _ _ _ _ us hl => match us, hl with | [_, _, _], _ => rfl
  have Frw : C8.Def K mg "read_worths" sRW frw _ := ⟨⟨_, _, _, _, _, _, _, _, _, _, rfl, lrw, crw⟩, PySem.W.mg_of X G arw, krw⟩
  have brw : Binds K _ ["reader", "worth_of"] [] := Frw.fn.binds rfl fun _ _ _ _ _ _ us hl => match us, hl with | [_, _], _ => rfl
  have Fcm : C8.Def K mg "check_many" sCM fcm _ := ⟨⟨_, _, _, _, _, _, _, _, _, _, rfl, lcm, ccm⟩, PySem.W.mg_of X G acm, kcm⟩
  have bcm : Binds K _ ["many"] [] := Fcm.fn.binds rfl fun _ _ _ _ _ _ us hl => match us, hl with | [_], _ => rfl
  have Flp : C8.Def K mg "_law_pen" sPen flp _ := ⟨⟨_, _, _, _, _, _, _, _, _, _, rfl, llp, clp⟩, PySem.W.mg_of X G alp, klp⟩
  have blp : Binds K _ ["_law_script"] [] := Flp.fn.binds rfl fun _ _ _ _ _ _ us hl => match us, hl with | [_], _ => rfl
  have Fld : C8.Def K mg "_law_draw" sDraw fld _ := ⟨⟨_, _, _, _, _, _, _, _, _, _, rfl, lld, cld⟩, PySem.W.mg_of X G ald, kld⟩
  have bld : Binds K _ ["_law_pen_here", "_law_many"] [] := Fld.fn.binds rfl fun _ _ _ _ _ _ us hl => match us, hl with | [_, _], _ => rfl
  have Flk : C8.Def K mg "_law_pick" sPick flk _ := ⟨⟨_, _, _, _, _, _, _, _, _, _, rfl, llk, clk⟩, PySem.W.mg_of X G alk, klk⟩
  have blk : Binds K _ ["_law_pen_here", "_law_some"] [] := Flk.fn.binds rfl fun _ _ _ _ _ _ us hl => match us, hl with | [_, _], _ => rfl
  have Flh : C8.Def K mg "_law_heard" sHea flh _ := ⟨⟨_, _, _, _, _, _, _, _, _, _, rfl, llh, clh⟩, PySem.W.mg_of X G alh, klh⟩
  have blh : Binds K _ ["_law_ask"] [] := Flh.fn.binds rfl fun _ _ _ _ _ _ us hl => match us, hl with | [_], _ => rfl
  have Flz : C8.Def K mg "_law_sizes" sLsz flz _ := ⟨⟨_, _, _, _, _, _, _, _, _, _, rfl, llz, clz⟩, PySem.W.mg_of X G alz, klz⟩
  have blz : Binds K _ ["_law_pen_here", "_law_most"] [] := Flz.fn.binds rfl fun _ _ _ _ _ _ us hl => match us, hl with | [_, _], _ => rfl
  have Flq : C8.Def K mg "_law_is_size" sLis flq _ := ⟨⟨_, _, _, _, _, _, _, _, _, _, rfl, llq, clq⟩, PySem.W.mg_of X G alq, klq⟩
  have blq : Binds K _ ["_law_word"] [] := Flq.fn.binds rfl fun _ _ _ _ _ _ us hl => match us, hl with | [_], _ => rfl
  have Flu : C8.Def K mg "_law_due" sLdu flu _ := ⟨⟨_, _, _, _, _, _, _, _, _, _, rfl, llu, clu⟩, PySem.W.mg_of X G alu, klu⟩
  have blu : Binds K _ ["_law_text"] [] := Flu.fn.binds rfl fun _ _ _ _ _ _ us hl => match us, hl with | [_], _ => rfl
  have Flb : C8.Def K mg "_law_bent" sLbe flb _ := ⟨⟨_, _, _, _, _, _, _, _, _, _, rfl, llb, clb⟩, PySem.W.mg_of X G alb, klb⟩
  have blb : Binds K _ ["_law_pen_here", "_law_text"] [] := Flb.fn.binds rfl fun _ _ _ _ _ _ us hl => match us, hl with | [_, _], _ => rfl
  have Frs : DefC K mg "read_sizes" sRS frs _ c0 := ⟨⟨_, _, _, _, _, _, _, _, _, rfl, lrs, crs⟩, PySem.W.mg_of X G ars, krs⟩
  have brs : Binds K _ ["reader"] [] := C8.Fun.binds (st := sRS) (x := "read_sizes") (qual := "read_sizes") (f := frs) ⟨_, _, _, _, _, _, _, _, _, _, rfl, lrs, crs⟩ rfl fun _ _ _ _ _ _ us hl => match us, hl with | [_], _ => rfl
  have Flr : DefC K mg "_law_right" sRig flr _ c1 := ⟨⟨_, _, _, _, _, _, _, _, _, rfl, llr, clr⟩, PySem.W.mg_of X G alr, klr⟩
  have blr : Binds K _ ["_law_pen_here"] [] := C8.Fun.binds (st := sRig) (x := "_law_right") (qual := "_law_right") (f := flr) ⟨_, _, _, _, _, _, _, _, _, _, rfl, llr, clr⟩ rfl fun _ _ _ _ _ _ us hl => match us, hl with | [_], _ => rfl
  have Fla : LawC K "law" sLaw fa _ c2 := ⟨⟨_, _, _, _, _, _, _, _, _, rfl, lla, cla⟩⟩
  have rCC : CRead K CC mcCC := ⟨sRCC, sGCC⟩
  have clCC : Cls K CC := ⟨pgCC, hdCC, poCC, saCC⟩
  have ICC : C8.InsC K CC := ⟨clCC, hCCC, hG, hK, hMCC, by unfold PySem.W.kitOne; rw [if_pos (by simp)]⟩
  have Fci : C8.Fun K "__init__" "Chunks.__init__" sCI fci _ := ⟨_, _, _, _, _, _, _, _, _, _, rfl, lci, cci⟩
  have tci : Meth K CC "__init__" fci := ⟨aci, ici, kci⟩
  have Fco : C8.Fun K "of" "Chunks.of" sCof fco _ := ⟨_, _, _, _, _, _, _, _, _, _, rfl, lco, cco⟩
  have bco : Binds K _ ["sizes"] [] := Fco.binds rfl fun _ _ _ _ _ _ us hl => match us, hl with | [_], _ => rfl
  have Sco : SMet K CC "of" pco fco := ⟨⟨_, sTCC, sRCC, sco⟩, sGCC, ⟨_, rco⟩, kco⟩
  have Fcr : C8.Fun K "read" "Chunks.read" sCrd fcr _ := ⟨_, _, _, _, _, _, _, _, _, _, rfl, lcr, ccr⟩
  have bcr : Binds K _ ["cls", "text"] [] := Fcr.binds rfl fun _ _ _ _ _ _ us hl => match us, hl with | [_, _], _ => rfl
  have Scr : CMet K CC mcCC "read" pcr fcr := ⟨scr, ⟨_, rcr⟩, ficr⟩
  have Fcs : C8.Fun K "__str__" "Chunks.__str__" sCst fcs _ := ⟨_, _, _, _, _, _, _, _, _, _, rfl, lcs, ccs⟩
  have bcs : Binds K _ ["self"] [] := Fcs.binds rfl fun _ _ _ _ _ _ us hl => match us, hl with | [_], _ => rfl
  have tcs : Meth K CC "__str__" fcs := ⟨acs, ics, kcs⟩
  have Fce : C8.Fun K "__eq__" "Chunks.__eq__" sCeq fce _ := ⟨_, _, _, _, _, _, _, _, _, _, rfl, lce, cce⟩
  have bce : Binds K _ ["self", "other"] [] := Fce.binds rfl fun _ _ _ _ _ _ us hl => match us, hl with | [_, _], _ => rfl
  have tce : Meth K CC "__eq__" fce := ⟨ace, ice, kce⟩
  have clR : Cls K R := ⟨pgR, hdR, poR, saR⟩
  have Fri : C8.Fun K "__init__" "Reader.__init__" sRI fri _ := ⟨_, _, _, _, _, _, _, _, _, _, rfl, lri, cri⟩
  have FDri : FunD K "__init__" "Reader.__init__" (C8.fnArgs sRI) (C8.fnBody sRI) (C8.fnScope sRI) [.int 0] [] fri _ := ⟨⟨_, _, _, _, _, _, _, _, _, _, rfl, lri, cri, .inr ⟨by simp, Tdri, _, [.int 0 tDri], nDri, rfl, lDri, rfl, .cons ⟨_, rfl⟩ .nil⟩, .inl rfl⟩, kri⟩
  have Fra : C8.Fun K "at_hand" "Reader.at_hand" sRah fra _ := ⟨_, _, _, _, _, _, _, _, _, _, rfl, lra, cra⟩
  have bra : Binds K _ ["self"] [] := Fra.binds rfl fun _ _ _ _ _ _ us hl => match us, hl with | [_], _ => rfl
  have tra : Meth K R "at_hand" fra := ⟨ara, ira, kra⟩
  have Frr : C8.Fun K "refuse" "Reader.refuse" sRrf frr _ := ⟨_, _, _, _, _, _, _, _, _, _, rfl, lrr, crr⟩
  have brr : Binds K _ ["self"] [] := Frr.binds rfl fun _ _ _ _ _ _ us hl => match us, hl with | [_], _ => rfl
  have trr : Meth K R "refuse" frr := ⟨arr, irr, krr⟩
  have Frt : C8.Fun K "take" "Reader.take" sRtk frt _ := ⟨_, _, _, _, _, _, _, _, _, _, rfl, lrt, crt⟩
  have brt : Binds K _ ["self", "worth"] [] := Frt.binds rfl fun _ _ _ _ _ _ us hl => match us, hl with | [_, _], _ => rfl
  have trt : Meth K R "take" frt := ⟨art, irt, krt⟩
  have Frx : C8.Fun K "expect" "Reader.expect" sRex frx _ := ⟨_, _, _, _, _, _, _, _, _, _, rfl, lrx, crx⟩
  have brx : Binds K _ ["self", "sign"] [] := Frx.binds rfl fun _ _ _ _ _ _ us hl => match us, hl with | [_, _], _ => rfl
  have trx : Meth K R "expect" frx := ⟨arx, irx, krx⟩
  have Frm : C8.Fun K "more" "Reader.more" sRmo frm _ := ⟨_, _, _, _, _, _, _, _, _, _, rfl, lrm, crm⟩
  have brm : Binds K _ ["self"] [] := Frm.binds rfl fun _ _ _ _ _ _ us hl => match us, hl with | [_], _ => rfl
  have trm : Meth K R "more" frm := ⟨arm, irm, krm⟩
  have Frf : C8.Fun K "finish" "Reader.finish" sRfi frf _ := ⟨_, _, _, _, _, _, _, _, _, _, rfl, lrf, crf⟩
  have brf : Binds K _ ["self"] [] := Frf.binds rfl fun _ _ _ _ _ _ us hl => match us, hl with | [_], _ => rfl
  have trf : Meth K R "finish" frf := ⟨arf, irf, krf⟩
  have FEt : C8.Fun K "__init__" "BadText.__init__" sTxE fEt _ := ⟨_, _, _, _, _, _, _, _, _, _, rfl, lEt, cEt⟩
  have bEt : Binds K _ ["self", "line", "word"] [] := FEt.binds rfl fun _ _ _ _ _ _ us hl => match us, hl with | [_, _, _], _ => rfl
  have OXt : OexC K D := ⟨⟨_, _, _, _, _, _, _, _, _, _, _, _, _, _, _, xDt, xBt⟩, xst, xet, xtt, xkt⟩
  have XFt : XfC K D := ⟨xgt, xnt, xet, xdt⟩
  have XCt : Hx.XCls K D := ⟨xgt, xnt, xet, xdt, xct, hG, hK, xmt⟩
  have FEm : C8.Fun K "__init__" "TooMany.__init__" sMnE fEm _ := ⟨_, _, _, _, _, _, _, _, _, _, rfl, lEm, cEm⟩
  have bEm : Binds K _ ["self", "what", "most"] [] := FEm.binds rfl fun _ _ _ _ _ _ us hl => match us, hl with | [_, _, _], _ => rfl
  have OXm : OexC K DM := ⟨⟨_, _, _, _, _, _, _, _, _, _, _, _, _, _, _, xDm, xBm⟩, xsm, xem, xtm, xkm⟩
  have XFm : XfC K DM := ⟨xgm, xnm, xem, xdm⟩
  have XCm : Hx.XCls K DM := ⟨xgm, xnm, xem, xdm, xcm, hG, hK, xmm⟩
  have T : Txt mg := { n_int := PySem.W.mg_none_of X G z_int, n_list := PySem.W.mg_none_of X G z_list, n_len := PySem.W.mg_none_of X G z_len, n_abs := PySem.W.mg_none_of X G z_abs, n_bool := PySem.W.mg_none_of X G z_bool, n_str := PySem.W.mg_none_of X G z_str, n_isinstance := PySem.W.mg_none_of X G z_isinstance, n_range := PySem.W.mg_none_of X G z_range, n_repr := PySem.W.mg_none_of X G z_repr, n_all := PySem.W.mg_none_of X G z_all, c_GS := ⟨_, PySem.W.mg_of X G gGS⟩ }
  have TN : TxtN mg := { toTxt := T, c_PF := ⟨_, PySem.W.mg_of X G gPF⟩, c_PW := ⟨_, PySem.W.mg_of X G gPW⟩ }
  have hz := PySem.W.mg_none_of X G z_zip
  have htu := PySem.W.mg_none_of X G z_tuple
  have NB : Apart3 B0 B1 B2 := ⟨nB1, nB2, nB3⟩
  obtain ⟨ds, vds, bri⟩ := FDri.binds1 (ps := ["self", "text", "row"]) 2 0 (by simp) rfl (fun Tq kVq dcq pmq anq cdq ctq us its h1 h2 => match us, its, h1, h2 with | [_, _], [_], _, _ => ⟨_, rfl, rfl⟩)
  have R2 : Hrd K mg D DM L := { T := ⟨XFt, xvt0, xvt1, XCt, xot⟩, M := ⟨XFm, xvm0, xvm1, XCm, xom⟩, tm := tm, mt := mt, ml := PySem.W.mg_of X G aL, md := PySem.W.mg_of X G aDt, mm := PySem.W.mg_of X G aDm, xT := xLt, xM := xLm }
  have kb : ∃ gU : List Value → List Value → List Value, KBn K _ ["cls", "text"] 1 ["text"] gU (fun us zs => us ++ zs) := ⟨fun us ws => us ++ ws, kb_one Fcr rfl fun _ _ _ _ _ _ us ws h1 h2 => match us, ws, h1, h2 with | [_], [_], _, _ => rfl⟩
  refine ⟨PySem.W.fnOf "law" "law" (C8.fnArgs sLaw) (C8.fnBody sLaw) (C8.fnScope sLaw) .none kVla dcla pmla anla (.ref c2) ctla, [("read_sizes", c0, B0), ("_law_right", c1, B1), ("law", c2, B2)], spLaw K (tabT B0 B1 B2), ?tbs, fun s u => .of_eq rfl, fun base KB GB TBS => ?_, ?hsp⟩
  case tbs =>
    exact fun e he => by
      simp only [List.mem_cons, List.not_mem_nil, or_false] at he
      rcases he with rfl | rfl | rfl
      · exact ⟨by simp, tabIn_of ars lrs rfl ltrs vtrs, ntrs⟩
      · exact ⟨by simp, tabIn_of alr llr rfl ltlr vtlr, ntlr⟩
      · exact ⟨by simp, tabIn_of ala lla rfl ltla vtla, ntla⟩
  case hsp =>
    exact fun H a ns hB hS hl => ⟨a, ns, rfl, hS, hl, fun p hp => by
      simp only [List.mem_cons, List.not_mem_nil, or_false] at hp
      rcases hp with rfl | rfl | rfl
      · exact TabS.nil (hB _ (List.Mem.head _))
      · exact TabS.nil (hB _ (List.Mem.tail _ (List.Mem.head _)))
      · exact TabS.nil (hB _ (List.Mem.tail _ (List.Mem.tail _ (List.Mem.head _)))), fun _ => rfl⟩
  have TBrs : TabB base mg c0 B0 := TBS ("read_sizes", c0, B0) (by simp)
  have TBlr : TabB base mg c1 B1 := TBS ("_law_right", c1, B1) (by simp)
  have TBla : TabB base mg c2 B2 := TBS ("law", c2, B2) (by simp)
  have ERt : Err2 "BadText" "line" "word" l.prog w K mg base D fEt _ := ⟨OXt, xit, xft, fn_txE FEt OXt xvt0 xvt1, bEt, PySem.W.mg_of X G aDt⟩
  have ERm : Err2 "TooMany" "what" "most" l.prog w K mg base DM fEm _ := ⟨OXm, xim, xfm, fn_mnE FEm OXm xvm0 xvm1, bEm, PySem.W.mg_of X G aDm⟩
  have Dii := cal_isint (P := l.prog) (w := w) (base := base) Fii bii T
  have Diw := cal_within Fiw biw T Dii
  have Dis := cal_size Fis bis T Diw
  have Dio := cal_intof (P := l.prog) (w := w) (base := base) Fio bio TN
  have Dno := cal_numof Fno bno Dio Diw
  have RC : RdC K R := ⟨clR, noR__words, noR__row, noR__at⟩
  have Mra : MetX l.prog w K mg base 1 R "at_hand" (spRah R) := ⟨_, _, _, tra, fn_rah Fra T RC, bra⟩
  have Mrr : MetX l.prog w K mg base 3 R "refuse" (spRrf R D) := ⟨_, _, _, trr, fn_rrf Frr RC ERt, brr⟩
  have Mrt : MetX l.prog w K mg base 5 R "take" (spRtk R D) := ⟨_, _, _, trt, fn_rtk Frt RC Mrr, brt⟩
  have Mrx : MetX l.prog w K mg base 7 R "expect" (spRex R) := ⟨_, _, _, trx, fn_rex Frx RC Mra Mrt, brx⟩
  have Mrm : MetX l.prog w K mg base 3 R "more" (spRmo R) := ⟨_, _, _, trm, fn_rmo Frm RC Mra, brm⟩
  have Mrf : MetX l.prog w K mg base 5 R "finish" (spRfi R D) := ⟨_, _, _, trf, fn_rfi Frf T RC Mrr, brf⟩
  have RM : RdMs l.prog w K mg base R D := ⟨RC, Mra, Mrt, Mrx, Mrm, Mrf⟩
  have RK : RdK l.prog w K mg base R D fri _ ds := ⟨⟨mkR, ari, iri, kCR⟩, fn_ri Fri T RC ERt, PySem.W.mg_of X G aR, bri, vds⟩
  have FRW := fn_rw (P := l.prog) (w := w) (base := base) Frw T RM
  have FRS := fn_rs (P := l.prog) (w := w) (base := base) Frs T TBrs NB Dno Frw brw FRW
  have Z : ChC l.prog w K mg base CC DM mcCC := ⟨rCC, ⟨_, ⟨cM, ⟨_, rfl⟩⟩⟩, PySem.W.mg_of X G aCC, clCC, noCC_sizes, noCC_total, noCC_ends, noCC_rests⟩
  have FCM := fn_cm (P := l.prog) (w := w) (base := base) Fcm Z ERm
  have CM : ChM l.prog w K mg base CC DM fci mcCC := ⟨Z, ⟨mkCC, aci, ici, kCCC⟩, fn_ci Fci rfl T hz htu Z Dis Fcm bcm FCM⟩
  have FO := fn_cof (P := l.prog) (w := w) (base := base) Fco T htu CM
  have RR : ChR l.prog w K mg base CC D DM pcr fcr (tabT B0 B1 B2) mcCC _ := ⟨rCC, Scr, fn_crd Fcr RK RM (PySem.W.mg_of X G ars) krs brs FRS Sco FO bco, bcr⟩
  have MS : MetX l.prog w K mg base 2 CC "__str__" (spCst CC) := ⟨_, _, _, tcs, fn_cst Fcs T Z, bcs⟩
  have ME : MetX l.prog w K mg base 2 CC "__eq__" (spCeq CC) := ⟨_, _, _, tce, fn_ceq Fce T Z ICC, bce⟩
  have NC : NeC K CC := ⟨hMCC, nECC⟩
  have nb : NoB K CC := ⟨oiCC, obCC, osCC⟩
  have D1 := cal_draw (P := l.prog) (w := w) (K := K) (base := base) Fld bld T.toTxt0
  have D2 := cal_pick Flk blk T.toTxt0 D1
  have D0 := cal_pen (P := l.prog) (w := w) (base := base) Flp blp T.toTxt0
  have Dz := cal_lsz Flz blz T D1 D2
  have Dq := cal_lis (P := l.prog) (w := w) (base := base) Flq blq T
  have Du := cal_ldu Flu blu T htu Dq
  have Db := cal_lbe Flb blb T D1 D2
  have DR := cal_rig Flr blr Flh blh TBlr NB R2 T htu CM ICC nb RR kb Sco FO bco MS NC ME D2 Dz Du Db
  exact fn_law Fla Flh blh TBla NB R2 T CM RR MS D0 DR
end Lw
open PySem PySem.W PyProof.Rows
set_option maxRecDepth 100000 in
set_option maxHeartbeats 0 in
theorem PySem.Challenge.cw_latechunks_k12_texts_of_chunks_holds : PySem.Challenge.rw_latechunks_k12_texts_of_chunks.Holds := by
  w_on; o_law; k_head; (case hw => w_witness2)
  k_fill
  refine Lw.walk_endL (l := PySem.Challenge.rw_latechunks_k12_texts_of_chunks) (x := "_law_script") (xts := (["read_sizes", "_law_right", "law"] : List Str)) (k := 18) rfl (by decide) rfl ⟨rfl, by decide, by decide⟩ (fun w h Y => PySem.W.km_in_of Y) ?hrec ?F
  case hrec => first | rfl | decide +kernel
  case F =>
    intro w mg fa h KX G hmg
    refine' Lw.all_known KX G hmg ?aL ?aii ?lii ?cii ?kii ?aiw ?liw ?ciw ?kiw ?ais ?lis ?cis ?kis ?aio ?lio ?cio ?kio ?ano ?lno ?cno ?kno ?arw ?lrw ?crw ?krw ?acm ?lcm ?ccm ?kcm ?alp ?llp ?clp ?klp ?ald ?lld ?cld ?kld ?alk ?llk ?clk ?klk ?alh ?llh ?clh ?klh ?alz ?llz ?clz ?klz ?alq ?llq ?clq ?klq ?alu ?llu ?clu ?klu ?alb ?llb ?clb ?klb ?ars ?lrs ?crs ?krs ?alr ?llr ?clr ?klr ?ala ?lla ?cla ?kla ?ltrs ?vtrs ?ntrs ?ltlr ?vtlr ?ntlr ?ltla ?vtla ?ntla ?nB1 ?nB2 ?nB3 ?aCC ?sTCC ?sRCC ?sGCC ?pgCC ?hdCC ?poCC ?saCC ?mkCC ?kCCC ?noCC_sizes ?noCC_total ?noCC_ends ?noCC_rests ?hCCC ?hMCC ?hG ?hK ?nECC ?oiCC ?obCC ?osCC ?cM ?eM ?aci ?ici ?lci ?cci ?kci ?lco ?cco ?kco ?sco ?rco ?lcr ?ccr ?ficr ?scr ?rcr ?acs ?ics ?lcs ?ccs ?kcs ?ace ?ice ?lce ?cce ?kce ?aR ?pgR ?hdR ?poR ?saR ?mkR ?kCR ?noR__words ?noR__row ?noR__at ?ari ?iri ?lri ?cri ?kri ?lDri ?ara ?ira ?lra ?cra ?kra ?arr ?irr ?lrr ?crr ?krr ?art ?irt ?lrt ?crt ?krt ?arx ?irx ?lrx ?crx ?krx ?arm ?irm ?lrm ?crm ?krm ?arf ?irf ?lrf ?crf ?krf ?aDt ?xDt ?xBt ?xst ?xet ?xtt ?xkt ?xit ?xft ?lEt ?cEt ?xvt0 ?xvt1 ?xgt ?xnt ?xdt ?xct ?xmt ?xot ?xLt ?aDm ?xDm ?xBm ?xsm ?xem ?xtm ?xkm ?xim ?xfm ?lEm ?cEm ?xvm0 ?xvm1 ?xgm ?xnm ?xdm ?xcm ?xmm ?xom ?xLm ?tm ?mt ?gPF ?ePF ?gPW ?ePW ?gGS ?eGS ?z_int ?z_list ?z_len ?z_abs ?z_bool ?z_str ?z_isinstance ?z_range ?z_repr ?z_all ?z_zip ?z_tuple
    (case aL => k_is); (case aCC => k_is); (case sTCC => k_is); (case sRCC => k_is)
    (case sGCC => k_is); (case cM => k_is); (case sco => k_is); (case rco => k_is)
    (case scr => k_is); (case rcr => k_is); (case aR => k_is); (case aDt => k_is)
    (case aDm => k_is); (case aii => k_is); (case lii => k_is); (case cii => k_is)
    (case kii => k_is); (case aiw => k_is); (case liw => k_is); (case ciw => k_is)
    (case kiw => k_is); (case ais => k_is); (case lis => k_is); (case cis => k_is)
    (case kis => k_is); (case aio => k_is); (case lio => k_is); (case cio => k_is)
    (case kio => k_is); (case ano => k_is); (case lno => k_is); (case cno => k_is)
    (case kno => k_is); (case arw => k_is); (case lrw => k_is); (case crw => k_is)
    (case krw => k_is); (case acm => k_is); (case lcm => k_is); (case ccm => k_is)
    (case kcm => k_is); (case alp => k_is); (case llp => k_is); (case clp => k_is)
    (case klp => k_is); (case ald => k_is); (case lld => k_is); (case cld => k_is)
    (case kld => k_is); (case alk => k_is); (case llk => k_is); (case clk => k_is)
    (case klk => k_is); (case alh => k_is); (case llh => k_is); (case clh => k_is)
    (case klh => k_is); (case alz => k_is); (case llz => k_is); (case clz => k_is)
    (case klz => k_is); (case alq => k_is); (case llq => k_is); (case clq => k_is)
    (case klq => k_is); (case alu => k_is); (case llu => k_is); (case clu => k_is)
    (case klu => k_is); (case alb => k_is); (case llb => k_is); (case clb => k_is)
    (case klb => k_is); (case ars => k_is); (case lrs => k_is); (case crs => k_is)
    (case krs => k_is); (case alr => k_is); (case llr => k_is); (case clr => k_is)
    (case klr => k_is); (case ala => k_is); (case lla => k_is); (case cla => k_is)
    (case kla => k_is); (case ltrs => k_is); (case vtrs => first | rfl | decide +kernel); (case ntrs => first | kernel_rfl | rfl)
    (case ltlr => k_is); (case vtlr => first | rfl | decide +kernel); (case ntlr => first | kernel_rfl | rfl); (case ltla => k_is)
    (case vtla => first | rfl | decide +kernel); (case ntla => first | kernel_rfl | rfl); (case nB1 => decide); (case nB2 => decide)
    (case nB3 => decide); (case pgCC => k_is); (case hdCC => k_is); (case poCC => k_is)
    (case saCC => k_is); (case mkCC => k_is); (case kCCC => k_is); (case noCC_sizes => k_is)
    (case noCC_total => k_is); (case noCC_ends => k_is); (case noCC_rests => k_is); (case hCCC => k_is)
    (case hMCC => k_is); (case hG => k_is); (case hK => k_is); (case nECC => k_is)
    (case oiCC => first | kernel_rfl | rfl | decide +kernel); (case obCC => first | kernel_rfl | rfl | decide +kernel); (case osCC => first | kernel_rfl | rfl | decide +kernel); (case eM => first | rfl | decide +kernel)
    (case aci => k_is); (case ici => k_is); (case lci => k_is); (case cci => k_is)
    (case kci => k_is); (case lco => k_is); (case cco => k_is); (case kco => k_is)
    (case lcr => k_is); (case ccr => k_is); (case ficr => k_is); (case acs => k_is)
    (case ics => k_is); (case lcs => k_is); (case ccs => k_is); (case kcs => k_is)
    (case ace => k_is); (case ice => k_is); (case lce => k_is); (case cce => k_is)
    (case kce => k_is); (case pgR => k_is); (case hdR => k_is); (case poR => k_is)
    (case saR => k_is); (case mkR => k_is); (case kCR => k_is); (case noR__words => k_is)
    (case noR__row => k_is); (case noR__at => k_is); (case ari => k_is); (case iri => k_is)
    (case lri => k_is); (case cri => k_is); (case kri => k_is); (case lDri => k_is)
    (case ara => k_is); (case ira => k_is); (case lra => k_is); (case cra => k_is)
    (case kra => k_is); (case arr => k_is); (case irr => k_is); (case lrr => k_is)
    (case crr => k_is); (case krr => k_is); (case art => k_is); (case irt => k_is)
    (case lrt => k_is); (case crt => k_is); (case krt => k_is); (case arx => k_is)
    (case irx => k_is); (case lrx => k_is); (case crx => k_is); (case krx => k_is)
    (case arm => k_is); (case irm => k_is); (case lrm => k_is); (case crm => k_is)
    (case krm => k_is); (case arf => k_is); (case irf => k_is); (case lrf => k_is)
    (case crf => k_is); (case krf => k_is); (case xDt => k_is); (case xBt => first | rfl | decide +kernel)
    (case xst => k_is); (case xet => k_is); (case xtt => k_is); (case xkt => k_is)
    (case xit => k_is); (case xft => k_is); (case lEt => k_is); (case cEt => k_is)
    (case xvt0 => k_is); (case xvt1 => k_is); (case xgt => k_is); (case xnt => k_is)
    (case xdt => k_is); (case xct => k_is); (case xmt => k_is); (case xot => first | kernel_rfl | rfl | decide +kernel)
    (case xLt => first | kernel_rfl | rfl | decide +kernel); (case xDm => k_is); (case xBm => first | rfl | decide +kernel); (case xsm => k_is)
    (case xem => k_is); (case xtm => k_is); (case xkm => k_is); (case xim => k_is)
    (case xfm => k_is); (case lEm => k_is); (case cEm => k_is); (case xvm0 => k_is)
    (case xvm1 => k_is); (case xgm => k_is); (case xnm => k_is); (case xdm => k_is)
    (case xcm => k_is); (case xmm => k_is); (case xom => first | kernel_rfl | rfl | decide +kernel); (case xLm => first | kernel_rfl | rfl | decide +kernel)
    (case tm => first | kernel_rfl | rfl | decide +kernel); (case mt => first | kernel_rfl | rfl | decide +kernel); (case gPF => k_is); (case ePF => first | rfl | decide +kernel)
    (case gPW => k_is); (case ePW => first | rfl | decide +kernel); (case gGS => k_is); (case eGS => first | rfl | decide +kernel)
    (case z_int => k_is); (case z_list => k_is); (case z_len => k_is); (case z_abs => k_is)
    (case z_bool => k_is); (case z_str => k_is); (case z_isinstance => k_is); (case z_range => k_is)
    (case z_repr => k_is); (case z_all => k_is); (case z_zip => k_is); (case z_tuple => k_is)
