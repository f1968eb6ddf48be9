/- fretworkref02.Mul: the contract. -/
import Derived.Test.YtdfackmaimmapaaDoorRefSub
import Derived.RegionTactic
import Derived.Laws.MakeOwn
namespace Go.Proofs.YtdfackmaimmapaaDoor
open Go.RowKit

def upd (O : Nat → Nat) (j v : Nat) (i : Nat) : Nat := if i = j then v else O i
theorem pv_upd (O : Nat → Nat) (j v : Nat) : ∀ N, j < N → pv (upd O j v) N + O j * 32768 ^ j = pv O N + v * 32768 ^ j
  | 0, h => by omega
  | N + 1, h => by
    rcases Nat.lt_or_ge j N with h1 | h1
    · have ih := pv_upd O j v N h1
      rw [pv, pv]
      have e : upd O j v N = O N := by unfold upd; rw [if_neg (by omega)]
      rw [e]
      omega
    · obtain rfl : j = N := by omega
      rw [pv, pv]
      have e : upd O j v j = v := by unfold upd; rw [if_pos rfl]
      have e2 : pv (upd O j v) j = pv O j := pv_congr j fun i hi => by unfold upd; rw [if_neg (by omega)]
      rw [e, e2]
      omega
theorem digits_set (O : Nat → Nat) (j v N : Nat) : (digits O N).set j (.int .i64 (v : Nat)) = digits (upd O j v) N := by
  apply List.ext_getElem?
  intro i
  simp only [digits, List.getElem?_set, List.getElem?_map, List.length_map, List.length_range, upd]
  by_cases h : j = i
  · subst h
    by_cases h2 : j < N
    · simp [h2]
    · simp [h2, List.getElem?_eq_none]
  · rw [if_neg h]
    by_cases h2 : i < N
    · simp [h2, Ne.symm h]
    · simp [h2, List.getElem?_eq_none]
theorem mul_step {P Q M a b c c' o v i k pb : Nat} (h : P + c * 32768 ^ (i + k) = M + a * pb * 32768 ^ i) (hu : Q + o * 32768 ^ (i + k) = P + v * 32768 ^ (i + k)) (hd : v + 32768 * c' = o + a * b + c) :
    Q + c' * 32768 ^ (i + (k + 1)) = M + a * (pb + b * 32768 ^ k) * 32768 ^ i := by
  rw [← Nat.add_assoc, pow15]
  have e : (v + 32768 * c') * 32768 ^ (i + k) = (o + a * b + c) * 32768 ^ (i + k) := by rw [hd]
  rw [Nat.add_mul, Nat.add_mul, Nat.add_mul, Nat.mul_comm 32768 c', Nat.mul_assoc] at e
  have e2 : a * (pb + b * 32768 ^ k) * 32768 ^ i = a * pb * 32768 ^ i + a * b * 32768 ^ (i + k) := by
    rw [Nat.mul_add, Nat.add_mul, Nat.pow_add, Nat.mul_comm (32768 ^ i), ← Nat.mul_assoc, ← Nat.mul_assoc, Nat.mul_assoc]
  rw [e2]
  omega
/-- The carry is nothing before the numbers end. -/
theorem mul_carry {P c i k n2 m2 : Nat} {A : Nat → Nat} (hA : ∀ j, A j < 32768) (h : P + c * 32768 ^ (i + k) = pv A i * m2 + A i * m2 * 32768 ^ i) (hm : m2 < 32768 ^ n2) (hc : 0 < c) : k ≤ n2 := by
  rcases Nat.lt_or_ge n2 k with hk | hk
  · exfalso
    have h1 : pv A (i + 1) * m2 = pv A i * m2 + A i * m2 * 32768 ^ i := by
      rw [pv, Nat.add_mul, Nat.mul_assoc, Nat.mul_assoc, Nat.mul_comm (32768 ^ i) m2]
    have h2 := pv_lt (D := A) (i + 1) (fun j _ => hA j)
    have h3 : pv A (i + 1) * m2 < 32768 ^ (i + 1) * 32768 ^ n2 :=
      Nat.lt_of_le_of_lt (Nat.mul_le_mul_left _ (Nat.le_of_lt hm)) (Nat.mul_lt_mul_of_pos_right h2 (pow15_pos n2))
    rw [← Nat.pow_add] at h3
    have h4 := pow15_le (show i + 1 + n2 ≤ i + k by omega)
    have h5 : 1 * 32768 ^ (i + k) ≤ c * 32768 ^ (i + k) := Nat.mul_le_mul_right _ hc
    omega
  · exact hk
theorem prod_bd {a b : Nat} (ha : a < 32768) (hb : b < 32768) : a * b ≤ 1073676289 := by
  have := Nat.mul_le_mul (show a ≤ 32767 by omega) (show b ≤ 32767 by omega)
  omega

theorem Whole.new_at {w : World} {g : Nat} {t : TypeId} {cs : Array Value} (h : w.heap.size = g) : Whole (w.alloc (.cells cs t)) g t cs := h ▸ Whole.new w t cs
theorem Whole.drew' {w : World} {g : Nat} {t : TypeId} {cs : Array Value} (h : Whole w g t cs) : Whole w.drew g t cs := h
/-- What is laid ahead of the loops. -/
def MulCut (sg : Bool) (p q : Bool) (n1 c1 n2 c2 : Nat) (A1 A2 : Option Addr) (N : Nat) (w : World) (g ga : Nat) (O : Nat → Nat) (wx : World) : Prop :=
  Whole wx w.heap.size 30 #[.bool p, .slice A1 n1 c1] ∧ Whole wx (w.heap.size + 1) 30 #[.bool q, .slice A2 n2 c2] ∧ Whole wx (w.heap.size + 1 + 1) 30 #[.bool false, .slice none 0 0] ∧
  Whole wx g 30 #[.bool sg, .slice (some ⟨ga, 0, none⟩) N N] ∧ wx.ownsRow w.heap.size 3 1 (.slice (some ⟨ga, 0, none⟩) N N) N (digits O N) ∧ Below w.heap.size w wx ∧ w.heap.size + 1 + 1 < g
theorem zeros (N : Nat) : (madeCells #[Value.int .i64 0] N).toList = digits (fun _ => 0) N := by
  refine (toList_madeCells_one (.int .i64 0) N).trans ?_
  unfold digits
  apply List.ext_getElem?
  intro i
  simp [List.getElem?_replicate]
  by_cases h : i < N <;> simp [h]
theorem own_zeros {w : World} {base g N : Nat} (hg : w.heap.size = g) (hb : base ≤ g) (hN : N ≤ 1000000) : (w.alloc (.cells (madeCells #[.int .i64 0] N) 3)).ownsRow base 3 1 (.slice (some ⟨g, 0, none⟩) N N) N (digits (fun _ => 0) N) := by
  subst hg
  have h := World.ownsRow_lit (base := base) (e := 3) (size := 1) w (madeCells #[.int .i64 0] N) N hb (by unfold maxLen; omega) (by rw [size_madeCells, Nat.mul_one])
  rw [zeros] at h
  exact h

set_option maxRecDepth 100000 in
set_option maxHeartbeats 4000000 in
theorem refMul_digs (p q sg : Bool) (hsg : (!(p == q)) = sg) (n1 n2 c1 c2 m1 m2 : Nat) (A1 A2 : Option Addr) (D1 D2 : Nat → Nat) (w : World) (h1 : DSlc w A1 n1 D1) (h2 : DSlc w A2 n2 D2) (d1 : Dig n1 D1 m1) (d2 : Dig n2 D2 m2) (k1 : n1 ≤ 100) (k2 : n2 ≤ 100)
    (x : Int) (hx : x.natAbs = m1 * m2) (hxs : x ≠ 0 → sg = decide (x < 0)) :
    Calls Tryd.prog 15 #[.agg #[.bool p, .slice A1 n1 c1], .agg #[.bool q, .slice A2 n2 c2]] w fun e w' => ∃ v, e = .returned v ∧ NumV w' v x ∧ Below w.heap.size w w' := by
  obtain ⟨i0, hi, hz0, hz1, hz2⟩ := info_parts Tryd.infoInt
  have H1 := Lib.hid h1; have H2 := Lib.hid h2; have HD1 := Lib.hid d1; have HD2 := Lib.hid d2; have HX := Lib.hid hx; have HXS := Lib.hid hxs
  have hmk : ∀ W : World, (Instr.makeSlice 28 (.int .i64 ((n1 : Int) + n2 + 1)) (.int .i64 ((n1 : Int) + n2 + 1))).run Tryd.prog W = .ok (.slice (some ⟨W.heap.size, 0, none⟩) (n1 + n2 + 1) (n1 + n2 + 1)) (W.alloc (.cells (madeCells (Value.int .i64 0).cells ((n1 + n2 + 1) * 1)) 3)) := by
    intro W
    have h := run_make (P := Tryd.prog) W 28 3 i0 (.int .i64 0) Tryd.underlying28 hi hz0 .i64 .i64 ((n1 : Int) + n2 + 1) ((n1 : Int) + n2 + 1) (by omega) (by omega) (by rw [hz2]; omega) (by omega)
    rw [h, hz1, show ((n1 : Int) + n2 + 1).toNat = n1 + n2 + 1 by omega]
  clear h1 h2 d1 d2 hx hxs
  go_enter Tryd.func15, Tryd.ntmps15
  go_upto_region 1 with fail
  go_cut [5] (fun x wx => ∃ g ga, x = .pointer (some ⟨g, 0, none⟩) ∧ MulCut sg p q n1 c1 n2 c2 A1 A2 (n1 + n2 + 1) w g ga (fun _ => 0) wx)
  case first =>
    go_region
    all_goals
      go_wp2
      go_meet
    · refine ⟨w.heap.size + 1 + 1 + 1 + 1, w.heap.size + 1 + 1 + 1, rfl, ?_, ?_, ?_, ?_, ?_, ?_, by omega⟩
      · exact (((((Whole.new w _ _).alloc _).alloc _).alloc _).alloc _).drew'
      · exact ((((Whole.new_at (by simp)).alloc _).alloc _).alloc _).drew'
      · exact (((Whole.new_at (by simp)).alloc _).alloc _).drew'
      · exact (Whole.new_at (by simp)).drew'
      · exact ((own_zeros (by simp) (by omega) (by omega)).alloc _).drew
      · exact ((((((Below.refl _ _).alloc (Nat.le_refl _) _).alloc (by simp) _).alloc (by simp; omega) _).alloc (by simp; omega) _).alloc (by simp; omega) _).drew
    · refine ⟨w.heap.size + 1 + 1 + 1, w.heap.size + 1 + 1 + 1 + 1, rfl, ?_, ?_, ?_, ?_, ?_, ?_, by omega⟩
      · exact (((((Whole.new w _ _).alloc _).alloc _).alloc _).alloc _).drew'
      · exact ((((Whole.new_at (by simp)).alloc _).alloc _).alloc _).drew'
      · exact (((Whole.new_at (by simp)).alloc _).alloc _).drew'
      · exact ((Whole.new_at (by simp)).alloc _).drew'
      · exact (own_zeros (by simp) (by omega) (by omega)).drew
      · exact ((((((Below.refl _ _).alloc (Nat.le_refl _) _).alloc (by simp) _).alloc (by simp; omega) _).alloc (by simp; omega) _).alloc (by simp; omega) _).drew
  case rest =>
    obtain ⟨g, ga, rfl, hcut⟩ := hcut
    clear hmk hsg
    obtain ⟨E1, hE1⟩ : ∃ E, dz D1 n1 = E := ⟨_, rfl⟩
    obtain ⟨E2, hE2⟩ : ∃ E, dz D2 n2 = E := ⟨_, rfl⟩
    have L1 := Lib.hid (hE1 ▸ dz_lt HD1.out.small)
    have L2 := Lib.hid (hE2 ▸ dz_lt HD2.out.small)
    have HE1 := Lib.hid hE1; have HE2 := Lib.hid hE2
    clear hE1 hE2
    have hgg := hcut.2.2.2.2.2.2
    have HC0 := Lib.hid hcut
    clear hcut
    go_wp2
    go_loopg [6] n1 (fun t x wr => ∃ i O, i ≤ n1 ∧ t = n1 - i ∧ x = .int .i64 (i : Nat) ∧ MulCut sg p q n1 c1 n2 c2 A1 A2 (n1 + n2 + 1) w g ga O wr ∧ (∀ j, O j < 32768) ∧ pv O (n1 + n2 + 1) = pv E1 i * m2)
    case atStart => exact ⟨0, fun _ => 0, by omega, rfl, rfl, HC0.out, fun _ => Nat.zero_lt_succ _, by
      have := pv_zero (D := fun _ => 0) (n := 0) (n1 + n2 + 1) (fun _ _ _ => rfl)
      rw [Nat.zero_add] at this
      rw [this]
      simp [pv]⟩
    case round =>
      obtain ⟨i, O, hi1, rfl, rfl, hmc, hO, hpv⟩ := hrel
      obtain ⟨hw1, hw2, hw3, hw4, hown, hb, _⟩ := hmc
      have b1 := hw2.cell 1
      simp at b1
      have a1 := hw1.cell 1
      simp at a1
      have a4 := hw4.cell 0; have a5 := hw4.cell 1
      simp at a4 a5
      have b0 := hw3.cell 0; have b1' := hw3.cell 1; have b2 := hw3.free 0; have b3 := hw3.free 1
      simp at b0 b1'
      have hl := hb.size
      by_cases hlt : i < n1
      · have t1 : decide (i < n1) = true := decide_eq_true hlt
        have HW1 := Lib.hid hw1; have HW2 := Lib.hid hw2; have HW3 := Lib.hid hw3; have HW4 := Lib.hid hw4; have HOWN := Lib.hid hown; have HB := Lib.hid hb; have HO := Lib.hid hO; have HPV := Lib.hid hpv
        have HLT := Lib.hid hlt
        obtain ⟨wo, hwo⟩ : ∃ wo, wo = wr := ⟨_, rfl⟩
        subst hwo
        clear hw1 hw2 hw3 hw4 hown hb hO hpv a1 b1 a4 a5 b0 b1' b2 b3 hlt
        have a1 := HW1.out.cell 1
        simp at a1
        go_wp2
        go_loopg [7, 8] (n2 + 1) (fun t x y wr => ∃ k O c, k ≤ n2 + 1 ∧ t = n2 + 1 - k ∧ x = .int .i64 ((c : Nat) : Int) ∧ y = .int .i64 (k : Nat) ∧ MulCut sg p q n1 c1 n2 c2 A1 A2 (n1 + n2 + 1) w g ga O wr ∧ (∀ j, O j < 32768) ∧ c < 32768 ∧ pv O (n1 + n2 + 1) + c * 32768 ^ (i + k) = pv E1 i * m2 + E1 i * pv E2 k * 32768 ^ i)
        case atStart => exact ⟨0, O, 0, by omega, rfl, rfl, rfl, ⟨HW1.out, HW2.out, HW3.out, HW4.out, HOWN.out, HB.out, hgg⟩, HO.out, by omega, by rw [HPV.out]; simp [pv]⟩
        case round =>
          obtain ⟨k, O', c, hk, rfl, rfl, rfl, hmc, hO, hcc, hpv⟩ := hrel
          obtain ⟨hw1, hw2, hw3, hw4, hown, hb, _⟩ := hmc
          have a1 := hw1.cell 1; have a2 := hw2.cell 1; have a4 := hw4.cell 0; have a5 := hw4.cell 1
          simp at a1 a2 a4 a5
          by_cases hgo : k < n2 ∨ 0 < c
          · have hkn : k ≤ n2 := by
              rcases hgo with h | h
              · omega
              · rcases Nat.lt_or_ge n2 k with h2 | h2
                · have e2 : pv E2 k = m2 := by rw [← HE2.out]; exact dz_pv HD2.out (by omega)
                  rw [e2] at hpv
                  exact mul_carry L1.out hpv HD2.out.lt h
                · exact h2
            have HW1 := Lib.hid hw1; have HW2 := Lib.hid hw2; have HW3 := Lib.hid hw3; have HW4 := Lib.hid hw4; have HOWN := Lib.hid hown; have HB := Lib.hid hb; have HO := Lib.hid hO; have HPV := Lib.hid hpv
            have hlt := HLT.out
            obtain ⟨bl, off, hA, hcell⟩ := (H1.out.below hb (Nat.le_refl _)).pos hlt
            subst hA
            obtain ⟨j, hj⟩ : ∃ j, i + k = j := ⟨_, rfl⟩
            have hjN : j < n1 + n2 + 1 := by omega
            have hco := hown.cellAt j (by omega)
            have hfo := hown.frozenAt j
            have hdj : (digits O' (n1 + n2 + 1))[j]? = some (.int .i64 (O' j : Nat)) := by simp [digits, hjN]
            rw [hdj] at hco
            obtain ⟨zo, hzo⟩ : ∃ z : Int, ((O' j : Nat) : Int) = z := ⟨_, rfl⟩
            obtain ⟨z1, hz1⟩ : ∃ z : Int, ((D1 i : Nat) : Int) = z := ⟨_, rfl⟩
            obtain ⟨z2, hz2⟩ : ∃ z : Int, ((dz D2 n2 k : Nat) : Int) = z := ⟨_, rfl⟩
            rw [hz1] at hcell
            rw [hzo] at hco
            have e1 : E1 i = D1 i := by rw [← HE1.out]; unfold dz; rw [if_pos hlt]
            have e2 : E2 k = dz D2 n2 k := by rw [← HE2.out]
            have x1 := L1.out i
            have x2 := L2.out k
            have x3 := HO.out j
            have x4 := prod_bd x1 x2
            obtain ⟨pr, hpr⟩ : ∃ pr : Int, z1 * z2 = pr := ⟨_, rfl⟩
            have hpn : ((E1 i * E2 k : Nat) : Int) = pr := by rw [Int.natCast_mul, e1, e2, hz1, hz2, hpr]
            have y1 : 0 ≤ z1 := by omega
            have y2 : 0 ≤ z2 := by omega
            have y3 : z1 ≤ 32767 := by omega
            have y4 : z2 ≤ 32767 := by omega
            have y5 : 0 ≤ zo := by omega
            have y6 : zo ≤ 32767 := by omega
            have y7 : 0 ≤ pr := by omega
            have y8 : pr ≤ 1073676289 := by omega
            have HPN := Lib.hid hpn; have ZO := Lib.hid hzo; have HJ := Lib.hid hj
            obtain ⟨cz, hcz⟩ : ∃ z : Int, ((c : Nat) : Int) = z := ⟨_, rfl⟩
            have y9 : 0 ≤ cz := by omega
            have y10 : cz ≤ 32767 := by omega
            rw [hcz]
            have CZ := Lib.hid hcz
            have hij : (i : Int) + k = j := by omega
            have q2 : ∀ d, Calls Tryd.prog 29 #[.slice A2 n2 c2, .int .i64 k] (wr.drewN d) fun e w' => e = .returned (.int .i64 z2) ∧ w' = wr.drewN d := fun d => at_same A2 n2 c2 k D2 (wr.drewN d) ((H2.out.below HB.out (Nat.le_refl _)).drewN d) (by omega) (by omega) z2 hz2
            have Q2 := Lib.hid q2
            have i0' : (0 : Int) ≤ i := by omega
            have i1' : (i : Int) < n1 := by omega
            have j0' : (0 : Int) ≤ j := by omega
            have j1' : (j : Int) < n1 + n2 + 1 := by omega
            have j2' : (j : Int) < ((n1 + n2 + 1 : Nat) : Int) := by omega
            have hd : decide (k < n2) = true ∨ (decide (k < n2) = false ∧ decide (0 < cz) = true) := by
              rcases Nat.lt_or_ge k n2 with h | h
              · exact Or.inl (decide_eq_true h)
              · exact Or.inr ⟨decide_eq_false (by omega), decide_eq_true (by omega)⟩
            clear hw1 hw2 hw3 hw4 hown hb hO hpv hdj hz1 hz2 hzo e1 e2 x1 x2 x3 x4 hpn hcz q2 hgo hlt hj
            rcases hd with t1 | ⟨t1, t2⟩
            all_goals
              go_wp2
              go_quiet ((go_at_call 29; with_reducible exact Calls.quiet_of_same (Q2.out _)))
              go_wp2
              go_roundg (n2 + 1 - (k + 1))
              case rel =>
                have hpn := HPN.out; have hzo := ZO.out; have hcz := CZ.out; have hj := HJ.out; have hlt := HLT.out
                have hv : (zo + pr + cz) % 32768 = (((O' j + E1 i * E2 k + c) % 32768 : Nat) : Int) := by omega
                refine ⟨k + 1, upd O' j ((O' j + E1 i * E2 k + c) % 32768), (O' j + E1 i * E2 k + c) / 32768, by omega, rfl, ?_, by go_num, ⟨?_, ?_, ?_, ?_, ?_, ?_, hgg⟩, ?_, by omega, ?_⟩
                · exact congrArg _ (by omega)
                · exact (HW1.out.drewN _).other (p := ⟨ga, j, none⟩) (fun e => own_ne HOWN.out HW1.out (by decide) (by simp [Value.ownBlock, e])) _
                · exact (HW2.out.drewN _).other (p := ⟨ga, j, none⟩) (fun e => own_ne HOWN.out HW2.out (by decide) (by simp [Value.ownBlock, e])) _
                · exact (HW3.out.drewN _).other (p := ⟨ga, j, none⟩) (fun e => own_ne HOWN.out HW3.out (by decide) (by simp [Value.ownBlock, e])) _
                · exact (HW4.out.drewN _).other (p := ⟨ga, j, none⟩) (fun e => own_ne HOWN.out HW4.out (by decide) (by simp [Value.ownBlock, e])) _
                · rw [hv, ← digits_set]
                  exact ((own_drewN HOWN.out _).stored j _).1
                · exact (below_drewN' HB.out _).setCell (HOWN.out.lt ga rfl).1 _
                · intro t
                  unfold upd
                  split
                  · omega
                  · exact HO.out t
                · have h1 := pv_upd O' j ((O' j + E1 i * E2 k + c) % 32768) (n1 + n2 + 1) (by omega)
                  rw [← hj] at h1 ⊢
                  rw [pv]
                  exact mul_step HPV.out h1 (by omega)
              case measure => omega
          · have hc0 : c = 0 := by omega
            subst hc0
            have t1 : decide (k < n2) = false := decide_eq_false (by omega)
            go_wp2
            go_roundg (n1 - (i + 1))
            case rel =>
              refine ⟨i + 1, O', by have := HLT.out; omega, rfl, by go_num, ⟨hw1, hw2, hw3, hw4, hown, hb, hgg⟩, hO, ?_⟩
              have e2 : pv E2 k = m2 := by rw [← HE2.out]; exact dz_pv HD2.out (by omega)
              rw [e2] at hpv
              have e3 : pv E1 (i + 1) * m2 = pv E1 i * m2 + E1 i * m2 * 32768 ^ i := by
                rw [pv, Nat.add_mul, Nat.mul_assoc (E1 i), Nat.mul_comm (32768 ^ i), ← Nat.mul_assoc]
              rw [e3, ← hpv]
              omega
            case measure => have := HLT.out; omega
      · obtain rfl : i = n1 := by omega
        have t1 : decide (i < i) = false := by simp
        have hvv : pv O (i + n2 + 1) = x.natAbs := by
          rw [hpv, HX.out]
          have := dz_pv HD1.out (Nat.le_refl i)
          rw [HE1.out] at this
          rw [this]
        have HTR := Lib.hid (trim_any sg (some ⟨ga, 0, none⟩) (i + n2 + 1) (i + n2 + 1) O wr (own_dslc hown) (by omega) (Nat.le_refl _) (fun j _ => hO j))
        have HDS := Lib.hid (own_dslc hown)
        have HVV := Lib.hid hvv
        have HW3 := Lib.hid hw3; have HB := Lib.hid hb
        clear hw1 hw2 hw3 hw4 hown hb hO hpv hvv
        go_wp2_with fail
        refine HTR.out.mono ?_; rintro e w2 htr
        obtain ⟨v, rfl, hv, hb2, p', A', k', c', rfl⟩ := trims_num (x := x) htr HDS.out (by omega) (Nat.le_refl _) HVV.out HXS.out
        have hw3' := HW3.out.below hb2 HW3.out.lt
        have r0 := hw3'.cell 0; have r1 := hw3'.cell 1; have r2 := hw3'.free 0; have r3 := hw3'.free 1
        simp at r0 r1
        have G3 := Lib.hid hw3'; have HV := Lib.hid hv; have HB2 := Lib.hid hb2
        clear hw3' hv hb2 htr b0 b1' b2 b3
        go_wp2
        have hW : Whole ((w2.setCell ⟨w.heap.size + 1 + 1, 0, none⟩ (.bool p')).setCell ⟨w.heap.size + 1 + 1, 1, none⟩ (.slice A' k' c')) (w.heap.size + 1 + 1) 30 #[.bool p', .slice A' k' c'] := (G3.out.put 0 _).put 1 _
        refine ret_num (w.heap.size + 1 + 1) _ _ rfl rfl rfl hW ⟨_, rfl, ?_, ?_⟩
        · refine (HV.out.put r0 (by intro z h; cases h) _).put (u := .slice none 0 0) ?_ (by intro z h; cases h) _
          exact (G3.out.put 0 _).cell 1
        · exact ((HB.out.trans (HB2.out.mono hl)).setCell (by simp; omega) _).setCell (by simp; omega) _

/-- The product of two numbers. -/
theorem refMul_any (x y : Int) (v1 v2 : Value) (w : World) (h1 : NumV w v1 x) (h2 : NumV w v2 y) (hx : x.natAbs < 32768 ^ 100) (hy : y.natAbs < 32768 ^ 100) :
    Calls Tryd.prog 15 #[v1, v2] w fun e w' => ∃ v, e = .returned v ∧ NumV w' v (x * y) ∧ Below w.heap.size w w' := by
  obtain ⟨n1, c1, A1, D1, rfl, d1, s1, l1, k1⟩ := h1.digs hx
  obtain ⟨n2, c2, A2, D2, rfl, d2, s2, l2, k2⟩ := h2.digs hy
  clear hx hy
  refine refMul_digs (decide (x < 0)) (decide (y < 0)) _ rfl n1 n2 c1 c2 _ _ A1 A2 D1 D2 w s1 s2 d1 d2 k1 k2 (x * y) (Int.natAbs_mul x y) ?_
  intro h
  have hx0 : x ≠ 0 := fun e => h (by rw [e, Int.zero_mul])
  have hy0 : y ≠ 0 := fun e => h (by rw [e, Int.mul_zero])
  by_cases ha : x < 0 <;> by_cases hb : y < 0
  · have : 0 < x * y := Int.mul_pos_of_neg_of_neg ha hb
    rw [decide_eq_true ha, decide_eq_true hb, decide_eq_false (by omega)]
    rfl
  · have : x * y < 0 := Int.mul_neg_of_neg_of_pos ha (by omega)
    rw [decide_eq_true ha, decide_eq_false hb, decide_eq_true this]
    rfl
  · have : x * y < 0 := Int.mul_neg_of_pos_of_neg (by omega) hb
    rw [decide_eq_false ha, decide_eq_true hb, decide_eq_true this]
    rfl
  · have : 0 < x * y := Int.mul_pos (by omega) (by omega)
    rw [decide_eq_false ha, decide_eq_false hb, decide_eq_false (by omega)]
    rfl
end Go.Proofs.YtdfackmaimmapaaDoor
