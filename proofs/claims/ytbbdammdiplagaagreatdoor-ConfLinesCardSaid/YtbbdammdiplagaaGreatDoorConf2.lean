/- conf: (*Conf).set, of words other than keep. -/
import Derived.Test.YtbbdammdiplagaaGreatDoorConf1
namespace Go.Proofs.YtbbdammdiplagaaGreatDoor
open Go.RowKit

/-- What is asked so far, in memory. -/
def cV (c : CP) (kv : Value) : Array Value := #[.int .i64 c.kind, .int .i64 c.size, .int .i64 c.sup, .int .i64 c.work, .int .i64 c.cap, kv]
/-- The kind once some names were compared. -/
def kU (k0 : Int) (v : List UInt8) : Nat → Int
  | 0 => k0
  | n + 1 => if kname ((n + 1 : Nat) : Int) = v then ((n + 1 : Nat) : Int) else kU k0 v n
theorem kU_all (k0 : Int) (v : List UInt8) : kU k0 v 3 = (kindOf v).getD k0 := by
  unfold kindOf
  show (if kname 3 = v then (3 : Int) else if kname 2 = v then 2 else if kname 1 = v then 1 else k0) = _
  by_cases h3 : kname 3 = v
  · subst h3; rfl
  · by_cases h2 : kname 2 = v
    · subst h2; rfl
    · by_cases h1 : kname 1 = v
      · subst h1; rfl
      · rw [if_neg h3, if_neg h2, if_neg h1, if_neg (fun e => h1 e.symm), if_neg (fun e => h2 e.symm), if_neg (fun e => h3 e.symm)]
        rfl
theorem cV_set (c : CP) (kv : Value) (wd : List UInt8) (x : Int) : (cV c kv).setIfInBounds (offOf wd) (.int .i64 x) = cV (setN c wd x) kv := by
  unfold offOf setN
  by_cases h1 : wd = wSize
  · rw [if_pos h1, if_pos h1]; rfl
  · rw [if_neg h1, if_neg h1]
    by_cases h2 : wd = wSup
    · rw [if_pos h2, if_pos h2]; rfl
    · rw [if_neg h2, if_neg h2]
      by_cases h3 : wd = wWork
      · rw [if_pos h3, if_pos h3]; rfl
      · rw [if_neg h3, if_neg h3]; rfl
theorem cV_off (c : CP) (kv : Value) (wd : List UInt8) : ∃ y : Int, (cV c kv)[offOf wd]? = some (.int .i64 y) := by
  unfold offOf
  by_cases h1 : wd = wSize
  · rw [if_pos h1]; exact ⟨_, rfl⟩
  · rw [if_neg h1]
    by_cases h2 : wd = wSup
    · rw [if_pos h2]; exact ⟨_, rfl⟩
    · rw [if_neg h2]
      by_cases h3 : wd = wWork
      · rw [if_pos h3]; exact ⟨_, rfl⟩
      · rw [if_neg h3]; exact ⟨_, rfl⟩
theorem grown_set {w wr : World} {cb i : Nat} (h : w.grownBy wr (some cb)) (u : Value) : w.grownBy (wr.setCell ⟨cb, i, none⟩ u) (some cb) :=
  ⟨h.os, h.tape, h.output, by simpa [World.setCell] using h.size, fun k hk hne => (Below.heap_setCell wr ⟨cb, i, none⟩ u k (fun e => hne (by rw [e]))).trans (h.block k hk hne)⟩
theorem grown_of_below {w wr : World} {r : Option Nat} (h : Below w.heap.size w wr) : w.grownBy wr r := ⟨h.os, h.tape, h.output, h.size, fun k hk _ => h.block k hk⟩
/-- What set tells and leaves. -/
def SetTo (c : CP) (kv : Value) (cb : Nat) (wd v : List UInt8) (w : World) (e : Ending) (w' : World) : Prop :=
  w.grownBy w' (some cb) ∧ ((∃ c', setP c wd v = some c' ∧ e = .returned (.bool true) ∧ Whole w' cb 29 (cV c' kv)) ∨ (setP c wd v = none ∧ e = .returned (.bool false)))
/-- The post of a number's word, told by the number read. -/
theorem setTo_num {c : CP} {kv : Value} {cb : Nat} {wd v : List UInt8} {w w' : World} {n : Int} {ok z : Bool} (hgr : w.grownBy w' (some cb)) (hj : wd ≠ wJob) (hs : ¬ (wd = wSup ∧ c.kind ≠ 3)) (hw : wd = wSup ∨ wd = wSize ∨ wd = wWork ∨ wd = wCap)
    (hok : (ok = true ∧ numB v = some n) ∨ (ok = false ∧ numB v = none)) (hz : z = (ok && decide (1 ≤ n ∧ n ≤ mostOf wd))) (hW : Whole w' cb 29 (cV (setN c wd n) kv)) : SetTo c kv cb wd v w (.returned (.bool z)) w' := by
  refine ⟨hgr, ?_⟩
  unfold setP
  rw [if_neg hj, if_neg hs, if_pos hw]
  rcases hok with ⟨rfl, h⟩ | ⟨rfl, h⟩
  · rw [h]
    simp only [Bool.true_and] at hz
    by_cases hr : 1 ≤ n ∧ n ≤ mostOf wd
    · rw [decide_eq_true hr] at hz
      subst hz
      simp only
      rw [if_pos hr]
      exact Or.inl ⟨_, by first | rfl | trivial, by first | rfl | trivial, hW⟩
    · rw [decide_eq_false hr] at hz
      subst hz
      simp only
      rw [if_neg hr]
      exact Or.inr ⟨by first | rfl | trivial, by first | rfl | trivial⟩
  · rw [h]
    simp only [Bool.false_and] at hz
    subst hz
    exact Or.inr ⟨by first | rfl | trivial, by first | rfl | trivial⟩
theorem setTo_no {c : CP} {kv : Value} {cb : Nat} {wd v : List UInt8} {w w' : World} (hgr : w.grownBy w' (some cb)) (h : setP c wd v = none) : SetTo c kv cb wd v w (.returned (.bool false)) w' := ⟨hgr, Or.inr ⟨h, rfl⟩⟩
set_option maxRecDepth 100000 in
set_option maxHeartbeats 4000000 in
theorem set_any (c : CP) (kv : Value) (cb : Nat) (wd v : List UInt8) (hk : wd ≠ wKeep) (hv : v.length ≤ 1000000) (w : World) (hg : GT w) (hW : Whole w cb 29 (cV c kv)) :
    Calls Tryz.prog 35 #[.pointer (some ⟨cb, 0, none⟩), .string (str wd), .string (str v)] w (SetTo c kv cb wd v w) := by
  have e1 : ((str wd).toList == [106, 111, 98]) = decide (wd = wJob) := by rw [str_toList]; exact beq_dec wd _
  have e2 : ((str wd).toList == [107, 101, 101, 112]) = false := by rw [str_toList, beq_eq_false_iff_ne]; exact hk
  have e3 : ((str wd).toList == [115, 117, 112, 112, 111, 114, 116]) = decide (wd = wSup) := by rw [str_toList]; exact beq_dec wd _
  have e4 : ((str wd).toList == [115, 105, 122, 101]) = decide (wd = wSize) := by rw [str_toList]; exact beq_dec wd _
  have e5 : ((str wd).toList == [119, 111, 114, 107, 101, 114, 115]) = decide (wd = wWork) := by rw [str_toList]; exact beq_dec wd _
  have e6 : ((str wd).toList == [99, 97, 112]) = decide (wd = wCap) := by rw [str_toList]; exact beq_dec wd _
  have HNUM := Lib.hid (number7_c v hv w hg)
  have HFLD := Lib.hid (fun W => field_any cb wd W)
  have HOFF := Lib.hid (cV_off c kv wd)
  have hcb := hW.lt
  obtain ⟨s, hs⟩ : ∃ s, str wd = s := ⟨_, rfl⟩
  obtain ⟨vs, hvs⟩ : ∃ s, str v = s := ⟨_, rfl⟩
  rw [hs] at e1 e2 e3 e4 e5 e6 HFLD ⊢
  rw [hvs] at HNUM ⊢
  have HVS := Lib.hid hvs
  have HW := Lib.hid hW
  obtain ⟨kd, hkd⟩ : ∃ k, c.kind = k := ⟨_, rfl⟩
  have HKD := Lib.hid hkd
  have c0 : w.cell? ⟨cb, 0, none⟩ = some (.int .i64 kd) := by rw [hW.cell 0, ← hkd]; rfl
  clear hs hvs hg hW hkd
  obtain ⟨o, ho⟩ : ∃ o, offOf wd = o := ⟨_, rfl⟩
  obtain ⟨m, hm⟩ : ∃ m, mostOf wd = m := ⟨_, rfl⟩
  rw [ho] at HOFF
  rw [ho, hm] at HFLD
  have HO := Lib.hid ho; have HM := Lib.hid hm
  clear ho hm
  by_cases hjob : wd = wJob
  · rw [decide_eq_true hjob] at e1
    have HJ := Lib.hid hjob
    clear hjob e2 e3 e4 e5 e6 hk
    go_enter Tryz.func35, Tryz.ntmps35
    go_wp2_with fail
    go_loopg [7] 3 (fun g iv wr => ∃ n : Nat, n ≤ 3 ∧ g = 3 - n ∧ iv = .int .i64 ((n : Nat) + 1 : Int) ∧ Whole wr cb 29 (cV { c with kind := kU c.kind v n } kv) ∧ w.grownBy wr (some cb))
    case atStart => exact ⟨0, by omega, rfl, rfl, HW.out, World.grownBy.refl _ _⟩
    case round =>
      obtain ⟨n, hn, rfl, rfl, hW, hgr⟩ := hrel
      have HWR := Lib.hid hW; have HGR := Lib.hid hgr
      have hcr := hW.lt
      have c1 : ∃ K, wr.cell? ⟨cb, 0, none⟩ = some (.int .i64 K) := ⟨_, by rw [hW.cell 0]; rfl⟩
      obtain ⟨K, c1⟩ := c1
      have f1 := hW.free 0
      clear hW hgr
      by_cases hlt : n < 3
      · have HN := Lib.hid (kname_any ((n : Int) + 1) (by omega) (by omega) wr)
        have t3 : decide ((n : Int) + 1 ≤ 3) = true := decide_eq_true (by omega)
        obtain ⟨ns, hns⟩ : ∃ s, str (kname ((n : Int) + 1)) = s := ⟨_, rfl⟩
        rw [hns] at HN
        have HNS := Lib.hid hns
        by_cases hv1 : kname ((n : Int) + 1) = v
        · have te : (ns.toList == vs.toList) = true := by rw [← hns, ← HVS.out, str_toList, str_toList, beq_iff_eq]; exact hv1
          have HV1 := Lib.hid hv1; have HLT := Lib.hid hlt
          clear hns hv1 hlt
          go_wp2_with fail
          refine HN.out.mono ?_; rintro e w1 ⟨rfl, hw⟩
          obtain rfl := hw.symm
          clear hw
          go_wp2_with fail
          go_roundg (3 - (n + 1))
          case rel =>
            refine ⟨n + 1, HLT.out, rfl, by go_num, ?_, ?_⟩
            · have h := HWR.out.put 0 (.int .i64 ((n : Int) + 1))
              have e : kU c.kind v (n + 1) = (n : Int) + 1 := by
                show (if kname ((n + 1 : Nat) : Int) = v then ((n + 1 : Nat) : Int) else _) = _
                rw [if_pos (by rw [Int.natCast_add]; exact HV1.out), Int.natCast_add]; rfl
              rw [e]
              exact h
            · exact grown_set HGR.out _
          case measure => have := HLT.out; omega
        · have te : (ns.toList == vs.toList) = false := by rw [← hns, ← HVS.out, str_toList, str_toList, beq_eq_false_iff_ne]; exact hv1
          have HV1 := Lib.hid hv1; have HLT := Lib.hid hlt
          clear hns hv1 hlt
          go_wp2_with fail
          refine HN.out.mono ?_; rintro e w1 ⟨rfl, hw⟩
          obtain rfl := hw.symm
          clear hw
          go_wp2_with fail
          go_roundg (3 - (n + 1))
          case rel =>
            refine ⟨n + 1, HLT.out, rfl, by go_num, ?_, HGR.out⟩
            have e : kU c.kind v (n + 1) = kU c.kind v n := by
              show (if kname ((n + 1 : Nat) : Int) = v then ((n + 1 : Nat) : Int) else _) = _
              rw [if_neg (by rw [Int.natCast_add]; exact HV1.out)]
            rw [e]
            exact HWR.out
          case measure => have := HLT.out; omega
      · obtain rfl : n = 3 := by omega
        clear hlt c1 hn
        have hK : wr.cell? ⟨cb, 0, none⟩ = some (.int .i64 (kU c.kind v 3)) := HWR.out.cell 0
        rw [kU_all] at hK
        obtain ⟨K2, hK2⟩ : ∃ K2, (kindOf v).getD c.kind = K2 := ⟨_, rfl⟩
        rw [hK2] at hK
        have HK2 := Lib.hid hK2
        clear hK2
        have HEND : Hid (∀ z, z = decide (K2 ≠ 0) → SetTo c kv cb wd v w (.returned (.bool z)) wr) := by
          refine Lib.hid (fun z hz => ⟨HGR.out, ?_⟩)
          have hr : setP c wd v = if K2 = 0 then none else some { c with kind := K2 } := by
            unfold setP
            rw [if_pos HJ.out, HK2.out]
          by_cases h0 : K2 = 0
          · refine Or.inr ⟨by rw [hr, if_pos h0], ?_⟩
            rw [hz]; simp [h0]
          · refine Or.inl ⟨_, by rw [hr, if_neg h0], by rw [hz]; simp [h0], ?_⟩
            have := HWR.out
            rw [kU_all, HK2.out] at this
            exact this
        go_wp2_with fail
        go_ret
        exact HEND.out _ (by by_cases h : K2 = 0 <;> simp [h])
  · have HNJ := Lib.hid hjob
    rw [decide_eq_false hjob] at e1
    by_cases hno : (wd = wSup ∧ kd ≠ 3) ∨ ¬ (wd = wSup ∨ wd = wSize ∨ wd = wWork ∨ wd = wCap)
    · have HP : Hid (setP c wd v = none) := by
        refine Lib.hid ?_
        unfold setP
        rw [if_neg hjob]
        rcases hno with h | h
        · rw [if_pos (by rw [HKD.out]; exact h)]
        · have h1 : ¬ (wd = wSup ∧ c.kind ≠ 3) := fun hh => h (Or.inl hh.1)
          rw [if_neg h1, if_neg h]
      have hcs : (decide (wd = wSup) = true ∧ kd ≠ 3) ∨ (decide (wd = wSup) = false ∧ decide (wd = wSize) = false ∧ decide (wd = wWork) = false ∧ decide (wd = wCap) = false) := by
        rcases hno with ⟨h1, h2⟩ | h
        · exact Or.inl ⟨decide_eq_true h1, h2⟩
        · exact Or.inr ⟨decide_eq_false (fun e => h (Or.inl e)), decide_eq_false (fun e => h (Or.inr (Or.inl e))), decide_eq_false (fun e => h (Or.inr (Or.inr (Or.inl e)))), decide_eq_false (fun e => h (Or.inr (Or.inr (Or.inr e))))⟩
      clear hno hjob hk
      rcases hcs with ⟨g1, g2⟩ | ⟨g1, g2, g3, g4⟩
      · rw [g1] at e3
        clear g1 e4 e5 e6
        go_enter Tryz.func35, Tryz.ntmps35
        go_wp2_with fail
        go_ret
        exact setTo_no (World.grownBy.refl _ _) HP.out
      · rw [g1] at e3
        rw [g2] at e4
        rw [g3] at e5
        rw [g4] at e6
        clear g1 g2 g3 g4
        go_enter Tryz.func35, Tryz.ntmps35
        go_wp2_with fail
        go_ret
        exact setTo_no (World.grownBy.refl _ _) HP.out
    · have hns : ¬ (wd = wSup ∧ c.kind ≠ 3) := fun h => hno (Or.inl (by rw [← HKD.out]; exact h))
      have hin : wd = wSup ∨ wd = wSize ∨ wd = wWork ∨ wd = wCap := by
        by_cases h : wd = wSup ∨ wd = wSize ∨ wd = wWork ∨ wd = wCap
        · exact h
        · exact absurd (Or.inr h) hno
      have HNS := Lib.hid hns; have HIN := Lib.hid hin
      have hcs : ((s.toList == [115, 117, 112, 112, 111, 114, 116]) = true ∧ kd = 3) ∨ ((s.toList == [115, 117, 112, 112, 111, 114, 116]) = false ∧ (s.toList == [115, 105, 122, 101]) = true) ∨
          ((s.toList == [115, 117, 112, 112, 111, 114, 116]) = false ∧ (s.toList == [115, 105, 122, 101]) = false ∧ (s.toList == [119, 111, 114, 107, 101, 114, 115]) = true) ∨
          ((s.toList == [115, 117, 112, 112, 111, 114, 116]) = false ∧ (s.toList == [115, 105, 122, 101]) = false ∧ (s.toList == [119, 111, 114, 107, 101, 114, 115]) = false ∧ (s.toList == [99, 97, 112]) = true) := by
        rw [e3, e4, e5, e6]
        rcases hin with h | h | h | h
        · refine Or.inl ⟨decide_eq_true h, ?_⟩
          by_cases h3 : kd = 3
          · exact h3
          · exact absurd (Or.inl ⟨h, h3⟩) hno
        · subst h; exact Or.inr (Or.inl ⟨by decide, by decide⟩)
        · subst h; exact Or.inr (Or.inr (Or.inl ⟨by decide, by decide, by decide⟩))
        · subst h; exact Or.inr (Or.inr (Or.inr ⟨by decide, by decide, by decide, by decide⟩))
      clear hno hns hin e3 e4 e5 e6 hjob hk
      obtain ⟨y0, hy0⟩ := HOFF.out
      have HY := Lib.hid hy0
      clear hy0
      rcases hcs with ⟨g1, rfl⟩ | ⟨g1, g2⟩ | ⟨g1, g2, g3⟩ | ⟨g1, g2, g3, g4⟩
      all_goals
        go_enter Tryz.func35, Tryz.ntmps35
        go_wp2_with fail
        refine HNUM.out.mono ?_
        rintro e w1 ⟨hb1, n, ok, rfl, hok⟩
        have HB1 := Lib.hid hb1; have HOK := Lib.hid hok
        have hw1 := HW.out.below hb1 HW.out.lt
        have HW1 := Lib.hid hw1
        have c1 : w1.cell? ⟨cb, o, none⟩ = some (.int .i64 y0) := by rw [hw1.cell o]; exact HY.out
        have f1 := hw1.free o
        have hs1 := hw1.lt
        have HF := Lib.hid (HFLD.out w1)
        clear hb1 hok hw1
        go_wp2_with fail
        refine HF.out.mono ?_
        rintro e w2 ⟨rfl, hw⟩
        obtain rfl := hw.symm
        clear hw
        have HWI := Lib.hid (fun W => within_any n m W)
        have HEND : Hid (∀ z, z = (ok && decide (1 ≤ n ∧ n ≤ m)) → SetTo c kv cb wd v w (.returned (.bool z)) (w1.setCell ⟨cb, o, none⟩ (.int .i64 n))) := by
          refine Lib.hid (fun z hz => setTo_num (grown_set (grown_of_below HB1.out) _) HNJ.out HNS.out HIN.out HOK.out (by rw [HM.out]; exact hz) ?_)
          have h := HW1.out.put o (.int .i64 n)
          rw [← HO.out, cV_set] at h
          rw [← HO.out]
          exact h
        cases ok
        · go_wp2_with fail
          go_ret
          exact HEND.out _ (by simp)
        · go_wp2_with fail
          refine (HWI.out _).mono ?_
          rintro e w3 ⟨rfl, hw⟩
          obtain rfl := hw.symm
          clear hw
          go_wp2_with fail
          go_ret
          exact HEND.out _ (by simp)
end Go.Proofs.YtbbdammdiplagaaGreatDoor
