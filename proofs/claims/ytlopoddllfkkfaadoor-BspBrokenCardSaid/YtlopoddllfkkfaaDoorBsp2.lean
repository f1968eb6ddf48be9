/- The work of a job of words. -/
import Derived.Test.YtlopoddllfkkfaaDoorBsp1
namespace Go.Proofs.YtlopoddllfkkfaaDoor
open Go.RowKit

/-- Mails of one text, one behind the other. -/
def mailC (s : ByteArray) (L : List Int) : List Value := L.flatMap fun t => [.int .i64 t, .string s]
theorem mailC_len (s : ByteArray) : ∀ L : List Int, (mailC s L).length = L.length * 2
  | [] => rfl
  | t :: r => by
    show ([Value.int .i64 t, Value.string s] ++ mailC s r).length = _
    rw [List.length_append, mailC_len s r]
    simp
    omega
theorem mailC_app (s : ByteArray) (L M : List Int) : mailC s (L ++ M) = mailC s L ++ mailC s M := by unfold mailC; rw [List.flatMap_append]
theorem mailC_at (s : ByteArray) : ∀ (L : List Int) (i : Nat), i < L.length → (mailC s L)[i * 2]? = some (.int .i64 (L.getD i 0)) ∧ (mailC s L)[i * 2 + 1]? = some (.string s)
  | [], i, h => by simp at h
  | t :: r, 0, _ => by simp [mailC]
  | t :: r, i + 1, h => by
    have h1 := mailC_at s r i (by simpa using h)
    have e : mailC s (t :: r) = .int .i64 t :: .string s :: mailC s r := by simp [mailC]
    rw [e, show (i + 1) * 2 = i * 2 + 1 + 1 by omega]
    simpa using h1
theorem mail_one (t : Int) (s : ByteArray) : ∀ u ∈ [Value.int .i64 t, Value.string s], u.oneCell' = true := by
  intro u hu
  rcases List.mem_cons.1 hu with rfl | hu
  · rfl
  · rcases List.mem_cons.1 hu with rfl | hu
    · rfl
    · cases hu
/-- One element more, of any cells, put into a new block and appended to a row of the call's own. -/
theorem wpList_appEl {P : Program} (w : World) {ops : Array Oper} {rest : List Oper} {o : Oper} {a : Act} {cs : Array Value} {Q : Exit → Act → World → Prop} (hgd : o.guard = none) (s x : Operand) (t : TypeId)
    (ho : o.op = .call { callee := .builtin .append, args := #[s, x], argTypes := #[t, t] })
    (base sz : Nat) (e : TypeId) (i : TypeInfo) (z : Value) (bytes : Nat) (ht : P.underlying t = some (.slice e)) (hi : P.info? e = some i) (hz : i.zero = some z)
    (hsize : i.size = sz) (hby : i.bytes = bytes) (hzs : z.cells.size = sz) (hsz : 0 < sz) (v : Value) (n : Nat) (xs : List Value) (hs : a.eval s = v) (hown : w.ownsRow base e sz v n xs)
    (us : List Value) (hcs : cs = us.toArray) (hu : ∀ u ∈ us, u.oneCell' = true) (hul : us.length = sz) (hx : a.eval x = .slice (some ⟨w.heap.size, 0, none⟩) 1 1) (hn : n ≤ 1000000000) (hbytes : bytes ≤ 128) (hbase : base ≤ w.heap.size)
    (h : ∀ (A' : Option Addr) (c' : Nat) w', w'.ownsRow base e sz (.slice A' (n + 1) c') (n + 1) (xs ++ us) → (w.alloc (.cells cs e)).grownBy w' v.ownBlock → wpList P ops Q rest (a.put o.dst (.slice A' (n + 1) c')) w') :
    wpList P ops Q (o :: rest) a (w.alloc (.cells cs e)) := by
  subst hcs
  have hb1 : (n + 1) * bytes ≤ (n + 1) * 128 := Nat.mul_le_mul_left _ hbytes
  have hw := Whole.new w e us.toArray
  refine wpList_append_own_at _ hgd s x t ho base e i z sz bytes ht hi hz hsize hby hzs hsz v n xs hs (hown.alloc _) ⟨w.heap.size, 0, none⟩ 1 1 us hx (by rw [hul, Nat.one_mul]) ?_ hu (by unfold maxLen; omega) (by omega) (by simp; omega) ?_
  · intro j u' hj
    have := hw.cell j
    rw [addr_plus, Nat.zero_add, this]
    simpa using hj
  · intro v' w' hown' hgrow _ _
    obtain ⟨A', c', rfl⟩ := own_form hown'
    exact h A' c' w' hown' hgrow
theorem Tryd.infoMail : (Tryd.prog.info? 77).map (fun i => (i.zero, i.size, i.bytes)) = some (some (.agg #[.int .i64 0, .string ⟨#[]⟩]), 2, 24) := by kernel_rfl
/-- A list at a place of lists. -/
theorem lists_at {w : World} {A : Option Addr} {n c : Nat} {C : List (List Int)} (h : ListsV w (.slice A n c) C) {k : Nat} (hk : k < C.length) : ∃ b off A2 m c2, A = some ⟨b, off, none⟩ ∧ w.cell? ⟨b, off + k, none⟩ = some (.slice A2 m c2) ∧ (C.getD k []).length = m ∧ SeqV w (.slice A2 m c2) (C.getD k []) := by
  obtain ⟨b, off, u, e, hc, hs, A2, c2, rfl, _⟩ := h.pos hk
  have e2 : C.getD k [] = C[k] := by simp [List.getD, hk]
  rw [e2]
  exact ⟨b, off, A2, _, c2, e, hc, rfl, hs⟩
theorem seq_pos {w : World} {A : Option Addr} {n c k : Nat} {L : List Int} (h : SeqV w (.slice A n c) L) (hk : k < L.length) : ∃ b off, A = some ⟨b, off, none⟩ ∧ w.cell? ⟨b, off + k, none⟩ = some (.int .i64 (L.getD k 0)) := by
  rcases h with ⟨h0, _⟩ | ⟨_, b, off, c', e, hc⟩
  · omega
  · injection e with e1 _ _
    exact ⟨b, off, e1, hc k hk⟩
def WorkTo (base k : Nat) (s : ByteArray) (X : List ByteArray) (M : List Int) (w : World) (e : Ending) (w' : World) : Prop :=
  ∃ vm, e = .returned (.tuple #[.string (nextB k s X), vm, .nilIface]) ∧ w'.ownsRow base 77 2 vm M.length (mailC s M) ∧ Below base w w'
set_option maxRecDepth 100000 in
set_option maxHeartbeats 4000000 in
theorem jobWork_any (TL : List (List Int)) (vt : Value) (k : Nat) (r : Int) (s : ByteArray) (hs : s.size ≤ 1000) (X : List ByteArray) (hX : ∀ x ∈ X, x.size ≤ 60) (hl : X.length ≤ 10000) (v : Value) (w : World) (hv : ValsV w v (txtC X)) (hT : ListsV w vt TL) (hT2 : (TL.getD k []).length ≤ 1000000) :
    Calls Tryd.prog 76 #[.agg #[vt], .int .i64 (k : Int), .int .i64 r, .string s, v] w (WorkTo w.heap.size k s X (TL.getD k []) w) := by
  obtain ⟨i0, hi, hiz, hi1, hi2⟩ := info_parts Tryd.infoMail
  obtain ⟨A, c, rfl⟩ := hT.form
  have hb1 : Below w.heap.size w (w.alloc (.cells #[.slice A TL.length c] 35)) := (Below.refl _ _).alloc (Nat.le_refl _) _
  have hx := Whole.new w 35 #[.slice A TL.length c]
  have hT1 := hT.below hb1 (Nat.le_refl _)
  have NX := Lib.hid (fun W (h : Below w.heap.size w W) => next20_any k s hs X hX hl v W (hv.below h (Nat.le_refl _)))
  obtain ⟨w1, hw1⟩ : ∃ W, w.alloc (.cells #[.slice A TL.length c] 35) = W := ⟨_, rfl⟩
  obtain ⟨xb, hxb⟩ : ∃ g, w.heap.size = g := ⟨_, rfl⟩
  rw [hw1] at hb1 hx hT1
  obtain ⟨n, hn⟩ : ∃ n, TL.length = n := ⟨_, rfl⟩
  obtain ⟨M, hM⟩ : ∃ M, TL.getD k [] = M := ⟨_, rfl⟩
  rw [hn] at hx hT1 hw1
  have hsz1 := hb1.size
  have HC : Hid (∀ W, Below w1.heap.size w1 W → W.cell? ⟨w.heap.size, 0, none⟩ = some (.slice A n c)) := Lib.hid (fun W hb => (hx.below hb hx.lt).cell 0)
  rw [hM] at hT2 ⊢
  have HLS : Hid (∀ W, Below w1.heap.size w1 W → k < n → ∃ b off A2 m c2, A = some ⟨b, off, none⟩ ∧ W.cell? ⟨b, off + k, none⟩ = some (.slice A2 m c2) ∧ M.length = m ∧ SeqV W (.slice A2 m c2) M) := Lib.hid (fun W hb hk => by
    have h := lists_at (hT1.below hb (Nat.le_refl _)) (by rw [hn]; exact hk)
    rw [hM] at h
    exact h)
  have HM0 : Hid (n ≤ k → M = []) := Lib.hid (fun h => by rw [← hM]; simp [List.getD, hn, h])
  have HB1 := Lib.hid hb1; have HW1 := Lib.hid hw1
  rw [hn]
  clear hT hT1 hv hX hl hs hx hw1 hn hM hxb xb
  have HT2 := Lib.hid hT2
  go_enter Tryd.func76, Tryd.ntmps76
  have c0 := HC.out w1 (Below.refl _ _)
  go_upto_region 2 with fail
  rw [HW1.out]
  by_cases hk : k < n
  · have t1 : decide (k < n) = true := decide_eq_true hk
    have t1' : decide ((k : Int) < n) = true := decide_eq_true (by omega)
    have HK := Lib.hid hk
    have i1 : (k : Int) < n := by omega
    obtain ⟨b, off, A2, m, c2, rfl, d0, hMm, hsq⟩ := HLS.out w1 (Below.refl _ _) hk
    have HMM := Lib.hid hMm
    have hm6 : m ≤ 1000000 := by omega
    have DC : Hid (∀ W, Below w1.heap.size w1 W → W.cell? ⟨b, off + k, none⟩ = some (.slice A2 m c2)) := Lib.hid (fun W hb => (hb.cell (p := ⟨b, off + k, none⟩) (World.block_lt_of_cell? _ _ d0)).trans d0)
    have SQ := Lib.hid (fun W (h : Below w1.heap.size w1 W) => hsq.below h (Nat.le_refl _))
    clear hMm hsq hT2
    go_wp2_with fail
    go_loopg [13, 14] m (fun g ov y wr => ∃ i, i ≤ m ∧ g = m - i ∧ y = .int .i64 (i : Nat) ∧ wr.ownsRow w1.heap.size 77 2 ov i (mailC s (M.take i)) ∧ Below w1.heap.size w1 wr)
    case atStart => exact ⟨0, Nat.zero_le _, rfl, rfl, World.ownsRow_nil _ _ _ 2, Below.refl _ _⟩
    case round =>
      obtain ⟨i, hi', rfl, rfl, hown, hB⟩ := hrel
      obtain ⟨Ao, co, rfl⟩ := own_form hown
      have HO := Lib.hid hown; have HB := Lib.hid hB
      clear c0 d0
      have c0 := HC.out wr hB
      have d0 := DC.out wr hB
      by_cases hlt : i < m
      · obtain ⟨b2, off2, rfl, e0⟩ := seq_pos (SQ.out wr hB) (show i < M.length by rw [HMM.out]; exact hlt)
        obtain ⟨t, ht⟩ : ∃ t, M.getD i 0 = t := ⟨_, rfl⟩
        rw [ht] at e0
        have HSN : Hid (mailC s (M.take (i + 1)) = mailC s (M.take i) ++ [.int .i64 t, .string s]) := Lib.hid (by
          rw [take_snocT (d := 0) (by rw [HMM.out]; exact hlt), mailC_app, ht]
          rfl)
        have t7 : decide (i < m) = true := decide_eq_true hlt
        have t7' : decide ((i : Int) < m) = true := decide_eq_true (by omega)
        have i3 : (i : Int) < m := by omega
        have HLT := Lib.hid hlt
        clear ht hown hB
        go_wp2_with (at_builtin; refine wpList_appEl wr rfl _ _ 73 rfl w1.heap.size 2 77 i0 (.agg #[.int .i64 0, .string ⟨#[]⟩]) 24 Tryd.underlying73 hi hiz hi1 hi2 rfl (by decide) (.slice Ao i co) i _ rfl HO.out [.int .i64 t, .string s] rfl (mail_one t s) rfl rfl (by have := HLT.out; omega) (by decide) HB.out.size ?_)
        intro A' c' w' hown' hgrow
        have HO' := Lib.hid hown'
        have HB' := Lib.hid (app_below HB.out (Nat.le_refl _) HB.out.size HO.out _ hgrow)
        clear hown' hgrow
        go_wp2_with fail
        go_roundg (m - (i + 1))
        case rel => exact ⟨i + 1, HLT.out, rfl, rfl, by rw [HSN.out]; exact HO'.out, HB'.out⟩
        case measure => have := HLT.out; omega
      · have t7 : decide (i < m) = false := decide_eq_false hlt
        have t7' : decide ((i : Int) < m) = false := decide_eq_false (by omega)
        obtain rfl : m = i := by omega
        have hfin : wr.ownsRow w.heap.size 77 2 (.slice Ao m co) M.length (mailC s M) := by
          have h := own_base hown hsz1
          rw [List.take_of_length_le (by rw [HMM.out]; exact Nat.le_refl _)] at h
          rw [HMM.out]
          exact h
        have hbw := HB1.out.trans (hB.mono hsz1)
        have N1 := Lib.hid (NX.out wr hbw)
        have HFI := Lib.hid hfin; have HBW := Lib.hid hbw
        clear hlt hi' hown hB hfin hbw
        go_wp2_with fail
        refine N1.out.mono ?_; rintro e w2 ⟨rfl, hb⟩
        have HF2 := Lib.hid (own_below HFI.out hb (Nat.le_refl _))
        have HB2 := Lib.hid (HBW.out.trans (hb.mono HBW.out.size))
        clear hb
        go_wp2_with fail
        go_ret3
        exact ⟨_, rfl, HF2.out, HB2.out⟩
  · have t1 : decide (k < n) = false := decide_eq_false hk
    have t1' : decide ((k : Int) < n) = false := decide_eq_false (by omega)
    have hM0 := HM0.out (by omega)
    have N1 := Lib.hid (NX.out w1 HB1.out)
    have HM0' := Lib.hid hM0
    clear hk hM0
    go_wp2_with fail
    refine N1.out.mono ?_; rintro e w2 ⟨rfl, hb⟩
    have HB2 := Lib.hid (HB1.out.trans (hb.mono HB1.out.size))
    clear hb
    go_wp2_with fail
    go_ret3
    exact ⟨_, rfl, by rw [HM0'.out]; exact World.ownsRow_nil _ _ _ 2, HB2.out⟩
end Go.Proofs.YtlopoddllfkkfaaDoor
