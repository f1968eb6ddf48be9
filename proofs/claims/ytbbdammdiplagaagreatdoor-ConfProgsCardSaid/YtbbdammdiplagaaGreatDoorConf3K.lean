/- conf: Parse of any text. Written by gen_conf3k.py. -/
import Derived.Test.YtbbdammdiplagaaGreatDoorConfY
namespace Go.Proofs.YtbbdammdiplagaaGreatDoor
open Go.RowKit

theorem Tryz.infoString : (Tryz.prog.info? 9).map (fun i => (i.zero, i.size, i.bytes)) = some (some (.string ⟨#[]⟩), 1, 16) := by kernel_rfl
/-- Six cells put anew. -/
abbrev put6 (w : World) (g : Nat) (a b c d e f : Value) : World := (((((w.setCell ⟨g, 0, none⟩ a).setCell ⟨g, 1, none⟩ b).setCell ⟨g, 2, none⟩ c).setCell ⟨g, 3, none⟩ d).setCell ⟨g, 4, none⟩ e).setCell ⟨g, 5, none⟩ f
theorem whole_put6 {w : World} {g : Nat} {t : TypeId} {a0 b0 c0 d0 e0 f0 : Value} (h : Whole w g t #[a0, b0, c0, d0, e0, f0]) (a b c d e f : Value) : Whole (put6 w g a b c d e f) g t #[a, b, c, d, e, f] :=
  (((((h.put 0 a).put 1 b).put 2 c).put 3 d).put 4 e).put 5 f
theorem below_put6 {B : Nat} {x w : World} {g : Nat} (h : Below B x w) (hg : B ≤ g) (a b c d e f : Value) : Below B x (put6 w g a b c d e f) :=
  (((((h.setCell (p := ⟨g, 0, none⟩) hg a).setCell (p := ⟨g, 1, none⟩) hg b).setCell (p := ⟨g, 2, none⟩) hg c).setCell (p := ⟨g, 3, none⟩) hg d).setCell (p := ⟨g, 4, none⟩) hg e).setCell (p := ⟨g, 5, none⟩) hg f
theorem other_put6 {w : World} {k g : Nat} {t : TypeId} {cs : Array Value} (h : Whole w k t cs) (hk : k ≠ g) (a b c d e f : Value) : Whole (put6 w g a b c d e f) k t cs :=
  (((((h.other (p := ⟨g, 0, none⟩) hk a).other (p := ⟨g, 1, none⟩) hk b).other (p := ⟨g, 2, none⟩) hk c).other (p := ⟨g, 3, none⟩) hk d).other (p := ⟨g, 4, none⟩) hk e).other (p := ⟨g, 5, none⟩) hk f
/-- Two results: what is asked, that lies in a box, and a value. -/
theorem results_conf {fn : Func} {p q : Tmp} (h : fn.results = #[.cell p 29, .tmp q]) (tmps : Array Value) (w : World) (g : Nat) (a b c d e f v : Value) (hp : tmps.getD p undef = .pointer (some ⟨g, 0, none⟩)) (hq : tmps.getD q undef = v) (hc : Whole w g 29 #[a, b, c, d, e, f]) :
    (results fn tmps).run Tryz.prog w = .ok (.tuple #[.agg #[a, b, c, d, e, f], v]) w := by
  have hp' : tmps[p]?.getD undef = .pointer (some ⟨g, 0, none⟩) := by simpa using hp
  have hq' : tmps[q]?.getD undef = v := by simpa using hq
  have c0 : w.cell? ⟨g, 0, none⟩ = some a := hc.cell 0
  have c1 : w.cell? ⟨g, 1, none⟩ = some b := hc.cell 1
  have c2 : w.cell? ⟨g, 2, none⟩ = some c := hc.cell 2
  have c3 : w.cell? ⟨g, 3, none⟩ = some d := hc.cell 3
  have c4 : w.cell? ⟨g, 4, none⟩ = some e := hc.cell 4
  have c5 : w.cell? ⟨g, 5, none⟩ = some f := hc.cell 5
  simp [results, h, hp', hq', asAddr, loadVar, go_sem, c0, c1, c2, c3, c4, c5]
theorem tellK_inl {s : List UInt8} {i : Nat} (h : runK s.length ck0 [] s = .inl i) : tellK s = .inl i := by
  unfold tellK
  rw [h]
theorem tellK_inr {s : List UInt8} {x : CK} {k : Nat} (h : runK s.length ck0 [] s = .inr (x, k)) : tellK s = if x.c.size = 0 ∨ (x.c.kind = 3 ∧ x.c.sup = 0) then .inl k else .inr x := by
  unfold tellK
  rw [h]
theorem cut_len1 (l : List UInt8) (b : UInt8) : (Lib.cut l [b]).1.length ≤ l.length ∧ (Lib.cut l [b]).2.1.length ≤ l.length := by
  rcases cut_cases l b with hn | ⟨p, q, rfl, hp⟩
  · rw [cut_no hn]; simp
  · rw [cut_yes hp]; simp; omega
/-- Nothing asked. -/
def zC : Array Value := #[.int .i64 0, .int .i64 0, .int .i64 0, .int .i64 0, .int .i64 0, .slice none 0 0]
theorem keep_put6 {w : World} {g cb : Nat} {v : Value} {O : List (Int × Int)} (h : KeepV w cb v O) (hg : g ≤ cb) (a b c d e f : Value) : EdgesV (put6 w g a b c d e f) v O := by
  have hne : v.ownBlock ≠ some g := fun e => by have := (World.ownsRow.lt h g e).1; omega
  exact own_edges (own_put (own_put (own_put (own_put (own_put (own_put h (p := ⟨g, 0, none⟩) hne a) (p := ⟨g, 1, none⟩) hne b) (p := ⟨g, 2, none⟩) hne c) (p := ⟨g, 3, none⟩) hne d) (p := ⟨g, 4, none⟩) hne e) (p := ⟨g, 5, none⟩) hne f)
/-- What Parse tells. -/
def ConfK (s : List UInt8) (w : World) (e : Ending) (w' : World) : Prop :=
  Below w.heap.size w w' ∧ ((∃ i : Nat, tellK s = .inl i ∧ ∃ u, e = .returned (.tuple #[.agg zC, u]) ∧ FaultAt 12 i w' u) ∨ (∃ x kv, tellK s = .inr x ∧ e = .returned (.tuple #[.agg (cV x.c kv), .nilIface]) ∧ EdgesV w' kv x.o))
set_option maxRecDepth 100000 in
set_option maxHeartbeats 8000000 in
theorem confParseK_any (L : List UInt8) (hn : L.length ≤ 100000) (w : World) (hg : GT w) :
    Calls Tryz.prog 13 #[.string (str L)] w (ConfK L w) := by
  obtain ⟨i0, hi, hz0, hz1, hz2⟩ := info_parts Tryz.infoString
  obtain ⟨n, hln⟩ : ∃ n, L.length = n := ⟨_, rfl⟩
  have hsz : (str L).size ≤ 100000 := hn
  rw [hln] at hn
  have HLN := Lib.hid hln; have HN := Lib.hid hn; have HG := Lib.hid hg
  obtain ⟨s, hs⟩ : ∃ s, str L = s := ⟨_, rfl⟩
  rw [hs] at hsz ⊢
  have HS := Lib.hid hs
  have HITO := Lib.hid (fun (k : Nat) (W : World) (hk : k ≤ 200000) (h : Below w.heap.size w W) => itoa_at k (by omega) W (HG.out.below h (Nat.le_refl _)))
  have t1 : decide ((262144 : Int) < (s.size : Int)) = false := decide_eq_false (by omega)
  have t1' : decide (262144 < s.size) = false := decide_eq_false (by omega)
  clear hln hn hg hs hsz
  have W0 : Whole (w.alloc (.cells zC 29)) w.heap.size 29 zC := Whole.new w _ _
  have W1 : Whole ((w.alloc (.cells zC 29)).alloc (.cells (cV ck0.c (.slice none 0 0)) 29)) (w.heap.size + 1) 29 (cV ck0.c (.slice none 0 0)) := by
    have := Whole.new (w.alloc (.cells zC 29)) 29 (cV ck0.c (.slice none 0 0))
    rwa [World.size_alloc] at this
  have hbb : Below w.heap.size w ((w.alloc (.cells zC 29)).alloc (.cells (cV ck0.c (.slice none 0 0)) 29)) := ((Below.refl _ _).alloc (Nat.le_refl _) _).alloc (by rw [World.size_alloc]; omega) _
  have H1 : Hid (Whole _ _ _ _) := Lib.hid W1
  have H0 := Lib.hid (W0.alloc (.cells (cV ck0.c (.slice none 0 0)) 29))
  have HBB := Lib.hid hbb
  clear hbb W0 W1
  go_enter Tryz.func13, Tryz.ntmps13
  go_wp2_with fail
  go_loopg [0, 5] n (fun g sv lv wr => ∃ (s2 : List UInt8) (st : List (List UInt8)) (x : CK) (kv : Value) (fu : Nat), g = s2.length ∧ runK L.length ck0 [] L = runK fu x st s2 ∧ s2.length ≤ fu ∧ st.length + s2.length ≤ n ∧ sv = .string (str s2) ∧
    wr.ownsRow (w.heap.size + 2) 9 1 lv st.length (strsL st) ∧ Whole wr (w.heap.size + 1) 29 (cV x.c kv) ∧ KeepV wr (w.heap.size + 1) kv x.o ∧ Whole wr w.heap.size 29 zC ∧ Below w.heap.size w wr)
  case atStart => exact ⟨L, [], ck0, .slice none 0 0, L.length, HLN.out.symm, rfl, Nat.le_refl _, by simpa using Nat.le_of_eq HLN.out, by rw [HS.out], World.ownsRow_nil _ _ _ 1, H1.out, World.ownsRow_nil _ _ _ 2, H0.out, HBB.out⟩
  case round =>
    obtain ⟨s2, st, x, kv, fu, rfl, hrun, hfu, hlen, rfl, hown, hc, hkv, hr0, hB⟩ := hrel
    obtain ⟨ao, co, rfl⟩ := own_form hown
    obtain ⟨ak, ck, hkf⟩ := own_form hkv
    have HKF := Lib.hid hkf
    clear hkf
    obtain ⟨k, hk⟩ : ∃ k, st.length = k := ⟨_, rfl⟩
    have hnn := HN.out
    rw [hk] at hown hlen ⊢
    have hkle : k ≤ 200000 := by omega
    have hl2 : s2.length ≤ 100000 := by omega
    have hit := fun W h => HITO.out k W (by omega) h
    obtain ⟨dk, hdk⟩ : ∃ d, str (Lib.decDigits k) = d := ⟨_, rfl⟩
    have hds : dk.size ≤ 6 := by rw [← hdk, str_size]; exact (dec_len_iff k 6 (by decide)).2 (by omega)
    rw [hdk] at hit
    have HIT := Lib.hid hit
    clear hit hdk
    have HRUN := Lib.hid hrun; have HFU := Lib.hid hfu; have HLEN := Lib.hid hlen; have HL2 := Lib.hid hl2; have HOWN := Lib.hid hown; have HC := Lib.hid hc; have HKV := Lib.hid hkv; have HR0 := Lib.hid hr0; have HB := Lib.hid hB; have HK := Lib.hid hk
    have hsr := hc.lt
    clear hrun hfu hl2 hown hc hkv hr0 hB hk hlen hnn
    by_cases hs0 : s2 = []
    · subst hs0
      have hrun : runK L.length ck0 [] L = .inr (x, k) := by rw [HRUN.out, runK_nil, HK.out]
      have HT := Lib.hid (tellK_inr hrun)
      have te : ((str []).toList == ([] : List UInt8)) = true := by rw [str_toList]; rfl
      obtain ⟨es, hes⟩ : ∃ s, str [] = s := ⟨_, rfl⟩
      rw [hes] at te ⊢
      clear hrun hes
      obtain ⟨⟨kd, sz, su, wk, cp⟩, O⟩ := x
      obtain rfl := HKF.out
      have hc := HC.out
      have c0 : wr.cell? ⟨w.heap.size + 1, 0, none⟩ = some (.int .i64 kd) := hc.cell 0
      have cf0 : wr.frozen? ⟨w.heap.size + 1, 0, none⟩ = false := hc.free 0
      have c1 : wr.cell? ⟨w.heap.size + 1, 1, none⟩ = some (.int .i64 sz) := hc.cell 1
      have cf1 : wr.frozen? ⟨w.heap.size + 1, 1, none⟩ = false := hc.free 1
      have c2 : wr.cell? ⟨w.heap.size + 1, 2, none⟩ = some (.int .i64 su) := hc.cell 2
      have cf2 : wr.frozen? ⟨w.heap.size + 1, 2, none⟩ = false := hc.free 2
      have c3 : wr.cell? ⟨w.heap.size + 1, 3, none⟩ = some (.int .i64 wk) := hc.cell 3
      have cf3 : wr.frozen? ⟨w.heap.size + 1, 3, none⟩ = false := hc.free 3
      have c4 : wr.cell? ⟨w.heap.size + 1, 4, none⟩ = some (.int .i64 cp) := hc.cell 4
      have cf4 : wr.frozen? ⟨w.heap.size + 1, 4, none⟩ = false := hc.free 4
      have c5 : wr.cell? ⟨w.heap.size + 1, 5, none⟩ = some (.slice ak O.length ck) := hc.cell 5
      have cf5 : wr.frozen? ⟨w.heap.size + 1, 5, none⟩ = false := hc.free 5
      clear hc
      simp only at HT
      have HNEW := Lib.hid (fun s => new_any 12 (k : Int) s wr)
      by_cases z1 : sz = 0 ∨ (kd = 3 ∧ su = 0)
      · rw [if_pos z1] at HT
        have hcs : sz = 0 ∨ (¬ sz = 0 ∧ kd = 3 ∧ su = 0) := by
          by_cases h : sz = 0
          · exact Or.inl h
          · exact Or.inr ⟨h, z1.resolve_left h⟩
        clear z1
        rcases hcs with h1 | ⟨h1, h2, h3⟩
        · subst h1
          go_wp2_with fail
          refine (HNEW.out _).mono ?_; rintro e w7 ⟨rfl, hw7⟩
          have HB7 : Hid (Below w.heap.size w w7) := by rw [← hw7]; exact Lib.hid (HB.out.alloc HB.out.size _)
          have hr7 : Whole w7 w.heap.size 29 zC := by rw [← hw7]; exact HR0.out.alloc _
          have hf7 : ∃ s, Whole w7 wr.heap.size 67 #[.int .i64 12, .int .i64 k, .string s] := by rw [← hw7]; exact ⟨_, Whole.new wr _ _⟩
          have HR7 := Lib.hid hr7; have HF7 := Lib.hid hf7; have HLT := Lib.hid HR0.out.lt
          have q0 : w7.cell? ⟨w.heap.size, 0, none⟩ = some (.int .i64 0) := hr7.cell 0
          have qf0 : w7.frozen? ⟨w.heap.size, 0, none⟩ = false := hr7.free 0
          have q1 : w7.cell? ⟨w.heap.size, 1, none⟩ = some (.int .i64 0) := hr7.cell 1
          have qf1 : w7.frozen? ⟨w.heap.size, 1, none⟩ = false := hr7.free 1
          have q2 : w7.cell? ⟨w.heap.size, 2, none⟩ = some (.int .i64 0) := hr7.cell 2
          have qf2 : w7.frozen? ⟨w.heap.size, 2, none⟩ = false := hr7.free 2
          have q3 : w7.cell? ⟨w.heap.size, 3, none⟩ = some (.int .i64 0) := hr7.cell 3
          have qf3 : w7.frozen? ⟨w.heap.size, 3, none⟩ = false := hr7.free 3
          have q4 : w7.cell? ⟨w.heap.size, 4, none⟩ = some (.int .i64 0) := hr7.cell 4
          have qf4 : w7.frozen? ⟨w.heap.size, 4, none⟩ = false := hr7.free 4
          have q5 : w7.cell? ⟨w.heap.size, 5, none⟩ = some (.slice none 0 0) := hr7.cell 5
          have qf5 : w7.frozen? ⟨w.heap.size, 5, none⟩ = false := hr7.free 5
          clear hw7 hr7 hf7
          go_wp2_with fail
          refine bodyPost_ret (results_conf rfl _ _ _ _ _ _ _ _ _ _ rfl rfl (whole_put6 HR7.out _ _ _ _ _ _)) rfl ⟨below_put6 HB7.out (Nat.le_refl _) _ _ _ _ _ _, Or.inl ⟨_, HT.out, _, rfl, ?_⟩⟩
          obtain ⟨s, hwb⟩ := HF7.out
          exact ⟨_, s, rfl, other_put6 hwb (by have := HLT.out; omega) _ _ _ _ _ _⟩
        · subst h2 h3
          go_wp2_with fail
          refine (HNEW.out _).mono ?_; rintro e w7 ⟨rfl, hw7⟩
          have HB7 : Hid (Below w.heap.size w w7) := by rw [← hw7]; exact Lib.hid (HB.out.alloc HB.out.size _)
          have hr7 : Whole w7 w.heap.size 29 zC := by rw [← hw7]; exact HR0.out.alloc _
          have hf7 : ∃ s, Whole w7 wr.heap.size 67 #[.int .i64 12, .int .i64 k, .string s] := by rw [← hw7]; exact ⟨_, Whole.new wr _ _⟩
          have HR7 := Lib.hid hr7; have HF7 := Lib.hid hf7; have HLT := Lib.hid HR0.out.lt
          have q0 : w7.cell? ⟨w.heap.size, 0, none⟩ = some (.int .i64 0) := hr7.cell 0
          have qf0 : w7.frozen? ⟨w.heap.size, 0, none⟩ = false := hr7.free 0
          have q1 : w7.cell? ⟨w.heap.size, 1, none⟩ = some (.int .i64 0) := hr7.cell 1
          have qf1 : w7.frozen? ⟨w.heap.size, 1, none⟩ = false := hr7.free 1
          have q2 : w7.cell? ⟨w.heap.size, 2, none⟩ = some (.int .i64 0) := hr7.cell 2
          have qf2 : w7.frozen? ⟨w.heap.size, 2, none⟩ = false := hr7.free 2
          have q3 : w7.cell? ⟨w.heap.size, 3, none⟩ = some (.int .i64 0) := hr7.cell 3
          have qf3 : w7.frozen? ⟨w.heap.size, 3, none⟩ = false := hr7.free 3
          have q4 : w7.cell? ⟨w.heap.size, 4, none⟩ = some (.int .i64 0) := hr7.cell 4
          have qf4 : w7.frozen? ⟨w.heap.size, 4, none⟩ = false := hr7.free 4
          have q5 : w7.cell? ⟨w.heap.size, 5, none⟩ = some (.slice none 0 0) := hr7.cell 5
          have qf5 : w7.frozen? ⟨w.heap.size, 5, none⟩ = false := hr7.free 5
          clear hw7 hr7 hf7
          go_wp2_with fail
          refine bodyPost_ret (results_conf rfl _ _ _ _ _ _ _ _ _ _ rfl rfl (whole_put6 HR7.out _ _ _ _ _ _)) rfl ⟨below_put6 HB7.out (Nat.le_refl _) _ _ _ _ _ _, Or.inl ⟨_, HT.out, _, rfl, ?_⟩⟩
          obtain ⟨s, hwb⟩ := HF7.out
          exact ⟨_, s, rfl, other_put6 hwb (by have := HLT.out; omega) _ _ _ _ _ _⟩
      · rw [if_neg z1] at HT
        have hcs : (¬ sz = 0 ∧ ¬ kd = 3) ∨ (¬ sz = 0 ∧ kd = 3 ∧ ¬ su = 0) := by
          by_cases h : kd = 3
          · exact Or.inr ⟨fun e => z1 (Or.inl e), h, fun e => z1 (Or.inr ⟨h, e⟩)⟩
          · exact Or.inl ⟨fun e => z1 (Or.inl e), h⟩
        clear z1
        have hr0 := HR0.out
        have q0 : wr.cell? ⟨w.heap.size, 0, none⟩ = some (.int .i64 0) := hr0.cell 0
        have qf0 : wr.frozen? ⟨w.heap.size, 0, none⟩ = false := hr0.free 0
        have q1 : wr.cell? ⟨w.heap.size, 1, none⟩ = some (.int .i64 0) := hr0.cell 1
        have qf1 : wr.frozen? ⟨w.heap.size, 1, none⟩ = false := hr0.free 1
        have q2 : wr.cell? ⟨w.heap.size, 2, none⟩ = some (.int .i64 0) := hr0.cell 2
        have qf2 : wr.frozen? ⟨w.heap.size, 2, none⟩ = false := hr0.free 2
        have q3 : wr.cell? ⟨w.heap.size, 3, none⟩ = some (.int .i64 0) := hr0.cell 3
        have qf3 : wr.frozen? ⟨w.heap.size, 3, none⟩ = false := hr0.free 3
        have q4 : wr.cell? ⟨w.heap.size, 4, none⟩ = some (.int .i64 0) := hr0.cell 4
        have qf4 : wr.frozen? ⟨w.heap.size, 4, none⟩ = false := hr0.free 4
        have q5 : wr.cell? ⟨w.heap.size, 5, none⟩ = some (.slice none 0 0) := hr0.cell 5
        have qf5 : wr.frozen? ⟨w.heap.size, 5, none⟩ = false := hr0.free 5
        clear hr0
        rcases hcs with ⟨h1, h2⟩ | ⟨h1, rfl, h3⟩
        · have t7 : decide (kd = 3) = false := decide_eq_false h2
          go_wp2_with fail
          all_goals exact bodyPost_ret (results_conf rfl _ _ _ _ _ _ _ _ _ _ rfl rfl (whole_put6 HR0.out _ _ _ _ _ _)) rfl ⟨below_put6 HB.out (Nat.le_refl _) _ _ _ _ _ _, Or.inr ⟨_, _, HT.out, rfl, keep_put6 HKV.out (by omega) _ _ _ _ _ _⟩⟩
        · have b1 : (sz == 0) = false := beq_eq_false_iff_ne.2 h1
          have b3 : (su == 0) = false := beq_eq_false_iff_ne.2 h3
          go_wp2_with fail
          exact bodyPost_ret (results_conf rfl _ _ _ _ _ _ _ _ _ _ rfl rfl (whole_put6 HR0.out _ _ _ _ _ _)) rfl ⟨below_put6 HB.out (Nat.le_refl _) _ _ _ _ _ _, Or.inr ⟨_, _, HT.out, rfl, keep_put6 HKV.out (by omega) _ _ _ _ _ _⟩⟩
    · obtain ⟨f', hf'⟩ : ∃ f, fu = f + 1 := ⟨fu - 1, by have := HFU.out; have := List.length_pos_iff.2 hs0; omega⟩
      subst hf'
      have hrl := rest_len hs0
      have hlens := HL2.out
      have c1l := (cut_len1 s2 10).1
      have c2l := cut_len1 (lineOf s2) 32
      have hC1 := cut_at s2 10 wr (HG.out.below HB.out (Nat.le_refl _)) (by omega)
      have hC2 := fun (W : World) (h : Below w.heap.size w W) => cut_at (lineOf s2) 32 W (HG.out.below h (Nat.le_refl _)) (by have : (lineOf s2).length ≤ s2.length := c1l; omega)
      have hlv : (valOf s2).length ≤ 100000 := by have h1 : (lineOf s2).length ≤ s2.length := c1l; have h2 : (valOf s2).length ≤ (lineOf s2).length := c2l.2; omega
      change Calls _ _ _ _ (fun e w' => e = .returned (.tuple #[.string (str (lineOf s2)), .string (str (restOf s2)), .bool (endsB s2)]) ∧ Below wr.heap.size wr w') at hC1
      change ∀ W, Below w.heap.size w W → Calls _ _ _ _ (fun e w' => e = .returned (.tuple #[.string (str (wordOf s2)), .string (str (valOf s2)), .bool (partB s2)]) ∧ Below W.heap.size W w') at hC2
      have hCON := fun (W : World) (v : Value) (h : W.ownsRow (w.heap.size + 2) 9 1 v k (strsL st)) => containsS_any st (wordOf s2) h (by omega)
      have hSET := fun (W : World) (hb : Below w.heap.size w W) (h : Whole W (w.heap.size + 1) 29 (cV x.c kv)) (hq : KeepV W (w.heap.size + 1) kv x.o) => setK_any x kv (w.heap.size + 1) (wordOf s2) (valOf s2) hlv W (HG.out.below hb (Nat.le_refl _)) h hq
      have te : ((str s2).toList == ([] : List UInt8)) = false := by rw [str_toList, beq_eq_false_iff_ne]; exact hs0
      have HRL := Lib.hid hrl; have HS0 := Lib.hid hs0
      clear hlv hlens hrl c1l c2l hs0
      have tj : ((str (wordOf s2)).toList == [106, 111, 98]) = decide (wordOf s2 = wJob) := by rw [str_toList]; exact beq_dec (wordOf s2) _
      obtain ⟨z1, hz1⟩ : ∃ z, endsB s2 = z := ⟨_, rfl⟩
      obtain ⟨z2, hz2⟩ : ∃ z, partB s2 = z := ⟨_, rfl⟩
      obtain ⟨ss, hss⟩ : ∃ s, str s2 = s := ⟨_, rfl⟩
      obtain ⟨ls, hls⟩ : ∃ s, str (lineOf s2) = s := ⟨_, rfl⟩
      obtain ⟨ws, hws⟩ : ∃ s, str (wordOf s2) = s := ⟨_, rfl⟩
      obtain ⟨vs, hvs⟩ : ∃ s, str (valOf s2) = s := ⟨_, rfl⟩
      obtain ⟨rs, hrs⟩ : ∃ s, str (restOf s2) = s := ⟨_, rfl⟩
      rw [hss, hls, hrs, hz1] at hC1
      rw [hls, hws, hvs, hz2] at hC2
      rw [hws] at tj hCON
      rw [hws, hvs] at hSET
      rw [hss] at te ⊢
      have HC1 := Lib.hid hC1; have HC2 := Lib.hid hC2; have HCON := Lib.hid hCON; have HSET := Lib.hid hSET; have HRS := Lib.hid hrs; have HWS := Lib.hid hws
      obtain ⟨f1, hf1⟩ : ∃ f, decide (st = []) = f := ⟨_, rfl⟩
      obtain ⟨j1, hj1⟩ : ∃ f, decide (wordOf s2 = wJob) = f := ⟨_, rfl⟩
      rw [hj1] at tj
      have tf : ((k : Int) == 0) = f1 := by
        rw [← hf1, ← HK.out]
        by_cases h : st = []
        · rw [decide_eq_true h, h]; rfl
        · rw [decide_eq_false h, beq_eq_false_iff_ne]
          exact fun e => h (List.length_eq_zero_iff.1 (by omega))
      have hbad : endsB s2 = false ∨ partB s2 = false ∨ (decide (st = []) != decide (wordOf s2 = wJob)) = true ∨ wordOf s2 ∈ st → tellK L = .inl k := fun h => tellK_inl (by rw [HRUN.out, ← HK.out]; exact runK_bad HS0.out h)
      have hset : setK x (wordOf s2) (valOf s2) = none → tellK L = .inl k := fun h => tellK_inl (by rw [HRUN.out, ← HK.out]; exact runK_none HS0.out h)
      have hstep : ∀ x', z1 = true → z2 = true → (f1 != j1) = false → wordOf s2 ∉ st → setK x (wordOf s2) (valOf s2) = some x' → runK L.length ck0 [] L = runK f' x' (st ++ [wordOf s2]) (restOf s2) := fun x' g1 g2 h1 h2 h3 => by rw [HRUN.out]; exact runK_step HS0.out (by rw [hz1]; exact g1) (by rw [hz2]; exact g2) (by rw [hf1, hj1]; exact h1) h2 h3
      rw [hz1, hz2, hf1, hj1] at hbad
      have HBAD := Lib.hid hbad; have HSETN := Lib.hid hset; have HSTEP := Lib.hid hstep
      clear hbad hset hstep hf1 hj1 hC1 hC2 hCON hSET hrs hws hvs hls hss hz1 hz2
      go_wp2_with fail
      refine HC1.out.mono ?_; rintro e w1 ⟨rfl, hb1⟩
      have hB1 := HB.out.trans (hb1.mono HB.out.size)
      have HB1 := Lib.hid hB1; have HO1 := Lib.hid (own_below HOWN.out hb1 (Nat.le_refl _)); have HW1 := Lib.hid (HC.out.below hb1 HC.out.lt); have HV1 := Lib.hid (show KeepV w1 _ kv x.o from own_below HKV.out hb1 (Nat.le_refl _)); have HR1 := Lib.hid (HR0.out.below hb1 HR0.out.lt)
      have HP2 := Lib.hid (HC2.out w1 hB1)
      clear hB1 hb1
      go_wp2_with fail
      refine HP2.out.mono ?_; rintro e w2 ⟨rfl, hb2⟩
      have hB2 := HB1.out.trans (hb2.mono HB1.out.size)
      have HB2 := Lib.hid hB2; have HO2 := Lib.hid (own_below HO1.out hb2 (Nat.le_refl _)); have HW2 := Lib.hid (HW1.out.below hb2 HW1.out.lt); have HV2 := Lib.hid (show KeepV w2 _ kv x.o from own_below HV1.out hb2 (Nat.le_refl _)); have HR2 := Lib.hid (HR1.out.below hb2 HR1.out.lt)
      clear hB2 hb2
      cases z1
      · have HT := Lib.hid (HBAD.out (Or.inl rfl))
        go_wp2_with fail
        refine (HIT.out _ HB2.out).mono ?_; rintro e w6 ⟨rfl, hb6⟩
        have hB6 := HB2.out.trans (hb6.mono HB2.out.size)
        have HB6 := Lib.hid hB6; have HR6 := Lib.hid (HR2.out.below hb6 HR2.out.lt)
        have HNEW := Lib.hid (fun s => new_any 12 (k : Int) s w6)
        clear hb6 hB6
        go_wp2_with fail
        refine (HNEW.out _).mono ?_; rintro e w7 ⟨rfl, hw7⟩
        have HB7 : Hid (Below w.heap.size w w7) := by rw [← hw7]; exact Lib.hid (HB6.out.alloc HB6.out.size _)
        have hr7 : Whole w7 w.heap.size 29 zC := by rw [← hw7]; exact HR6.out.alloc _
        have hf7 : ∃ s, Whole w7 w6.heap.size 67 #[.int .i64 12, .int .i64 k, .string s] := by rw [← hw7]; exact ⟨_, Whole.new w6 _ _⟩
        have HR7 := Lib.hid hr7; have HF7 := Lib.hid hf7; have HLT := Lib.hid HR6.out.lt
        have q0 : w7.cell? ⟨w.heap.size, 0, none⟩ = some (.int .i64 0) := hr7.cell 0
        have qf0 : w7.frozen? ⟨w.heap.size, 0, none⟩ = false := hr7.free 0
        have q1 : w7.cell? ⟨w.heap.size, 1, none⟩ = some (.int .i64 0) := hr7.cell 1
        have qf1 : w7.frozen? ⟨w.heap.size, 1, none⟩ = false := hr7.free 1
        have q2 : w7.cell? ⟨w.heap.size, 2, none⟩ = some (.int .i64 0) := hr7.cell 2
        have qf2 : w7.frozen? ⟨w.heap.size, 2, none⟩ = false := hr7.free 2
        have q3 : w7.cell? ⟨w.heap.size, 3, none⟩ = some (.int .i64 0) := hr7.cell 3
        have qf3 : w7.frozen? ⟨w.heap.size, 3, none⟩ = false := hr7.free 3
        have q4 : w7.cell? ⟨w.heap.size, 4, none⟩ = some (.int .i64 0) := hr7.cell 4
        have qf4 : w7.frozen? ⟨w.heap.size, 4, none⟩ = false := hr7.free 4
        have q5 : w7.cell? ⟨w.heap.size, 5, none⟩ = some (.slice none 0 0) := hr7.cell 5
        have qf5 : w7.frozen? ⟨w.heap.size, 5, none⟩ = false := hr7.free 5
        clear hw7 hr7 hf7
        go_wp2_with fail
        refine bodyPost_ret (results_conf rfl _ _ _ _ _ _ _ _ _ _ rfl rfl (whole_put6 HR7.out _ _ _ _ _ _)) rfl ⟨below_put6 HB7.out (Nat.le_refl _) _ _ _ _ _ _, Or.inl ⟨_, HT.out, _, rfl, ?_⟩⟩
        obtain ⟨s, hwb⟩ := HF7.out
        exact ⟨_, s, rfl, other_put6 hwb (by have := HLT.out; omega) _ _ _ _ _ _⟩
      cases z2
      · have HT := Lib.hid (HBAD.out (Or.inr (Or.inl rfl)))
        go_wp2_with fail
        refine (HIT.out _ HB2.out).mono ?_; rintro e w6 ⟨rfl, hb6⟩
        have hB6 := HB2.out.trans (hb6.mono HB2.out.size)
        have HB6 := Lib.hid hB6; have HR6 := Lib.hid (HR2.out.below hb6 HR2.out.lt)
        have HNEW := Lib.hid (fun s => new_any 12 (k : Int) s w6)
        clear hb6 hB6
        go_wp2_with fail
        refine (HNEW.out _).mono ?_; rintro e w7 ⟨rfl, hw7⟩
        have HB7 : Hid (Below w.heap.size w w7) := by rw [← hw7]; exact Lib.hid (HB6.out.alloc HB6.out.size _)
        have hr7 : Whole w7 w.heap.size 29 zC := by rw [← hw7]; exact HR6.out.alloc _
        have hf7 : ∃ s, Whole w7 w6.heap.size 67 #[.int .i64 12, .int .i64 k, .string s] := by rw [← hw7]; exact ⟨_, Whole.new w6 _ _⟩
        have HR7 := Lib.hid hr7; have HF7 := Lib.hid hf7; have HLT := Lib.hid HR6.out.lt
        have q0 : w7.cell? ⟨w.heap.size, 0, none⟩ = some (.int .i64 0) := hr7.cell 0
        have qf0 : w7.frozen? ⟨w.heap.size, 0, none⟩ = false := hr7.free 0
        have q1 : w7.cell? ⟨w.heap.size, 1, none⟩ = some (.int .i64 0) := hr7.cell 1
        have qf1 : w7.frozen? ⟨w.heap.size, 1, none⟩ = false := hr7.free 1
        have q2 : w7.cell? ⟨w.heap.size, 2, none⟩ = some (.int .i64 0) := hr7.cell 2
        have qf2 : w7.frozen? ⟨w.heap.size, 2, none⟩ = false := hr7.free 2
        have q3 : w7.cell? ⟨w.heap.size, 3, none⟩ = some (.int .i64 0) := hr7.cell 3
        have qf3 : w7.frozen? ⟨w.heap.size, 3, none⟩ = false := hr7.free 3
        have q4 : w7.cell? ⟨w.heap.size, 4, none⟩ = some (.int .i64 0) := hr7.cell 4
        have qf4 : w7.frozen? ⟨w.heap.size, 4, none⟩ = false := hr7.free 4
        have q5 : w7.cell? ⟨w.heap.size, 5, none⟩ = some (.slice none 0 0) := hr7.cell 5
        have qf5 : w7.frozen? ⟨w.heap.size, 5, none⟩ = false := hr7.free 5
        clear hw7 hr7 hf7
        go_wp2_with fail
        refine bodyPost_ret (results_conf rfl _ _ _ _ _ _ _ _ _ _ rfl rfl (whole_put6 HR7.out _ _ _ _ _ _)) rfl ⟨below_put6 HB7.out (Nat.le_refl _) _ _ _ _ _ _, Or.inl ⟨_, HT.out, _, rfl, ?_⟩⟩
        obtain ⟨s, hwb⟩ := HF7.out
        exact ⟨_, s, rfl, other_put6 hwb (by have := HLT.out; omega) _ _ _ _ _ _⟩
      by_cases hx : (f1 != j1) = true
      · have HT := Lib.hid (HBAD.out (Or.inr (Or.inr (Or.inl hx))))
        have hne : ¬ f1 = j1 := by simpa using hx
        clear hx
        go_wp2_with fail
        refine (HIT.out _ HB2.out).mono ?_; rintro e w6 ⟨rfl, hb6⟩
        have hB6 := HB2.out.trans (hb6.mono HB2.out.size)
        have HB6 := Lib.hid hB6; have HR6 := Lib.hid (HR2.out.below hb6 HR2.out.lt)
        have HNEW := Lib.hid (fun s => new_any 12 (k : Int) s w6)
        clear hb6 hB6
        go_wp2_with fail
        refine (HNEW.out _).mono ?_; rintro e w7 ⟨rfl, hw7⟩
        have HB7 : Hid (Below w.heap.size w w7) := by rw [← hw7]; exact Lib.hid (HB6.out.alloc HB6.out.size _)
        have hr7 : Whole w7 w.heap.size 29 zC := by rw [← hw7]; exact HR6.out.alloc _
        have hf7 : ∃ s, Whole w7 w6.heap.size 67 #[.int .i64 12, .int .i64 k, .string s] := by rw [← hw7]; exact ⟨_, Whole.new w6 _ _⟩
        have HR7 := Lib.hid hr7; have HF7 := Lib.hid hf7; have HLT := Lib.hid HR6.out.lt
        have q0 : w7.cell? ⟨w.heap.size, 0, none⟩ = some (.int .i64 0) := hr7.cell 0
        have qf0 : w7.frozen? ⟨w.heap.size, 0, none⟩ = false := hr7.free 0
        have q1 : w7.cell? ⟨w.heap.size, 1, none⟩ = some (.int .i64 0) := hr7.cell 1
        have qf1 : w7.frozen? ⟨w.heap.size, 1, none⟩ = false := hr7.free 1
        have q2 : w7.cell? ⟨w.heap.size, 2, none⟩ = some (.int .i64 0) := hr7.cell 2
        have qf2 : w7.frozen? ⟨w.heap.size, 2, none⟩ = false := hr7.free 2
        have q3 : w7.cell? ⟨w.heap.size, 3, none⟩ = some (.int .i64 0) := hr7.cell 3
        have qf3 : w7.frozen? ⟨w.heap.size, 3, none⟩ = false := hr7.free 3
        have q4 : w7.cell? ⟨w.heap.size, 4, none⟩ = some (.int .i64 0) := hr7.cell 4
        have qf4 : w7.frozen? ⟨w.heap.size, 4, none⟩ = false := hr7.free 4
        have q5 : w7.cell? ⟨w.heap.size, 5, none⟩ = some (.slice none 0 0) := hr7.cell 5
        have qf5 : w7.frozen? ⟨w.heap.size, 5, none⟩ = false := hr7.free 5
        clear hw7 hr7 hf7
        go_wp2_with fail
        refine bodyPost_ret (results_conf rfl _ _ _ _ _ _ _ _ _ _ rfl rfl (whole_put6 HR7.out _ _ _ _ _ _)) rfl ⟨below_put6 HB7.out (Nat.le_refl _) _ _ _ _ _ _, Or.inl ⟨_, HT.out, _, rfl, ?_⟩⟩
        obtain ⟨s, hwb⟩ := HF7.out
        exact ⟨_, s, rfl, other_put6 hwb (by have := HLT.out; omega) _ _ _ _ _ _⟩
      · have hx' : (f1 != j1) = false := by simpa using hx
        have HX := Lib.hid hx'
        have hfe : f1 = j1 := by simpa using hx'
        subst hfe
        clear hx hx'
        have HP3 := Lib.hid (HCON.out w2 _ HO2.out)
        have HP4 := Lib.hid (HSET.out w2 HB2.out HW2.out HV2.out)
        obtain ⟨zz, hzz⟩ : ∃ z, decide (wordOf s2 ∈ st) = z := ⟨_, rfl⟩
        rw [hzz] at HP3
        have HZZ := Lib.hid hzz
        clear hzz
        go_wp2_with fail
        refine HP3.out.mono ?_; rintro e w3 ⟨rfl, hw⟩
        obtain rfl := hw.symm
        clear hw
        cases zz
        · go_wp2_with fail
          refine HP4.out.mono ?_; rintro e w3 ⟨hgr, hcase⟩
          have hB3 := HB2.out.grown hgr HB2.out.size (fun j hj => by cases hj; omega)
          have HB3 := Lib.hid hB3; have HO3 := Lib.hid (HO2.out.kept hgr (Or.inr (own_ne HO2.out HW2.out (by decide)))); have HR3 := Lib.hid (HR2.out.grown hgr (fun e => by injection e; omega))
          clear hB3 hgr
          rcases hcase with ⟨x', kv', hc', rfl, hW3, hV3⟩ | ⟨hno, rfl⟩
          · have HRN := Lib.hid (HSTEP.out x' (by first | rfl | trivial) (by first | rfl | trivial) HX.out (of_decide_eq_false HZZ.out) hc')
            have HW3 := Lib.hid hW3; have HV3 := Lib.hid hV3
            have hs3 := hW3.lt
            clear hc' hW3 hV3
            go_wp2_with (at_builtin; refine wpList_app1 _ rfl _ _ 47 rfl (w.heap.size + 2) 9 i0 (.string ⟨#[]⟩) 16 Tryz.underlying47 hi hz0 hz1 hz2 rfl _ k _ rfl HO3.out _ rfl rfl (by omega) (by omega) (by omega) ?_)
            intro A' c2 w4 hown4 hgr4
            have HB4 := Lib.hid (app_below HB3.out (by omega) (by omega) HO3.out _ hgr4); have HO4 := Lib.hid hown4; have HW4 := Lib.hid (app_whole HW3.out HO3.out (by decide) _ hgr4); have HR4 := Lib.hid (app_whole HR3.out HO3.out (by decide) _ hgr4)
            have HV4 := Lib.hid (show KeepV w4 (w.heap.size + 1) kv' x'.o from (World.ownsRow.alloc HV3.out _).kept hgr4 (own_apart HV3.out HO3.out (by decide)))
            clear hown4 hgr4
            go_wp2_with fail
            go_roundg (restOf s2).length
            case rel => exact ⟨restOf s2, st ++ [wordOf s2], x', kv', f', rfl, HRN.out, by have := HFU.out; have := HRL.out; omega, by have := HLEN.out; have := HRL.out; have := HK.out; rw [List.length_append]; simp; omega, by rw [HRS.out], by rw [List.length_append, strsL_app, HK.out]; simpa [strsL, HWS.out] using HO4.out, HW4.out, HV4.out, HR4.out, HB4.out⟩
            case measure => exact HRL.out
          · have HT := Lib.hid (HSETN.out hno)
            clear hno
            go_wp2_with fail
            refine (HIT.out _ HB3.out).mono ?_; rintro e w6 ⟨rfl, hb6⟩
            have hB6 := HB3.out.trans (hb6.mono HB3.out.size)
            have HB6 := Lib.hid hB6; have HR6 := Lib.hid (HR3.out.below hb6 HR3.out.lt)
            have HNEW := Lib.hid (fun s => new_any 12 (k : Int) s w6)
            clear hb6 hB6
            go_wp2_with fail
            refine (HNEW.out _).mono ?_; rintro e w7 ⟨rfl, hw7⟩
            have HB7 : Hid (Below w.heap.size w w7) := by rw [← hw7]; exact Lib.hid (HB6.out.alloc HB6.out.size _)
            have hr7 : Whole w7 w.heap.size 29 zC := by rw [← hw7]; exact HR6.out.alloc _
            have hf7 : ∃ s, Whole w7 w6.heap.size 67 #[.int .i64 12, .int .i64 k, .string s] := by rw [← hw7]; exact ⟨_, Whole.new w6 _ _⟩
            have HR7 := Lib.hid hr7; have HF7 := Lib.hid hf7; have HLT := Lib.hid HR6.out.lt
            have q0 : w7.cell? ⟨w.heap.size, 0, none⟩ = some (.int .i64 0) := hr7.cell 0
            have qf0 : w7.frozen? ⟨w.heap.size, 0, none⟩ = false := hr7.free 0
            have q1 : w7.cell? ⟨w.heap.size, 1, none⟩ = some (.int .i64 0) := hr7.cell 1
            have qf1 : w7.frozen? ⟨w.heap.size, 1, none⟩ = false := hr7.free 1
            have q2 : w7.cell? ⟨w.heap.size, 2, none⟩ = some (.int .i64 0) := hr7.cell 2
            have qf2 : w7.frozen? ⟨w.heap.size, 2, none⟩ = false := hr7.free 2
            have q3 : w7.cell? ⟨w.heap.size, 3, none⟩ = some (.int .i64 0) := hr7.cell 3
            have qf3 : w7.frozen? ⟨w.heap.size, 3, none⟩ = false := hr7.free 3
            have q4 : w7.cell? ⟨w.heap.size, 4, none⟩ = some (.int .i64 0) := hr7.cell 4
            have qf4 : w7.frozen? ⟨w.heap.size, 4, none⟩ = false := hr7.free 4
            have q5 : w7.cell? ⟨w.heap.size, 5, none⟩ = some (.slice none 0 0) := hr7.cell 5
            have qf5 : w7.frozen? ⟨w.heap.size, 5, none⟩ = false := hr7.free 5
            clear hw7 hr7 hf7
            go_wp2_with fail
            refine bodyPost_ret (results_conf rfl _ _ _ _ _ _ _ _ _ _ rfl rfl (whole_put6 HR7.out _ _ _ _ _ _)) rfl ⟨below_put6 HB7.out (Nat.le_refl _) _ _ _ _ _ _, Or.inl ⟨_, HT.out, _, rfl, ?_⟩⟩
            obtain ⟨s, hwb⟩ := HF7.out
            exact ⟨_, s, rfl, other_put6 hwb (by have := HLT.out; omega) _ _ _ _ _ _⟩
        · have HT := Lib.hid (HBAD.out (Or.inr (Or.inr (Or.inr (of_decide_eq_true HZZ.out)))))
          go_wp2_with fail
          refine (HIT.out _ HB2.out).mono ?_; rintro e w6 ⟨rfl, hb6⟩
          have hB6 := HB2.out.trans (hb6.mono HB2.out.size)
          have HB6 := Lib.hid hB6; have HR6 := Lib.hid (HR2.out.below hb6 HR2.out.lt)
          have HNEW := Lib.hid (fun s => new_any 12 (k : Int) s w6)
          clear hb6 hB6
          go_wp2_with fail
          refine (HNEW.out _).mono ?_; rintro e w7 ⟨rfl, hw7⟩
          have HB7 : Hid (Below w.heap.size w w7) := by rw [← hw7]; exact Lib.hid (HB6.out.alloc HB6.out.size _)
          have hr7 : Whole w7 w.heap.size 29 zC := by rw [← hw7]; exact HR6.out.alloc _
          have hf7 : ∃ s, Whole w7 w6.heap.size 67 #[.int .i64 12, .int .i64 k, .string s] := by rw [← hw7]; exact ⟨_, Whole.new w6 _ _⟩
          have HR7 := Lib.hid hr7; have HF7 := Lib.hid hf7; have HLT := Lib.hid HR6.out.lt
          have q0 : w7.cell? ⟨w.heap.size, 0, none⟩ = some (.int .i64 0) := hr7.cell 0
          have qf0 : w7.frozen? ⟨w.heap.size, 0, none⟩ = false := hr7.free 0
          have q1 : w7.cell? ⟨w.heap.size, 1, none⟩ = some (.int .i64 0) := hr7.cell 1
          have qf1 : w7.frozen? ⟨w.heap.size, 1, none⟩ = false := hr7.free 1
          have q2 : w7.cell? ⟨w.heap.size, 2, none⟩ = some (.int .i64 0) := hr7.cell 2
          have qf2 : w7.frozen? ⟨w.heap.size, 2, none⟩ = false := hr7.free 2
          have q3 : w7.cell? ⟨w.heap.size, 3, none⟩ = some (.int .i64 0) := hr7.cell 3
          have qf3 : w7.frozen? ⟨w.heap.size, 3, none⟩ = false := hr7.free 3
          have q4 : w7.cell? ⟨w.heap.size, 4, none⟩ = some (.int .i64 0) := hr7.cell 4
          have qf4 : w7.frozen? ⟨w.heap.size, 4, none⟩ = false := hr7.free 4
          have q5 : w7.cell? ⟨w.heap.size, 5, none⟩ = some (.slice none 0 0) := hr7.cell 5
          have qf5 : w7.frozen? ⟨w.heap.size, 5, none⟩ = false := hr7.free 5
          clear hw7 hr7 hf7
          go_wp2_with fail
          refine bodyPost_ret (results_conf rfl _ _ _ _ _ _ _ _ _ _ rfl rfl (whole_put6 HR7.out _ _ _ _ _ _)) rfl ⟨below_put6 HB7.out (Nat.le_refl _) _ _ _ _ _ _, Or.inl ⟨_, HT.out, _, rfl, ?_⟩⟩
          obtain ⟨s, hwb⟩ := HF7.out
          exact ⟨_, s, rfl, other_put6 hwb (by have := HLT.out; omega) _ _ _ _ _ _⟩
end Go.Proofs.YtbbdammdiplagaaGreatDoor
