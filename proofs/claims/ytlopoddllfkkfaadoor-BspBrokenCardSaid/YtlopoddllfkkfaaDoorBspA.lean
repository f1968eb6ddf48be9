/- Pass. Written by gen_pass.py. -/
import Derived.Test.YtlopoddllfkkfaaDoorJC
import Derived.Test.YtlopoddllfkkfaaDoorApp2
namespace Go.Proofs.YtlopoddllfkkfaaDoor
open Go.RowKit

/-- append, by a name that the walk does not open. -/
def appSem (ts : Array TypeId) (ty : TypeId) (args : Array Value) : Sem Value := Builtin.append_ ts ty args
theorem app_alias (ts : Array TypeId) (ty : TypeId) (args : Array Value) : Builtin.append_ ts ty args = appSem ts ty args := rfl
/-- A text appended to a row: the run, ahead of the walk. -/
theorem app_txt {V : World} {base q c : Nat} {A : Option Addr} {X : List ByteArray} (hown : V.ownsRow base 9 1 (.slice A q c) q (txtC X)) (hq : q ≤ 100000) (hbase : base ≤ V.heap.size) (z : ByteArray) :
    ∃ B cap w1, (appSem #[22, 22] 22 #[.slice A q c, .slice (some ⟨V.heap.size, 0, none⟩) 1 1]).run Tryd.prog ((V.alloc (.cells #[.string z] 9)).drew) = .ok (.slice B (q + 1) cap) w1 ∧
      w1.ownsRow base 9 1 (.slice B (q + 1) cap) (q + 1) (txtC (X ++ [z])) ∧ ((V.alloc (.cells #[.string z] 9)).drew).grownBy w1 (Value.slice A q c).ownBlock := by
  obtain ⟨i0, hi, hz0, hz1, hz2⟩ := info_parts Tryd.infoStr
  have h := run_appRow (P := Tryd.prog) ((V.alloc (.cells #[.string z] 9)).drew) 22 22 9 base i0 (.string ⟨#[]⟩) 1 16 Tryd.underlying22 hi hz0 hz1 hz2 rfl (by decide) (by decide) (.slice A q c) q (txtC X) (own_drewN (hown.alloc _) 1)
    (.slice (some ⟨V.heap.size, 0, none⟩) 1 1) 1 [.string z] ((RowAt.new V 9 1 [.string z] rfl).below (below_drewN' (Below.refl _ _) 1) (Nat.le_refl _)) (fun c hc => by rw [List.mem_singleton.1 hc]; rfl) (by omega) (by show base ≤ (V.alloc _).heap.size; rw [World.size_alloc]; omega)
  obtain ⟨B, cap, w1, hr, h2, h3⟩ := h
  exact ⟨B, cap, w1, hr, by rw [txtC_app]; exact h2, h3⟩
theorem rows_set (us : List Value) (c : Nat) (u : Value) : us.toArray.setIfInBounds c u = (us.set c u).toArray := by simp
def boxN (n : NetP) (c : Nat) : List ByteArray := (inboxL n (c : Int) n.k).map (·.x)
def passP (p : MP) : MP := startP p.k (p.rd + 1) p.nx ((List.range p.k).map (boxN p.nt))
/-- Rows made so far. -/
def RowsTo (w4 : World) (ib k c : Nat) (n : NetP) (wr : World) : Prop :=
  ∃ us : List Value, Whole wr ib 22 us.toArray ∧ us.length = k ∧ Fr w4.heap.size (fun g => g = ib) w4 wr ∧ ∀ (i : Nat) (u : Value), i < c → us[i]? = some u → ValsV wr u (txtC (boxN n i)) ∧ ∀ g, u.ownBlock = some g → w4.heap.size ≤ g ∧ g < wr.heap.size
/-- A row that grows. -/
def RowTo (wd : World) (ib c : Nat) (us : List Value) (X : List ByteArray) (i : Nat) (wr : World) : Prop :=
  ∃ Av cv, wr.ownsRow wd.heap.size 9 1 (.slice Av i cv) i (txtC (X.take i)) ∧ Whole wr ib 22 (us.set c (.slice Av i cv)).toArray ∧ Fr wd.heap.size (fun g => g = ib) wd wr
theorem lets_txt {w : World} {A : Option Addr} {n c i : Nat} {L : List Let} (h : LetsAt w (.slice A n c) L) (hi : i < L.length) : ∃ b off l, A = some ⟨b, off, none⟩ ∧ L[i]? = some l ∧ (L.map (·.x)).getD i ⟨#[]⟩ = l.x ∧ w.cell? ⟨b, off + i * 4, none⟩ = some (.int .i64 l.f) ∧ w.cell? ⟨b, off + i * 4 + 1, none⟩ = some (.int .i64 l.t) ∧ w.cell? ⟨b, off + i * 4 + 2, none⟩ = some (.int .i64 l.s) ∧ w.cell? ⟨b, off + i * 4 + 3, none⟩ = some (.string l.x) := by
  obtain ⟨b, off, e, h1, h2, h3, h4⟩ := h.pos hi
  exact ⟨b, off, L[i], e, List.getElem?_eq_getElem hi, by simp [List.getD, hi], h1, h2, h3, h4⟩
attribute [local go_sem ↓] app_alias
set_option maxRecDepth 100000 in
set_option maxHeartbeats 8000000 in
theorem mpass_go {w : World} {base N : Nat} {p : MP} {job : Value} {m : Nat} {R : Nat → Prop} (h : MachB w base N p job m R) (hk : p.wk.all id = true) (hq : p.nt.miss = 0) (hbase : base ≤ w.heap.size) (hsn : ∀ a c, p.nt.sent a c ≤ 1000) (hrd : p.rd ≤ 1000000) :
    Calls Tryd.prog 17 #[.pointer (some ⟨m, 0, none⟩)] w fun e w' => e = .returned .nilIface ∧ OpTo base 0 (passP p) job m R w w' := by
  obtain ⟨nb, wb, ib, b, sv, us0, Rn, h, rfl⟩ := h
  have CB := Lib.hid (containsBool_any h.work h.l5 (by have := h.k2; omega))
  rw [hk] at CB
  have QU := Lib.hid (quiet_any h.net.at)
  rw [hq, show ((0 : Int) == 0) = true from rfl] at QU
  obtain ⟨sb, so, sc, hsv, c0, c1, c2, c3, c4, c5, c6⟩ := h.cells
  have HH := Lib.hid h
  obtain ⟨k, hkk⟩ : ∃ k, p.k = k := ⟨_, rfl⟩
  have hw := h.whole
  have hnk := h.nk
  rw [hkk] at c2 c3 c4 c5 hw hnk CB
  have f2 : w.frozen? ⟨m, 2, none⟩ = false := hw.free 2
  have hm4 := hw.put 2 (.slice (some ⟨nb, 0, none⟩) k k)
  obtain ⟨w4, hw4⟩ : ∃ W, w.setCell ⟨m, 2, none⟩ (.slice (some ⟨nb, 0, none⟩) k k) = W := ⟨_, rfl⟩
  have hs4 : w4.heap.size = w.heap.size := by rw [← hw4, size_put]
  have hf4 : Fr w.heap.size (fun g => g = m) w w4 := by rw [← hw4]; exact Fr.of_grown (grown_cell w m 2 _) (Nat.le_refl _) (fun g hg _ => (Option.some.inj hg).symm)
  rw [hw4] at hm4
  have hn4 := h.net.stay hf4 (fun g hg e => (h.rn g hg).1 e)
  have hr4 := h.rows.stay (hf4.block ib h.rows.lt (fun e => h.n3 e.symm))
  have hib4 : ib < w4.heap.size := by rw [hs4]; exact h.rows.lt
  have hmi := h.n3
  have HM4 : Hid (∀ W, Fr w4.heap.size (fun g => g = ib) w4 W → W.cell? ⟨m, 1, none⟩ = some (.int .i64 p.rd) ∧ W.frozen? ⟨m, 1, none⟩ = false ∧ W.cell? ⟨m, 3, none⟩ = some (.slice (some ⟨ib, 0, none⟩) k k) ∧ W.cell? ⟨m, 6, none⟩ = some (.pointer (some ⟨b, 0, none⟩)) ∧ Whole W m 68 #[job, .int .i64 p.rd, .slice (some ⟨nb, 0, none⟩) k k, .slice (some ⟨ib, 0, none⟩) k k, .slice (some ⟨nb, 0, none⟩) k k, .slice (some ⟨wb, 0, none⟩) k k, .pointer (some ⟨b, 0, none⟩)] ∧ NetB W base N p.nt b Rn) := Lib.hid (fun W hf => by
    have h1 := hm4.stay (hf.block m hm4.lt (fun e => hmi e))
    exact ⟨h1.cell 1, h1.free 1, h1.cell 3, h1.cell 6, h1, hn4.stay hf (fun g hg e => (HH.out.rn g hg).2.2.2 e)⟩)
  have HS4 := Lib.hid hs4; have HF4 := Lib.hid hf4; have HW4 := Lib.hid hw4; have HR4 := Lib.hid hr4; have HIB := Lib.hid hib4; have HKK := Lib.hid hkk; have HNK := Lib.hid hnk; have HBASE := Lib.hid hbase; have HSN := Lib.hid hsn
  have HUS : Hid (us0.length = k) := Lib.hid (by rw [h.l3]; exact hkk)
  have hk64 : k ≤ 64 := by rw [← hkk]; exact h.k2
  have w1r : IntKind.i64.wrap ((p.rd : Int) + 1) = (p.rd : Int) + 1 := by rw [IntKind.wrap_i64]; omega
  have HRD := Lib.hid hrd
  clear h hk hq hw hnk hm4 hw4 hs4 hf4 hn4 hr4 hib4 hkk hbase hsn hmi hrd
  go_enter Tryd.func17, Tryd.ntmps17
  go_wp2_with fail
  refine CB.out.mono ?_; rintro e w1 ⟨rfl, hw⟩; obtain rfl := hw.symm; clear hw
  go_wp2_with fail
  refine QU.out.mono ?_; rintro e w1 ⟨rfl, hw⟩; obtain rfl := hw.symm; clear hw
  have HM0 := HM4.out w4 (Fr.refl _ _ _)
  obtain ⟨_, _, x3, _⟩ := HM0
  go_upto_region 8 with fail
  rw [HW4.out]
  clear c0 c1 c2 c3 c4 c5 c6 f2
  go_wp2_with fail
  go_loopg [39] k (fun g y wr => ∃ c, c ≤ k ∧ g = k - c ∧ y = .int .i64 (c : Nat) ∧ RowsTo w4 ib k c p.nt wr)
  case atStart => exact ⟨0, Nat.zero_le _, rfl, rfl, us0, HR4.out, HUS.out, Fr.refl _ _ _, fun i u hi => absurd hi (Nat.not_lt_zero _)⟩
  case round =>
    obtain ⟨c, hc, rfl, rfl, us, hrw, hul, hfr, hrows⟩ := hrel
    obtain ⟨x1, g1, x3, x6, xw, xn⟩ := HM4.out wr hfr
    have HXW := Lib.hid xw; have HFR := Lib.hid hfr; have HROWS := Lib.hid hrows; have HUL := Lib.hid hul
    by_cases hlt : c < k
    · have y0 : wr.cell? ⟨ib, c, none⟩ = some (us.getD c undef) := by rw [hrw.cell c]; simp [List.getD, show c < us.length by rw [hul]; exact hlt]
      have y1 : wr.frozen? ⟨ib, c, none⟩ = false := hrw.free c
      have hwc := hrw.put c (.slice none 0 0)
      rw [rows_set] at hwc
      obtain ⟨wc, hwc'⟩ : ∃ W, wr.setCell ⟨ib, c, none⟩ (.slice none 0 0) = W := ⟨_, rfl⟩
      rw [hwc'] at hwc
      have hsc : wc.heap.size = wr.heap.size := by rw [← hwc', size_put]
      have hfc : Fr w4.heap.size (fun g => g = ib) w4 wc := hfr.trans (by rw [← hwc']; exact Fr.of_grown (grown_cell wr ib c _) hfr.size (fun g hg _ => (Option.some.inj hg).symm))
      have hgc : wr.grownBy wc (some ib) := by rw [← hwc']; exact grown_cell wr ib c _
      obtain ⟨_, _, z3, z6, _, zn⟩ := HM4.out wc hfc
      obtain ⟨mb, cb, vn, F, G, hni, _⟩ := zn
      have IN := Lib.hid (inbox_ok hni (c : Int) (by rw [HNK.out]; exact hk64) (by unfold hasB; rw [HNK.out]; simp; omega) (fun a => HSN.out a c))
      obtain ⟨L, hL⟩ : ∃ L, inboxL p.nt (c : Int) p.nt.k = L := ⟨_, rfl⟩
      rw [hL] at IN
      have hLX : Hid (boxN p.nt c = L.map (·.x)) := Lib.hid (by unfold boxN; rw [hL])
      have hLn : L.length ≤ 64000 := by
        rw [← hL]
        have h9 := inboxL_len (n := p.nt) (c := (c : Int)) (M := 1000) (fun a => HSN.out a c) p.nt.k
        rw [HNK.out] at h9
        rw [HNK.out]
        omega
      have HWC := Lib.hid hwc; have HWC' := Lib.hid hwc'; have HSC := Lib.hid hsc; have HFC := Lib.hid hfc; have HGC := Lib.hid hgc
      have t7 : decide (c < k) = true := decide_eq_true hlt
      have t7' : decide ((c : Int) < k) = true := decide_eq_true (by omega)
      have i1 : (c : Int) < k := by omega
      have HLT := Lib.hid hlt
      clear hrw hul hfr hrows hwc hwc' hsc hfc hgc hni xw xn hL hc x1 g1
      go_upto_region 12 with fail
      rw [HWC'.out]
      clear y0 y1 x3 x6
      go_wp2_with fail
      refine IN.out.mono ?_; rintro e wd ⟨u, rfl, hfl, hbd⟩
      have hle := hfl.lets
      have hown := fun g (hg : u.ownBlock = some g) => hfl.own hg
      obtain ⟨Al, cl, rfl, hcl, _⟩ := hfl
      obtain ⟨ln, hln⟩ : ∃ n, L.length = n := ⟨_, rfl⟩
      rw [hln] at hle hLn hcl hown ⊢
      have hwd := HWC.out.below hbd (by have := HWC.out.lt; omega)
      have hfd : Fr w4.heap.size (fun g => g = ib) w4 wd := HFC.out.trans (Fr.of_below hbd HFC.out.size)
      have hlb : ∀ g, (Value.slice Al ln cl).ownBlock = some g → g ≠ ib := fun g hg e => by have h1 := (hown g hg).1; have h2 := HWC.out.lt; omega
      have HLE : Hid (∀ W, Fr wd.heap.size (fun g => g = ib) wd W → LetsAt W (.slice Al ln cl) L) := Lib.hid (fun W hf => hle.stay (fun g hg => by
        exact hf.block g (hown g hg).2 (hlb g hg)))
      have HMD : Hid (∀ W, Fr wd.heap.size (fun g => g = ib) wd W → W.cell? ⟨m, 3, none⟩ = some (.slice (some ⟨ib, 0, none⟩) k k)) := Lib.hid (fun W hf => (HM4.out W (hfd.trans (hf.less (by have := hfd.size; omega)))).2.2.1)
      have HWD := Lib.hid hwd; have HFD := Lib.hid hfd; have HBD := Lib.hid hbd; have HLN := Lib.hid hln
      clear hle hcl hwd hfd hbd hlb hln hown z3 z6
      obtain ⟨w5, hw5⟩ : ∃ W, W = wr := ⟨_, rfl⟩
      subst hw5
      go_wp2_with fail
      go_loopg [55] ln (fun g y wr => ∃ i, i ≤ ln ∧ g = ln - i ∧ y = .int .i64 (i : Nat) ∧ RowTo wd ib c us (L.map (·.x)) i wr)
      case atStart => exact ⟨0, Nat.zero_le _, rfl, rfl, none, 0, World.ownsRow_nil _ _ _ 1, HWD.out, Fr.refl _ _ _⟩
      case round =>
        obtain ⟨i, hi, rfl, rfl, Av, cv, hown, hwh, hf⟩ := hrel
        have HOW := Lib.hid hown; have HWH := Lib.hid hwh; have HF := Lib.hid hf
        by_cases hlt : i < ln
        · obtain ⟨bL, offL, l, rfl, hl, hlx, q0, q1, q2, q3⟩ := lets_txt (HLE.out wr hf) (show i < L.length by rw [HLN.out]; exact hlt)
          obtain ⟨lf, hlf⟩ : ∃ x, l.f = x := ⟨_, rfl⟩
          obtain ⟨lt, hlt'⟩ : ∃ x, l.t = x := ⟨_, rfl⟩
          obtain ⟨lsq, hls⟩ : ∃ x, l.s = x := ⟨_, rfl⟩
          obtain ⟨lx, hlx'⟩ : ∃ x, l.x = x := ⟨_, rfl⟩
          rw [hlf] at q0
          rw [hlt'] at q1
          rw [hls] at q2
          rw [hlx'] at q3 hlx
          obtain ⟨V, hV⟩ : ∃ W, wr.alloc (.cells #[.int .i64 lf, .int .i64 lt, .int .i64 lsq, .string lx] 83) = W := ⟨_, rfl⟩
          obtain ⟨lb, hlb⟩ : ∃ g, wr.heap.size = g := ⟨_, rfl⟩
          have hbV : Below wr.heap.size wr (wr.alloc (.cells #[.int .i64 lf, .int .i64 lt, .int .i64 lsq, .string lx] 83)) := (Below.refl _ _).alloc (Nat.le_refl _) _
          have hWV := Whole.new wr 83 #[.int .i64 lf, .int .i64 lt, .int .i64 lsq, .string lx]
          have hsV : (wr.alloc (.cells #[.int .i64 lf, .int .i64 lt, .int .i64 lsq, .string lx] 83)).heap.size = wr.heap.size + 1 := World.size_alloc _ _
          have hownV := hown.alloc (.cells #[.int .i64 lf, .int .i64 lt, .int .i64 lsq, .string lx] 83)
          rw [hV] at hbV hWV hsV hownV
          rw [hlb] at hWV
          have hfs := hf.size
          obtain ⟨B, cap, w7, ha1, hown1, hgr1⟩ := app_txt hownV (by omega) (by omega) lx
          have hwib : Whole V ib 22 (us.set c (.slice Av i cv)).toArray := hwh.below hbV hwh.lt
          have hfV : Fr wd.heap.size (fun g => g = ib) wd V := hf.trans (Fr.of_below hbV hfs)
          have hfU1 : Fr wd.heap.size (fun g => g = ib) wd V.drew := hfV.trans (Fr.of_below (below_drewN' (Below.refl wd.heap.size _) 1) (Nat.le_refl _))
          have hbU2 : Below V.heap.size V ((V.alloc (.cells #[.string lx] 9)).drew) := below_drewN' ((Below.refl _ _).alloc (Nat.le_refl _) _) 1
          have hfU2 : Fr wd.heap.size (fun g => g = ib) wd ((V.alloc (.cells #[.string lx] 9)).drew) := hfV.trans (Fr.of_below hbU2 (by omega))
          have hblk : ∀ g, (Value.slice Av i cv).ownBlock = some g → wd.heap.size ≤ g ∧ g < wr.heap.size := fun g hg => hown.lt g hg
          have hwdib := HWD.out.lt
          have hmwd : m < wd.heap.size := by have h9 := (HM4.out wd HFD.out).2.2.2.2.1.lt; exact h9
          have hU2s := hbU2.size
          have hfU3 : Fr wd.heap.size (fun g => g = ib) wd w7 := hfU2.trans (Fr.of_grown hgr1 (by omega) (fun g hg hlt => by have := (hblk g hg).1; omega))
          have hib3 : Whole w7 ib 22 (us.set c (.slice Av i cv)).toArray := (hwib.below hbU2 (by omega)).grown hgr1 (fun e => by have := (hblk ib e.symm).1; omega)
          have hlb3 : Whole w7 lb 83 #[.int .i64 lf, .int .i64 lt, .int .i64 lsq, .string lx] := (hWV.below hbU2 (by omega)).grown hgr1 (fun e => by have := (hblk lb e.symm).2; omega)
          have hcl : c < us.length := by rw [HUL.out]; exact HLT.out
          have hset : (us.set c (.slice Av i cv)).toArray[c]? = some (.slice Av i cv) := by simp [hcl]
          have S1 : Hid (V.drew.cell? ⟨m, 3, none⟩ = some (.slice (some ⟨ib, 0, none⟩) k k) ∧ V.drew.cell? ⟨ib, c, none⟩ = some (.slice Av i cv) ∧ V.drew.cell? ⟨lb, 3, none⟩ = some (.string lx)) := Lib.hid ⟨HMD.out _ hfU1, ((hwib.drewN 1).cell c).trans hset, (hWV.drewN 1).cell 3⟩
          have S2 : Hid (((V.alloc (.cells #[.string lx] 9)).drew).cell? ⟨m, 3, none⟩ = some (.slice (some ⟨ib, 0, none⟩) k k) ∧ ((V.alloc (.cells #[.string lx] 9)).drew).cell? ⟨ib, c, none⟩ = some (.slice Av i cv) ∧ ((V.alloc (.cells #[.string lx] 9)).drew).cell? ⟨lb, 3, none⟩ = some (.string lx)) := Lib.hid ⟨HMD.out _ hfU2, ((hwib.below hbU2 (by omega)).cell c).trans hset, (hWV.below hbU2 (by omega)).cell 3⟩
          have S3 : Hid (w7.cell? ⟨m, 3, none⟩ = some (.slice (some ⟨ib, 0, none⟩) k k) ∧ w7.cell? ⟨ib, c, none⟩ = some (.slice Av i cv) ∧ w7.cell? ⟨lb, 3, none⟩ = some (.string lx)) := Lib.hid ⟨HMD.out _ hfU3, (hib3.cell c).trans hset, hlb3.cell 3⟩
          have z0 : w7.cell? ⟨ib, c, none⟩ = some (.slice Av i cv) := S3.out.2.1
          have z1 : w7.frozen? ⟨ib, c, none⟩ = false := hib3.free c
          have HROW : Hid (RowTo wd ib c us (L.map (·.x)) (i + 1) (w7.setCell ⟨ib, c, none⟩ (.slice B (i + 1) cap))) := Lib.hid (by
            refine ⟨B, cap, ?_, ?_, ?_⟩
            · rw [take_snocT (d := ⟨#[]⟩) (by simp [HLN.out]; exact hlt), hlx]
              exact own_put hown1 (fun e => by have h9 : wd.heap.size ≤ ib := (hown1.lt _ e).1; omega) _
            · have h9 := hib3.put c (.slice B (i + 1) cap)
              rw [rows_set, List.set_set] at h9
              exact h9
            · exact hfU3.trans (Fr.of_grown (grown_cell w7 ib c _) hfU3.size (fun g hg _ => (Option.some.inj hg).symm)))
          have HV := Lib.hid hV; have HLB := Lib.hid hlb
          have t7 : decide (i < ln) = true := decide_eq_true hlt
          have t7' : decide ((i : Int) < ln) = true := decide_eq_true (by omega)
          have i3 : (i : Int) < ln := by omega
          have j1 : (c : Int) < k := by have := HLT.out; omega
          have j2 : c < k := HLT.out
          have HLTI := Lib.hid hlt
          clear hl hlx hlf hlt' hls hlx' hV hlb hbV hWV hsV hownV hown1 hgr1 hwib hfV hfU1 hbU2 hfU2 hblk hwdib hmwd hU2s hfU3 hib3 hlb3 hcl hset hown hwh hf hfs hi
          go_upto_region 15 with fail
          rw [HV.out, HLB.out]
          clear q0 q1 q2 q3
          go_wp2_with fail
          refine region_reads [0,1,2,3,4,5,6,7,8,9,10,11,12,13] 14 15 16 17 (by kernel_rfl) (by kernel_rfl) (fun w' => w'.cell? ⟨m, 3, none⟩ = some (.slice (some ⟨ib, 0, none⟩) k k) ∧ w'.cell? ⟨ib, c, none⟩ = some (.slice Av i cv) ∧ w'.cell? ⟨lb, 3, none⟩ = some (.string lx)) S1.out (by kernel_rfl) (by kernel_rfl) (by kernel_rfl) (by kernel_rfl) (by kernel_rfl) (by kernel_rfl) (by kernel_rfl) rfl rfl rfl rfl rfl rfl rfl rfl (by kernel_rfl) ?_
          refine ⟨_, ?v1_0, rfl, Or.inl ⟨by rfl, ?hy1_0⟩, fun _ _ _ h => h, ?rest1_0⟩
          case hy1_0 => (intro w' hSw; obtain ⟨s1, s2, s3⟩ := hSw; go_simp; try with_reducible rfl)
          try dsimp only [Act.put]
          refine ⟨_, ?v1_1, rfl, Or.inl ⟨by rfl, ?hy1_1⟩, fun _ _ _ h => h, ?rest1_1⟩
          case hy1_1 => (intro w' hSw; obtain ⟨s1, s2, s3⟩ := hSw; go_simp; try with_reducible rfl)
          try dsimp only [Act.put]
          refine ⟨_, ?v1_2, rfl, Or.inl ⟨by rfl, ?hy1_2⟩, fun _ _ _ h => h, ?rest1_2⟩
          case hy1_2 => (intro w' hSw; obtain ⟨s1, s2, s3⟩ := hSw; go_simp; try with_reducible rfl)
          try dsimp only [Act.put]
          refine ⟨_, ?v1_3, rfl, Or.inl ⟨by rfl, ?hy1_3⟩, fun _ _ _ h => h, ?rest1_3⟩
          case hy1_3 => (intro w' hSw; obtain ⟨s1, s2, s3⟩ := hSw; go_simp; try with_reducible rfl)
          try dsimp only [Act.put]
          refine ⟨_, ?v1_4, rfl, Or.inl ⟨by rfl, ?hy1_4⟩, fun _ _ _ h => h, ?rest1_4⟩
          case hy1_4 => (intro w' hSw; obtain ⟨s1, s2, s3⟩ := hSw; go_simp; try with_reducible rfl)
          try dsimp only [Act.put]
          refine ⟨_, ?v1_5, rfl, Or.inl ⟨by rfl, ?hy1_5⟩, fun _ _ _ h => h, ?rest1_5⟩
          case hy1_5 => (intro w' hSw; obtain ⟨s1, s2, s3⟩ := hSw; go_simp; try with_reducible rfl)
          try dsimp only [Act.put]
          refine ⟨_, ?v1_6, rfl, Or.inl ⟨by rfl, ?hy1_6⟩, fun _ _ _ h => h, ?rest1_6⟩
          case hy1_6 => (intro w' hSw; obtain ⟨s1, s2, s3⟩ := hSw; go_simp; try with_reducible rfl)
          try dsimp only [Act.put]
          refine ⟨_, ?v1_7, rfl, Or.inl ⟨by rfl, ?hy1_7⟩, fun _ _ _ h => h, ?rest1_7⟩
          case hy1_7 => (intro w' hSw; obtain ⟨s1, s2, s3⟩ := hSw; go_simp; try with_reducible rfl)
          try dsimp only [Act.put]
          refine ⟨_, ?v1_8, rfl, Or.inl ⟨by rfl, ?hy1_8⟩, fun _ _ _ h => h, ?rest1_8⟩
          case hy1_8 => (intro w' hSw; obtain ⟨s1, s2, s3⟩ := hSw; go_simp; try with_reducible rfl)
          try dsimp only [Act.put]
          refine ⟨_, ?v1_9, rfl, Or.inl ⟨by rfl, ?hy1_9⟩, fun _ _ _ h => h, ?rest1_9⟩
          case hy1_9 => (intro w' hSw; obtain ⟨s1, s2, s3⟩ := hSw; go_simp; try with_reducible rfl)
          try dsimp only [Act.put]
          refine ⟨_, ?v1_10, rfl, Or.inl ⟨by rfl, ?hy1_10⟩, fun _ _ _ h => h, ?rest1_10⟩
          case hy1_10 => (intro w' hSw; obtain ⟨s1, s2, s3⟩ := hSw; go_simp; try with_reducible rfl)
          try dsimp only [Act.put]
          refine ⟨_, ?v1_11, rfl, Or.inl ⟨by rfl, ?hy1_11⟩, fun _ _ _ h => h, ?rest1_11⟩
          case hy1_11 => (intro w' hSw; obtain ⟨s1, s2, s3⟩ := hSw; go_simp; try with_reducible rfl)
          try dsimp only [Act.put]
          refine ⟨_, ?v1_12, rfl, Or.inl ⟨by rfl, ?hy1_12⟩, fun _ _ _ h => h, ?rest1_12⟩
          case hy1_12 => (intro w' hSw; obtain ⟨s1, s2, s3⟩ := hSw; go_simp; try with_reducible rfl)
          try dsimp only [Act.put]
          refine ⟨_, ?v1_13, rfl, Or.inl ⟨by rfl, ?hy1_13⟩, fun _ _ _ h => h, ?rest1_13⟩
          case hy1_13 => (intro w' hSw; obtain ⟨s1, s2, s3⟩ := hSw; go_simp; try with_reducible rfl)
          try dsimp only [Act.put]
          refine reads_nil ?_
          refine wp_bare (fun K11 hK11 => ?_)
          go_simp
          refine hK11.out _ _ ⟨S2.out, ?_⟩
          refine wp_bare (fun K12 hK12 => ?_)
          go_simp
          refine hK12.out _ _ ⟨S3.out, ?_⟩
          refine wp_bare (fun K13 hK13 => ?_)
          go_simp
          refine hK13.out _ _ ?_
          refine wp_bare (fun K14 hK14 => ?_)
          go_simp
          refine hK14.out _ _ ?_
          go_wp2_with fail
          go_roundg (ln - (i + 1))
          case rel => exact ⟨i + 1, HLTI.out, rfl, rfl, HROW.out⟩
          case measure => have := HLTI.out; omega
        · have t7 : decide (i < ln) = false := decide_eq_false hlt
          have t7' : decide ((i : Int) < ln) = false := decide_eq_false (by omega)
          obtain rfl : ln = i := by omega
          have HR1 : Hid (RowsTo w4 ib k (c + 1) p.nt wr) := Lib.hid (by
            have hfd := HFD.out
            have hdz := hfd.size
            have hsz := hf.size
            refine ⟨us.set c (.slice Av ln cv), hwh, by rw [List.length_set]; exact HUL.out, hfd.trans (hf.less hdz), fun j u hj hu => ?_⟩
            by_cases hjc : j = c
            · subst hjc
              rw [List.getElem?_set_self (by rw [HUL.out]; exact HLT.out)] at hu
              obtain rfl := Option.some.inj hu
              refine ⟨?_, fun g hg => ⟨Nat.le_trans hdz (hown.lt g hg).1, (hown.lt g hg).2⟩⟩
              rw [hLX.out]
              have h9 := own_vals hown
              rwa [List.take_of_length_le (by simp [HLN.out])] at h9
            · rw [List.getElem?_set_ne (fun e => hjc e.symm)] at hu
              obtain ⟨k1, k2⟩ := HROWS.out j u (by omega) hu
              have hsc := HSC.out
              have hbz := HBD.out.size
              have e9 : ∀ g, u.ownBlock = some g → wr.heap[g]? = w5.heap[g]? := fun g hg => by
                have hg2 := k2 g hg
                have hi4 := HIB.out
                rw [hf.block g (by omega) (by omega), HBD.out.block g (by omega), HGC.out.block g hg2.2 (fun e => by have := Option.some.inj e; omega)]
              exact ⟨k1.stay e9, fun g hg => ⟨(k2 g hg).1, by have := (k2 g hg).2; omega⟩⟩)
          clear hlt hi hown hwh hf
          go_wp2_with fail
          go_roundg (k - (c + 1))
          case rel => exact ⟨c + 1, HLT.out, rfl, rfl, HR1.out⟩
          case measure => have := HLT.out; omega
    · have t7 : decide (c < k) = false := decide_eq_false hlt
      have t7' : decide ((c : Int) < k) = false := decide_eq_false (by omega)
      obtain rfl : k = c := by omega
      have hxw7 := xw.put 1 (.int .i64 ((p.rd : Int) + 1))
      obtain ⟨w7, hw7⟩ : ∃ W, wr.setCell ⟨m, 1, none⟩ (.int .i64 ((p.rd : Int) + 1)) = W := ⟨_, rfl⟩
      rw [hw7] at hxw7
      have hs7 : w7.heap.size = wr.heap.size := by rw [← hw7, size_put]
      have hg7 : wr.grownBy w7 (some m) := by rw [← hw7]; exact grown_cell wr m 1 _
      have hf7 : Fr wr.heap.size (fun g => g = m) wr w7 := Fr.of_grown hg7 (Nat.le_refl _) (fun g hg _ => (Option.some.inj hg).symm)
      have hn7 := xn.stay hf7 (fun g hg e => (HH.out.rn g hg).1 e)
      have hb7 : base ≤ w7.heap.size := by have h8 := hfr.size; have h9 := HS4.out; have := HBASE.out; omega
      have BK := Lib.hid (back_any hxw7 hn7 (fun hr => (HH.out.rn m hr).1 rfl) hb7 hk64)
      rw [HNK.out] at BK
      have HG7 := Lib.hid hg7; have HS7 := Lib.hid hs7; have HW7 := Lib.hid hw7; have HRW := Lib.hid hrw; have HXW7 := Lib.hid hxw7
      clear hlt hc hrw hul hfr hrows xw xn hxw7 hw7 hs7 hg7 hf7 hn7 hb7 x6 x3
      go_upto_region 19 with fail
      rw [HW7.out]
      clear x1 g1
      go_wp2_with fail
      refine BK.out.mono ?_; rintro e w8 ⟨rfl, hB⟩
      have HFIN : Hid (OpTo base 0 (passP p) job m (MFoot m nb wb ib sv us0 Rn) w w8) := Lib.hid (by
        have hh := HH.out
        have hfr := HFR.out
        have hs4 := HS4.out
        have hs7 := HS7.out
        have hz := hfr.size
        have hkk := HKK.out
        have hnb := hh.next.lt
        have hib := HIB.out
        have hfB := hB
        obtain ⟨_, _, _, _, _, _, _, _, hfB, _⟩ := hfB

        have hnbk : ∀ g, g < w.heap.size → g ≠ m → g ≠ ib → w7.heap[g]? = w.heap[g]? := fun g h1 h2 h3 => by
          rw [HG7.out.block g (by omega) (fun e => h2 (Option.some.inj e)), hfr.block g (by omega) h3, HF4.out.block g h1 h2]
        have hst : ValsV w7 (.slice (some ⟨nb, 0, none⟩) k k) (txtC p.nx) := by
          have h9 := hh.next.stay (hnbk nb hnb (fun e => hh.n1 e.symm) hh.n5)
          have hln : p.nx.length = k := by rw [hh.l4]; exact hkk
          refine Or.inr ⟨by rw [txtC_len, hln, ← hkk]; exact hh.k1, nb, 0, k, by rw [txtC_len, hln], fun i hi => ?_⟩
          rw [Nat.zero_add, h9.cell i]
          simp
        have hrw7 : Whole w7 ib 22 us.toArray := HRW.out.stay (HG7.out.block ib (by have := HRW.out.lt; omega) (fun e => hh.n3 (Option.some.inj e).symm))
        obtain ⟨nb', wb', b', Rn', hM, hnew⟩ := mach_mk (st := p.nx) (bx := (List.range p.k).map (boxN p.nt)) (rd := p.rd + 1) (us := us) hB hh.bm (by have := hh.whole.lt; omega) hh.bi hh.n3
          (fun g hg => by
            rcases hg with hg | ⟨i, u, hu, hg⟩
            · obtain rfl : nb = g := Option.some.inj hg
              exact ⟨hh.bn, by omega, fun e => hh.n1 e.symm, hh.n5⟩
            · have hik : i < k := by rw [← HUL.out]; exact (List.getElem?_eq_some_iff.1 hu).1
              have h9 := (HROWS.out i u hik hu).2 g hg
              have := hh.whole.lt
              exact ⟨by have := HBASE.out; omega, by omega, by omega, by omega⟩)
          hrw7 hst
          (fun i u X hu hX => by
            have hik : i < k := by rw [← HUL.out]; exact (List.getElem?_eq_some_iff.1 hu).1
            obtain ⟨h8, h9⟩ := HROWS.out i u hik hu
            have e1 : X = boxN p.nt i := by
              rw [List.getElem?_map, List.getElem?_range (by rw [hkk]; exact hik)] at hX
              exact (Option.some.inj hX).symm
            rw [e1]
            exact h8.stay (fun g hg => HG7.out.block g (h9 g hg).2 (fun e => by have := hh.whole.lt; have := (h9 g hg).1; have := Option.some.inj e; omega)))
          (by rw [hh.l4]; exact hkk) (by simp [hkk]) HUL.out (by rw [← hkk]; exact hh.k1) hk64
        have hfin : Fr w.heap.size (MFoot m nb wb ib sv us0 Rn) w w8 := by
          refine (HF4.out.mono (fun g _ hg => Or.inl hg)).trans ?_
          refine ((hfr.less (by omega)).mono (fun g _ hg => Or.inr (Or.inr (Or.inr (Or.inl hg))))).trans ?_
          refine (Fr.of_grown HG7.out (by omega) (fun g hg _ => Or.inl (Option.some.inj hg).symm)).trans ?_
          exact (hfB.less (by omega)).mono (fun g _ hg => Or.inl hg)
        refine ⟨MFoot m nb' wb' ib (.slice (some ⟨nb, 0, none⟩) k k) us Rn', ⟨nb', wb', ib, b', .slice (some ⟨nb, 0, none⟩) k k, us, Rn', by unfold passP; rw [hkk] at hM ⊢; exact hM, rfl⟩, hfin, fun g hg => ?_, hfin.below HBASE.out (fun g hg => (hh.foot hg).1)⟩
        rcases hg with rfl | rfl | rfl | rfl | hg | hg | ⟨i, u, hu, hg⟩
        · exact Or.inl (Or.inl rfl)
        · have := hnew _ (Or.inl rfl); exact Or.inr (by omega)
        · have := hnew _ (Or.inr (Or.inl rfl)); exact Or.inr (by omega)
        · exact Or.inl (Or.inr (Or.inr (Or.inr (Or.inl rfl))))
        · have := hnew _ (Or.inr (Or.inr hg)); exact Or.inr (by omega)
        · obtain rfl : nb = g := Option.some.inj hg
          exact Or.inl (Or.inr (Or.inl rfl))
        · have hik : i < k := by rw [← HUL.out]; exact (List.getElem?_eq_some_iff.1 hu).1
          have h9 := (HROWS.out i u hik hu).2 g hg
          exact Or.inr (by omega))
      clear hB
      go_wp2_with fail
      go_ret
      exact ⟨rfl, HFIN.out⟩
end Go.Proofs.YtlopoddllfkkfaaDoor
