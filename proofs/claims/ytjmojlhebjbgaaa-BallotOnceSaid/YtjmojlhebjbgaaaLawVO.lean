/- BallotOnce's walk. -/
import Derived.Test.YtjmojlhebjbgaaaOnL
import Derived.Test.YtjmojlhebjbgaaaFal
import Derived.Test.YtjmojlhebjbgaaaFag
import Derived.Test.YtjmojlhebjbgaaaFac
import Derived.Test.YtjmojlhebjbgaaaFam
namespace Go.Proofs.Ytjmojlhebjbgaaa
open Go.RowKit
attribute [local go_sem] less_eq same_eq le_eq ge_eq gt_eq

/-- rows of flags that are being made -/
structure Mk (w : World) (g top n i : Nat) (r : Nat → Nat) : Prop where
  tab : Tab encV1 1 54 w g (fun k => if k < i then .slice (some ⟨r k, 0, none⟩) n n else .slice none 0 0) 6
  row : ∀ k, k < i → Tab encBo 1 4 w (r k) (fun _ => false) n ∧ top ≤ r k
  ne : ∀ j k, j < i → k < i → j ≠ k → r j ≠ r k
  low : g < top
theorem Mk.next {w w1 : World} {g top n i : Nat} {r : Nat → Nat} (h : Mk w g top n i r) (hi : i < 6) (ht : top ≤ w.heap.size) (hb : Below w.heap.size w w1) (hr : Tab encBo 1 4 w1 w.heap.size (fun _ => false) n) :
    Mk (w1.setCell ⟨g, i, none⟩ (.slice (some ⟨w.heap.size, 0, none⟩) n n)) g top n (i + 1) (fun k => if k = i then w.heap.size else r k) := by
  have hm : Mv (fun _ => False) w w1 := Mv.of_new hb _
  have hgl := h.low
  have h1 := Tab.set encV1_len (h.tab.mv hm id) hi 0 (.slice (some ⟨w.heap.size, 0, none⟩) n n) (.slice (some ⟨w.heap.size, 0, none⟩) n n) (by decide) rfl
  refine ⟨?_, fun k hk => ?_, fun j k hj hk hjk => ?_, h.low⟩
  · refine Tab.congr (by simpa using h1) fun k hk => ?_
    by_cases e : k = i
    · subst e; simp
    · by_cases e2 : k < i
      · simp [e, e2, show k < i + 1 by omega]
      · simp [e, e2, show ¬ k < i + 1 by omega]
  · by_cases e : k = i
    · subst e
      simp only [if_true]
      exact ⟨hr.putAt (by omega) _, by omega⟩
    · simp only [if_neg e]
      have := h.row k (by omega)
      exact ⟨(this.1.mv hm id).putAt (by omega) _, this.2⟩
  · have hlt : ∀ k, k < i → r k < w.heap.size := fun k hk => (h.row k hk).1.size
    by_cases e : j = i
    · subst e
      rw [if_pos rfl, if_neg (fun x => hjk x.symm)]
      have := hlt k (by omega); omega
    · rw [if_neg e]
      by_cases e2 : k = i
      · subst e2; rw [if_pos rfl]
        have := hlt j (by omega); omega
      · rw [if_neg e2]; exact h.ne j k (by omega) (by omega) hjk
theorem Mk.mv {w w1 : World} {g top n i : Nat} {r : Nat → Nat} (h : Mk w g top n i r) {Dd : Nat → Prop} (hm : Mv Dd w w1) (hg : ¬ Dd g) (hr : ∀ k, k < i → ¬ Dd (r k)) : Mk w1 g top n i r :=
  ⟨h.tab.mv hm hg, fun k hk => ⟨(h.row k hk).1.mv hm (hr k hk), (h.row k hk).2⟩, h.ne, h.low⟩
def zeroEv : Ev := ⟨0, 0, 0, 0, 0, 0, 0, none, 0⟩
def zeroE4 : Eq4 := ⟨0, 0, 0, none, 0⟩

/-- a goal that is put off: nothing but what it is put off for can take it up -/
structure Half (P : Prop) : Prop where
  out : P

set_option maxHeartbeats 8000000 in
set_option maxRecDepth 100000 in
noncomputable def onceSplit : PSigma fun P : Prop × Prop => Half P.1 → Half P.2 → ∀ (u : Nat) (_hu : u < 256) (l : List Sp) (_hf : ∀ s ∈ l, s.fits) (v : Value) (w : World) (_hv : RdSp w w.heap.size v l) (_hl : l.length < 4611686018427387904), Calls Try.prog 8 #[.int .u8 (u : Int), v] w fun e w' => e = .returned (.bool true) ∧ Below w.heap.size w w' := ⟨(_, _), by
  intro HALF1 HALF2 u hu l hf v w hv hl
  obtain ⟨A, c, rfl, _, hi⟩ := hv.at
  have HI := Lib.hid hi; clear hi hv
  have HF := Lib.hid hf; clear hf
  obtain ⟨n, hn⟩ : ∃ n, n = 3 + u % 5 := ⟨_, rfl⟩
  have hn3 : 3 ≤ n ∧ n ≤ 7 := by omega
  have hnI : (3 : Int) + (u : Int) % 5 = (n : Int) := by omega
  obtain ⟨w1, hmk1, ho1, hb1⟩ := run_makeK (P := Try.prog) (enc := encEv) (k := 8) w.heap.size 37 31 80 _ _ zeroEv Try.underlying37 info_vow rfl rfl encEv_len (by decide) n w (by omega) (by unfold maxLen; omega) (Nat.le_refl _)
  obtain ⟨w2, hmk2, ho2, hb2⟩ := run_makeK (P := Try.prog) (enc := encV1) (k := 1) w1.heap.size 51 37 24 _ _ (.slice none 0 0) Try.underlying51 info_vs rfl rfl encV1_len (by decide) 6 w1 (by decide) (by decide) (Nat.le_refl _)
  obtain ⟨w3, hmk3, ho3, hb3⟩ := run_makeK (P := Try.prog) (enc := encE4) (k := 4) w2.heap.size 52 29 48 _ _ zeroE4 Try.underlying52 info_sta rfl rfl encE4_len (by decide) 6 w2 (by decide) (by decide) (Nat.le_refl _)
  obtain ⟨w4, hmk4, ho4, hb4⟩ := run_makeK (P := Try.prog) (enc := encV1) (k := 1) w3.heap.size 53 54 24 _ _ (.slice none 0 0) Try.underlying53 info_bs rfl rfl encV1_len (by decide) 6 w3 (by decide) (by decide) (Nat.le_refl _)
  simp only [show ((6 : Nat) : Int) = 6 from rfl] at hmk2 hmk3 hmk4
  have t1 := make_tab ho1
  have t2 := make_tab ho2
  have t3 := make_tab ho3
  have t4 := make_tab ho4
  clear ho1 ho2 ho3 ho4
  have s1 := t1.size
  have s2 := t2.size
  have s3 := t3.size
  have s4 := t4.size
  obtain ⟨gv, hgv⟩ : ∃ g, g = w.heap.size := ⟨_, rfl⟩
  obtain ⟨gt, hgt⟩ : ∃ g, g = w1.heap.size := ⟨_, rfl⟩
  obtain ⟨gm, hgm⟩ : ∃ g, g = w2.heap.size := ⟨_, rfl⟩
  obtain ⟨ga, hga⟩ : ∃ g, g = w3.heap.size := ⟨_, rfl⟩
  have hb14 : Below w1.heap.size w1 w4 := (hb2.trans (hb3.mono (by omega))).trans (hb4.mono (by omega))
  have hb24 : Below w2.heap.size w2 w4 := hb3.trans (hb4.mono (by omega))
  have u1 := t1.mv (Mv.of_new hb14 (fun _ => False)) id
  have u2 := t2.mv (Mv.of_new hb24 (fun _ => False)) id
  have u3 := t3.mv (Mv.of_new hb4 (fun _ => False)) id
  rw [← hgv] at u1
  rw [← hgt] at u2
  rw [← hgm] at u3
  rw [← hga] at t4
  rw [← hgv] at hmk1
  rw [← hgt] at hmk2
  rw [← hgm] at hmk3
  rw [← hga] at hmk4
  have hbw4 : Below gv w w4 := by rw [hgv]; exact hb1.trans (hb14.mono (by omega))
  have hord : gv < gt ∧ gt < gm ∧ gm < ga ∧ ga < w4.heap.size := by omega
  have HU1 := Lib.hid u1
  have HU2 := Lib.hid u2
  have HU3 := Lib.hid u3
  have HB4 := Lib.hid hbw4
  have HGV := Lib.hid hgv
  have HMK : Hid (Mk w4 ga (ga + 1) n 0 (fun _ => 0)) := Lib.hid ⟨Tab.congr t4 (fun k _ => by simp), fun k hk => absurd hk (Nat.not_lt_zero _), fun j k hj => absurd hj (Nat.not_lt_zero _), by omega⟩
  clear t1 t2 t3 t4 u1 u2 u3 hb1 hb2 hb3 hb4 hb14 hb24 hbw4 s1 s2 s3 s4 hgv hgt hgm hga
  have HN := Lib.hid hn
  clear hn
  go_enter Try.func8, Try.ntmps8
  go_wp2_with fail
  clear hmk1 hmk2 hmk3 hmk4 hnI
  go_loopw [10] (fun iv wr => ∃ (i : Nat) (r : Nat → Nat), i ≤ 6 ∧ iv = .int .i64 i ∧ Hid (Mk wr ga (ga + 1) n i r) ∧ Hid (Below ga w4 wr)) (fun iv _ => 6 - (intOf iv).toNat)
  case atStart => exact ⟨0, _, Nat.zero_le _, rfl, HMK, Lib.hid (Below.refl _ _)⟩
  case round =>
    obtain ⟨i, r, hi6, rfl, HM, HB⟩ := hrel
    have hbs := HB.out.size
    by_cases hlt : i < 6
    · obtain ⟨wm, hmk, hom, hbm⟩ := run_makeK (P := Try.prog) (enc := encBo) (k := 1) wr.heap.size 54 4 1 _ _ false Try.underlying54 info_bo rfl rfl encBo_len (by decide) n wr (by omega) (by unfold maxLen; omega) (Nat.le_refl _)
      have htm := make_tab hom
      have hM2 := HM.out.next hlt (by omega) hbm htm
      have hgw := (HM.out.tab.mv (Mv.of_new hbm (fun _ => False)) id)
      have y0 := hgw.cell encV1_len hlt 0 _ rfl
      have f0 := Own.stand hgw (i * 1 + 0)
      simp only [Nat.mul_one, Nat.add_zero] at y0 f0
      have hiI : (i : Int) < 6 := by omega
      have hi0 : (0 : Int) ≤ (i : Int) := by omega
      have HM2 := Lib.hid hM2
      have HBm := Lib.hid (show Below ga w4 (wm.setCell ⟨ga, i, none⟩ (.slice (some ⟨wr.heap.size, 0, none⟩) n n)) from (HB.out.trans (hbm.mono (by omega))).setCell (p := ⟨ga, i, none⟩) (Nat.le_refl _) _)
      clear hM2 hgw hom hbm htm
      go_wp2_with fail
      go_roundw
      case rel => exact ⟨i + 1, _, by omega, by go_num, HM2, HBm⟩
      case measure => simp [intOf]; omega
    · obtain rfl : i = 6 := by omega
      have hiI : ¬ ((6 : Nat) : Int) < 6 := by omega
      obtain ⟨wA, rfl⟩ : ∃ wA, wA = wr := ⟨_, rfl⟩
      obtain ⟨w5, hw5⟩ : ∃ w5, w5 = wA.alloc (.cells #[.int .i64 0, .int .i64 0, .int .i64 0, .slice none 0 0] 29) := ⟨_, rfl⟩
      have hs5 : w5.heap.size = wA.heap.size + 1 := by rw [hw5]; simp
      have hC5 : Whole w5 wA.heap.size 29 (encE4 zeroE4) := by rw [hw5]; exact Whole.fresh wA _ _
      have hb5 : Below wA.heap.size wA w5 := by rw [hw5]; exact (Below.refl _ _).alloc (Nat.le_refl _) _
      obtain ⟨w6, hmk5, ho6, hb6⟩ := run_makeK (P := Try.prog) (enc := encV1) (k := 1) w5.heap.size 53 54 24 _ _ (.slice none 0 0) Try.underlying53 info_bs rfl rfl encV1_len (by decide) 6 w5 (by decide) (by decide) (Nat.le_refl _)
      simp only [show ((6 : Nat) : Int) = 6 from rfl] at hmk5
      have t6 := make_tab ho6
      clear ho6
      have s6 := t6.size
      obtain ⟨gk, hgk⟩ : ∃ g, g = w5.heap.size := ⟨_, rfl⟩
      rw [← hgk] at hmk5 t6
      rw [hw5] at hmk5
      have hb6' : Below wA.heap.size wA w6 := hb5.trans (hb6.mono (by omega))
      have hmA : Mv (fun b => ga ≤ b) w4 wA := Mv.of_below HB.out
      have hm6 : Mv (fun _ => False) wA w6 := Mv.of_new hb6' _
      have HU16 := Lib.hid ((HU1.out.mv hmA (by show ¬ ga ≤ gv; omega)).mv hm6 id)
      have HU26 := Lib.hid ((HU2.out.mv hmA (by show ¬ ga ≤ gt; omega)).mv hm6 id)
      have HU36 := Lib.hid ((HU3.out.mv hmA (by show ¬ ga ≤ gm; omega)).mv hm6 id)
      have HMA := Lib.hid (HM.out.mv hm6 id (fun _ _ => id))
      have HRA := Lib.hid (fun k (hk : k < 6) => (HM.out.row k hk).1.size)
      have HC6 := Lib.hid ((Mv.of_new hb6 (fun _ => False)).whole hC5 id)
      have HB6 := Lib.hid (show Below gv w w6 from HB4.out.trans ((HB.out.trans (hb6'.mono (by omega))).mono (by omega)))
      have HMK2 : Hid (Mk w6 gk (gk + 1) n 0 (fun _ => 0)) := Lib.hid ⟨Tab.congr t6 (fun k _ => by simp), fun k hk => absurd hk (Nat.not_lt_zero _), fun j k hj => absurd hj (Nat.not_lt_zero _), by omega⟩
      have hgk2 : wA.heap.size < gk ∧ gk < w6.heap.size ∧ ga < wA.heap.size := by have := HM.out.tab.size; omega
      clear hs5 hC5 hb5 hb6 t6 s6 hgk hb6' hmA hm6 hw5 HM HB HMK HU1 HU2 HU3 hbs
      go_wp2_with fail
      clear hmk5 hiI
      go_loopw [13] (fun iv wr => ∃ (i : Nat) (r : Nat → Nat), i ≤ 6 ∧ iv = .int .i64 i ∧ Hid (Mk wr gk (gk + 1) n i r) ∧ Hid (Below gk w6 wr)) (fun iv _ => 6 - (intOf iv).toNat)
      case atStart => exact ⟨0, _, Nat.zero_le _, rfl, HMK2, Lib.hid (Below.refl _ _)⟩
      case round =>
        obtain ⟨i, r2, hi6, rfl, HM, HB⟩ := hrel
        have hbs := HB.out.size
        by_cases hlt : i < 6
        · obtain ⟨wm, hmk, hom, hbm⟩ := run_makeK (P := Try.prog) (enc := encBo) (k := 1) wr.heap.size 54 4 1 _ _ false Try.underlying54 info_bo rfl rfl encBo_len (by decide) n wr (by omega) (by unfold maxLen; omega) (Nat.le_refl _)
          have htm := make_tab hom
          have hM2 := HM.out.next hlt (by omega) hbm htm
          have hgw := (HM.out.tab.mv (Mv.of_new hbm (fun _ => False)) id)
          have y0 := hgw.cell encV1_len hlt 0 _ rfl
          have f0 := Own.stand hgw (i * 1 + 0)
          simp only [Nat.mul_one, Nat.add_zero] at y0 f0
          have hiI : (i : Int) < 6 := by omega
          have hi0 : (0 : Int) ≤ (i : Int) := by omega
          have HM2 := Lib.hid hM2
          have HBm := Lib.hid (show Below gk w6 (wm.setCell ⟨gk, i, none⟩ (.slice (some ⟨wr.heap.size, 0, none⟩) n n)) from (HB.out.trans (hbm.mono (by omega))).setCell (p := ⟨gk, i, none⟩) (Nat.le_refl _) _)
          clear hM2 hgw hom hbm htm
          go_wp2_with fail
          go_roundw
          case rel => exact ⟨i + 1, _, by omega, by go_num, HM2, HBm⟩
          case measure => simp [intOf]; omega
        · obtain rfl : i = 6 := by omega
          have hiI : ¬ ((6 : Nat) : Int) < 6 := by omega
          obtain ⟨wB, rfl⟩ : ∃ wB, wB = wr := ⟨_, rfl⟩
          obtain ⟨I, hI⟩ : ∃ I : Ids, I = ⟨gv, gt, gm, ga, wA.heap.size, gk, wB.heap.size, r, r2⟩ := ⟨_, rfl⟩
          have hmB : Mv (fun b => gk ≤ b) w6 wB := Mv.of_below HB.out
          have hIok : I.Ok gv := by
            rw [hI]
            refine ⟨?_, fun k hk => ?_, fun k hk => ?_, HMA.out.ne, HM.out.ne⟩
            · simp only; omega
            · have := (HMA.out.row k hk).2; have := HRA.out k hk; simp only; omega
            · have := (HM.out.row k hk).2; have := (HM.out.row k hk).1.size; simp only; omega
          have HH : Hid (Hp wB I gv n (fun _ => zeroEv) (fun _ => .slice none 0 0) (fun _ => []) (fun _ => zeroE4) (fun _ _ => false) (fun _ _ => false) zeroE4) := Lib.hid (by
            have hra := fun k (hk : k < 6) => HRA.out k hk
            refine ⟨hIok, ?_, ?_, fun k _ => Own.nil _ _, fun j k _ _ _ b hb => by simp [Value.ownBlock] at hb, ?_, ?_, fun k hk => ?_, ?_, fun k hk => ?_, ?_, ?_⟩
            · rw [hI]; exact HU16.out.mv hmB (by show ¬ gk ≤ gv; omega)
            · rw [hI]; exact HU26.out.mv hmB (by show ¬ gk ≤ gt; omega)
            · rw [hI]; exact HU36.out.mv hmB (by show ¬ gk ≤ gm; omega)
            · rw [hI]; exact Tab.congr (HMA.out.tab.mv hmB (by show ¬ gk ≤ ga; omega)) (fun k hk => by simp [hk])
            · rw [hI]; exact (HMA.out.row k hk).1.mv hmB (by show ¬ gk ≤ r k; have := hra k hk; omega)
            · rw [hI]; exact Tab.congr HM.out.tab (fun k hk => by simp [hk])
            · rw [hI]; exact (HM.out.row k hk).1
            · rw [hI]; exact hmB.whole HC6.out (by show ¬ gk ≤ wA.heap.size; omega)
            · rw [hI]; exact Nat.le_refl _)
          have HBW := Lib.hid (show Below gv w wB from HB6.out.trans (HB.out.mono (by omega)))
          have hIe : gv = I.v ∧ gt = I.t ∧ gm = I.m ∧ ga = I.a ∧ wA.heap.size = I.c ∧ gk = I.k := by rw [hI]; exact ⟨rfl, rfl, rfl, rfl, rfl, rfl⟩
          have HIOK := Lib.hid hIok
          clear hI hmB hIok HM HB HMK2 HU16 HU26 HU36 HMA HRA HC6 HB6 hord hgk2 hbs
          obtain ⟨rfl, rfl, rfl, rfl, hIc, rfl⟩ := hIe
          go_wp2_with fail
          (try rw [hIc])
          clear hIc hiI
          go_loopw [14] (fun iv wr => ∃ (i : Nat) (s : Px) (ch : Nat) (V : Nat → Ev) (T : Nat → Value) (R : Nat → List Ew) (M : Nat → Eq4) (Q K : Nat → Nat → Bool) (CA : Option Addr) (Cc : Nat), i ≤ l.length ∧ iv = .int .i64 i ∧ Hid (Hp wr I I.v n V T R M Q K ⟨ch, ch, 0, CA, Cc⟩) ∧ Hid (Lk s n V R M Q K) ∧ Hid (s.Ok n) ∧ Hid (s.Chose n ch) ∧ Hid (Below I.v w wr)) (fun iv _ => l.length - (intOf iv).toNat)
          case atStart => exact ⟨0, Px.new, 0, _, _, _, _, _, _, none, 0, Nat.zero_le _, rfl, HH, Lib.hid ⟨fun c _ => rfl, fun k _ => rfl, fun k _ => ⟨rfl, rfl, rfl⟩, fun k _ c _ => rfl, fun k _ c _ => rfl⟩, Lib.hid (Px.Ok.new n), Lib.hid (.inl rfl), HBW⟩
          case round =>
            obtain ⟨i, s, ch, V, T, R, M, Q, K, CA, Cc, hil, rfl, HP, HL, HOK, HCH, HB⟩ := hrel
            clear HH HBW
            have hbz : I.v ≤ wr.heap.size := by have := HB.out.size; have := HGV.out; omega
            by_cases h1 : i < l.length
            case neg =>
              have HA := Lib.hid (awakeV_any wr)
              have h1I : ¬ (i : Int) < (l.length : Int) := by omega
              go_wp2_with fail
              refine HA.out.mono ?_
              rintro e wz ⟨rfl, hb⟩
              have HBZ := Lib.hid (HB.out.trans (hb.mono (by omega)))
              clear hb
              go_wp2_with fail
              go_ret
              exact ⟨rfl, by have h := HBZ.out; rwa [HGV.out] at h⟩
            have h1I : (i : Int) < (l.length : Int) := by omega
            by_cases h2 : i < 200
            case neg =>
              have HA := Lib.hid (awakeV_any wr)
              have h2I : ¬ (i : Int) < 200 := by omega
              go_wp2_with fail
              refine HA.out.mono ?_
              rintro e wz ⟨rfl, hb⟩
              have HBZ := Lib.hid (HB.out.trans (hb.mono (by omega)))
              clear hb
              go_wp2_with fail
              go_ret
              exact ⟨rfl, by have h := HBZ.out; rwa [HGV.out] at h⟩
            have h2I : (i : Int) < 200 := by omega
            have h0I : (0 : Int) ≤ (i : Int) := by omega
            obtain ⟨b, o, rfl, hbB, k0, k1, k2⟩ := HI.out i h1
            rw [← HGV.out] at hbB
            have hkk : ∀ W, Below I.v w W → W.cell? ⟨b, o + i * 3, none⟩ = some (.int .i64 l[i].what) ∧ W.cell? ⟨b, o + i * 3 + 1, none⟩ = some (.int .i64 l[i].council) ∧ W.cell? ⟨b, o + i * 3 + 2, none⟩ = some (.int .i64 l[i].ballot) := fun W hW => ⟨(hW.cell (p := ⟨b, _, none⟩) (by show b < I.v; omega)).trans k0, (hW.cell (p := ⟨b, _, none⟩) (by show b < I.v; omega)).trans k1, (hW.cell (p := ⟨b, _, none⟩) (by show b < I.v; omega)).trans k2⟩
            have hfit := HF.out l[i] (List.getElem_mem h1)
            clear k0 k1 k2
            generalize l[i] = st at hkk hfit
            obtain ⟨wh, co, ba⟩ := st
            simp only at hkk
            obtain ⟨_, hf2, hf3⟩ := hfit
            simp only at hf2 hf3
            obtain ⟨k, hk⟩ : ∃ k, k = (ba % ((6 : Nat) : Int)).toNat := ⟨_, rfl⟩
            obtain ⟨cc, hcc⟩ : ∃ cc, cc = (co % (n : Int)).toNat := ⟨_, rfl⟩
            have hk6 : k < 6 := by omega
            have hcn : cc < n := by
              have e1 := Int.emod_lt_of_pos co (b := (n : Int)) (by omega)
              have e2 := Int.emod_nonneg co (b := (n : Int)) (by omega)
              omega
            have hx1 := fun W => index_any ba hf3 6 (by decide) W
            have hx2 := fun W => index_any co hf2 n (by omega) W
            rw [← hk] at hx1
            rw [← hcc] at hx2
            simp only [show ((6 : Nat) : Int) = 6 from rfl] at hx1
            have HX1 := Lib.hid hx1
            have HX2 := Lib.hid hx2
            have HK := Lib.hid hkk
            clear hx1 hx2 hkk hk hcc hf2 hf3
            have hd0 : Below wr.heap.size wr wr.drew := (Below.refl _ _).drew
            go_wp2_with fail
            refine wp_region_planB [(true, 0), (true, 1), (true, 2), (true, 3), (true, 4), (true, 6), (true, 7), (true, 8), (true, 9), (true, 10), (true, 11), (false, 5), (false, 12), (true, 13), (true, 14)] (by kernel_rfl) (by kernel_rfl) (fun _ _ d _ _ h => by cases d <;> exact h) ?_
            iterate 11 (refine PlanB.take (v := ?_) rfl rfl ?_ ?_; rotate_left; (focus (intro W hW; have hWg := HB.out.trans ((hd0.trans hW).mono (by omega)); obtain ⟨q0, q1, q2⟩ := HK.out W hWg; clear hWg; go_simp; (try with_reducible rfl); done)); (try simp only [Act.put, List.setIfInBounds_toArray, List.set_cons_zero, List.set_cons_succ]))
            refine PlanB.step rfl rfl (fun Kk hK => ?_)
            go_simp
            refine (HX1.out _).mono ?_
            rintro e v1 ⟨rfl, rfl⟩
            refine hK.out _ _ (Below.refl _ _) ?_
            clear hK Kk
            (try simp only [Act.put, List.setIfInBounds_toArray, List.set_cons_zero, List.set_cons_succ])
            refine PlanB.step rfl rfl (fun Kk hK => ?_)
            go_simp
            refine (HX2.out _).mono ?_
            rintro e v2 ⟨rfl, rfl⟩
            refine hK.out _ _ (Below.refl _ _) ?_
            clear hK Kk
            (try simp only [Act.put, List.setIfInBounds_toArray, List.set_cons_zero, List.set_cons_succ])
            iterate 2 (refine PlanB.take (v := ?_) rfl rfl ?_ ?_; rotate_left; (focus (intro W hW; go_simp; (try with_reducible rfl); done)); (try simp only [Act.put, List.setIfInBounds_toArray, List.set_cons_zero, List.set_cons_succ]))
            simp only [PlanB]
            obtain ⟨w7, hw7⟩ : ∃ w7, w7 = wr.drew := ⟨_, rfl⟩
            have HP7 := Lib.hid (show Hp w7 I I.v n V T R M Q K ⟨ch, ch, 0, CA, Cc⟩ from by rw [hw7]; exact HP.out.below hd0)
            have HB7 := Lib.hid (show Below I.v w w7 from by rw [hw7]; exact HB.out.trans (hd0.mono (by omega)))
            have hs7 : I.v ≤ w7.heap.size := by have := HB7.out.size; have := HGV.out; omega
            have hx7 := HK.out w7 HB7.out
            rw [← hw7]
            clear hd0 hw7 HP HB hbz HX1 HX2
            obtain ⟨w8, hw8⟩ : ∃ w8, w8 = w7.alloc (.cells #[.int .i64 ((k : Int) + 1), .int .i64 ((k : Int) % 2)] 23) := ⟨_, rfl⟩
            obtain ⟨gb, hgb⟩ : ∃ gb, gb = w7.heap.size := ⟨_, rfl⟩
            have hb8 : Below w7.heap.size w7 w8 := by rw [hw8]; exact (Below.refl _ _).alloc (Nat.le_refl _) _
            have HY8 := Lib.hid (show Whole w8 gb 23 [.int .i64 ((k : Int) + 1), .int .i64 ((k : Int) % 2)] from by rw [hw8, hgb]; exact Whole.fresh _ _ [_, _])
            have HP8 := Lib.hid (HP7.out.below hb8)
            have HB8 := Lib.hid (HB7.out.trans (hb8.mono (by omega)))
            have hx8 := HK.out w8 HB8.out
            obtain ⟨q0, _, _⟩ := hx8
            rw [hw8] at q0
            have HW8 := Lib.hid hw8
            have hs8 : I.v ≤ w8.heap.size := by have := HB8.out.size; have := HGV.out; omega
            have hgb8 : gb < w8.heap.size := HY8.out.size
            have hgtop : I.top ≤ gb := by rw [hgb]; exact HP7.out.top
            have hk0I : (0 : Int) ≤ (k : Int) := by omega
            have hk6I : (k : Int) < 6 := by omega
            have hc0I : (0 : Int) ≤ (cc : Int) := by omega
            have hcnI : (cc : Int) < (n : Int) := by omega
            have HGB := Lib.hid hgb
            clear hb8 hw8 hx7 HP7 HB7 hgb
            by_cases hwh : wh = 0
            · rename_i zq1 zq2 zq3 zq4 zq5 zq6 zq7 zq8 zq9 zq10 zq11 zq12 zq13 zq14 zq15 zq16 zq17 zq18 zq19 zq20 zq21 zq22
              revert u hu l w hl c zq1 HF n hn3 w1 w2 w3 w4 HN zq2 zq3 u33 u34 u35 u36 u37 u38 u39 u40 u41 r zq4 zq5 wA w5 w6 zq6 zq7 u44 u45 u46 u47 u48 u49 u50 u51 u52 r2 hi6 hlt wB I HB4 HGV HIOK zq8 zq9 zq10 wr u4 u15 u16 u17 u18 u19 u20 u21 u22 u23 u53 u54 u55 u56 u57 u58 u59 u60 u61 u62 u63 u64 u65 u66 u67 u68 u69 u70 u71 u72 u73 u74 u75 u76 u77 u78 u79 u80 u81 u82 u83 u84 u85 u86 u87 u88 u89 u90 u91 u92 u93 u94 u95 u96 u97 u98 u99 u100 u101 u102 u103 u104 u105 u106 u107 u108 u109 u110 u111 u112 u113 u114 u115 u116 u117 u118 u119 u120 u121 u122 u123 u124 u125 u126 u127 u128 u129 u130 u131 u132 u133 u134 u135 u136 u137 u138 u139 u140 u141 u142 u143 u144 u145 u146 u147 u148 u149 u150 u151 u152 u153 u154 u155 u156 u157 u158 u159 u160 u161 u162 u163 u164 u165 u166 u167 u168 u169 u170 u171 u172 u173 u174 u175 u176 u177 u178 u179 u180 u181 u182 u183 u184 u185 u186 u187 u188 u189 u190 u191 u192 u193 u194 u195 u196 u197 u198 u199 u200 u201 u202 u203 u204 u205 u206 u207 u208 u209 u210 u211 u212 u213 u214 u215 u216 u217 u218 u219 u220 u221 u222 u223 u224 u225 u226 u227 u228 i s ch V T R M Q K CA Cc hil HL HOK HCH h1 h1I h2 h2I h0I b o HI zq11 zq12 zq13 zq14 hbB wh co ba zq15 k cc hk6 hcn HK zq16 zq17 zq18 zq19 zq20 w7 hs7 w8 gb HY8 HP8 HB8 q0 zq21 zq22 HW8 hs8 hgb8 hgtop hk0I hk6I hc0I hcnI HGB hwh
              exact HALF1.out
            · rename_i zq1 zq2 zq3 zq4 zq5 zq6 zq7 zq8 zq9 zq10 zq11 zq12 zq13 zq14 zq15 zq16 zq17 zq18 zq19 zq20 zq21 zq22
              revert u hu l w hl c zq1 HF n hn3 w1 w2 w3 w4 HN zq2 zq3 u33 u34 u35 u36 u37 u38 u39 u40 u41 r zq4 zq5 wA w5 w6 zq6 zq7 u44 u45 u46 u47 u48 u49 u50 u51 u52 r2 hi6 hlt wB I HB4 HGV HIOK zq8 zq9 zq10 wr u4 u15 u16 u17 u18 u19 u20 u21 u22 u23 u53 u54 u55 u56 u57 u58 u59 u60 u61 u62 u63 u64 u65 u66 u67 u68 u69 u70 u71 u72 u73 u74 u75 u76 u77 u78 u79 u80 u81 u82 u83 u84 u85 u86 u87 u88 u89 u90 u91 u92 u93 u94 u95 u96 u97 u98 u99 u100 u101 u102 u103 u104 u105 u106 u107 u108 u109 u110 u111 u112 u113 u114 u115 u116 u117 u118 u119 u120 u121 u122 u123 u124 u125 u126 u127 u128 u129 u130 u131 u132 u133 u134 u135 u136 u137 u138 u139 u140 u141 u142 u143 u144 u145 u146 u147 u148 u149 u150 u151 u152 u153 u154 u155 u156 u157 u158 u159 u160 u161 u162 u163 u164 u165 u166 u167 u168 u169 u170 u171 u172 u173 u174 u175 u176 u177 u178 u179 u180 u181 u182 u183 u184 u185 u186 u187 u188 u189 u190 u191 u192 u193 u194 u195 u196 u197 u198 u199 u200 u201 u202 u203 u204 u205 u206 u207 u208 u209 u210 u211 u212 u213 u214 u215 u216 u217 u218 u219 u220 u221 u222 u223 u224 u225 u226 u227 u228 i s ch V T R M Q K CA Cc hil HL HOK HCH h1 h1I h2 h2I h0I b o HI zq11 zq12 zq13 zq14 hbB wh co ba zq15 k cc hk6 hcn HK zq16 zq17 zq18 zq19 zq20 w7 hs7 w8 gb HY8 HP8 HB8 q0 zq21 zq22 HW8 hs8 hgb8 hgtop hk0I hk6I hc0I hcnI HGB hwh
              exact HALF2.out⟩

set_option maxHeartbeats 8000000 in
set_option maxRecDepth 100000 in
theorem onceAsk : onceSplit.1.1 := by
  intro u hu l w hl c zq1 HF n hn3 w1 w2 w3 w4 HN zq2 zq3 u33 u34 u35 u36 u37 u38 u39 u40 u41 r zq4 zq5 wA w5 w6 zq6 zq7 u44 u45 u46 u47 u48 u49 u50 u51 u52 r2 hi6 hlt wB I HB4 HGV HIOK zq8 zq9 zq10 wr u4 u15 u16 u17 u18 u19 u20 u21 u22 u23 u53 u54 u55 u56 u57 u58 u59 u60 u61 u62 u63 u64 u65 u66 u67 u68 u69 u70 u71 u72 u73 u74 u75 u76 u77 u78 u79 u80 u81 u82 u83 u84 u85 u86 u87 u88 u89 u90 u91 u92 u93 u94 u95 u96 u97 u98 u99 u100 u101 u102 u103 u104 u105 u106 u107 u108 u109 u110 u111 u112 u113 u114 u115 u116 u117 u118 u119 u120 u121 u122 u123 u124 u125 u126 u127 u128 u129 u130 u131 u132 u133 u134 u135 u136 u137 u138 u139 u140 u141 u142 u143 u144 u145 u146 u147 u148 u149 u150 u151 u152 u153 u154 u155 u156 u157 u158 u159 u160 u161 u162 u163 u164 u165 u166 u167 u168 u169 u170 u171 u172 u173 u174 u175 u176 u177 u178 u179 u180 u181 u182 u183 u184 u185 u186 u187 u188 u189 u190 u191 u192 u193 u194 u195 u196 u197 u198 u199 u200 u201 u202 u203 u204 u205 u206 u207 u208 u209 u210 u211 u212 u213 u214 u215 u216 u217 u218 u219 u220 u221 u222 u223 u224 u225 u226 u227 u228 i s ch V T R M Q K CA Cc hil HL HOK HCH h1 h1I h2 h2I h0I b o HI zq11 zq12 zq13 zq14 hbB wh co ba zq15 k cc hk6 hcn HK zq16 zq17 zq18 zq19 zq20 w7 hs7 w8 gb HY8 HP8 HB8 q0 zq21 zq22 HW8 hs8 hgb8 hgtop hk0I hk6I hc0I hcnI HGB hwh
  subst hwh
  have HPR := Lib.hid (promise_ev (V cc) (s.p cc) (s.a cc) (s.t cc) k (HL.out.v cc hcn))
  go_wp2_with fail
  rw [← HW8.out, ← HGB.out]
  clear q0 HW8 HGB
  refine wp_region_mid (fun a0 a' w' => ∃ (z : Ev) (gx : Nat), a' = (((((((((((a0.put (some 88) (.slice (some ⟨I.v, 0, none⟩) n n)).put (some 89) (.int .i64 cc)).put (some 90) (.pointer (some ⟨I.v, cc * 8, none⟩))).put (some 91) (.agg #[.int .i64 (V cc).p1, .int .i64 (V cc).p2, .int .i64 (V cc).a1, .int .i64 (V cc).a2, .int .i64 (V cc).g, .int .i64 (V cc).e, .int .i64 (V cc).r, .slice (V cc).A 0 (V cc).c])).put (some 92) (.agg #[.int .i64 ((k : Int) + 1), .int .i64 ((k : Int) % 2)])).put (some 93) (.tuple #[.agg #[.int .i64 z.p1, .int .i64 z.p2, .int .i64 z.a1, .int .i64 z.a2, .int .i64 z.g, .int .i64 z.e, .int .i64 z.r, .slice z.A 0 z.c], .bool (decide (s.p cc < k + 1))])).put (some 87) (.tuple #[.agg #[.int .i64 z.p1, .int .i64 z.p2, .int .i64 z.a1, .int .i64 z.a2, .int .i64 z.g, .int .i64 z.e, .int .i64 z.r, .slice z.A 0 z.c], .bool (decide (s.p cc < k + 1))])).put (some 94) (.agg #[.int .i64 z.p1, .int .i64 z.p2, .int .i64 z.a1, .int .i64 z.a2, .int .i64 z.g, .int .i64 z.e, .int .i64 z.r, .slice z.A 0 z.c])).put (some 95) (.bool (decide (s.p cc < k + 1)))).put (some 18) (.pointer (some ⟨gx, 0, none⟩))).put (some 19) (.bool (decide (s.p cc < k + 1)))) ∧ z.vw = (if s.p cc < k + 1 then vowOf (k + 1) (s.a cc) (s.t cc) else vowOf (s.p cc) (s.a cc) (s.t cc)) ∧ Below w8.heap.size w8 w' ∧ Whole w' gx 31 [.int .i64 z.p1, .int .i64 z.p2, .int .i64 z.a1, .int .i64 z.a2, .int .i64 z.g, .int .i64 z.e, .int .i64 z.r, .slice z.A 0 z.c] ∧ w8.heap.size ≤ gx) ?r22 ?k22
  case r22 =>
    obtain ⟨W0, hW0⟩ : ∃ W0, W0 = w8 := ⟨_, rfl⟩
    have hd0 : Below w8.heap.size w8 w8.drew := (Below.refl _ _).drew
    refine wp_region_planT (fun W => Below w8.heap.size w8 W) (.take 0 (.take 1 (.take 2 (.take 3 (.take 4 (.fork 5 (.take 6 (.take 7 (.take 8 (.step 9 (.step 10 (.take 11 .done)))))) 9 (.step 5 (.take 6 (.take 7 (.take 8 (.step 10 (.take 11 .done)))))))))))) (by kernel_rfl) (by kernel_rfl) (fun _ _ _ _ _ h => by cases h.1) hd0 ?_
    obtain ⟨wd, hwd⟩ : ∃ wd, wd = w8.drew := ⟨_, rfl⟩
    rw [← hwd] at hd0 ⊢
    clear hwd hW0
    iterate 5 (refine PlanT.takeI (v := ?_) rfl rfl ?_ ?_; rotate_left; (focus (intro W hW; have hp := HP8.out.below hW; have y0 := hp.v.cell encEv_len hcn 0 _ rfl; have y1 := hp.v.cell encEv_len hcn 1 _ rfl; have y2 := hp.v.cell encEv_len hcn 2 _ rfl; have y3 := hp.v.cell encEv_len hcn 3 _ rfl; have y4 := hp.v.cell encEv_len hcn 4 _ rfl; have y5 := hp.v.cell encEv_len hcn 5 _ rfl; have y6 := hp.v.cell encEv_len hcn 6 _ rfl; have y7 := hp.v.cell encEv_len hcn 7 _ rfl; have hy := HY8.out.below hW HY8.out.size; have b0 := hy.cell 0 _ rfl; have b1 := hy.cell 1 _ rfl; clear hp hy; simp only [Nat.add_zero] at y0; go_simp; (try with_reducible rfl); done)); (try simp only [Act.put, List.setIfInBounds_toArray, List.set_cons_zero, List.set_cons_succ]))
    refine ⟨?_, ?_⟩
    · skip
      refine wpOp_stepT rfl rfl (fun Kk hK => ?_)
      go_simp
      refine (HPR.out _).mono ?_
      rintro e wa ⟨z, rfl, hz, hb⟩
      have hd1 := hd0.trans (hb.mono hd0.size)
      refine hK.out _ _ hd1 ?_
      clear hK Kk
      (try simp only [Act.put, List.setIfInBounds_toArray, List.set_cons_zero, List.set_cons_succ])
      clear hb
      iterate 3 (refine PlanT.takeI (v := ?_) rfl rfl ?_ ?_; rotate_left; (focus (intro W hW; go_simp; (try with_reducible rfl); done)); (try simp only [Act.put, List.setIfInBounds_toArray, List.set_cons_zero, List.set_cons_succ]))
      refine wpOp_stepT rfl rfl (fun Kk hK => ?_)
      go_simp
      obtain ⟨wb, hE⟩ : ∃ V, V = wa.alloc (.cells #[.int .i64 0, .int .i64 0, .int .i64 0, .int .i64 0, .int .i64 0, .int .i64 0, .int .i64 0, .slice none 0 0] 31) := ⟨_, rfl⟩
      have hd2 : Below w8.heap.size w8 wb := by rw [hE]; exact hd1.alloc hd1.size _
      have hx : Whole wb wa.heap.size 31 [.int .i64 0, .int .i64 0, .int .i64 0, .int .i64 0, .int .i64 0, .int .i64 0, .int .i64 0, .slice none 0 0] := by rw [hE]; exact Whole.fresh wa _ [.int .i64 0, .int .i64 0, .int .i64 0, .int .i64 0, .int .i64 0, .int .i64 0, .int .i64 0, .slice none 0 0]
      have hg : w8.heap.size ≤ wa.heap.size := hd1.size
      rw [← hE]
      obtain ⟨gx, hgx⟩ : ∃ X, X = wa.heap.size := ⟨_, rfl⟩
      rw [← hgx] at hx hg ⊢
      clear hE hgx
      refine hK.out _ _ hd2 ?_
      clear hK Kk
      (try simp only [Act.put, List.setIfInBounds_toArray, List.set_cons_zero, List.set_cons_succ])
      refine wpOp_stepT rfl rfl (fun Kk hK => ?_)
      have c0 := hx.cell 0 _ rfl
      have f0 := hx.frozen 0
      have c1 := hx.cell 1 _ rfl
      have f1 := hx.frozen 1
      have c2 := hx.cell 2 _ rfl
      have f2 := hx.frozen 2
      have c3 := hx.cell 3 _ rfl
      have f3 := hx.frozen 3
      have c4 := hx.cell 4 _ rfl
      have f4 := hx.frozen 4
      have c5 := hx.cell 5 _ rfl
      have f5 := hx.frozen 5
      have c6 := hx.cell 6 _ rfl
      have f6 := hx.frozen 6
      have c7 := hx.cell 7 _ rfl
      have f7 := hx.frozen 7
      go_simp
      have hx2 := ((((((((hx.put 0 (.int .i64 z.p1)).put 1 (.int .i64 z.p2)).put 2 (.int .i64 z.a1)).put 3 (.int .i64 z.a2)).put 4 (.int .i64 z.g)).put 5 (.int .i64 z.e)).put 6 (.int .i64 z.r)).put 7 (.slice z.A 0 z.c))
      simp only [List.set] at hx2
      have hd8 := ((((((((hd2.setCell (p := ⟨gx, 0, none⟩) hg (.int .i64 z.p1)).setCell (p := ⟨gx, 1, none⟩) hg (.int .i64 z.p2)).setCell (p := ⟨gx, 2, none⟩) hg (.int .i64 z.a1)).setCell (p := ⟨gx, 3, none⟩) hg (.int .i64 z.a2)).setCell (p := ⟨gx, 4, none⟩) hg (.int .i64 z.g)).setCell (p := ⟨gx, 5, none⟩) hg (.int .i64 z.e)).setCell (p := ⟨gx, 6, none⟩) hg (.int .i64 z.r)).setCell (p := ⟨gx, 7, none⟩) hg (.slice z.A 0 z.c))
      clear c0 f0 c1 f1 c2 f2 c3 f3 c4 f4 c5 f5 c6 f6 c7 f7
      refine hK.out _ _ hd8 ?_
      clear hK Kk
      (try simp only [Act.put, List.setIfInBounds_toArray, List.set_cons_zero, List.set_cons_succ])
      iterate 1 (refine PlanT.takeI (v := ?_) rfl rfl ?_ ?_; rotate_left; (focus (intro W hW; go_simp; (try with_reducible rfl); done)); (try simp only [Act.put, List.setIfInBounds_toArray, List.set_cons_zero, List.set_cons_succ]))
      simp only [PlanT]
      exact ⟨(by first | rfl | trivial), z, gx, (by first | rfl | (simp only [Act.put, List.setIfInBounds_toArray, List.set_cons_zero, List.set_cons_succ])), hz, hd8, hx2, hg⟩
    · skip
      refine wpOp_stepT rfl rfl (fun Kk hK => ?_)
      go_simp
      obtain ⟨wa, hE⟩ : ∃ V, V = wd.alloc (.cells #[.int .i64 0, .int .i64 0, .int .i64 0, .int .i64 0, .int .i64 0, .int .i64 0, .int .i64 0, .slice none 0 0] 31) := ⟨_, rfl⟩
      have hd1 : Below w8.heap.size w8 wa := by rw [hE]; exact hd0.alloc hd0.size _
      have hx : Whole wa wd.heap.size 31 [.int .i64 0, .int .i64 0, .int .i64 0, .int .i64 0, .int .i64 0, .int .i64 0, .int .i64 0, .slice none 0 0] := by rw [hE]; exact Whole.fresh wd _ [.int .i64 0, .int .i64 0, .int .i64 0, .int .i64 0, .int .i64 0, .int .i64 0, .int .i64 0, .slice none 0 0]
      have hg : w8.heap.size ≤ wd.heap.size := hd0.size
      rw [← hE]
      obtain ⟨gx, hgx⟩ : ∃ X, X = wd.heap.size := ⟨_, rfl⟩
      rw [← hgx] at hx hg ⊢
      clear hE hgx
      refine hK.out _ _ hd1 ?_
      clear hK Kk
      (try simp only [Act.put, List.setIfInBounds_toArray, List.set_cons_zero, List.set_cons_succ])
      refine wpOp_stepT rfl rfl (fun Kk hK => ?_)
      go_simp
      refine (HPR.out _).mono ?_
      rintro e wb ⟨z, rfl, hz, hb⟩
      have hd2 := hd1.trans (hb.mono hd1.size)
      replace hx := hx.below hb hx.size
      refine hK.out _ _ hd2 ?_
      clear hK Kk
      (try simp only [Act.put, List.setIfInBounds_toArray, List.set_cons_zero, List.set_cons_succ])
      clear hb
      iterate 3 (refine PlanT.takeI (v := ?_) rfl rfl ?_ ?_; rotate_left; (focus (intro W hW; go_simp; (try with_reducible rfl); done)); (try simp only [Act.put, List.setIfInBounds_toArray, List.set_cons_zero, List.set_cons_succ]))
      refine wpOp_stepT rfl rfl (fun Kk hK => ?_)
      have c0 := hx.cell 0 _ rfl
      have f0 := hx.frozen 0
      have c1 := hx.cell 1 _ rfl
      have f1 := hx.frozen 1
      have c2 := hx.cell 2 _ rfl
      have f2 := hx.frozen 2
      have c3 := hx.cell 3 _ rfl
      have f3 := hx.frozen 3
      have c4 := hx.cell 4 _ rfl
      have f4 := hx.frozen 4
      have c5 := hx.cell 5 _ rfl
      have f5 := hx.frozen 5
      have c6 := hx.cell 6 _ rfl
      have f6 := hx.frozen 6
      have c7 := hx.cell 7 _ rfl
      have f7 := hx.frozen 7
      go_simp
      have hx2 := ((((((((hx.put 0 (.int .i64 z.p1)).put 1 (.int .i64 z.p2)).put 2 (.int .i64 z.a1)).put 3 (.int .i64 z.a2)).put 4 (.int .i64 z.g)).put 5 (.int .i64 z.e)).put 6 (.int .i64 z.r)).put 7 (.slice z.A 0 z.c))
      simp only [List.set] at hx2
      have hd8 := ((((((((hd2.setCell (p := ⟨gx, 0, none⟩) hg (.int .i64 z.p1)).setCell (p := ⟨gx, 1, none⟩) hg (.int .i64 z.p2)).setCell (p := ⟨gx, 2, none⟩) hg (.int .i64 z.a1)).setCell (p := ⟨gx, 3, none⟩) hg (.int .i64 z.a2)).setCell (p := ⟨gx, 4, none⟩) hg (.int .i64 z.g)).setCell (p := ⟨gx, 5, none⟩) hg (.int .i64 z.e)).setCell (p := ⟨gx, 6, none⟩) hg (.int .i64 z.r)).setCell (p := ⟨gx, 7, none⟩) hg (.slice z.A 0 z.c))
      clear c0 f0 c1 f1 c2 f2 c3 f3 c4 f4 c5 f5 c6 f6 c7 f7
      refine hK.out _ _ hd8 ?_
      clear hK Kk
      (try simp only [Act.put, List.setIfInBounds_toArray, List.set_cons_zero, List.set_cons_succ])
      iterate 1 (refine PlanT.takeI (v := ?_) rfl rfl ?_ ?_; rotate_left; (focus (intro W hW; go_simp; (try with_reducible rfl); done)); (try simp only [Act.put, List.setIfInBounds_toArray, List.set_cons_zero, List.set_cons_succ]))
      simp only [PlanT]
      exact ⟨(by first | rfl | trivial), z, gx, (by first | rfl | (simp only [Act.put, List.setIfInBounds_toArray, List.set_cons_zero, List.set_cons_succ])), hz, hd8, hx2, hg⟩
  case k22 =>
    rintro a' w9 ⟨z, gx, rfl, hz, hd9, hx9, hg9⟩
    (try simp only [Act.put, List.setIfInBounds_toArray, List.set_cons_zero, List.set_cons_succ])
    have HX9 := Lib.hid hx9
    have HP9 := Lib.hid (HP8.out.below hd9)
    have HB9 := Lib.hid (show Below I.v w w9 from HB8.out.trans (hd9.mono hs8))
    have hs9 : I.v ≤ w9.heap.size := Nat.le_trans hs8 hd9.size
    have hgxt : I.top ≤ gx := by have := HP8.out.top; omega
    have HROW := Lib.hid (fun b (hb : (T k).ownBlock = some b) => (Own.low (HP8.out.r k hk6) hb).2)
    have hm0 := HL.out.m k hk6
    have ho := HP9.out.ids.o
    have hra := HP9.out.ids.ra k hk6
    have HO := Lib.hid ho
    have HRA := Lib.hid hra
    clear hd9 hx9 HPR HP8 HB8 HY8 ho hra
    by_cases hok : s.p cc < k + 1
    case neg =>
      rw [decide_eq_false hok]
      rw [if_neg hok] at hz
      have HZ := Lib.hid hz
      have HNO := Lib.hid (show s.askS n cc k = s from by unfold Px.askS; rw [if_neg hok])
      clear hz hok hm0
      have x0 := HX9.out.cell 0 _ rfl
      have x1 := HX9.out.cell 1 _ rfl
      have x2 := HX9.out.cell 2 _ rfl
      have x3 := HX9.out.cell 3 _ rfl
      have x4 := HX9.out.cell 4 _ rfl
      have x5 := HX9.out.cell 5 _ rfl
      have x6 := HX9.out.cell 6 _ rfl
      have x7 := HX9.out.cell 7 _ rfl
      have y0 := HP9.out.v.cell encEv_len hcn 0 _ rfl
      have f0 := Own.stand HP9.out.v (cc * 8 + 0)
      have y1 := HP9.out.v.cell encEv_len hcn 1 _ rfl
      have f1 := Own.stand HP9.out.v (cc * 8 + 1)
      have y2 := HP9.out.v.cell encEv_len hcn 2 _ rfl
      have f2 := Own.stand HP9.out.v (cc * 8 + 2)
      have y3 := HP9.out.v.cell encEv_len hcn 3 _ rfl
      have f3 := Own.stand HP9.out.v (cc * 8 + 3)
      have y4 := HP9.out.v.cell encEv_len hcn 4 _ rfl
      have f4 := Own.stand HP9.out.v (cc * 8 + 4)
      have y5 := HP9.out.v.cell encEv_len hcn 5 _ rfl
      have f5 := Own.stand HP9.out.v (cc * 8 + 5)
      have y6 := HP9.out.v.cell encEv_len hcn 6 _ rfl
      have f6 := Own.stand HP9.out.v (cc * 8 + 6)
      have y7 := HP9.out.v.cell encEv_len hcn 7 _ rfl
      have f7 := Own.stand HP9.out.v (cc * 8 + 7)
      simp only [Nat.add_zero] at y0 f0
      obtain ⟨wz, hwz⟩ : ∃ wz, wz = ((((((((w9.setCell ⟨I.v, cc * 8, none⟩ (.int .i64 z.p1)).setCell ⟨I.v, cc * 8 + 1, none⟩ (.int .i64 z.p2)).setCell ⟨I.v, cc * 8 + 2, none⟩ (.int .i64 z.a1)).setCell ⟨I.v, cc * 8 + 3, none⟩ (.int .i64 z.a2)).setCell ⟨I.v, cc * 8 + 4, none⟩ (.int .i64 z.g)).setCell ⟨I.v, cc * 8 + 5, none⟩ (.int .i64 z.e)).setCell ⟨I.v, cc * 8 + 6, none⟩ (.int .i64 z.r)).setCell ⟨I.v, cc * 8 + 7, none⟩ (.slice z.A 0 z.c)) := ⟨_, rfl⟩
      have htv := HP9.out.v.put8 hcn z
      have hmz := (((((((((Mv.refl (fun b => b = I.v) w9).setCell (p := ⟨I.v, cc * 8, none⟩) (fun _ => rfl) (.int .i64 z.p1)).setCell (p := ⟨I.v, cc * 8 + 1, none⟩) (fun _ => rfl) (.int .i64 z.p2)).setCell (p := ⟨I.v, cc * 8 + 2, none⟩) (fun _ => rfl) (.int .i64 z.a1)).setCell (p := ⟨I.v, cc * 8 + 3, none⟩) (fun _ => rfl) (.int .i64 z.a2)).setCell (p := ⟨I.v, cc * 8 + 4, none⟩) (fun _ => rfl) (.int .i64 z.g)).setCell (p := ⟨I.v, cc * 8 + 5, none⟩) (fun _ => rfl) (.int .i64 z.e)).setCell (p := ⟨I.v, cc * 8 + 6, none⟩) (fun _ => rfl) (.int .i64 z.r)).setCell (p := ⟨I.v, cc * 8 + 7, none⟩) (fun _ => rfl) (.slice z.A 0 z.c))
      rw [← hwz] at htv hmz
      have HPZ := Lib.hid (HP9.out.setV hmz htv)
      have HBZ := Lib.hid (show Below I.v w wz from HB9.out.trans (hmz.below (by have := HB9.out.size; have := HGV.out; omega) (fun i h => Nat.le_of_eq h.symm)))
      have HWZ := Lib.hid hwz
      clear htv hmz hwz
      go_wp2_with fail
      rw [← HWZ.out]
      clear x0 y0 f0 x1 y1 f1 x2 y2 f2 x3 y3 f3 x4 y4 f4 x5 y5 f5 x6 y6 f6 x7 y7 f7
      go_roundw
      case rel => exact ⟨i + 1, s.askS n cc k, ch, _, _, _, _, _, _, CA, Cc, by omega, by go_num, HPZ, Lib.hid (by rw [HNO.out]; exact HL.out.put HZ.out), Lib.hid (HOK.out.askS hcn), Lib.hid (HCH.out.askS HOK.out), HBZ⟩
      case measure => simp [intOf]; omega
    rw [decide_eq_true hok]
    rw [if_pos hok] at hz
    have HZ := Lib.hid hz
    clear hz
    have a0 := HP9.out.a.cell encV1_len hk6 0 _ rfl
    have qb := (HP9.out.q k hk6).cell encBo_len hcn 0 _ rfl
    have mg := HP9.out.m.cell encE4_len hk6 0 _ rfl
    simp only [Nat.mul_one, Nat.add_zero] at a0 qb mg
    rw [hm0.1] at mg
    have hqk := HL.out.q k hk6 cc hcn
    by_cases hq : Q k cc = true
    case pos =>
      rw [hq] at qb hqk
      have HNO := Lib.hid (show s.askS n cc k = s.promise cc k from by unfold Px.askS; rw [if_pos hok, if_neg (fun h => by rw [← hqk] at h; exact absurd h.1 (by simp))])
      clear hqk hq hok hm0
      have x0 := HX9.out.cell 0 _ rfl
      have x1 := HX9.out.cell 1 _ rfl
      have x2 := HX9.out.cell 2 _ rfl
      have x3 := HX9.out.cell 3 _ rfl
      have x4 := HX9.out.cell 4 _ rfl
      have x5 := HX9.out.cell 5 _ rfl
      have x6 := HX9.out.cell 6 _ rfl
      have x7 := HX9.out.cell 7 _ rfl
      have y0 := HP9.out.v.cell encEv_len hcn 0 _ rfl
      have f0 := Own.stand HP9.out.v (cc * 8 + 0)
      have y1 := HP9.out.v.cell encEv_len hcn 1 _ rfl
      have f1 := Own.stand HP9.out.v (cc * 8 + 1)
      have y2 := HP9.out.v.cell encEv_len hcn 2 _ rfl
      have f2 := Own.stand HP9.out.v (cc * 8 + 2)
      have y3 := HP9.out.v.cell encEv_len hcn 3 _ rfl
      have f3 := Own.stand HP9.out.v (cc * 8 + 3)
      have y4 := HP9.out.v.cell encEv_len hcn 4 _ rfl
      have f4 := Own.stand HP9.out.v (cc * 8 + 4)
      have y5 := HP9.out.v.cell encEv_len hcn 5 _ rfl
      have f5 := Own.stand HP9.out.v (cc * 8 + 5)
      have y6 := HP9.out.v.cell encEv_len hcn 6 _ rfl
      have f6 := Own.stand HP9.out.v (cc * 8 + 6)
      have y7 := HP9.out.v.cell encEv_len hcn 7 _ rfl
      have f7 := Own.stand HP9.out.v (cc * 8 + 7)
      simp only [Nat.add_zero] at y0 f0
      obtain ⟨wz, hwz⟩ : ∃ wz, wz = ((((((((w9.setCell ⟨I.v, cc * 8, none⟩ (.int .i64 z.p1)).setCell ⟨I.v, cc * 8 + 1, none⟩ (.int .i64 z.p2)).setCell ⟨I.v, cc * 8 + 2, none⟩ (.int .i64 z.a1)).setCell ⟨I.v, cc * 8 + 3, none⟩ (.int .i64 z.a2)).setCell ⟨I.v, cc * 8 + 4, none⟩ (.int .i64 z.g)).setCell ⟨I.v, cc * 8 + 5, none⟩ (.int .i64 z.e)).setCell ⟨I.v, cc * 8 + 6, none⟩ (.int .i64 z.r)).setCell ⟨I.v, cc * 8 + 7, none⟩ (.slice z.A 0 z.c)) := ⟨_, rfl⟩
      have htv := HP9.out.v.put8 hcn z
      have hmz := (((((((((Mv.refl (fun b => b = I.v) w9).setCell (p := ⟨I.v, cc * 8, none⟩) (fun _ => rfl) (.int .i64 z.p1)).setCell (p := ⟨I.v, cc * 8 + 1, none⟩) (fun _ => rfl) (.int .i64 z.p2)).setCell (p := ⟨I.v, cc * 8 + 2, none⟩) (fun _ => rfl) (.int .i64 z.a1)).setCell (p := ⟨I.v, cc * 8 + 3, none⟩) (fun _ => rfl) (.int .i64 z.a2)).setCell (p := ⟨I.v, cc * 8 + 4, none⟩) (fun _ => rfl) (.int .i64 z.g)).setCell (p := ⟨I.v, cc * 8 + 5, none⟩) (fun _ => rfl) (.int .i64 z.e)).setCell (p := ⟨I.v, cc * 8 + 6, none⟩) (fun _ => rfl) (.int .i64 z.r)).setCell (p := ⟨I.v, cc * 8 + 7, none⟩) (fun _ => rfl) (.slice z.A 0 z.c))
      rw [← hwz] at htv hmz
      have HPZ := Lib.hid (HP9.out.setV hmz htv)
      have HBZ := Lib.hid (show Below I.v w wz from HB9.out.trans (hmz.below (by have := HB9.out.size; have := HGV.out; omega) (fun i h => Nat.le_of_eq h.symm)))
      have HWZ := Lib.hid hwz
      clear htv hmz hwz
      go_wp2_with fail
      rw [← HWZ.out]
      clear x0 y0 f0 x1 y1 f1 x2 y2 f2 x3 y3 f3 x4 y4 f4 x5 y5 f5 x6 y6 f6 x7 y7 f7
      go_roundw
      case rel => exact ⟨i + 1, s.askS n cc k, ch, _, _, _, _, _, _, CA, Cc, by omega, by go_num, HPZ, Lib.hid (by rw [HNO.out]; exact HL.out.promise HZ.out), Lib.hid (HOK.out.askS hcn), Lib.hid (HCH.out.askS HOK.out), HBZ⟩
      case measure => simp [intOf]; omega
    have hqf : Q k cc = false := by simpa using hq
    rw [hqf] at qb hqk
    by_cases hmk : s.mine k = 0
    case neg =>
      have HNO := Lib.hid (show s.askS n cc k = s.promise cc k from by unfold Px.askS; rw [if_pos hok, if_neg (fun h => hmk h.2)])
      have hmb : ((s.mine k : Int) == 0) = false := by simpa using hmk
      have hmI : ¬ (s.mine k : Int) = 0 := by omega
      clear hqk hq hqf hok hm0
      have x0 := HX9.out.cell 0 _ rfl
      have x1 := HX9.out.cell 1 _ rfl
      have x2 := HX9.out.cell 2 _ rfl
      have x3 := HX9.out.cell 3 _ rfl
      have x4 := HX9.out.cell 4 _ rfl
      have x5 := HX9.out.cell 5 _ rfl
      have x6 := HX9.out.cell 6 _ rfl
      have x7 := HX9.out.cell 7 _ rfl
      have y0 := HP9.out.v.cell encEv_len hcn 0 _ rfl
      have f0 := Own.stand HP9.out.v (cc * 8 + 0)
      have y1 := HP9.out.v.cell encEv_len hcn 1 _ rfl
      have f1 := Own.stand HP9.out.v (cc * 8 + 1)
      have y2 := HP9.out.v.cell encEv_len hcn 2 _ rfl
      have f2 := Own.stand HP9.out.v (cc * 8 + 2)
      have y3 := HP9.out.v.cell encEv_len hcn 3 _ rfl
      have f3 := Own.stand HP9.out.v (cc * 8 + 3)
      have y4 := HP9.out.v.cell encEv_len hcn 4 _ rfl
      have f4 := Own.stand HP9.out.v (cc * 8 + 4)
      have y5 := HP9.out.v.cell encEv_len hcn 5 _ rfl
      have f5 := Own.stand HP9.out.v (cc * 8 + 5)
      have y6 := HP9.out.v.cell encEv_len hcn 6 _ rfl
      have f6 := Own.stand HP9.out.v (cc * 8 + 6)
      have y7 := HP9.out.v.cell encEv_len hcn 7 _ rfl
      have f7 := Own.stand HP9.out.v (cc * 8 + 7)
      simp only [Nat.add_zero] at y0 f0
      obtain ⟨wz, hwz⟩ : ∃ wz, wz = ((((((((w9.setCell ⟨I.v, cc * 8, none⟩ (.int .i64 z.p1)).setCell ⟨I.v, cc * 8 + 1, none⟩ (.int .i64 z.p2)).setCell ⟨I.v, cc * 8 + 2, none⟩ (.int .i64 z.a1)).setCell ⟨I.v, cc * 8 + 3, none⟩ (.int .i64 z.a2)).setCell ⟨I.v, cc * 8 + 4, none⟩ (.int .i64 z.g)).setCell ⟨I.v, cc * 8 + 5, none⟩ (.int .i64 z.e)).setCell ⟨I.v, cc * 8 + 6, none⟩ (.int .i64 z.r)).setCell ⟨I.v, cc * 8 + 7, none⟩ (.slice z.A 0 z.c)) := ⟨_, rfl⟩
      have htv := HP9.out.v.put8 hcn z
      have hmz := (((((((((Mv.refl (fun b => b = I.v) w9).setCell (p := ⟨I.v, cc * 8, none⟩) (fun _ => rfl) (.int .i64 z.p1)).setCell (p := ⟨I.v, cc * 8 + 1, none⟩) (fun _ => rfl) (.int .i64 z.p2)).setCell (p := ⟨I.v, cc * 8 + 2, none⟩) (fun _ => rfl) (.int .i64 z.a1)).setCell (p := ⟨I.v, cc * 8 + 3, none⟩) (fun _ => rfl) (.int .i64 z.a2)).setCell (p := ⟨I.v, cc * 8 + 4, none⟩) (fun _ => rfl) (.int .i64 z.g)).setCell (p := ⟨I.v, cc * 8 + 5, none⟩) (fun _ => rfl) (.int .i64 z.e)).setCell (p := ⟨I.v, cc * 8 + 6, none⟩) (fun _ => rfl) (.int .i64 z.r)).setCell (p := ⟨I.v, cc * 8 + 7, none⟩) (fun _ => rfl) (.slice z.A 0 z.c))
      rw [← hwz] at htv hmz
      have HPZ := Lib.hid (HP9.out.setV hmz htv)
      have HBZ := Lib.hid (show Below I.v w wz from HB9.out.trans (hmz.below (by have := HB9.out.size; have := HGV.out; omega) (fun i h => Nat.le_of_eq h.symm)))
      have HWZ := Lib.hid hwz
      clear htv hmz hwz
      go_wp2_with fail
      rw [← HWZ.out]
      clear x0 y0 f0 x1 y1 f1 x2 y2 f2 x3 y3 f3 x4 y4 f4 x5 y5 f5 x6 y6 f6 x7 y7 f7
      go_roundw
      case rel => exact ⟨i + 1, s.askS n cc k, ch, _, _, _, _, _, _, CA, Cc, by omega, by go_num, HPZ, Lib.hid (by rw [HNO.out]; exact HL.out.promise HZ.out), Lib.hid (HOK.out.askS hcn), Lib.hid (HCH.out.askS HOK.out), HBZ⟩
      case measure => simp [intOf]; omega
    rw [hmk] at mg
    simp only [show ((0 : Nat) : Int) = 0 from rfl] at mg
    have HNO := Lib.hid (show s.askS n cc k = if n < 2 * ((s.told k).length + 1) then ((s.promise cc k).tell cc k).fix k (if bestT (s.told k ++ [(s.a cc, s.t cc)]) = 0 then k + 1 else bestT (s.told k ++ [(s.a cc, s.t cc)])) else (s.promise cc k).tell cc k from by unfold Px.askS; rw [if_pos hok, if_pos ⟨hqk.symm, hmk⟩])
    have hlen := HL.out.len hk6
    have HLEN := Lib.hid hlen
    have hlt7 : (R k).length ≤ 7 := by
      rw [hlen, HOK.out.len k]
      have := cnt_le n (s.asked k)
      omega
    obtain ⟨TA, Tc, hTk⟩ := HP9.out.form hk6
    have HTK := Lib.hid hTk
    clear hqk hq hqf hok hm0 hTk hlen
    go_wp2_with fail
    clear a0 qb mg
    have t9 := HP9.out.t.cell encV1_len hk6 0 _ rfl
    simp only [Nat.mul_one, Nat.add_zero] at t9
    rw [HTK.out] at t9
    have hS0 : w9.drew.cell? ⟨I.t, k, none⟩ = some (.slice TA (R k).length Tc) ∧ Whole w9.drew gx 31 [.int .i64 z.p1, .int .i64 z.p2, .int .i64 z.a1, .int .i64 z.a2, .int .i64 z.g, .int .i64 z.e, .int .i64 z.r, .slice z.A 0 z.c] := ⟨t9, HX9.out.drew⟩
    refine wp_region_planF (fun W => W.cell? ⟨I.t, k, none⟩ = some (.slice TA (R k).length Tc) ∧ Whole W gx 31 [.int .i64 z.p1, .int .i64 z.p2, .int .i64 z.a1, .int .i64 z.a2, .int .i64 z.g, .int .i64 z.e, .int .i64 z.r, .slice z.A 0 z.c]) 10 [(true, 0), (true, 1), (true, 2), (true, 3), (true, 4), (true, 5), (true, 6), (false, 7), (false, 8), (true, 9), (false, 10)] (by kernel_rfl) (by kernel_rfl) (fun _ _ d _ _ h => by cases d <;> exact h) hS0 ?_
    obtain ⟨wd, hwd⟩ : ∃ wd, wd = w9.drew := ⟨_, rfl⟩
    have hbd : Below w9.heap.size w9 wd := by rw [hwd]; exact (Below.refl _ _).drew
    rw [← hwd] at hS0 ⊢
    clear hwd t9
    iterate 7 (refine PlanF.take (v := ?_) rfl rfl ?_ ?_; rotate_left; (focus (intro W hW; have t0 := hW.1; have v0 := hW.2.cell 0 _ rfl; have v1 := hW.2.cell 1 _ rfl; have v2 := hW.2.cell 2 _ rfl; have v3 := hW.2.cell 3 _ rfl; have v4 := hW.2.cell 4 _ rfl; have v5 := hW.2.cell 5 _ rfl; have v6 := hW.2.cell 6 _ rfl; have v7 := hW.2.cell 7 _ rfl; go_simp; (try with_reducible rfl); done)); (try simp only [Act.put, List.setIfInBounds_toArray, List.set_cons_zero, List.set_cons_succ]))
    refine PlanF.step rfl rfl (fun Kk hK => ?_)
    go_simp
    obtain ⟨w10, hw10⟩ : ∃ w10, w10 = wd.alloc (.cells #[.int .i64 z.p1, .int .i64 z.p2, .int .i64 z.a1, .int .i64 z.a2, .int .i64 z.g, .int .i64 z.e, .int .i64 z.r, .slice z.A 0 z.c] 31) := ⟨_, rfl⟩
    have hrd10 : RdEw w10 (wd.heap.size + 1) (.slice (some ⟨wd.heap.size, 0, none⟩) 1 1) [z.ew] := by rw [hw10]; exact RdEw.one wd z.ew
    have hb10 : Below wd.heap.size wd w10 := by rw [hw10]; exact (Below.refl _ _).alloc (Nat.le_refl _) _
    have hb9d : Below w9.heap.size w9 w10 := hbd.trans (hb10.mono hbd.size)
    have hP10 := HP9.out.below hb9d
    have hx10 := HX9.out.below hb9d HX9.out.size
    have t10 := hP10.t.cell encV1_len hk6 0 _ rfl
    simp only [Nat.mul_one, Nat.add_zero] at t10
    rw [HTK.out] at t10
    rw [← hw10]
    have HB10 := Lib.hid (show Below I.v w w10 from HB9.out.trans (hb9d.mono hs9))
    have HP10 := Lib.hid hP10
    have HX10 := Lib.hid hx10
    have HRD10 := Lib.hid hrd10
    refine hK.out _ _ ⟨t10, hx10⟩ ?_
    clear hK Kk hw10 hb10 hb9d hP10 hx10 t10 hrd10 hbd hS0
    (try simp only [Act.put, List.setIfInBounds_toArray, List.set_cons_zero, List.set_cons_succ])
    refine PlanF.step rfl rfl (fun Kk hK => ?_)
    refine wp_addEwN _ _ rfl I.top (.slice TA (R k).length Tc) (R k) rfl ?own (wd.heap.size + 1) _ [z.ew] rfl HRD10.out (by simp; omega) HP10.out.top ?_
    case own => have h := HP10.out.r k hk6; rw [HTK.out] at h; exact h
    intro A5 c5 w11 ho5 hg5 hn5
    obtain ⟨R0, hR0⟩ : ∃ R0, R0 = R k ++ [z.ew] := ⟨_, rfl⟩
    rw [← hR0] at ho5 hn5 ⊢
    have HLR := Lib.hid (show R0.length = (R k).length + 1 from by rw [hR0]; simp)
    have HMR := Lib.hid (show R0.map (·.x) = toldOf (k + 1) (s.told k ++ [(s.a cc, s.t cc)]) from by rw [hR0, List.map_append, HL.out.r k hk6, toldOf_append]; simp only [List.map_cons, List.map_nil]; rw [show z.ew.x = z.vw from rfl, HZ.out])
    have HR0 := Lib.hid hR0
    clear hR0
    have hgT : w10.grownBy w11 (T k).ownBlock := by rw [HTK.out]; exact hg5.out
    have hnT : NewRow w10 (T k).ownBlock (Value.ownBlock (.slice A5 R0.length c5)) := by rw [HTK.out]; exact hn5.out
    have hm11 := Mv.of_grown hgT
    have hx11 := hm11.whole HX10.out (by intro h; have h1 := HROW.out gx h.symm; omega)
    have t11 := (HP10.out.t.mv hm11 (by intro h; have h1 := (Own.low (HP10.out.r k hk6) h.symm).1; have := HO.out; omega)).cell encV1_len hk6 0 _ rfl
    have tf := Own.stand (HP10.out.t.mv hm11 (by intro h; have h1 := (Own.low (HP10.out.r k hk6) h.symm).1; have := HO.out; omega)) (k * 1 + 0)
    simp only [Nat.mul_one, Nat.add_zero] at t11 tf
    rw [HTK.out] at t11
    have HT11 := Lib.hid t11
    have HTF := Lib.hid tf
    refine hK.out _ _ ⟨t11, hx11⟩ ?_
    clear hK Kk t11 tf
    (try simp only [Act.put, List.setIfInBounds_toArray, List.set_cons_zero, List.set_cons_succ])
    iterate 1 (refine PlanF.take (v := ?_) rfl rfl ?_ ?_; rotate_left; (focus (intro W hW; go_simp; (try with_reducible rfl); done)); (try simp only [Act.put, List.setIfInBounds_toArray, List.set_cons_zero, List.set_cons_succ]))
    refine PlanF.last rfl rfl (fun Kk hK => ?_)
    have t11 := HT11.out
    have tf := HTF.out
    go_simp
    refine hK.out _ _ ?_
    clear hK Kk t11 tf HT11 HTF
    (try simp only [Act.put, List.setIfInBounds_toArray, List.set_cons_zero, List.set_cons_succ])
    obtain ⟨w12, hw12⟩ : ∃ w12, w12 = w11.setCell ⟨I.t, k, none⟩ (.slice A5 R0.length c5) := ⟨_, rfl⟩
    have hP12 := HP10.out.told hk6 ho5.out hgT hnT
    rw [← hw12] at hP12 ⊢
    have HX12 := Lib.hid (show Whole w12 gx 31 [.int .i64 z.p1, .int .i64 z.p2, .int .i64 z.a1, .int .i64 z.a2, .int .i64 z.g, .int .i64 z.e, .int .i64 z.r, .slice z.A 0 z.c] from by rw [hw12]; exact hx11.away (p := ⟨I.t, k, none⟩) (by show gx ≠ I.t; have := HO.out; omega) _)
    have HB12 := Lib.hid (show Below I.v w w12 from by
      rw [hw12]
      refine (HB10.out.trans (hm11.below (by have := HP10.out.top; have := HO.out; omega) (fun b hb => by have := (Own.low (HP10.out.r k hk6) hb.symm).1; have := HO.out; omega))).setCell (p := ⟨I.t, k, none⟩) (by show I.v ≤ I.t; have := HO.out; omega) _)
    have HP12 := Lib.hid hP12
    clear hx11 hm11 hgT hnT hw12 hP12 ho5 hg5 hn5 HP10 HX10 HB10 HRD10
    have a12 := HP12.out.a.cell encV1_len hk6 0 _ rfl
    have q12 := (HP12.out.q k hk6).cell encBo_len hcn 0 _ rfl
    have qf := Own.stand (HP12.out.q k hk6) (cc * 1 + 0)
    simp only [Nat.mul_one, Nat.add_zero] at a12 q12 qf
    obtain ⟨w13, hw13⟩ : ∃ w13, w13 = w12.setCell ⟨I.ra k, cc, none⟩ (.bool true) := ⟨_, rfl⟩
    have htq := Tab.set encBo_len (HP12.out.q k hk6) hcn 0 (.bool true) true (by decide) rfl
    simp only [Nat.mul_one, Nat.add_zero] at htq
    rw [← hw13] at htq
    have hmq : Mv (fun b => b = I.ra k) w12 w13 := by rw [hw13]; exact (Mv.refl (fun b => b = I.ra k) w12).setCell (p := ⟨I.ra k, cc, none⟩) (fun _ => rfl) _
    have hP13 := HP12.out.setQ hk6 hmq htq
    have HX13 := Lib.hid (hmq.whole HX12.out (by show ¬ gx = I.ra k; have := HO.out; have := HRA.out; omega))
    have HB13 := Lib.hid (show Below I.v w w13 from HB12.out.trans (hmq.below (by have := HP12.out.top; have := HO.out; omega) (fun b hb => by have hb : b = I.ra k := hb; have := HO.out; have := HRA.out; omega)))
    have t13 := hP13.t.cell encV1_len hk6 0 _ rfl
    simp only [Nat.mul_one, Nat.add_zero, if_true] at t13
    rw [hw13] at t13
    have HP13 := Lib.hid hP13
    have HW13 := Lib.hid hw13
    have hln := HLEN.out
    have hlr := HLR.out
    have hwr2 : wrap64 (2 * (R0.length : Int)) = 2 * (R0.length : Int) := by unfold wrap64; omega
    clear htq hmq hP13 hw13
    by_cases hmaj : n < 2 * ((s.told k).length + 1)
    case neg =>
      have hmI : ¬ (n : Int) < 2 * (R0.length : Int) := by omega
      have HNO2 := Lib.hid (HNO.out.trans (if_neg hmaj))
      clear hmaj
      have x0 := HX13.out.cell 0 _ rfl
      have x1 := HX13.out.cell 1 _ rfl
      have x2 := HX13.out.cell 2 _ rfl
      have x3 := HX13.out.cell 3 _ rfl
      have x4 := HX13.out.cell 4 _ rfl
      have x5 := HX13.out.cell 5 _ rfl
      have x6 := HX13.out.cell 6 _ rfl
      have x7 := HX13.out.cell 7 _ rfl
      have y0 := HP13.out.v.cell encEv_len hcn 0 _ rfl
      have f0 := Own.stand HP13.out.v (cc * 8 + 0)
      have y1 := HP13.out.v.cell encEv_len hcn 1 _ rfl
      have f1 := Own.stand HP13.out.v (cc * 8 + 1)
      have y2 := HP13.out.v.cell encEv_len hcn 2 _ rfl
      have f2 := Own.stand HP13.out.v (cc * 8 + 2)
      have y3 := HP13.out.v.cell encEv_len hcn 3 _ rfl
      have f3 := Own.stand HP13.out.v (cc * 8 + 3)
      have y4 := HP13.out.v.cell encEv_len hcn 4 _ rfl
      have f4 := Own.stand HP13.out.v (cc * 8 + 4)
      have y5 := HP13.out.v.cell encEv_len hcn 5 _ rfl
      have f5 := Own.stand HP13.out.v (cc * 8 + 5)
      have y6 := HP13.out.v.cell encEv_len hcn 6 _ rfl
      have f6 := Own.stand HP13.out.v (cc * 8 + 6)
      have y7 := HP13.out.v.cell encEv_len hcn 7 _ rfl
      have f7 := Own.stand HP13.out.v (cc * 8 + 7)
      simp only [Nat.add_zero] at y0 f0
      rw [HW13.out] at x0 y0 f0 x1 y1 f1 x2 y2 f2 x3 y3 f3 x4 y4 f4 x5 y5 f5 x6 y6 f6 x7 y7 f7
      obtain ⟨wz, hwz⟩ : ∃ wz, wz = ((((((((w13.setCell ⟨I.v, cc * 8, none⟩ (.int .i64 z.p1)).setCell ⟨I.v, cc * 8 + 1, none⟩ (.int .i64 z.p2)).setCell ⟨I.v, cc * 8 + 2, none⟩ (.int .i64 z.a1)).setCell ⟨I.v, cc * 8 + 3, none⟩ (.int .i64 z.a2)).setCell ⟨I.v, cc * 8 + 4, none⟩ (.int .i64 z.g)).setCell ⟨I.v, cc * 8 + 5, none⟩ (.int .i64 z.e)).setCell ⟨I.v, cc * 8 + 6, none⟩ (.int .i64 z.r)).setCell ⟨I.v, cc * 8 + 7, none⟩ (.slice z.A 0 z.c)) := ⟨_, rfl⟩
      have htv := HP13.out.v.put8 hcn z
      have hmz := (((((((((Mv.refl (fun b => b = I.v) w13).setCell (p := ⟨I.v, cc * 8, none⟩) (fun _ => rfl) (.int .i64 z.p1)).setCell (p := ⟨I.v, cc * 8 + 1, none⟩) (fun _ => rfl) (.int .i64 z.p2)).setCell (p := ⟨I.v, cc * 8 + 2, none⟩) (fun _ => rfl) (.int .i64 z.a1)).setCell (p := ⟨I.v, cc * 8 + 3, none⟩) (fun _ => rfl) (.int .i64 z.a2)).setCell (p := ⟨I.v, cc * 8 + 4, none⟩) (fun _ => rfl) (.int .i64 z.g)).setCell (p := ⟨I.v, cc * 8 + 5, none⟩) (fun _ => rfl) (.int .i64 z.e)).setCell (p := ⟨I.v, cc * 8 + 6, none⟩) (fun _ => rfl) (.int .i64 z.r)).setCell (p := ⟨I.v, cc * 8 + 7, none⟩) (fun _ => rfl) (.slice z.A 0 z.c))
      rw [← hwz] at htv hmz
      have HPZ := Lib.hid (HP13.out.setV hmz htv)
      have HBZ := Lib.hid (show Below I.v w wz from HB13.out.trans (hmz.below (by have := HB13.out.size; have := HGV.out; omega) (fun i h => Nat.le_of_eq h.symm)))
      have HWZ := Lib.hid hwz
      clear htv hmz hwz
      go_wp2_with fail
      rw [← HW13.out]
      rw [← HWZ.out]
      clear x0 y0 f0 x1 y1 f1 x2 y2 f2 x3 y3 f3 x4 y4 f4 x5 y5 f5 x6 y6 f6 x7 y7 f7
      go_roundw
      case rel => exact ⟨i + 1, s.askS n cc k, ch, _, _, _, _, _, _, CA, Cc, by omega, by go_num, HPZ, Lib.hid (by rw [HNO2.out]; have h := (HL.out.promise HZ.out).tell (c := cc) hk6 HZ.out; rw [← HR0.out] at h; exact h), Lib.hid (HOK.out.askS hcn), Lib.hid (HCH.out.askS HOK.out), HBZ⟩
      case measure => simp [intOf]; omega
    have hmI : (n : Int) < 2 * (R0.length : Int) := by omega
    have HNO2 := Lib.hid (HNO.out.trans (if_pos hmaj))
    have hr13 := HP13.out.r k hk6
    simp only [if_true] at hr13
    have HBE := Lib.hid (best_e4 R0 _ (k + 1) HMR.out (by omega) A5 c5 w13 (Own.rd encEw_len hr13))
    obtain ⟨bt, hbt⟩ : ∃ bt, bt = bestT (s.told k ++ [(s.a cc, s.t cc)]) := ⟨_, rfl⟩
    rw [← hbt] at HBE HNO2
    clear hmaj hr13 hbt hln hlr
    go_wp2_with fail
    rw [← HW13.out]
    refine HBE.out.mono ?_
    rintro e w14 ⟨⟨mg, me, mr, mA, mc⟩, rfl, hm14, hb14⟩
    simp only at hm14
    obtain ⟨rfl, rfl, rfl⟩ := hm14
    have HP14 := Lib.hid (HP13.out.below hb14)
    have HX14 := Lib.hid (HX13.out.below hb14 HX13.out.size)
    have HB14 := Lib.hid (show Below I.v w w14 from HB13.out.trans (hb14.mono (by have := HP13.out.top; have := HO.out; omega)))
    clear hb14 a12 q12 qf t13 hmI HBE
    have mm0 := HP14.out.m.cell encE4_len hk6 0 _ rfl
    have mf0 := Own.stand HP14.out.m (k * 4 + 0)
    have mm1 := HP14.out.m.cell encE4_len hk6 1 _ rfl
    have mf1 := Own.stand HP14.out.m (k * 4 + 1)
    have mm2 := HP14.out.m.cell encE4_len hk6 2 _ rfl
    have mf2 := Own.stand HP14.out.m (k * 4 + 2)
    have mm3 := HP14.out.m.cell encE4_len hk6 3 _ rfl
    have mf3 := Own.stand HP14.out.m (k * 4 + 3)
    simp only [Nat.add_zero] at mm0 mf0
    obtain ⟨w15, hw15⟩ : ∃ w15, w15 = ((((w14.setCell ⟨I.m, k * 4, none⟩ (.int .i64 (bt : Int))).setCell ⟨I.m, k * 4 + 1, none⟩ (.int .i64 (bt : Int))).setCell ⟨I.m, k * 4 + 2, none⟩ (.int .i64 0)).setCell ⟨I.m, k * 4 + 3, none⟩ (.slice mA 0 mc)) := ⟨_, rfl⟩
    have htm := HP14.out.m.put4 hk6 ⟨(bt : Int), (bt : Int), 0, mA, mc⟩
    have hmm := (((((Mv.refl (fun b => b = I.m) w14).setCell (p := ⟨I.m, k * 4, none⟩) (fun _ => rfl) (.int .i64 (bt : Int))).setCell (p := ⟨I.m, k * 4 + 1, none⟩) (fun _ => rfl) (.int .i64 (bt : Int))).setCell (p := ⟨I.m, k * 4 + 2, none⟩) (fun _ => rfl) (.int .i64 0)).setCell (p := ⟨I.m, k * 4 + 3, none⟩) (fun _ => rfl) (.slice mA 0 mc))
    rw [← hw15] at htm hmm
    have HP15 := Lib.hid (HP14.out.setM hmm htm)
    have HX15 := Lib.hid (hmm.whole HX14.out (by show ¬ gx = I.m; have := HO.out; omega))
    have HB15 := Lib.hid (show Below I.v w w15 from HB14.out.trans (hmm.below (by have := HP14.out.top; have := HO.out; omega) (fun b hb => by have hb : b = I.m := hb; have := HO.out; omega)))
    clear htm hmm
    have mg15 := HP15.out.m.cell encE4_len hk6 0 _ rfl
    simp only [Nat.add_zero, if_true] at mg15
    rw [hw15] at mg15
    have HW15 := Lib.hid hw15
    clear hw15
    by_cases hb0 : bt = 0
    case neg =>
      have HNO3 := Lib.hid (HNO2.out.trans (by rw [if_neg hb0]))
      have hbb : ((bt : Int) == 0) = false := by simpa using hb0
      have hbI : ¬ (bt : Int) = 0 := by omega
      clear hb0
      have x0 := HX15.out.cell 0 _ rfl
      have x1 := HX15.out.cell 1 _ rfl
      have x2 := HX15.out.cell 2 _ rfl
      have x3 := HX15.out.cell 3 _ rfl
      have x4 := HX15.out.cell 4 _ rfl
      have x5 := HX15.out.cell 5 _ rfl
      have x6 := HX15.out.cell 6 _ rfl
      have x7 := HX15.out.cell 7 _ rfl
      have y0 := HP15.out.v.cell encEv_len hcn 0 _ rfl
      have f0 := Own.stand HP15.out.v (cc * 8 + 0)
      have y1 := HP15.out.v.cell encEv_len hcn 1 _ rfl
      have f1 := Own.stand HP15.out.v (cc * 8 + 1)
      have y2 := HP15.out.v.cell encEv_len hcn 2 _ rfl
      have f2 := Own.stand HP15.out.v (cc * 8 + 2)
      have y3 := HP15.out.v.cell encEv_len hcn 3 _ rfl
      have f3 := Own.stand HP15.out.v (cc * 8 + 3)
      have y4 := HP15.out.v.cell encEv_len hcn 4 _ rfl
      have f4 := Own.stand HP15.out.v (cc * 8 + 4)
      have y5 := HP15.out.v.cell encEv_len hcn 5 _ rfl
      have f5 := Own.stand HP15.out.v (cc * 8 + 5)
      have y6 := HP15.out.v.cell encEv_len hcn 6 _ rfl
      have f6 := Own.stand HP15.out.v (cc * 8 + 6)
      have y7 := HP15.out.v.cell encEv_len hcn 7 _ rfl
      have f7 := Own.stand HP15.out.v (cc * 8 + 7)
      simp only [Nat.add_zero] at y0 f0
      rw [HW15.out] at x0 y0 f0 x1 y1 f1 x2 y2 f2 x3 y3 f3 x4 y4 f4 x5 y5 f5 x6 y6 f6 x7 y7 f7
      obtain ⟨wz, hwz⟩ : ∃ wz, wz = ((((((((w15.setCell ⟨I.v, cc * 8, none⟩ (.int .i64 z.p1)).setCell ⟨I.v, cc * 8 + 1, none⟩ (.int .i64 z.p2)).setCell ⟨I.v, cc * 8 + 2, none⟩ (.int .i64 z.a1)).setCell ⟨I.v, cc * 8 + 3, none⟩ (.int .i64 z.a2)).setCell ⟨I.v, cc * 8 + 4, none⟩ (.int .i64 z.g)).setCell ⟨I.v, cc * 8 + 5, none⟩ (.int .i64 z.e)).setCell ⟨I.v, cc * 8 + 6, none⟩ (.int .i64 z.r)).setCell ⟨I.v, cc * 8 + 7, none⟩ (.slice z.A 0 z.c)) := ⟨_, rfl⟩
      have htv := HP15.out.v.put8 hcn z
      have hmz := (((((((((Mv.refl (fun b => b = I.v) w15).setCell (p := ⟨I.v, cc * 8, none⟩) (fun _ => rfl) (.int .i64 z.p1)).setCell (p := ⟨I.v, cc * 8 + 1, none⟩) (fun _ => rfl) (.int .i64 z.p2)).setCell (p := ⟨I.v, cc * 8 + 2, none⟩) (fun _ => rfl) (.int .i64 z.a1)).setCell (p := ⟨I.v, cc * 8 + 3, none⟩) (fun _ => rfl) (.int .i64 z.a2)).setCell (p := ⟨I.v, cc * 8 + 4, none⟩) (fun _ => rfl) (.int .i64 z.g)).setCell (p := ⟨I.v, cc * 8 + 5, none⟩) (fun _ => rfl) (.int .i64 z.e)).setCell (p := ⟨I.v, cc * 8 + 6, none⟩) (fun _ => rfl) (.int .i64 z.r)).setCell (p := ⟨I.v, cc * 8 + 7, none⟩) (fun _ => rfl) (.slice z.A 0 z.c))
      rw [← hwz] at htv hmz
      have HPZ := Lib.hid (HP15.out.setV hmz htv)
      have HBZ := Lib.hid (show Below I.v w wz from HB15.out.trans (hmz.below (by have := HB15.out.size; have := HGV.out; omega) (fun i h => Nat.le_of_eq h.symm)))
      have HWZ := Lib.hid hwz
      clear htv hmz hwz
      go_wp2_with fail
      rw [← HW15.out]
      rw [← HWZ.out]
      clear x0 y0 f0 x1 y1 f1 x2 y2 f2 x3 y3 f3 x4 y4 f4 x5 y5 f5 x6 y6 f6 x7 y7 f7
      go_roundw
      case rel => exact ⟨i + 1, s.askS n cc k, ch, _, _, _, _, _, _, CA, Cc, by omega, by go_num, HPZ, Lib.hid (by rw [HNO3.out]; have h := ((HL.out.promise HZ.out).tell (c := cc) hk6 HZ.out).fix (k := k) (x := bt) (m := ⟨(bt : Int), (bt : Int), 0, mA, mc⟩) ⟨rfl, rfl, rfl⟩; rw [← HR0.out] at h; exact h), Lib.hid (HOK.out.askS hcn), Lib.hid (HCH.out.askS HOK.out), HBZ⟩
      case measure => simp [intOf]; omega
    subst hb0
    simp only [show ((0 : Nat) : Int) = 0 from rfl] at mg15 HW15 HP15
    have HNO3 := Lib.hid (HNO2.out.trans (by rw [if_pos rfl]))
    have mm0 := HP15.out.m.cell encE4_len hk6 0 _ rfl
    have mf0 := Own.stand HP15.out.m (k * 4 + 0)
    have mm1 := HP15.out.m.cell encE4_len hk6 1 _ rfl
    have mf1 := Own.stand HP15.out.m (k * 4 + 1)
    have mm2 := HP15.out.m.cell encE4_len hk6 2 _ rfl
    have mf2 := Own.stand HP15.out.m (k * 4 + 2)
    have mm3 := HP15.out.m.cell encE4_len hk6 3 _ rfl
    have mf3 := Own.stand HP15.out.m (k * 4 + 3)
    simp only [Nat.add_zero] at mm0 mf0
    rw [HW15.out] at mm0 mf0 mm1 mf1 mm2 mf2 mm3 mf3
    obtain ⟨w16, hw16⟩ : ∃ w16, w16 = ((((w15.setCell ⟨I.m, k * 4, none⟩ (.int .i64 ((k : Int) + 1))).setCell ⟨I.m, k * 4 + 1, none⟩ (.int .i64 ((k : Int) + 1))).setCell ⟨I.m, k * 4 + 2, none⟩ (.int .i64 0)).setCell ⟨I.m, k * 4 + 3, none⟩ (.slice none 0 0)) := ⟨_, rfl⟩
    have htm := HP15.out.m.put4 hk6 ⟨(k : Int) + 1, (k : Int) + 1, 0, none, 0⟩
    have hmm := (((((Mv.refl (fun b => b = I.m) w15).setCell (p := ⟨I.m, k * 4, none⟩) (fun _ => rfl) (.int .i64 ((k : Int) + 1))).setCell (p := ⟨I.m, k * 4 + 1, none⟩) (fun _ => rfl) (.int .i64 ((k : Int) + 1))).setCell (p := ⟨I.m, k * 4 + 2, none⟩) (fun _ => rfl) (.int .i64 0)).setCell (p := ⟨I.m, k * 4 + 3, none⟩) (fun _ => rfl) (.slice none 0 0))
    rw [← hw16] at htm hmm
    have htm := htm.again
    have HP16 := Lib.hid (HP15.out.setM hmm htm)
    have HX16 := Lib.hid (hmm.whole HX15.out (by show ¬ gx = I.m; have := HO.out; omega))
    have HB16 := Lib.hid (show Below I.v w w16 from HB15.out.trans (hmm.below (by have := HP15.out.top; have := HO.out; omega) (fun b hb => by have hb : b = I.m := hb; have := HO.out; omega)))
    clear htm hmm
    rw [HW15.out] at hw16
    have HW16 := Lib.hid hw16
    clear hw16
    have x0 := HX16.out.cell 0 _ rfl
    have x1 := HX16.out.cell 1 _ rfl
    have x2 := HX16.out.cell 2 _ rfl
    have x3 := HX16.out.cell 3 _ rfl
    have x4 := HX16.out.cell 4 _ rfl
    have x5 := HX16.out.cell 5 _ rfl
    have x6 := HX16.out.cell 6 _ rfl
    have x7 := HX16.out.cell 7 _ rfl
    have y0 := HP16.out.v.cell encEv_len hcn 0 _ rfl
    have f0 := Own.stand HP16.out.v (cc * 8 + 0)
    have y1 := HP16.out.v.cell encEv_len hcn 1 _ rfl
    have f1 := Own.stand HP16.out.v (cc * 8 + 1)
    have y2 := HP16.out.v.cell encEv_len hcn 2 _ rfl
    have f2 := Own.stand HP16.out.v (cc * 8 + 2)
    have y3 := HP16.out.v.cell encEv_len hcn 3 _ rfl
    have f3 := Own.stand HP16.out.v (cc * 8 + 3)
    have y4 := HP16.out.v.cell encEv_len hcn 4 _ rfl
    have f4 := Own.stand HP16.out.v (cc * 8 + 4)
    have y5 := HP16.out.v.cell encEv_len hcn 5 _ rfl
    have f5 := Own.stand HP16.out.v (cc * 8 + 5)
    have y6 := HP16.out.v.cell encEv_len hcn 6 _ rfl
    have f6 := Own.stand HP16.out.v (cc * 8 + 6)
    have y7 := HP16.out.v.cell encEv_len hcn 7 _ rfl
    have f7 := Own.stand HP16.out.v (cc * 8 + 7)
    simp only [Nat.add_zero] at y0 f0
    rw [HW16.out] at x0 y0 f0 x1 y1 f1 x2 y2 f2 x3 y3 f3 x4 y4 f4 x5 y5 f5 x6 y6 f6 x7 y7 f7
    obtain ⟨wz, hwz⟩ : ∃ wz, wz = ((((((((w16.setCell ⟨I.v, cc * 8, none⟩ (.int .i64 z.p1)).setCell ⟨I.v, cc * 8 + 1, none⟩ (.int .i64 z.p2)).setCell ⟨I.v, cc * 8 + 2, none⟩ (.int .i64 z.a1)).setCell ⟨I.v, cc * 8 + 3, none⟩ (.int .i64 z.a2)).setCell ⟨I.v, cc * 8 + 4, none⟩ (.int .i64 z.g)).setCell ⟨I.v, cc * 8 + 5, none⟩ (.int .i64 z.e)).setCell ⟨I.v, cc * 8 + 6, none⟩ (.int .i64 z.r)).setCell ⟨I.v, cc * 8 + 7, none⟩ (.slice z.A 0 z.c)) := ⟨_, rfl⟩
    have htv := HP16.out.v.put8 hcn z
    have hmz := (((((((((Mv.refl (fun b => b = I.v) w16).setCell (p := ⟨I.v, cc * 8, none⟩) (fun _ => rfl) (.int .i64 z.p1)).setCell (p := ⟨I.v, cc * 8 + 1, none⟩) (fun _ => rfl) (.int .i64 z.p2)).setCell (p := ⟨I.v, cc * 8 + 2, none⟩) (fun _ => rfl) (.int .i64 z.a1)).setCell (p := ⟨I.v, cc * 8 + 3, none⟩) (fun _ => rfl) (.int .i64 z.a2)).setCell (p := ⟨I.v, cc * 8 + 4, none⟩) (fun _ => rfl) (.int .i64 z.g)).setCell (p := ⟨I.v, cc * 8 + 5, none⟩) (fun _ => rfl) (.int .i64 z.e)).setCell (p := ⟨I.v, cc * 8 + 6, none⟩) (fun _ => rfl) (.int .i64 z.r)).setCell (p := ⟨I.v, cc * 8 + 7, none⟩) (fun _ => rfl) (.slice z.A 0 z.c))
    rw [← hwz] at htv hmz
    have HPZ := Lib.hid (HP16.out.setV hmz htv)
    have HBZ := Lib.hid (show Below I.v w wz from HB16.out.trans (hmz.below (by have := HB16.out.size; have := HGV.out; omega) (fun i h => Nat.le_of_eq h.symm)))
    have HWZ := Lib.hid hwz
    clear htv hmz hwz
    go_wp2_with fail
    rw [← HW16.out]
    rw [← HWZ.out]
    clear x0 y0 f0 x1 y1 f1 x2 y2 f2 x3 y3 f3 x4 y4 f4 x5 y5 f5 x6 y6 f6 x7 y7 f7
    go_roundw
    case rel => exact ⟨i + 1, s.askS n cc k, ch, _, _, _, _, _, _, CA, Cc, by omega, by go_num, HPZ, Lib.hid (by rw [HNO3.out]; have h := ((HL.out.promise HZ.out).tell (c := cc) hk6 HZ.out).fix (k := k) (x := k + 1) (m := ⟨(k : Int) + 1, (k : Int) + 1, 0, none, 0⟩) ⟨by simp, by simp, rfl⟩; rw [← HR0.out] at h; exact h), Lib.hid (HOK.out.askS hcn), Lib.hid (HCH.out.askS HOK.out), HBZ⟩
    case measure => simp [intOf]; omega

set_option maxHeartbeats 8000000 in
set_option maxRecDepth 100000 in
theorem onceTake : onceSplit.1.2 := by
  intro u hu l w hl c zq1 HF n hn3 w1 w2 w3 w4 HN zq2 zq3 u33 u34 u35 u36 u37 u38 u39 u40 u41 r zq4 zq5 wA w5 w6 zq6 zq7 u44 u45 u46 u47 u48 u49 u50 u51 u52 r2 hi6 hlt wB I HB4 HGV HIOK zq8 zq9 zq10 wr u4 u15 u16 u17 u18 u19 u20 u21 u22 u23 u53 u54 u55 u56 u57 u58 u59 u60 u61 u62 u63 u64 u65 u66 u67 u68 u69 u70 u71 u72 u73 u74 u75 u76 u77 u78 u79 u80 u81 u82 u83 u84 u85 u86 u87 u88 u89 u90 u91 u92 u93 u94 u95 u96 u97 u98 u99 u100 u101 u102 u103 u104 u105 u106 u107 u108 u109 u110 u111 u112 u113 u114 u115 u116 u117 u118 u119 u120 u121 u122 u123 u124 u125 u126 u127 u128 u129 u130 u131 u132 u133 u134 u135 u136 u137 u138 u139 u140 u141 u142 u143 u144 u145 u146 u147 u148 u149 u150 u151 u152 u153 u154 u155 u156 u157 u158 u159 u160 u161 u162 u163 u164 u165 u166 u167 u168 u169 u170 u171 u172 u173 u174 u175 u176 u177 u178 u179 u180 u181 u182 u183 u184 u185 u186 u187 u188 u189 u190 u191 u192 u193 u194 u195 u196 u197 u198 u199 u200 u201 u202 u203 u204 u205 u206 u207 u208 u209 u210 u211 u212 u213 u214 u215 u216 u217 u218 u219 u220 u221 u222 u223 u224 u225 u226 u227 u228 i s ch V T R M Q K CA Cc hil HL HOK HCH h1 h1I h2 h2I h0I b o HI zq11 zq12 zq13 zq14 hbB wh co ba zq15 k cc hk6 hcn HK zq16 zq17 zq18 zq19 zq20 w7 hs7 w8 gb HY8 HP8 HB8 q0 zq21 zq22 HW8 hs8 hgb8 hgtop hk0I hk6I hc0I hcnI HGB hwh
  have hm0 := HL.out.m k hk6
  have mg8 := HP8.out.m.cell encE4_len hk6 0 _ rfl
  simp only [Nat.add_zero] at mg8
  rw [hm0.1] at mg8
  have hwhb : (wh == 0) = false := by simpa using hwh
  by_cases hmk : s.mine k = 0
  case pos =>
    rw [hmk] at mg8
    simp only [show ((0 : Nat) : Int) = 0 from rfl] at mg8
    rw [HW8.out] at mg8
    clear hm0 hmk
    go_wp2_with fail
    rw [← HW8.out]
    go_roundw
    case rel => exact ⟨i + 1, s, ch, V, T, R, M, Q, K, CA, Cc, by omega, by go_num, HP8, HL, HOK, HCH, HB8⟩
    case measure => simp [intOf]; omega
  have hmb : ((s.mine k : Int) == 0) = false := by simpa using hmk
  have hmI0 : ¬ (s.mine k : Int) = 0 := by omega
  rw [HW8.out] at mg8
  have HTR := Lib.hid (take_ev (V cc) (M k) (s.p cc) (s.a cc) (s.t cc) k (s.mine k) (HL.out.v cc hcn) hm0)
  clear hm0
  go_wp2_with fail
  rw [← HW8.out, ← HGB.out]
  clear q0 mg8 HW8 HGB
  refine wp_region_mid (fun a0 a' w' => ∃ (z : Ev) (gx : Nat), a' = (((((((((((((((a0.put (some 172) (.slice (some ⟨I.v, 0, none⟩) n n)).put (some 173) (.int .i64 cc)).put (some 174) (.pointer (some ⟨I.v, cc * 8, none⟩))).put (some 175) (.agg #[.int .i64 (V cc).p1, .int .i64 (V cc).p2, .int .i64 (V cc).a1, .int .i64 (V cc).a2, .int .i64 (V cc).g, .int .i64 (V cc).e, .int .i64 (V cc).r, .slice (V cc).A 0 (V cc).c])).put (some 176) (.agg #[.int .i64 ((k : Int) + 1), .int .i64 ((k : Int) % 2)])).put (some 177) (.slice (some ⟨I.m, 0, none⟩) 6 6)).put (some 178) (.int .i64 k)).put (some 179) (.pointer (some ⟨I.m, k * 4, none⟩))).put (some 180) (.agg #[.int .i64 (M k).g, .int .i64 (M k).e, .int .i64 (M k).r, .slice (M k).A 0 (M k).c])).put (some 181) (.tuple #[.agg #[.int .i64 z.p1, .int .i64 z.p2, .int .i64 z.a1, .int .i64 z.a2, .int .i64 z.g, .int .i64 z.e, .int .i64 z.r, .slice z.A 0 z.c], .bool (!decide (k + 1 < s.p cc))])).put (some 171) (.tuple #[.agg #[.int .i64 z.p1, .int .i64 z.p2, .int .i64 z.a1, .int .i64 z.a2, .int .i64 z.g, .int .i64 z.e, .int .i64 z.r, .slice z.A 0 z.c], .bool (!decide (k + 1 < s.p cc))])).put (some 182) (.agg #[.int .i64 z.p1, .int .i64 z.p2, .int .i64 z.a1, .int .i64 z.a2, .int .i64 z.g, .int .i64 z.e, .int .i64 z.r, .slice z.A 0 z.c])).put (some 183) (.bool (!decide (k + 1 < s.p cc)))).put (some 20) (.pointer (some ⟨gx, 0, none⟩))).put (some 21) (.bool (!decide (k + 1 < s.p cc)))) ∧ z.vw = (if k + 1 < s.p cc then vowOf (s.p cc) (s.a cc) (s.t cc) else vowOf (k + 1) (k + 1) (s.mine k)) ∧ Below w8.heap.size w8 w' ∧ Whole w' gx 31 [.int .i64 z.p1, .int .i64 z.p2, .int .i64 z.a1, .int .i64 z.a2, .int .i64 z.g, .int .i64 z.e, .int .i64 z.r, .slice z.A 0 z.c] ∧ w8.heap.size ≤ gx) ?r32 ?k32
  case r32 =>
    obtain ⟨W0, hW0⟩ : ∃ W0, W0 = w8 := ⟨_, rfl⟩
    have hd0 : Below w8.heap.size w8 w8.drew := (Below.refl _ _).drew
    refine wp_region_planT (fun W => Below w8.heap.size w8 W) (.take 0 (.take 1 (.take 2 (.take 3 (.take 4 (.take 5 (.take 6 (.take 7 (.take 8 (.fork 9 (.take 10 (.take 11 (.take 12 (.step 13 (.step 14 (.take 15 .done)))))) 13 (.step 9 (.take 10 (.take 11 (.take 12 (.step 14 (.take 15 .done)))))))))))))))) (by kernel_rfl) (by kernel_rfl) (fun _ _ _ _ _ h => by cases h.1) hd0 ?_
    obtain ⟨wd, hwd⟩ : ∃ wd, wd = w8.drew := ⟨_, rfl⟩
    rw [← hwd] at hd0 ⊢
    clear hwd hW0
    iterate 9 (refine PlanT.takeI (v := ?_) rfl rfl ?_ ?_; rotate_left; (focus (intro W hW; have hp := HP8.out.below hW; have y0 := hp.v.cell encEv_len hcn 0 _ rfl; have y1 := hp.v.cell encEv_len hcn 1 _ rfl; have y2 := hp.v.cell encEv_len hcn 2 _ rfl; have y3 := hp.v.cell encEv_len hcn 3 _ rfl; have y4 := hp.v.cell encEv_len hcn 4 _ rfl; have y5 := hp.v.cell encEv_len hcn 5 _ rfl; have y6 := hp.v.cell encEv_len hcn 6 _ rfl; have y7 := hp.v.cell encEv_len hcn 7 _ rfl; have hy := HY8.out.below hW HY8.out.size; have b0 := hy.cell 0 _ rfl; have b1 := hy.cell 1 _ rfl; clear hp hy; simp only [Nat.add_zero] at y0; have m0 := (HP8.out.below hW).m.cell encE4_len hk6 0 _ rfl; have m1 := (HP8.out.below hW).m.cell encE4_len hk6 1 _ rfl; have m2 := (HP8.out.below hW).m.cell encE4_len hk6 2 _ rfl; have m3 := (HP8.out.below hW).m.cell encE4_len hk6 3 _ rfl; simp only [Nat.add_zero] at m0; go_simp; (try with_reducible rfl); done)); (try simp only [Act.put, List.setIfInBounds_toArray, List.set_cons_zero, List.set_cons_succ]))
    refine ⟨?_, ?_⟩
    · skip
      refine wpOp_stepT rfl rfl (fun Kk hK => ?_)
      go_simp
      refine (HTR.out _).mono ?_
      rintro e wa ⟨z, rfl, hz, hb⟩
      have hd1 := hd0.trans (hb.mono hd0.size)
      refine hK.out _ _ hd1 ?_
      clear hK Kk
      (try simp only [Act.put, List.setIfInBounds_toArray, List.set_cons_zero, List.set_cons_succ])
      clear hb
      iterate 3 (refine PlanT.takeI (v := ?_) rfl rfl ?_ ?_; rotate_left; (focus (intro W hW; go_simp; (try with_reducible rfl); done)); (try simp only [Act.put, List.setIfInBounds_toArray, List.set_cons_zero, List.set_cons_succ]))
      refine wpOp_stepT rfl rfl (fun Kk hK => ?_)
      go_simp
      obtain ⟨wb, hE⟩ : ∃ V, V = wa.alloc (.cells #[.int .i64 0, .int .i64 0, .int .i64 0, .int .i64 0, .int .i64 0, .int .i64 0, .int .i64 0, .slice none 0 0] 31) := ⟨_, rfl⟩
      have hd2 : Below w8.heap.size w8 wb := by rw [hE]; exact hd1.alloc hd1.size _
      have hx : Whole wb wa.heap.size 31 [.int .i64 0, .int .i64 0, .int .i64 0, .int .i64 0, .int .i64 0, .int .i64 0, .int .i64 0, .slice none 0 0] := by rw [hE]; exact Whole.fresh wa _ [.int .i64 0, .int .i64 0, .int .i64 0, .int .i64 0, .int .i64 0, .int .i64 0, .int .i64 0, .slice none 0 0]
      have hg : w8.heap.size ≤ wa.heap.size := hd1.size
      rw [← hE]
      obtain ⟨gx, hgx⟩ : ∃ X, X = wa.heap.size := ⟨_, rfl⟩
      rw [← hgx] at hx hg ⊢
      clear hE hgx
      refine hK.out _ _ hd2 ?_
      clear hK Kk
      (try simp only [Act.put, List.setIfInBounds_toArray, List.set_cons_zero, List.set_cons_succ])
      refine wpOp_stepT rfl rfl (fun Kk hK => ?_)
      have c0 := hx.cell 0 _ rfl
      have f0 := hx.frozen 0
      have c1 := hx.cell 1 _ rfl
      have f1 := hx.frozen 1
      have c2 := hx.cell 2 _ rfl
      have f2 := hx.frozen 2
      have c3 := hx.cell 3 _ rfl
      have f3 := hx.frozen 3
      have c4 := hx.cell 4 _ rfl
      have f4 := hx.frozen 4
      have c5 := hx.cell 5 _ rfl
      have f5 := hx.frozen 5
      have c6 := hx.cell 6 _ rfl
      have f6 := hx.frozen 6
      have c7 := hx.cell 7 _ rfl
      have f7 := hx.frozen 7
      go_simp
      have hx2 := ((((((((hx.put 0 (.int .i64 z.p1)).put 1 (.int .i64 z.p2)).put 2 (.int .i64 z.a1)).put 3 (.int .i64 z.a2)).put 4 (.int .i64 z.g)).put 5 (.int .i64 z.e)).put 6 (.int .i64 z.r)).put 7 (.slice z.A 0 z.c))
      simp only [List.set] at hx2
      have hd8 := ((((((((hd2.setCell (p := ⟨gx, 0, none⟩) hg (.int .i64 z.p1)).setCell (p := ⟨gx, 1, none⟩) hg (.int .i64 z.p2)).setCell (p := ⟨gx, 2, none⟩) hg (.int .i64 z.a1)).setCell (p := ⟨gx, 3, none⟩) hg (.int .i64 z.a2)).setCell (p := ⟨gx, 4, none⟩) hg (.int .i64 z.g)).setCell (p := ⟨gx, 5, none⟩) hg (.int .i64 z.e)).setCell (p := ⟨gx, 6, none⟩) hg (.int .i64 z.r)).setCell (p := ⟨gx, 7, none⟩) hg (.slice z.A 0 z.c))
      clear c0 f0 c1 f1 c2 f2 c3 f3 c4 f4 c5 f5 c6 f6 c7 f7
      refine hK.out _ _ hd8 ?_
      clear hK Kk
      (try simp only [Act.put, List.setIfInBounds_toArray, List.set_cons_zero, List.set_cons_succ])
      iterate 1 (refine PlanT.takeI (v := ?_) rfl rfl ?_ ?_; rotate_left; (focus (intro W hW; go_simp; (try with_reducible rfl); done)); (try simp only [Act.put, List.setIfInBounds_toArray, List.set_cons_zero, List.set_cons_succ]))
      simp only [PlanT]
      exact ⟨(by first | rfl | trivial), z, gx, (by first | rfl | (simp only [Act.put, List.setIfInBounds_toArray, List.set_cons_zero, List.set_cons_succ])), hz, hd8, hx2, hg⟩
    · skip
      refine wpOp_stepT rfl rfl (fun Kk hK => ?_)
      go_simp
      obtain ⟨wa, hE⟩ : ∃ V, V = wd.alloc (.cells #[.int .i64 0, .int .i64 0, .int .i64 0, .int .i64 0, .int .i64 0, .int .i64 0, .int .i64 0, .slice none 0 0] 31) := ⟨_, rfl⟩
      have hd1 : Below w8.heap.size w8 wa := by rw [hE]; exact hd0.alloc hd0.size _
      have hx : Whole wa wd.heap.size 31 [.int .i64 0, .int .i64 0, .int .i64 0, .int .i64 0, .int .i64 0, .int .i64 0, .int .i64 0, .slice none 0 0] := by rw [hE]; exact Whole.fresh wd _ [.int .i64 0, .int .i64 0, .int .i64 0, .int .i64 0, .int .i64 0, .int .i64 0, .int .i64 0, .slice none 0 0]
      have hg : w8.heap.size ≤ wd.heap.size := hd0.size
      rw [← hE]
      obtain ⟨gx, hgx⟩ : ∃ X, X = wd.heap.size := ⟨_, rfl⟩
      rw [← hgx] at hx hg ⊢
      clear hE hgx
      refine hK.out _ _ hd1 ?_
      clear hK Kk
      (try simp only [Act.put, List.setIfInBounds_toArray, List.set_cons_zero, List.set_cons_succ])
      refine wpOp_stepT rfl rfl (fun Kk hK => ?_)
      go_simp
      refine (HTR.out _).mono ?_
      rintro e wb ⟨z, rfl, hz, hb⟩
      have hd2 := hd1.trans (hb.mono hd1.size)
      replace hx := hx.below hb hx.size
      refine hK.out _ _ hd2 ?_
      clear hK Kk
      (try simp only [Act.put, List.setIfInBounds_toArray, List.set_cons_zero, List.set_cons_succ])
      clear hb
      iterate 3 (refine PlanT.takeI (v := ?_) rfl rfl ?_ ?_; rotate_left; (focus (intro W hW; go_simp; (try with_reducible rfl); done)); (try simp only [Act.put, List.setIfInBounds_toArray, List.set_cons_zero, List.set_cons_succ]))
      refine wpOp_stepT rfl rfl (fun Kk hK => ?_)
      have c0 := hx.cell 0 _ rfl
      have f0 := hx.frozen 0
      have c1 := hx.cell 1 _ rfl
      have f1 := hx.frozen 1
      have c2 := hx.cell 2 _ rfl
      have f2 := hx.frozen 2
      have c3 := hx.cell 3 _ rfl
      have f3 := hx.frozen 3
      have c4 := hx.cell 4 _ rfl
      have f4 := hx.frozen 4
      have c5 := hx.cell 5 _ rfl
      have f5 := hx.frozen 5
      have c6 := hx.cell 6 _ rfl
      have f6 := hx.frozen 6
      have c7 := hx.cell 7 _ rfl
      have f7 := hx.frozen 7
      go_simp
      have hx2 := ((((((((hx.put 0 (.int .i64 z.p1)).put 1 (.int .i64 z.p2)).put 2 (.int .i64 z.a1)).put 3 (.int .i64 z.a2)).put 4 (.int .i64 z.g)).put 5 (.int .i64 z.e)).put 6 (.int .i64 z.r)).put 7 (.slice z.A 0 z.c))
      simp only [List.set] at hx2
      have hd8 := ((((((((hd2.setCell (p := ⟨gx, 0, none⟩) hg (.int .i64 z.p1)).setCell (p := ⟨gx, 1, none⟩) hg (.int .i64 z.p2)).setCell (p := ⟨gx, 2, none⟩) hg (.int .i64 z.a1)).setCell (p := ⟨gx, 3, none⟩) hg (.int .i64 z.a2)).setCell (p := ⟨gx, 4, none⟩) hg (.int .i64 z.g)).setCell (p := ⟨gx, 5, none⟩) hg (.int .i64 z.e)).setCell (p := ⟨gx, 6, none⟩) hg (.int .i64 z.r)).setCell (p := ⟨gx, 7, none⟩) hg (.slice z.A 0 z.c))
      clear c0 f0 c1 f1 c2 f2 c3 f3 c4 f4 c5 f5 c6 f6 c7 f7
      refine hK.out _ _ hd8 ?_
      clear hK Kk
      (try simp only [Act.put, List.setIfInBounds_toArray, List.set_cons_zero, List.set_cons_succ])
      iterate 1 (refine PlanT.takeI (v := ?_) rfl rfl ?_ ?_; rotate_left; (focus (intro W hW; go_simp; (try with_reducible rfl); done)); (try simp only [Act.put, List.setIfInBounds_toArray, List.set_cons_zero, List.set_cons_succ]))
      simp only [PlanT]
      exact ⟨(by first | rfl | trivial), z, gx, (by first | rfl | (simp only [Act.put, List.setIfInBounds_toArray, List.set_cons_zero, List.set_cons_succ])), hz, hd8, hx2, hg⟩
  case k32 =>
    rintro a' w9 ⟨z, gx, rfl, hz, hd9, hx9, hg9⟩
    (try simp only [Act.put, List.setIfInBounds_toArray, List.set_cons_zero, List.set_cons_succ])
    have HX9 := Lib.hid hx9
    have HP9 := Lib.hid (HP8.out.below hd9)
    have HB9 := Lib.hid (show Below I.v w w9 from HB8.out.trans (hd9.mono hs8))
    have hs9 : I.v ≤ w9.heap.size := Nat.le_trans hs8 hd9.size
    have HO := Lib.hid HP9.out.ids.o
    have HRK := Lib.hid (HP9.out.ids.rk k hk6)
    have HMK := Lib.hid (show s.mine k ≠ 0 from hmk)
    clear hd9 hx9 HTR HP8 HB8 HY8 hmb hmI0 hmk hwhb hwh
    have x0 := HX9.out.cell 0 _ rfl
    have x1 := HX9.out.cell 1 _ rfl
    have x2 := HX9.out.cell 2 _ rfl
    have x3 := HX9.out.cell 3 _ rfl
    have x4 := HX9.out.cell 4 _ rfl
    have x5 := HX9.out.cell 5 _ rfl
    have x6 := HX9.out.cell 6 _ rfl
    have x7 := HX9.out.cell 7 _ rfl
    have y0 := HP9.out.v.cell encEv_len hcn 0 _ rfl
    have f0 := Own.stand HP9.out.v (cc * 8 + 0)
    have y1 := HP9.out.v.cell encEv_len hcn 1 _ rfl
    have f1 := Own.stand HP9.out.v (cc * 8 + 1)
    have y2 := HP9.out.v.cell encEv_len hcn 2 _ rfl
    have f2 := Own.stand HP9.out.v (cc * 8 + 2)
    have y3 := HP9.out.v.cell encEv_len hcn 3 _ rfl
    have f3 := Own.stand HP9.out.v (cc * 8 + 3)
    have y4 := HP9.out.v.cell encEv_len hcn 4 _ rfl
    have f4 := Own.stand HP9.out.v (cc * 8 + 4)
    have y5 := HP9.out.v.cell encEv_len hcn 5 _ rfl
    have f5 := Own.stand HP9.out.v (cc * 8 + 5)
    have y6 := HP9.out.v.cell encEv_len hcn 6 _ rfl
    have f6 := Own.stand HP9.out.v (cc * 8 + 6)
    have y7 := HP9.out.v.cell encEv_len hcn 7 _ rfl
    have f7 := Own.stand HP9.out.v (cc * 8 + 7)
    simp only [Nat.add_zero] at y0 f0
    obtain ⟨w10, hw10⟩ : ∃ w10, w10 = ((((((((w9.setCell ⟨I.v, cc * 8, none⟩ (.int .i64 z.p1)).setCell ⟨I.v, cc * 8 + 1, none⟩ (.int .i64 z.p2)).setCell ⟨I.v, cc * 8 + 2, none⟩ (.int .i64 z.a1)).setCell ⟨I.v, cc * 8 + 3, none⟩ (.int .i64 z.a2)).setCell ⟨I.v, cc * 8 + 4, none⟩ (.int .i64 z.g)).setCell ⟨I.v, cc * 8 + 5, none⟩ (.int .i64 z.e)).setCell ⟨I.v, cc * 8 + 6, none⟩ (.int .i64 z.r)).setCell ⟨I.v, cc * 8 + 7, none⟩ (.slice z.A 0 z.c)) := ⟨_, rfl⟩
    have htv := HP9.out.v.put8 hcn z
    have hmz := (((((((((Mv.refl (fun b => b = I.v) w9).setCell (p := ⟨I.v, cc * 8, none⟩) (fun _ => rfl) (.int .i64 z.p1)).setCell (p := ⟨I.v, cc * 8 + 1, none⟩) (fun _ => rfl) (.int .i64 z.p2)).setCell (p := ⟨I.v, cc * 8 + 2, none⟩) (fun _ => rfl) (.int .i64 z.a1)).setCell (p := ⟨I.v, cc * 8 + 3, none⟩) (fun _ => rfl) (.int .i64 z.a2)).setCell (p := ⟨I.v, cc * 8 + 4, none⟩) (fun _ => rfl) (.int .i64 z.g)).setCell (p := ⟨I.v, cc * 8 + 5, none⟩) (fun _ => rfl) (.int .i64 z.e)).setCell (p := ⟨I.v, cc * 8 + 6, none⟩) (fun _ => rfl) (.int .i64 z.r)).setCell (p := ⟨I.v, cc * 8 + 7, none⟩) (fun _ => rfl) (.slice z.A 0 z.c))
    rw [← hw10] at htv hmz
    have HP10 := Lib.hid (HP9.out.setV hmz htv)
    have HB10 := Lib.hid (show Below I.v w w10 from HB9.out.trans (hmz.below (by have := HB9.out.size; have := HGV.out; omega) (fun i h => Nat.le_of_eq h.symm)))
    clear htv hmz
    by_cases hok : k + 1 < s.p cc
    case pos =>
      have HW10 := Lib.hid hw10
      rw [decide_eq_true hok]
      rw [if_pos hok] at hz
      have HZ := Lib.hid hz
      have HNO := Lib.hid (show s.takeS cc k = s from by unfold Px.takeS; rw [if_pos hok])
      clear hz hok hw10
      have HLX := Lib.hid (HL.out.put HZ.out)
      have HOX := Lib.hid (HOK.out)
      have HCX := Lib.hid (HCH.out)
      have hkt := HP10.out.k.cell encV1_len hk6 0 _ rfl
      simp only [Nat.mul_one, Nat.add_zero] at hkt
      have HKT := Lib.hid hkt
      clear hkt
      go_wp2_with fail
      rw [← HW10.out]
      clear x0 y0 f0 x1 y1 f1 x2 y2 f2 x3 y3 f3 x4 y4 f4 x5 y5 f5 x6 y6 f6 x7 y7 f7
      go_loopw [22, 23] (fun cv jv wr => ∃ j : Nat, j ≤ n ∧ jv = .int .i64 j ∧ cv = .int .i64 (cnt j (K k) : Nat) ∧ wr = w10) (fun _ jv _ => n - (intOf jv).toNat)
      case atStart => exact ⟨0, Nat.zero_le _, rfl, rfl, rfl⟩
      case round =>
        obtain ⟨j, hjn, rfl, rfl, rfl⟩ := hrel
        have hcle := cnt_le j (K k)
        by_cases hj : j < n
        · have hjI : (j : Int) < (n : Int) := by omega
          have hj0 : (0 : Int) ≤ (j : Int) := by omega
          have hkt := HKT.out
          have hkc := (HP10.out.x k hk6).cell encBo_len hj 0 _ rfl
          simp only [Nat.mul_one, Nat.add_zero] at hkc
          have hst := cnt_succ j (K k)
          cases hkj : (K k) j with
          | true =>
            rw [hkj] at hkc hst
            simp only [if_true] at hst
            obtain ⟨cj, hcj⟩ : ∃ cj, cj = cnt j (K k) := ⟨_, rfl⟩
            rw [← hcj] at hst hcle ⊢
            have HST := Lib.hid hst
            have HCJ := Lib.hid hcj
            clear hst hkj hcj
            go_wp2_with fail
            go_roundw
            case rel => exact ⟨j + 1, by omega, by go_num, by rw [HST.out]; go_num, (by first | rfl | trivial)⟩
            case measure => simp [intOf]; omega
          | false =>
            rw [hkj] at hkc hst
            simp only [Bool.false_eq_true, if_false, Nat.add_zero] at hst
            obtain ⟨cj, hcj⟩ : ∃ cj, cj = cnt j (K k) := ⟨_, rfl⟩
            rw [← hcj] at hst hcle ⊢
            have HST := Lib.hid hst
            have HCJ := Lib.hid hcj
            clear hst hkj hcj
            go_wp2_with fail
            go_roundw
            case rel => exact ⟨j + 1, by omega, by go_num, by rw [HST.out], (by first | rfl | trivial)⟩
            case measure => simp [intOf]; omega
        · obtain rfl : j = n := by omega
          have hjI : ¬ (j : Int) < (j : Int) := by omega
          have hct : cnt j (K k) = cnt j ((s).took k) := cnt_congr fun y hy => HLX.out.x k hk6 y hy
          rw [hct]
          rw [hct] at hcle
          have hwr2 : wrap64 (2 * ((cnt j ((s).took k) : Nat) : Int)) = 2 * ((cnt j ((s).took k) : Nat) : Int) := by unfold wrap64; omega
          clear hct
          by_cases hmaj : j < 2 * cnt j ((s).took k)
          case neg =>
            have hmI : 2 * ((cnt j ((s).took k) : Nat) : Int) ≤ (j : Int) := by omega
            generalize cnt j ((s).took k) = cj at hmI hwr2 hcle ⊢
            clear hmaj
            go_wp2_with fail
            go_roundw
            case rel => exact ⟨i + 1, s, ch, _, _, _, _, _, _, CA, Cc, by omega, by go_num, HP10, HLX, HOX, HCX, HB10⟩
            case measure => simp [intOf]; omega
          have hmI : ¬ 2 * ((cnt j ((s).took k) : Nat) : Int) ≤ (j : Int) := by omega
          have hsm := HCX.out.same HOX.out hmaj
          have HNOW := Lib.hid (Px.Chose.now hmaj)
          have hmv := HLX.out.m k hk6
          have HMV := Lib.hid hmv
          generalize cnt j ((s).took k) = cj at hmI hwr2 hcle ⊢
          clear hmaj hmv
          go_wp2_with fail
          have hdz : Below wr.heap.size wr wr.drew := (Below.refl _ _).drew
          by_cases hc0 : ch = 0
          case pos =>
            have c0 := HP10.out.c.cell 0 _ rfl
            rw [hc0] at c0
            simp only [show ((0 : Nat) : Int) = 0 from rfl] at c0
            have HC0 := Lib.hid c0
            clear c0 hsm
            refine wp_region_planB [(true, 0), (true, 1), (true, 2), (true, 3), (true, 4), (true, 5), (true, 6), (true, 7), (true, 8), (false, 9), (true, 10), (true, 11)] (by kernel_rfl) (by kernel_rfl) (fun _ _ d _ _ h => by cases d <;> exact h) ?_
            iterate 4 (refine PlanB.take (v := ?_) rfl rfl ?_ ?_; rotate_left; (focus (intro W hW; have c0 := ((hdz.trans hW).cell (p := ⟨I.c, 0, none⟩) (HP10.out.c.size)).trans HC0.out; go_simp; (try with_reducible rfl); done)); (try simp only [Act.put, List.setIfInBounds_toArray, List.set_cons_zero, List.set_cons_succ]))
            iterate 5 (refine PlanB.skip rfl rfl ?_; (try simp only [Act.put, List.setIfInBounds_toArray, List.set_cons_zero, List.set_cons_succ]))
            refine PlanB.pass rfl rfl ?_
            (try simp only [Act.put, List.setIfInBounds_toArray, List.set_cons_zero, List.set_cons_succ])
            iterate 1 (refine PlanB.skip rfl rfl ?_; (try simp only [Act.put, List.setIfInBounds_toArray, List.set_cons_zero, List.set_cons_succ]))
            iterate 1 (refine PlanB.take (v := ?_) rfl rfl ?_ ?_; rotate_left; (focus (intro W hW; go_simp; (try with_reducible rfl); done)); (try simp only [Act.put, List.setIfInBounds_toArray, List.set_cons_zero, List.set_cons_succ]))
            simp only [PlanB]
            obtain ⟨wq, hwq⟩ : ∃ wq, wq = wr.drew := ⟨_, rfl⟩
            rw [← hwq] at hdz ⊢
            clear hwq HC0
            have HPQ := Lib.hid (HP10.out.below hdz)
            have HBQ := Lib.hid (show Below I.v w wq from HB10.out.trans (hdz.mono (by have := HB10.out.size; have := HGV.out; omega)))
            have m0 := HPQ.out.m.cell encE4_len hk6 0 _ rfl
            have m1 := HPQ.out.m.cell encE4_len hk6 1 _ rfl
            have m2 := HPQ.out.m.cell encE4_len hk6 2 _ rfl
            have m3 := HPQ.out.m.cell encE4_len hk6 3 _ rfl
            obtain ⟨e1, e2, e3⟩ := HMV.out
            rw [e1] at m0
            rw [e2] at m1
            rw [e3] at m2
            simp only [Nat.add_zero] at m0
            have c0 := HPQ.out.c.cell 0 _ rfl
            have c1 := HPQ.out.c.cell 1 _ rfl
            have c2 := HPQ.out.c.cell 2 _ rfl
            have c3 := HPQ.out.c.cell 3 _ rfl
            have f0 := HPQ.out.c.frozen 0
            have f1 := HPQ.out.c.frozen 1
            have f2 := HPQ.out.c.frozen 2
            have f3 := HPQ.out.c.frozen 3
            obtain ⟨mk, hmk⟩ : ∃ mk, mk = (s).mine k := ⟨_, rfl⟩
            rw [← hmk] at m0 m1
            have HMQ := Lib.hid hmk
            obtain ⟨wy, hwy⟩ : ∃ wy, wy = (((wq.setCell ⟨I.c, 0, none⟩ (.int .i64 (mk : Int))).setCell ⟨I.c, 1, none⟩ (.int .i64 (mk : Int))).setCell ⟨I.c, 2, none⟩ (.int .i64 0)).setCell ⟨I.c, 3, none⟩ (.slice (M k).A 0 (M k).c) := ⟨_, rfl⟩
            have hcy := (((HPQ.out.c.put 0 (.int .i64 (mk : Int))).put 1 (.int .i64 (mk : Int))).put 2 (.int .i64 0)).put 3 (.slice (M k).A 0 (M k).c)
            have hmy := ((((Mv.refl (fun b => b = I.c) wq).setCell (p := ⟨I.c, 0, none⟩) (fun _ => rfl) (.int .i64 (mk : Int))).setCell (p := ⟨I.c, 1, none⟩) (fun _ => rfl) (.int .i64 (mk : Int))).setCell (p := ⟨I.c, 2, none⟩) (fun _ => rfl) (.int .i64 0)).setCell (p := ⟨I.c, 3, none⟩) (fun _ => rfl) (.slice (M k).A 0 (M k).c)
            rw [← hwy] at hcy hmy
            have HPY := Lib.hid (HPQ.out.setC (C' := ⟨mk, mk, 0, (M k).A, (M k).c⟩) hmy hcy)
            have HBY := Lib.hid (show Below I.v w wy from HBQ.out.trans (hmy.below (by have := HPQ.out.top; have := HO.out; omega) (fun b hb => by have hb : b = I.c := hb; have := HO.out; omega)))
            have HWY := Lib.hid hwy
            clear hcy hmy hwy e1 e2 e3 hmk hdz
            go_wp2_with fail
            rw [← HWY.out]
            clear m0 m1 m2 m3 c0 c1 c2 c3 f0 f1 f2 f3
            go_roundw
            case rel => exact ⟨i + 1, s, mk, _, _, _, _, _, _, (M k).A, (M k).c, by omega, by go_num, HPY, HLX, HOX, Lib.hid (by rw [HMQ.out]; exact HNOW.out), HBY⟩
            case measure => simp [intOf]; omega
          have hcm : ch = (s).mine k := hsm.resolve_left hc0
          have HSAME := Lib.hid (fun W => same_e4 ⟨ch, ch, 0, CA, Cc⟩ (M k) ((s).mine k) (by rw [hcm]; exact ⟨rfl, rfl, rfl⟩) HMV.out W)
          have hcb : ((ch : Int) == 0) = false := by simpa using hc0
          have hcI : ¬ (ch : Int) = 0 := by omega
          have hcd : decide (ch = 0) = false := decide_eq_false hc0
          have hce : (ch == 0) = false := by simpa using hc0
          have hcf : decide ((ch : Int) = 0) = false := decide_eq_false hcI
          clear hsm hcm
          refine wp_region_planB [(true, 0), (true, 1), (true, 2), (true, 3), (true, 4), (true, 5), (true, 6), (true, 7), (true, 8), (false, 9), (true, 10), (true, 11)] (by kernel_rfl) (by kernel_rfl) (fun _ _ d _ _ h => by cases d <;> exact h) ?_
          iterate 2 (refine PlanB.take (v := ?_) rfl rfl ?_ ?_; rotate_left; (focus (intro W hW; have hp := HP10.out.below (hdz.trans hW); have c0 := hp.c.cell 0 _ rfl; have c1 := hp.c.cell 1 _ rfl; have c2 := hp.c.cell 2 _ rfl; have c3 := hp.c.cell 3 _ rfl; have m0 := hp.m.cell encE4_len hk6 0 _ rfl; have m1 := hp.m.cell encE4_len hk6 1 _ rfl; have m2 := hp.m.cell encE4_len hk6 2 _ rfl; have m3 := hp.m.cell encE4_len hk6 3 _ rfl; simp only [Nat.add_zero] at m0; clear hp; go_simp; (try with_reducible rfl); done)); (try simp only [Act.put, List.setIfInBounds_toArray, List.set_cons_zero, List.set_cons_succ]))
          refine PlanB.take (v := .bool true) rfl rfl ?_ ?_
          · intro W hW
            first
              | (go_simp; done)
              | (go_simp; simp [hc0]; done)
              | (go_simp; simp [hcI]; done)
          (try simp only [Act.put, List.setIfInBounds_toArray, List.set_cons_zero, List.set_cons_succ])
          iterate 6 (refine PlanB.take (v := ?_) rfl rfl ?_ ?_; rotate_left; (focus (intro W hW; have hp := HP10.out.below (hdz.trans hW); have c0 := hp.c.cell 0 _ rfl; have c1 := hp.c.cell 1 _ rfl; have c2 := hp.c.cell 2 _ rfl; have c3 := hp.c.cell 3 _ rfl; have m0 := hp.m.cell encE4_len hk6 0 _ rfl; have m1 := hp.m.cell encE4_len hk6 1 _ rfl; have m2 := hp.m.cell encE4_len hk6 2 _ rfl; have m3 := hp.m.cell encE4_len hk6 3 _ rfl; simp only [Nat.add_zero] at m0; clear hp; go_simp; (try with_reducible rfl); done)); (try simp only [Act.put, List.setIfInBounds_toArray, List.set_cons_zero, List.set_cons_succ]))
          refine PlanB.step rfl rfl (fun Kk hK => ?_)
          go_simp
          refine (HSAME.out _).mono ?_
          rintro e wq ⟨rfl, hbq⟩
          refine hK.out _ _ hbq ?_
          clear hK Kk
          (try simp only [Act.put, List.setIfInBounds_toArray, List.set_cons_zero, List.set_cons_succ])
          iterate 2 (refine PlanB.take (v := ?_) rfl rfl ?_ ?_; rotate_left; (focus (intro W hW; go_simp; (try with_reducible rfl); done)); (try simp only [Act.put, List.setIfInBounds_toArray, List.set_cons_zero, List.set_cons_succ]))
          simp only [PlanB]
          replace hdz := hdz.trans hbq
          clear hbq HSAME hcb hcI hcd hce hcf hc0
          have HPQ := Lib.hid (HP10.out.below hdz)
          have HBQ := Lib.hid (show Below I.v w wq from HB10.out.trans (hdz.mono (by have := HB10.out.size; have := HGV.out; omega)))
          have m0 := HPQ.out.m.cell encE4_len hk6 0 _ rfl
          have m1 := HPQ.out.m.cell encE4_len hk6 1 _ rfl
          have m2 := HPQ.out.m.cell encE4_len hk6 2 _ rfl
          have m3 := HPQ.out.m.cell encE4_len hk6 3 _ rfl
          obtain ⟨e1, e2, e3⟩ := HMV.out
          rw [e1] at m0
          rw [e2] at m1
          rw [e3] at m2
          simp only [Nat.add_zero] at m0
          have c0 := HPQ.out.c.cell 0 _ rfl
          have c1 := HPQ.out.c.cell 1 _ rfl
          have c2 := HPQ.out.c.cell 2 _ rfl
          have c3 := HPQ.out.c.cell 3 _ rfl
          have f0 := HPQ.out.c.frozen 0
          have f1 := HPQ.out.c.frozen 1
          have f2 := HPQ.out.c.frozen 2
          have f3 := HPQ.out.c.frozen 3
          obtain ⟨mk, hmk⟩ : ∃ mk, mk = (s).mine k := ⟨_, rfl⟩
          rw [← hmk] at m0 m1
          have HMQ := Lib.hid hmk
          obtain ⟨wy, hwy⟩ : ∃ wy, wy = (((wq.setCell ⟨I.c, 0, none⟩ (.int .i64 (mk : Int))).setCell ⟨I.c, 1, none⟩ (.int .i64 (mk : Int))).setCell ⟨I.c, 2, none⟩ (.int .i64 0)).setCell ⟨I.c, 3, none⟩ (.slice (M k).A 0 (M k).c) := ⟨_, rfl⟩
          have hcy := (((HPQ.out.c.put 0 (.int .i64 (mk : Int))).put 1 (.int .i64 (mk : Int))).put 2 (.int .i64 0)).put 3 (.slice (M k).A 0 (M k).c)
          have hmy := ((((Mv.refl (fun b => b = I.c) wq).setCell (p := ⟨I.c, 0, none⟩) (fun _ => rfl) (.int .i64 (mk : Int))).setCell (p := ⟨I.c, 1, none⟩) (fun _ => rfl) (.int .i64 (mk : Int))).setCell (p := ⟨I.c, 2, none⟩) (fun _ => rfl) (.int .i64 0)).setCell (p := ⟨I.c, 3, none⟩) (fun _ => rfl) (.slice (M k).A 0 (M k).c)
          rw [← hwy] at hcy hmy
          have HPY := Lib.hid (HPQ.out.setC (C' := ⟨mk, mk, 0, (M k).A, (M k).c⟩) hmy hcy)
          have HBY := Lib.hid (show Below I.v w wy from HBQ.out.trans (hmy.below (by have := HPQ.out.top; have := HO.out; omega) (fun b hb => by have hb : b = I.c := hb; have := HO.out; omega)))
          have HWY := Lib.hid hwy
          clear hcy hmy hwy e1 e2 e3 hmk hdz
          go_wp2_with fail
          rw [← HWY.out]
          clear m0 m1 m2 m3 c0 c1 c2 c3 f0 f1 f2 f3
          go_roundw
          case rel => exact ⟨i + 1, s, mk, _, _, _, _, _, _, (M k).A, (M k).c, by omega, by go_num, HPY, HLX, HOX, Lib.hid (by rw [HMQ.out]; exact HNOW.out), HBY⟩
          case measure => simp [intOf]; omega
    rw [decide_eq_false hok]
    rw [if_neg hok] at hz
    have HZ := Lib.hid hz
    have HNO := Lib.hid (show s.takeS cc k = s.take cc k from by unfold Px.takeS; rw [if_neg hok])
    clear hz hok
    have k9 := HP9.out.k.cell encV1_len hk6 0 _ rfl
    have x9 := (HP9.out.x k hk6).cell encBo_len hcn 0 _ rfl
    have xf := Own.stand (HP9.out.x k hk6) (cc * 1 + 0)
    simp only [Nat.mul_one, Nat.add_zero] at k9 x9 xf
    have hvk : I.v ≠ I.k := by have := HO.out; omega
    have hvr : I.v ≠ I.rk k := by have := HO.out; have := HRK.out; omega
    have hkv : I.k ≠ I.v := by have := HO.out; omega
    have hrv : I.rk k ≠ I.v := by have := HO.out; have := HRK.out; omega
    obtain ⟨w11, hw11⟩ : ∃ w11, w11 = w10.setCell ⟨I.rk k, cc, none⟩ (.bool true) := ⟨_, rfl⟩
    have htx := Tab.set encBo_len (HP10.out.x k hk6) hcn 0 (.bool true) true (by decide) rfl
    simp only [Nat.mul_one, Nat.add_zero] at htx
    rw [← hw11] at htx
    have hmx : Mv (fun b => b = I.rk k) w10 w11 := by rw [hw11]; exact (Mv.refl (fun b => b = I.rk k) w10).setCell (p := ⟨I.rk k, cc, none⟩) (fun _ => rfl) _
    obtain ⟨K2, hK2⟩ : ∃ K2 : Nat → Nat → Bool, K2 = (fun j => if j = k then (fun y => if y = cc then true else K k y) else K j) := ⟨_, rfl⟩
    have HP11 := Lib.hid (show Hp w11 I I.v n _ T R M Q K2 _ from by rw [hK2]; exact HP10.out.setK hk6 hmx htx)
    have HB11 := Lib.hid (show Below I.v w w11 from HB10.out.trans (hmx.below (by have := HP10.out.top; have := HO.out; omega) (fun b hb => by have hb : b = I.rk k := hb; have := HO.out; have := HRK.out; omega)))
    have HK2 := Lib.hid hK2
    rw [hw10] at hw11
    have HW11 := Lib.hid hw11
    clear htx hmx hw11 hw10 hK2 HP10 HB10
    have HLX := Lib.hid (show Lk (s.take cc k) n (fun y => if y = cc then z else V y) R M Q K2 from by rw [HK2.out]; exact HL.out.take HZ.out)
    have HOX := Lib.hid (show (s.take cc k).Ok n from by rw [← HNO.out]; exact HOK.out.takeS HMK.out)
    have HCX := Lib.hid (show (s.take cc k).Chose n ch from by rw [← HNO.out]; exact HCH.out.takeS)
    have hkt := HP11.out.k.cell encV1_len hk6 0 _ rfl
    simp only [Nat.mul_one, Nat.add_zero] at hkt
    have HKT := Lib.hid hkt
    clear hkt
    go_wp2_with fail
    rw [← HW11.out]
    clear x0 y0 f0 x1 y1 f1 x2 y2 f2 x3 y3 f3 x4 y4 f4 x5 y5 f5 x6 y6 f6 x7 y7 f7 k9 x9 xf hvk hvr hkv hrv
    go_loopw [22, 23] (fun cv jv wr => ∃ j : Nat, j ≤ n ∧ jv = .int .i64 j ∧ cv = .int .i64 (cnt j (K2 k) : Nat) ∧ wr = w11) (fun _ jv _ => n - (intOf jv).toNat)
    case atStart => exact ⟨0, Nat.zero_le _, rfl, rfl, rfl⟩
    case round =>
      obtain ⟨j, hjn, rfl, rfl, rfl⟩ := hrel
      have hcle := cnt_le j (K2 k)
      by_cases hj : j < n
      · have hjI : (j : Int) < (n : Int) := by omega
        have hj0 : (0 : Int) ≤ (j : Int) := by omega
        have hkt := HKT.out
        have hkc := (HP11.out.x k hk6).cell encBo_len hj 0 _ rfl
        simp only [Nat.mul_one, Nat.add_zero] at hkc
        have hst := cnt_succ j (K2 k)
        cases hkj : (K2 k) j with
        | true =>
          rw [hkj] at hkc hst
          simp only [if_true] at hst
          obtain ⟨cj, hcj⟩ : ∃ cj, cj = cnt j (K2 k) := ⟨_, rfl⟩
          rw [← hcj] at hst hcle ⊢
          have HST := Lib.hid hst
          have HCJ := Lib.hid hcj
          clear hst hkj hcj
          go_wp2_with fail
          go_roundw
          case rel => exact ⟨j + 1, by omega, by go_num, by rw [HST.out]; go_num, (by first | rfl | trivial)⟩
          case measure => simp [intOf]; omega
        | false =>
          rw [hkj] at hkc hst
          simp only [Bool.false_eq_true, if_false, Nat.add_zero] at hst
          obtain ⟨cj, hcj⟩ : ∃ cj, cj = cnt j (K2 k) := ⟨_, rfl⟩
          rw [← hcj] at hst hcle ⊢
          have HST := Lib.hid hst
          have HCJ := Lib.hid hcj
          clear hst hkj hcj
          go_wp2_with fail
          go_roundw
          case rel => exact ⟨j + 1, by omega, by go_num, by rw [HST.out], (by first | rfl | trivial)⟩
          case measure => simp [intOf]; omega
      · obtain rfl : j = n := by omega
        have hjI : ¬ (j : Int) < (j : Int) := by omega
        have hct : cnt j (K2 k) = cnt j (((s.take cc k)).took k) := cnt_congr fun y hy => HLX.out.x k hk6 y hy
        rw [hct]
        rw [hct] at hcle
        have hwr2 : wrap64 (2 * ((cnt j (((s.take cc k)).took k) : Nat) : Int)) = 2 * ((cnt j (((s.take cc k)).took k) : Nat) : Int) := by unfold wrap64; omega
        clear hct
        by_cases hmaj : j < 2 * cnt j (((s.take cc k)).took k)
        case neg =>
          have hmI : 2 * ((cnt j (((s.take cc k)).took k) : Nat) : Int) ≤ (j : Int) := by omega
          generalize cnt j (((s.take cc k)).took k) = cj at hmI hwr2 hcle ⊢
          clear hmaj
          go_wp2_with fail
          go_roundw
          case rel => exact ⟨i + 1, (s.take cc k), ch, _, _, _, _, _, _, CA, Cc, by omega, by go_num, HP11, HLX, HOX, HCX, HB11⟩
          case measure => simp [intOf]; omega
        have hmI : ¬ 2 * ((cnt j (((s.take cc k)).took k) : Nat) : Int) ≤ (j : Int) := by omega
        have hsm := HCX.out.same HOX.out hmaj
        have HNOW := Lib.hid (Px.Chose.now hmaj)
        have hmv := HLX.out.m k hk6
        have HMV := Lib.hid hmv
        generalize cnt j (((s.take cc k)).took k) = cj at hmI hwr2 hcle ⊢
        clear hmaj hmv
        go_wp2_with fail
        have hdz : Below wr.heap.size wr wr.drew := (Below.refl _ _).drew
        by_cases hc0 : ch = 0
        case pos =>
          have c0 := HP11.out.c.cell 0 _ rfl
          rw [hc0] at c0
          simp only [show ((0 : Nat) : Int) = 0 from rfl] at c0
          have HC0 := Lib.hid c0
          clear c0 hsm
          refine wp_region_planB [(true, 0), (true, 1), (true, 2), (true, 3), (true, 4), (true, 5), (true, 6), (true, 7), (true, 8), (false, 9), (true, 10), (true, 11)] (by kernel_rfl) (by kernel_rfl) (fun _ _ d _ _ h => by cases d <;> exact h) ?_
          iterate 4 (refine PlanB.take (v := ?_) rfl rfl ?_ ?_; rotate_left; (focus (intro W hW; have c0 := ((hdz.trans hW).cell (p := ⟨I.c, 0, none⟩) (HP11.out.c.size)).trans HC0.out; go_simp; (try with_reducible rfl); done)); (try simp only [Act.put, List.setIfInBounds_toArray, List.set_cons_zero, List.set_cons_succ]))
          iterate 5 (refine PlanB.skip rfl rfl ?_; (try simp only [Act.put, List.setIfInBounds_toArray, List.set_cons_zero, List.set_cons_succ]))
          refine PlanB.pass rfl rfl ?_
          (try simp only [Act.put, List.setIfInBounds_toArray, List.set_cons_zero, List.set_cons_succ])
          iterate 1 (refine PlanB.skip rfl rfl ?_; (try simp only [Act.put, List.setIfInBounds_toArray, List.set_cons_zero, List.set_cons_succ]))
          iterate 1 (refine PlanB.take (v := ?_) rfl rfl ?_ ?_; rotate_left; (focus (intro W hW; go_simp; (try with_reducible rfl); done)); (try simp only [Act.put, List.setIfInBounds_toArray, List.set_cons_zero, List.set_cons_succ]))
          simp only [PlanB]
          obtain ⟨wq, hwq⟩ : ∃ wq, wq = wr.drew := ⟨_, rfl⟩
          rw [← hwq] at hdz ⊢
          clear hwq HC0
          have HPQ := Lib.hid (HP11.out.below hdz)
          have HBQ := Lib.hid (show Below I.v w wq from HB11.out.trans (hdz.mono (by have := HB11.out.size; have := HGV.out; omega)))
          have m0 := HPQ.out.m.cell encE4_len hk6 0 _ rfl
          have m1 := HPQ.out.m.cell encE4_len hk6 1 _ rfl
          have m2 := HPQ.out.m.cell encE4_len hk6 2 _ rfl
          have m3 := HPQ.out.m.cell encE4_len hk6 3 _ rfl
          obtain ⟨e1, e2, e3⟩ := HMV.out
          rw [e1] at m0
          rw [e2] at m1
          rw [e3] at m2
          simp only [Nat.add_zero] at m0
          have c0 := HPQ.out.c.cell 0 _ rfl
          have c1 := HPQ.out.c.cell 1 _ rfl
          have c2 := HPQ.out.c.cell 2 _ rfl
          have c3 := HPQ.out.c.cell 3 _ rfl
          have f0 := HPQ.out.c.frozen 0
          have f1 := HPQ.out.c.frozen 1
          have f2 := HPQ.out.c.frozen 2
          have f3 := HPQ.out.c.frozen 3
          obtain ⟨mk, hmk⟩ : ∃ mk, mk = ((s.take cc k)).mine k := ⟨_, rfl⟩
          rw [← hmk] at m0 m1
          have HMQ := Lib.hid hmk
          obtain ⟨wy, hwy⟩ : ∃ wy, wy = (((wq.setCell ⟨I.c, 0, none⟩ (.int .i64 (mk : Int))).setCell ⟨I.c, 1, none⟩ (.int .i64 (mk : Int))).setCell ⟨I.c, 2, none⟩ (.int .i64 0)).setCell ⟨I.c, 3, none⟩ (.slice (M k).A 0 (M k).c) := ⟨_, rfl⟩
          have hcy := (((HPQ.out.c.put 0 (.int .i64 (mk : Int))).put 1 (.int .i64 (mk : Int))).put 2 (.int .i64 0)).put 3 (.slice (M k).A 0 (M k).c)
          have hmy := ((((Mv.refl (fun b => b = I.c) wq).setCell (p := ⟨I.c, 0, none⟩) (fun _ => rfl) (.int .i64 (mk : Int))).setCell (p := ⟨I.c, 1, none⟩) (fun _ => rfl) (.int .i64 (mk : Int))).setCell (p := ⟨I.c, 2, none⟩) (fun _ => rfl) (.int .i64 0)).setCell (p := ⟨I.c, 3, none⟩) (fun _ => rfl) (.slice (M k).A 0 (M k).c)
          rw [← hwy] at hcy hmy
          have HPY := Lib.hid (HPQ.out.setC (C' := ⟨mk, mk, 0, (M k).A, (M k).c⟩) hmy hcy)
          have HBY := Lib.hid (show Below I.v w wy from HBQ.out.trans (hmy.below (by have := HPQ.out.top; have := HO.out; omega) (fun b hb => by have hb : b = I.c := hb; have := HO.out; omega)))
          have HWY := Lib.hid hwy
          clear hcy hmy hwy e1 e2 e3 hmk hdz
          go_wp2_with fail
          rw [← HWY.out]
          clear m0 m1 m2 m3 c0 c1 c2 c3 f0 f1 f2 f3
          go_roundw
          case rel => exact ⟨i + 1, (s.take cc k), mk, _, _, _, _, _, _, (M k).A, (M k).c, by omega, by go_num, HPY, HLX, HOX, Lib.hid (by rw [HMQ.out]; exact HNOW.out), HBY⟩
          case measure => simp [intOf]; omega
        have hcm : ch = ((s.take cc k)).mine k := hsm.resolve_left hc0
        have HSAME := Lib.hid (fun W => same_e4 ⟨ch, ch, 0, CA, Cc⟩ (M k) (((s.take cc k)).mine k) (by rw [hcm]; exact ⟨rfl, rfl, rfl⟩) HMV.out W)
        have hcb : ((ch : Int) == 0) = false := by simpa using hc0
        have hcI : ¬ (ch : Int) = 0 := by omega
        have hcd : decide (ch = 0) = false := decide_eq_false hc0
        have hce : (ch == 0) = false := by simpa using hc0
        have hcf : decide ((ch : Int) = 0) = false := decide_eq_false hcI
        clear hsm hcm
        refine wp_region_planB [(true, 0), (true, 1), (true, 2), (true, 3), (true, 4), (true, 5), (true, 6), (true, 7), (true, 8), (false, 9), (true, 10), (true, 11)] (by kernel_rfl) (by kernel_rfl) (fun _ _ d _ _ h => by cases d <;> exact h) ?_
        iterate 2 (refine PlanB.take (v := ?_) rfl rfl ?_ ?_; rotate_left; (focus (intro W hW; have hp := HP11.out.below (hdz.trans hW); have c0 := hp.c.cell 0 _ rfl; have c1 := hp.c.cell 1 _ rfl; have c2 := hp.c.cell 2 _ rfl; have c3 := hp.c.cell 3 _ rfl; have m0 := hp.m.cell encE4_len hk6 0 _ rfl; have m1 := hp.m.cell encE4_len hk6 1 _ rfl; have m2 := hp.m.cell encE4_len hk6 2 _ rfl; have m3 := hp.m.cell encE4_len hk6 3 _ rfl; simp only [Nat.add_zero] at m0; clear hp; go_simp; (try with_reducible rfl); done)); (try simp only [Act.put, List.setIfInBounds_toArray, List.set_cons_zero, List.set_cons_succ]))
        refine PlanB.take (v := .bool true) rfl rfl ?_ ?_
        · intro W hW
          first
            | (go_simp; done)
            | (go_simp; simp [hc0]; done)
            | (go_simp; simp [hcI]; done)
        (try simp only [Act.put, List.setIfInBounds_toArray, List.set_cons_zero, List.set_cons_succ])
        iterate 6 (refine PlanB.take (v := ?_) rfl rfl ?_ ?_; rotate_left; (focus (intro W hW; have hp := HP11.out.below (hdz.trans hW); have c0 := hp.c.cell 0 _ rfl; have c1 := hp.c.cell 1 _ rfl; have c2 := hp.c.cell 2 _ rfl; have c3 := hp.c.cell 3 _ rfl; have m0 := hp.m.cell encE4_len hk6 0 _ rfl; have m1 := hp.m.cell encE4_len hk6 1 _ rfl; have m2 := hp.m.cell encE4_len hk6 2 _ rfl; have m3 := hp.m.cell encE4_len hk6 3 _ rfl; simp only [Nat.add_zero] at m0; clear hp; go_simp; (try with_reducible rfl); done)); (try simp only [Act.put, List.setIfInBounds_toArray, List.set_cons_zero, List.set_cons_succ]))
        refine PlanB.step rfl rfl (fun Kk hK => ?_)
        go_simp
        refine (HSAME.out _).mono ?_
        rintro e wq ⟨rfl, hbq⟩
        refine hK.out _ _ hbq ?_
        clear hK Kk
        (try simp only [Act.put, List.setIfInBounds_toArray, List.set_cons_zero, List.set_cons_succ])
        iterate 2 (refine PlanB.take (v := ?_) rfl rfl ?_ ?_; rotate_left; (focus (intro W hW; go_simp; (try with_reducible rfl); done)); (try simp only [Act.put, List.setIfInBounds_toArray, List.set_cons_zero, List.set_cons_succ]))
        simp only [PlanB]
        replace hdz := hdz.trans hbq
        clear hbq HSAME hcb hcI hcd hce hcf hc0
        have HPQ := Lib.hid (HP11.out.below hdz)
        have HBQ := Lib.hid (show Below I.v w wq from HB11.out.trans (hdz.mono (by have := HB11.out.size; have := HGV.out; omega)))
        have m0 := HPQ.out.m.cell encE4_len hk6 0 _ rfl
        have m1 := HPQ.out.m.cell encE4_len hk6 1 _ rfl
        have m2 := HPQ.out.m.cell encE4_len hk6 2 _ rfl
        have m3 := HPQ.out.m.cell encE4_len hk6 3 _ rfl
        obtain ⟨e1, e2, e3⟩ := HMV.out
        rw [e1] at m0
        rw [e2] at m1
        rw [e3] at m2
        simp only [Nat.add_zero] at m0
        have c0 := HPQ.out.c.cell 0 _ rfl
        have c1 := HPQ.out.c.cell 1 _ rfl
        have c2 := HPQ.out.c.cell 2 _ rfl
        have c3 := HPQ.out.c.cell 3 _ rfl
        have f0 := HPQ.out.c.frozen 0
        have f1 := HPQ.out.c.frozen 1
        have f2 := HPQ.out.c.frozen 2
        have f3 := HPQ.out.c.frozen 3
        obtain ⟨mk, hmk⟩ : ∃ mk, mk = ((s.take cc k)).mine k := ⟨_, rfl⟩
        rw [← hmk] at m0 m1
        have HMQ := Lib.hid hmk
        obtain ⟨wy, hwy⟩ : ∃ wy, wy = (((wq.setCell ⟨I.c, 0, none⟩ (.int .i64 (mk : Int))).setCell ⟨I.c, 1, none⟩ (.int .i64 (mk : Int))).setCell ⟨I.c, 2, none⟩ (.int .i64 0)).setCell ⟨I.c, 3, none⟩ (.slice (M k).A 0 (M k).c) := ⟨_, rfl⟩
        have hcy := (((HPQ.out.c.put 0 (.int .i64 (mk : Int))).put 1 (.int .i64 (mk : Int))).put 2 (.int .i64 0)).put 3 (.slice (M k).A 0 (M k).c)
        have hmy := ((((Mv.refl (fun b => b = I.c) wq).setCell (p := ⟨I.c, 0, none⟩) (fun _ => rfl) (.int .i64 (mk : Int))).setCell (p := ⟨I.c, 1, none⟩) (fun _ => rfl) (.int .i64 (mk : Int))).setCell (p := ⟨I.c, 2, none⟩) (fun _ => rfl) (.int .i64 0)).setCell (p := ⟨I.c, 3, none⟩) (fun _ => rfl) (.slice (M k).A 0 (M k).c)
        rw [← hwy] at hcy hmy
        have HPY := Lib.hid (HPQ.out.setC (C' := ⟨mk, mk, 0, (M k).A, (M k).c⟩) hmy hcy)
        have HBY := Lib.hid (show Below I.v w wy from HBQ.out.trans (hmy.below (by have := HPQ.out.top; have := HO.out; omega) (fun b hb => by have hb : b = I.c := hb; have := HO.out; omega)))
        have HWY := Lib.hid hwy
        clear hcy hmy hwy e1 e2 e3 hmk hdz
        go_wp2_with fail
        rw [← HWY.out]
        clear m0 m1 m2 m3 c0 c1 c2 c3 f0 f1 f2 f3
        go_roundw
        case rel => exact ⟨i + 1, (s.take cc k), mk, _, _, _, _, _, _, (M k).A, (M k).c, by omega, by go_num, HPY, HLX, HOX, Lib.hid (by rw [HMQ.out]; exact HNOW.out), HBY⟩
        case measure => simp [intOf]; omega

theorem ballotOnce_walk (u : Nat) (hu : u < 256) (l : List Sp) (hf : ∀ s ∈ l, s.fits) (v : Value) (w : World) (hv : RdSp w w.heap.size v l) (hl : l.length < 4611686018427387904) :
    Calls Try.prog 8 #[.int .u8 (u : Int), v] w fun e w' => e = .returned (.bool true) ∧ Below w.heap.size w w' := onceSplit.2 ⟨onceAsk⟩ ⟨onceTake⟩ u hu l hf v w hv hl
end Go.Proofs.Ytjmojlhebjbgaaa
