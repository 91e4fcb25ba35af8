/- The program's Last and Forget. The spans that have keys, sorted by where they begin: what span.rising answers. The program's marks sorted. slices.Insert of one mark into a slice of the call's own. -/
import Derived.Test.YtgppgecglkellaaGreatFag
import Derived.Test.YtgppgecglkellaaGreatFab
import Derived.Test.YtgppgecglkellaaGreatFae
import Derived.Test.YtgppgecglkellaaGreatSort
import Derived.Test.YtgppgecglkellaaGreatSortM
import Derived.Laws.Externs
namespace Go.Proofs.YtgppgecglkellaaGreat
open Go.RowKit
attribute [local go_sem] less_eq same_eq le_eq ge_eq gt_eq

theorem meet_empty (a b : K × K) : decide ((meet a b).2 ≤ (meet a b).1) = !decide (mx a.1 b.1 < mn a.2 b.2) := by
  unfold meet
  by_cases h : mn a.2 b.2 ≤ mx a.1 b.1
  · rw [if_pos h, decide_eq_false (show ¬ mx a.1 b.1 < mn a.2 b.2 by grind)]
    exact decide_eq_true (Std.IsPreorder.le_refl _)
  · rw [if_neg h, decide_eq_true (show mx a.1 b.1 < mn a.2 b.2 by grind)]
    exact decide_eq_false h

set_option maxHeartbeats 8000000 in
set_option maxRecDepth 100000 in
theorem plast_any (q : Nat) (m : Mk) (L : List Wr) (s : K × K) (w : World) (h : PmRd w q m.floor L) (hrep : Rep m.f m.floor L) (hok : m.Ok) (hl : L.length ≤ 1000000) :
    Calls Tryz.prog 32 #[.pointer (some ⟨q, 0, none⟩), .agg #[.string s.1, .string s.2]] w fun e w' => ∃ k, e = .returned (.tuple #[.int .i64 k, .bool (decide (0 < k))]) ∧ LastIs m s k ∧ Below w.heap.size w w' := by
  have hbm : Below w.heap.size w (w.alloc (.cells #[.string s.1, .string s.2] 52)) := (Below.refl _ w).alloc (Nat.le_refl _) _
  have hem := fun W => empty_any s W
  have HEM := Lib.hid hem; clear hem
  by_cases hs : s.2 ≤ s.1
  · have hla : LastIs m s 0 := .inl ⟨rfl, fun k hk => by unfold has at hk; grind⟩
    rw [decide_eq_true hs] at HEM
    have HL := Lib.hid hla
    have HB := Lib.hid hbm
    clear hla hbm h hrep hok hs
    go_enter Tryz.func32, Tryz.ntmps32
    go_wp2_with fail
    refine (HEM.out _).mono ?_
    rintro e w1 ⟨rfl, hb1⟩
    have HB1 := Lib.hid (HB.out.trans (hb1.mono (by simp))); clear hb1
    go_wp2_with fail
    go_ret2
    exact ⟨0, rfl, HL.out, HB1.out⟩
  · rw [decide_eq_false hs] at HEM
    have hs' : s.1 < s.2 := by grind
    have hbes := fun W (hW : Below w.heap.size w W) => beside_any q m.floor L s m.f m.floor W (h.next hW) hrep hs' hl
    have HBE := Lib.hid hbes; clear hbes
    have hlast := fun lo hi (hb : Beside L s lo hi) => hrep.last hok hb
    have HLA := Lib.hid hlast; clear hlast
    have HPM := Lib.hid h
    have HB := Lib.hid hbm
    obtain ⟨g, hg⟩ : ∃ g, g = w.heap.size := ⟨_, rfl⟩
    have HG := Lib.hid hg; clear hg
    have hbox : Whole (w.alloc (.cells #[.string s.1, .string s.2] 52)) w.heap.size 52 [.string s.1, .string s.2] := Whole.fresh w _ [_, _]
    have HBOX := Lib.hid hbox
    have hzz : w.heap.size < (w.alloc (.cells #[.string s.1, .string s.2] 52)).heap.size := by simp
    have HZZ := Lib.hid hzz
    clear hbm h hrep hok hs hbox hzz hs'
    go_enter Tryz.func32, Tryz.ntmps32
    go_wp2_with fail
    refine (HEM.out _).mono ?_
    rintro e w1 ⟨rfl, hb1⟩
    have hB1 : Below w.heap.size w w1 := HB.out.trans (hb1.mono (by simp))
    have hbx1 : Whole w1 w.heap.size 52 [.string s.1, .string s.2] := HBOX.out.below hb1 HZZ.out
    have hK := hbx1.cell 0 _ rfl
    have hK' := hbx1.cell 1 _ rfl
    have HBX1 := Lib.hid hbx1
    have HB1 := Lib.hid hB1
    clear hb1 hB1 hbx1
    go_wp2_with fail
    refine (HBE.out _ HB1.out).mono ?_
    rintro e w2 ⟨lo, hi, rfl, hbs, hb2⟩
    have hB2 : Below w.heap.size w w2 := HB1.out.trans (hb2.mono HB1.out.size)
    have hbx2 : Whole w2 w.heap.size 52 [.string s.1, .string s.2] := HBX1.out.below hb2 HBX1.out.size
    have hfin := HLA.out lo hi hbs
    have hlh := hbs.le
    have hhl := hbs.len
    obtain ⟨A, cap, hw, hr, hform⟩ := HPM.out.next hB2
    have hlc : L.length ≤ cap := by obtain ⟨A', c', e, hc, _⟩ := hr.at; injection e with _ _ e3; rw [e3]; exact hc
    have c1 := hw.cell 1 _ rfl
    have HBX2 := Lib.hid hbx2
    have HB2 := Lib.hid hB2
    have hB0 : (lo : Int) ≤ (hi : Int) := by omega
    have hB3 : (hi : Int) ≤ (cap : Int) := by omega
    clear hb2 hB2 hbx2 hw HBX1 HB1 hbs hK hK' HBE HLA HPM
    by_cases hlo : lo = hi
    · -- nothing is beside
      have hM : (L.take hi).drop lo = [] := List.drop_eq_nil_of_le (by rw [List.length_take]; omega)
      rw [hM] at hfin
      have HF := Lib.hid (show LastIs m s 0 from hfin); clear hfin hM
      subst hlo
      have fin : ∀ wr, Below w2.heap.size w2 wr → Below w.heap.size w wr := fun wr h => HB2.out.trans (h.mono HB2.out.size)
      have FIN := Lib.hid fin; clear fin hr
      have hsub : lo - lo = 0 := by omega
      rcases hform with ⟨rfl, rfl, hL0⟩ | ⟨gb, rfl⟩
      · obtain rfl : lo = 0 := by omega
        go_wp2_with fail
        go_loopw [6, 31] (fun nv iv wr => nv = .int .i64 0 ∧ iv = .int .i64 0 ∧ Below w2.heap.size w2 wr) (fun _ _ _ => 0)
        case atStart => exact ⟨rfl, rfl, Below.refl _ _⟩
        case round =>
          obtain ⟨rfl, rfl, hbw⟩ := hrel
          have HBW := Lib.hid hbw; clear hbw c1
          go_wp2_with fail
          go_ret2
          exact ⟨0, rfl, HF.out, FIN.out _ HBW.out⟩
      · by_cases hcl : cap = lo
        · subst hcl
          go_wp2_with fail
          go_loopw [6, 31] (fun nv iv wr => nv = .int .i64 0 ∧ iv = .int .i64 0 ∧ Below w2.heap.size w2 wr) (fun _ _ _ => 0)
          case atStart => exact ⟨rfl, rfl, Below.refl _ _⟩
          case round =>
            obtain ⟨rfl, rfl, hbw⟩ := hrel
            have HBW := Lib.hid hbw; clear hbw c1
            go_wp2_with fail
            go_ret2
            exact ⟨0, rfl, HF.out, FIN.out _ HBW.out⟩
        · go_wp2_with fail
          go_loopw [6, 31] (fun nv iv wr => nv = .int .i64 0 ∧ iv = .int .i64 0 ∧ Below w2.heap.size w2 wr) (fun _ _ _ => 0)
          case atStart => exact ⟨rfl, rfl, Below.refl _ _⟩
          case round =>
            obtain ⟨rfl, rfl, hbw⟩ := hrel
            have HBW := Lib.hid hbw; clear hbw c1
            go_wp2_with fail
            go_ret2
            exact ⟨0, rfl, HF.out, FIN.out _ HBW.out⟩
    · have hA : ∃ gb, A = some ⟨gb, 0, none⟩ := by
        rcases hform with ⟨_, _, hL0⟩ | h
        · rw [hL0] at hhl; simp at hhl; omega
        · exact h
      obtain ⟨gb, rfl⟩ := hA
      have hcl : ¬ cap = lo := by omega
      obtain ⟨A', c', e, _, hcells⟩ := hr.at
      injection e with e1 _ _
      subst e1
      have hML : ((L.take hi).drop lo).length = hi - lo := by rw [List.length_drop, List.length_take]; omega
      have hce : ∀ i (_ : i < ((L.take hi).drop lo).length), gb < w2.heap.size ∧ w2.cell? ⟨gb, lo * 3 + i * 3, none⟩ = some (.string ((L.take hi).drop lo)[i].s.1) ∧ w2.cell? ⟨gb, lo * 3 + i * 3 + 1, none⟩ = some (.string ((L.take hi).drop lo)[i].s.2) ∧ w2.cell? ⟨gb, lo * 3 + i * 3 + 2, none⟩ = some (.int .i64 ((L.take hi).drop lo)[i].v) := fun i hi' => by
        obtain ⟨b, o, e2, hb, k0, k1, k2⟩ := hcells (lo + i) (by omega)
        injection e2 with e2
        injection e2 with e3 e4 _
        subst e3 e4
        have em : ((L.take hi).drop lo)[i] = L[lo + i] := by simp
        rw [em, show lo * 3 + i * 3 = 0 + (lo + i) * 3 by omega]
        exact ⟨hb, k0, k1, k2⟩
      generalize (L.take hi).drop lo = M at hfin hML hce
      have HCE := Lib.hid hce; clear hce hcells hr hform
      have HF := Lib.hid hfin; clear hfin
      have HML := Lib.hid hML; clear hML
      obtain ⟨N, hN⟩ : ∃ N, N = hi - lo := ⟨_, rfl⟩
      have HN := Lib.hid hN
      have hNb : N ≤ 1000000 := by omega
      go_wp2_with fail
      rw [← hN]
      clear hN
      go_loopw [6, 31] (fun nv iv wr => ∃ (i : Nat) (zz : Int), i ≤ N ∧ iv = .int .i64 i ∧ nv = .int .i64 zz ∧ Hid (zz = lastL s 0 (M.take i)) ∧ Hid (Below w2.heap.size w2 wr)) (fun _ iv _ => N - (intOf iv).toNat)
      case atStart => exact ⟨0, 0, Nat.zero_le _, rfl, rfl, Lib.hid rfl, Lib.hid (Below.refl _ _)⟩
      case round =>
        obtain ⟨i, zz, hil, rfl, rfl, HZ, HBW⟩ := hrel
        clear c1
        by_cases hlt : i < N
        · have hlt2 : i < M.length := by rw [HML.out, ← HN.out]; exact hlt
          obtain ⟨hgb, k0, k1, k2⟩ := HCE.out i hlt2
          rw [← HBW.out.cell (p := ⟨gb, _, none⟩) hgb] at k0
          rw [← HBW.out.cell (p := ⟨gb, _, none⟩) hgb] at k1
          rw [← HBW.out.cell (p := ⟨gb, _, none⟩) hgb] at k2
          have hbxr : Whole wr w.heap.size 52 [.string s.1, .string s.2] := HBX2.out.below HBW.out HBX2.out.size
          have hst := lastL_take (s := s) (n := 0) hlt2
          have hmt := fun W => meet_any s M[i].s W
          have hme := meet_empty s M[i].s
          unfold spv at hmt
          generalize M[i] = x at k0 k1 k2 hst hmt hme
          obtain ⟨⟨x1, x2⟩, xv⟩ := x
          simp only at k0 k1 k2 hst hmt hme
          have hem2 := fun W => empty_any (meet s (x1, x2)) W
          rw [hme] at hem2
          generalize meet s (x1, x2) = mt at hmt hem2
          obtain ⟨mt1, mt2⟩ := mt
          simp only at hmt hem2
          have HMT := Lib.hid hmt; clear hmt hme
          obtain ⟨w3, hw3⟩ : ∃ w3, wr.alloc (.cells #[.string x1, .string x2, .int .i64 xv] 77) = w3 := ⟨_, rfl⟩
          have hb3 : Below wr.heap.size wr w3 := by rw [← hw3]; exact (Below.refl _ _).alloc (Nat.le_refl _) _
          have hx3 : Whole w3 wr.heap.size 77 [.string x1, .string x2, .int .i64 xv] := by rw [← hw3]; exact Whole.fresh wr _ [_, _, _]
          have hbx3 : Whole w3 w.heap.size 52 [.string s.1, .string s.2] := hbxr.below hb3 hbxr.size
          have b0 := hbx3.cell 0 _ rfl
          have b1 := hbx3.cell 1 _ rfl
          have y0 := hx3.cell 0 _ rfl
          have y1 := hx3.cell 1 _ rfl
          have y2 := hx3.cell 2 _ rfl
          have HX3 := Lib.hid hx3
          have HB3 := Lib.hid hb3
          clear hb3 hx3 hbx3 hbxr
          by_cases hmm : mx s.1 x1 < mn s.2 x2
          · rw [if_pos hmm, ← HZ.out] at hst
            have hst2 : max zz xv = lastL s 0 (M.take (i + 1)) := by rw [hst]; unfold imax; split <;> omega
            have HST := Lib.hid hst2; clear hst hst2
            rw [decide_eq_true hmm] at hem2
            have HE2 := Lib.hid hem2; clear hem2 hmm
            go_wp2_with fail
            have HW3 := Lib.hid hw3; clear hw3
            refine (HMT.out _).mono ?_
            rintro e w4 ⟨rfl, hb4⟩
            clear b0 b1 y0 y1 y2
            go_wp2_with fail
            refine (HE2.out _).mono ?_
            rintro e w5 ⟨rfl, hb5⟩
            have hb45 : Below w3.heap.size w3 w5 := hb4.trans (hb5.mono hb4.size)
            have x5 := (HX3.out.below hb45 HX3.out.size).cell 2 _ rfl
            have HB5 := Lib.hid (show Below w2.heap.size w2 w5 from HBW.out.trans ((HB3.out.trans (hb45.mono HB3.out.size)).mono HBW.out.size))
            clear hb4 hb5 hb45 k0 k1 k2
            go_wp2_with fail
            go_roundw
            case rel => exact ⟨i + 1, _, by omega, by go_num, rfl, Lib.hid HST.out, HB5⟩
            case measure => simp [intOf]; omega
          · rw [if_neg hmm, ← HZ.out] at hst
            have HST := Lib.hid hst; clear hst
            rw [decide_eq_false hmm] at hem2
            have HE2 := Lib.hid hem2; clear hem2 hmm
            go_wp2_with fail
            have HW3 := Lib.hid hw3; clear hw3
            refine (HMT.out _).mono ?_
            rintro e w4 ⟨rfl, hb4⟩
            clear b0 b1 y0 y1 y2
            go_wp2_with fail
            refine (HE2.out _).mono ?_
            rintro e w5 ⟨rfl, hb5⟩
            have hb45 : Below w3.heap.size w3 w5 := hb4.trans (hb5.mono hb4.size)
            have HB5 := Lib.hid (show Below w2.heap.size w2 w5 from HBW.out.trans ((HB3.out.trans (hb45.mono HB3.out.size)).mono HBW.out.size))
            clear hb4 hb5 hb45 k0 k1 k2
            go_wp2_with fail
            go_roundw
            case rel => exact ⟨i + 1, zz, by omega, by go_num, rfl, Lib.hid HST.out.symm, HB5⟩
            case measure => simp [intOf]; omega
        · have hz2 : LastIs m s zz := by
            have h1 := HF.out
            have h2 := HZ.out
            rw [List.take_of_length_le (by rw [HML.out, ← HN.out]; omega)] at h2
            rw [h2]
            exact h1
          have HZ2 := Lib.hid hz2; clear hz2
          have HB5 := Lib.hid (show Below w.heap.size w wr from HB2.out.trans (HBW.out.mono HB2.out.size))
          go_wp2_with fail
          go_ret2
          exact ⟨zz, rfl, HZ2.out, HB5.out⟩

theorem mklast_any (base q n : Nat) (G : Nat → Prop) (m : Mk) (s : K × K) (w : World) (h : MkAt w base q G n m) :
    Calls Tryz.prog 32 #[.pointer (some ⟨q, 0, none⟩), .agg #[.string s.1, .string s.2]] w fun e w' => ∃ k, e = .returned (.tuple #[.int .i64 k, .bool (decide (0 < k))]) ∧ LastIs m s k ∧ Below w.heap.size w w' := by
  obtain ⟨ov, L, h1, rfl, h2, h3, h4, h5, h6⟩ := h
  exact plast_any q m L s w h1.rd h2 h5 (by omega)

set_option maxHeartbeats 8000000 in
set_option maxRecDepth 100000 in
theorem mkforget_any (base q n : Nat) (G : Nat → Prop) (m : Mk) (v : Int) (hv : I64 v) (w : World) (h : MkAt w base q G n m) :
    Calls Tryz.prog 18 #[.pointer (some ⟨q, 0, none⟩), .int .i64 v] w fun e w' => e = .returned (.int .i64 (ferr m v)) ∧ ∃ G', MkAt w' base q G' n (fnext m v) ∧ (∀ i, G' i → G i ∨ w.heap.size ≤ i) ∧ Mv G w w' := by
  have hmk := h
  obtain ⟨ov, L, h1, rfl, h2, h3, h4, h5, h6⟩ := h
  obtain ⟨W1, hW1⟩ : ∃ W1, w.alloc (.cells #[.int .i64 v] 3) = W1 := ⟨_, rfl⟩
  have hB1 : Below w.heap.size w W1 := by rw [← hW1]; exact (Below.refl _ w).alloc (Nat.le_refl _) _
  have hbx : Whole W1 w.heap.size 3 [.int .i64 v] := by rw [← hW1]; exact Whole.fresh w _ [_]
  have hp1 := h1.new hB1
  obtain ⟨A, cap, hw, hown, hov⟩ := hp1.blk
  have hcel : ∀ X, Below W1.heap.size W1 X → X.cell? ⟨q, 0, none⟩ = some (.int .i64 m.floor) ∧ X.cell? ⟨q, 1, none⟩ = some (.slice A L.length cap) ∧ X.cell? ⟨w.heap.size, 0, none⟩ = some (.int .i64 v) := fun X hX =>
    ⟨(hw.below hX hw.size).cell 0 _ rfl, (hw.below hX hw.size).cell 1 _ rfl, (hbx.below hX hbx.size).cell 0 _ rfl⟩
  have HCE := Lib.hid hcel; clear hcel
  have hd1 : Below W1.heap.size W1 W1.drew := (Below.refl _ _).drew
  have hne : (Value.slice A L.length cap).ownBlock ≠ some w.heap.size := fun e => Own.apart hown hbx (by decide) e.symm
  have hdel := deleteFunc_any v w.heap.size base L (.slice A L.length cap) W1.drew hbx.size hne ((hbx.drew).cell 0 _ rfl) hown.drew hp1.low.2 (by omega)
  have hbw : Below w.heap.size w W1.drew := hB1.drew
  have HDEL := Lib.hid hdel; clear hdel
  have HB := Lib.hid hbw; clear hbw
  have HP := Lib.hid h1
  have HOV := Lib.hid hov
  by_cases hlt : v < m.floor
  · have he : ferr m v = 7 ∧ fnext m v = m := ⟨if_pos hlt, if_pos hlt⟩
    rw [he.1, he.2]
    have HM := Lib.hid hmk
    clear he hmk h1 h2 h3 h4 h5 hp1 hw hown hov hbx hne HDEL
    go_enter Tryz.func18, Tryz.ntmps18
    go_wp2_with fail
    refine wp_region_planB [(true, 0), (true, 1), (true, 2), (true, 3), (true, 4), (true, 5), (true, 6)] (by kernel_rfl) (by kernel_rfl) (fun _ _ d _ _ h => by cases d <;> exact h) ?_
    repeat (refine PlanB.take (v := ?_) rfl rfl ?_ ?_; rotate_left; (focus (intro X hX; obtain ⟨k0, k1, k2⟩ := HCE.out X (hd1.trans hX); go_simp; (try with_reducible rfl); done)); (try simp only [Act.put, List.setIfInBounds_toArray, List.set_cons_zero, List.set_cons_succ]))
    simp only [PlanB]
    go_wp2_with fail
    go_ret
    exact ⟨rfl, PmD q ov, HM.out.mv (Mv.of_new HB.out (fun i => w.heap.size ≤ i)) (fun i hi => by have := (HM.out.low).2 i hi; omega), fun i hi => .inl hi, Mv.of_new HB.out _⟩
  · have he : ferr m v = 0 ∧ fnext m v = { m with floor := v } := ⟨if_neg hlt, if_neg hlt⟩
    rw [he.1, he.2]
    have hok2 : ({ m with floor := v } : Mk).Ok := by have := h5.forget hv.2; rwa [he.2] at this
    have hrep2 : Rep m.f v (L.filter fun x => keepB v x) := h2.forget (by omega)
    have htop2 : Top { m with floor := v } := by
      rcases h3 with h | h
      · exact .inl (by simp only; omega)
      · exact .inr h
    have hlen2 : (L.filter fun x => keepB v x).length ≤ 48 * n := Nat.le_trans (List.length_filter_le _ _) h4
    have HOK := Lib.hid hok2; clear hok2
    have HRE := Lib.hid hrep2; clear hrep2
    have HTO := Lib.hid htop2; clear htop2
    have HLE := Lib.hid hlen2; clear hlen2
    clear he hmk h1 h2 h3 h4 h5 hp1 hw hown hov hbx hne
    go_enter Tryz.func18, Tryz.ntmps18
    go_wp2_with fail
    refine wp_region_planB [(true, 0), (true, 1), (true, 2), (true, 3), (true, 4), (true, 5), (true, 6)] (by kernel_rfl) (by kernel_rfl) (fun _ _ d _ _ h => by cases d <;> exact h) ?_
    repeat (refine PlanB.take (v := ?_) rfl rfl ?_ ?_; rotate_left; (focus (intro X hX; obtain ⟨k0, k1, k2⟩ := HCE.out X (hd1.trans hX); go_simp; (try with_reducible rfl); done)); (try simp only [Act.put, List.setIfInBounds_toArray, List.set_cons_zero, List.set_cons_succ]))
    simp only [PlanB]
    obtain ⟨k0, k1, k2⟩ := HCE.out W1.drew hd1
    clear hd1
    go_wp2_with fail
    refine HDEL.out.mono ?_
    rintro e w2 ⟨A2, c2, rfl, ho2, hg2, hrow2⟩
    rw [HOV.out] at hg2 hrow2
    obtain ⟨s1, ⟨u, s2⟩, s3, s4⟩ := HP.out.store HB.out hg2 rfl ho2 (fun g hg => .inl (by rw [← hrow2]; exact hg))
    obtain ⟨t1, ⟨u2, t2⟩, t3⟩ := s1.floor v
    have hbx2 : w2.cell? ⟨w.heap.size, 0, none⟩ = some (.int .i64 v) := (grown_cell hg2 (p := ⟨w.heap.size, 0, none⟩) (World.block_lt_of_cell? _ _ k2) (fun e => by have := (HP.out.row e).2; simp only at this; omega)).trans k2
    have hqs := HP.out.size
    have hbx3 : (w2.setCell ⟨q, 1, none⟩ (.slice A2 (L.filter fun x => keepB v x).length c2)).cell? ⟨w.heap.size, 0, none⟩ = some (.int .i64 v) := (World.cell?_setCell_other _ ⟨q, 1, none⟩ ⟨w.heap.size, 0, none⟩ _ (by intro e; injection e with e; omega)).trans hbx2
    have HT := Lib.hid t1
    rw [hrow2] at HT
    clear k0 k1 k2 s1 s4 t1 hg2 ho2 hrow2 hbx2 hqs
    go_wp2_with fail
    go_ret
    exact ⟨rfl, PmD q ov, ⟨ov, _, HT.out.now, rfl, HRE.out, HTO.out, HLE.out, HOK.out, h6⟩, fun i hi => .inl hi, HT.out.moved⟩
end Go.Proofs.YtgppgecglkellaaGreat
namespace Go.Proofs.YtgppgecglkellaaGreat
open Go.RowKit Go.Sort
attribute [local go_sem] less_eq same_eq le_eq ge_eq gt_eq

theorem flatK_eq (d : Array (K × K)) : flatK cellsS 2 d = (flat d.toList).toArray := by
  apply Array.ext_getElem?
  intro t
  refine Eq.trans ?_ (show (flat d.toList)[t]? = (flat d.toList).toArray[t]? by simp)
  by_cases ht : t < d.size * 2
  · have hi : t / 2 < d.size := by omega
    have hs : d.toList[t / 2]? = some d[t / 2]! := by rw [Array.getElem?_toList, getElem!_pos d _ hi]; simp [hi]
    have hf := flat_get _ _ _ hs
    have hz : t < (flatK cellsS 2 d).size := by rw [size_flatK]; exact ht
    rw [Array.getElem?_eq_getElem hz]
    have hg := get_flatK cellsS 2 d t ht
    rw [getElem!_pos _ t hz] at hg
    rw [hg]
    rcases Nat.mod_two_eq_zero_or_one t with h | h
    · rw [h]
      rw [show t / 2 * 2 = t by omega] at hf
      rw [hf.1]; rfl
    · rw [h]
      rw [show t / 2 * 2 + 1 = t by omega] at hf
      rw [hf.2]; rfl
  · rw [Array.getElem?_eq_none (by rw [size_flatK]; omega), List.getElem?_eq_none (by rw [flat_length, Array.length_toList]; omega)]

section
variable {w : World} {base g cap : Nat} {l : List (K × K)}
theorem OwnS.holds (h : OwnS w base (.slice (some ⟨g, 0, none⟩) l.length cap) l) : HoldsK cellsS 2 w g 0 l.toArray := by
  unfold HoldsK
  rw [flatK_eq]
  intro j hj
  have hj' : j < l.length * 2 := by simpa [flat_length] using hj
  unfold OwnS at h
  rw [Nat.zero_add, h.cellAt j hj', h.frozenAt]
  refine ⟨?_, rfl⟩
  rw [getElem!_pos _ j hj, List.getElem_toArray, List.getElem?_eq_getElem (by rw [flat_length]; exact hj')]
  rfl

theorem OwnS.sorted (h : OwnS w base (.slice (some ⟨g, 0, none⟩) l.length cap) l) (d : Array (K × K)) (hd : d.size = l.length) (n : Nat) (os : Array Obj) :
    OwnS (grow (putRowK cellsS 2 (Sort.ahead w n) g 0 d) os) base (.slice (some ⟨g, 0, none⟩) l.length cap) d.toList ∧ w.grownBy (grow (putRowK cellsS 2 (Sort.ahead w n) g 0 d) os) (some g) := by
  rcases h.2 with ⟨h', _⟩ | ⟨g', cap', cur, h', hb, hg, hnc, hcm, hcs, htake⟩
  · simp at h'
  · simp only [Value.slice.injEq, Option.some.injEq, Addr.mk.injEq, and_true, true_and] at h'
    obtain ⟨rfl, rfl⟩ := h'
    have hlt : g < w.heap.size := (Array.getElem?_eq_some_iff.1 hg).1
    have hl : d.toList.length = l.length := by simpa using hd
    refine ⟨?_, ⟨rfl, rfl, rfl, by simp [putRowK, putRow, mapBlock, Sort.ahead], fun k hk hne => ?_⟩⟩
    · unfold OwnS
      rw [hl]
      refine ⟨by rw [flat_length, hl], .inr ⟨g, cap, putCells id 0 (flatK cellsS 2 d) cur, rfl, hb, ?_, hnc, hcm, by simpa [putCells] using hcs, ?_⟩⟩
      · rw [heap_grow_old _ _ (by simpa [putRowK, putRow, mapBlock, Sort.ahead] using hlt)]
        simp [putRowK, putRow, mapBlock, Sort.ahead, Array.getElem?_modify, hg, onCells]
      · have hfl : (flat d.toList).length = l.length * 2 := by rw [flat_length, hl]
        apply List.ext_getElem?
        intro j
        have hcur : l.length * 2 ≤ cur.size := by rw [hcs]; exact Nat.mul_le_mul_right _ hnc
        by_cases hj : j < l.length * 2
        · rw [List.getElem?_take_of_lt hj, Array.getElem?_toList, putCells, Array.getElem?_mapIdx, Array.getElem?_eq_getElem (by omega), Option.map_some, size_flatK,
            if_pos ⟨Nat.zero_le _, by omega⟩, flatK_eq, Nat.sub_zero, getElem!_pos _ j (by simpa [hfl] using hj), List.getElem_toArray, List.getElem?_eq_getElem (by omega)]
          rfl
        · rw [List.getElem?_take_eq_none (by omega), List.getElem?_eq_none (by omega)]
    · rw [heap_grow_old _ _ (by simpa [putRowK, putRow, mapBlock, Sort.ahead] using hk)]
      have : g ≠ k := fun e => hne (by rw [e])
      simp [putRowK, putRow, mapBlock, Sort.ahead, Array.getElem?_modify, this]
end

def cmpS (x y : K × K) : Int := cmpKey x.1 y.1
theorem ltS (x y : K × K) : ltOf cmpS x y = decide (x.1 < y.1) := by
  unfold ltOf cmpS cmpKey
  by_cases h1 : x.1 < y.1
  · simp [h1]
  · by_cases h2 : y.1 < x.1 <;> simp [h1, h2]
theorem swoS : SWO (ltOf cmpS) where
  irrefl x := by rw [ltS]; simp; grind
  trans x y z h1 h2 := by rw [ltS] at *; simp at *; grind
  ntrans x y z h1 h2 := by rw [ltS] at *; simp at *; grind

set_option maxHeartbeats 400000 in
theorem less_any (x y : K × K) (W : World) : Calls Tryz.prog 103 #[.agg #[.string x.1, .string x.2], .agg #[.string y.1, .string y.2]] W fun e w' => e = .returned (.int .i64 (cmpS x y)) ∧ ∃ q os', w' = grow (W.drewN q) os' := by
  have hcon := fun W' => compare_any x.1 y.1 W'
  unfold cmpS
  generalize cmpKey x.1 y.1 = r at hcon ⊢
  go_enter Tryz.func103, Tryz.ntmps103
  go_wp2_with (go_at_call 51; refine (hcon _).mono ?_; rintro e w' ⟨rfl, rfl⟩)
  go_ret
  exact ⟨rfl, 0, _, by rw [alloc_eq_grow, alloc_eq_grow, grow_grow]; rfl⟩

/-- the sort of a slice of the call's own -/
theorem sort_any (w : World) (base : Nat) (v : Value) (l : List (K × K)) (h : OwnS w base v l) (hl : l.length ≤ 2000000) :
    Calls Tryz.prog 102 #[v, .func (.func 103) #[] #[]] w fun e w' => e = .returned (.tuple #[]) ∧
      ∃ l', OwnS w' base v l' ∧ w.grownBy w' v.ownBlock ∧ l'.Perm l ∧ l'.Pairwise (fun a b => a.1 ≤ b.1) := by
  rcases h.form with ⟨rfl, rfl⟩ | ⟨g, cap, rfl, hg, hlt, hc⟩
  · refine (AnyF.slices_SortFunc_none (P := Tryz.prog) Tryz.sortSp none 0 _ w).mono ?_
    rintro e w' ⟨he, rfl⟩
    exact ⟨he, [], OwnS.nil _ _, ⟨rfl, rfl, rfl, Nat.le_refl _, fun _ _ _ => rfl⟩, .refl _, .nil⟩
  · have eg : ∀ args w, (callFunc 103 args).run Tryz.prog w = .ok (.enter 103 args) w := enters_of Tryz.func103 (by kernel_rfl) rfl
    have hcon := AnyQ.slices_SortFunc (P := Tryz.prog) Tryz.sortSp 2 Tryz.isAgg52 Tryz.sizeOf52 cellsS (fun _ => rfl) (fun x v hv => by simp [cellsS] at hv; rcases hv with rfl | rfl <;> rfl) cmpS swoS 103 #[] g 0 cap l.toArray w eg
      (fun _ _ _ _ x y => less_any x y _) h.holds hlt (by simp; omega)
    refine hcon.mono ?_
    rintro e w' ⟨he, d', n, os, hp, hs, rfl⟩
    have hd : d'.size = l.length := by simpa using hp.1
    obtain ⟨h1, h2⟩ := h.sorted d' hd n os
    refine ⟨he, d'.toList, h1, h2, ?_, ?_⟩
    · have := hp.2.2
      simpa [hd, Array.extract_eq_self_of_le] using this
    · rw [List.pairwise_iff_getElem]
      intro i j hi hj hij
      have hq := hs i j (Nat.zero_le _) hij (by simpa [hd] using hj)
      rw [ltS, getElem!_pos d' i (by simpa using hi), getElem!_pos d' j (by simpa using hj)] at hq
      have hn : ¬ d'[j].1 < d'[i].1 := by simpa using hq
      have hr : d'[i].1 ≤ d'[j].1 := by grind
      simpa using hr

set_option maxHeartbeats 400000 in
theorem empty_exact (s : K × K) (w : World) : Calls Tryz.prog 43 #[.agg #[.string s.1, .string s.2]] w fun e w' => e = .returned (.bool (decide (s.2 ≤ s.1))) ∧ w' = w.alloc (.cells #[.string s.1, .string s.2] 52) := by
  go_enter Tryz.func43, Tryz.ntmps43
  go_wp2
  go_ret
  exact ⟨rfl, rfl⟩

def full (s : K × K) : Bool := decide (s.1 < s.2)
theorem full_step (l : List (K × K)) (j : Nat) (h : j < l.length) : (l.take (j + 1)).filter full = (l.take j).filter full ++ (if full l[j] then [l[j]] else []) := by
  rw [List.take_succ_eq_append_getElem h, List.filter_append]
  by_cases hx : full l[j] = true
  · simp [hx]
  · simp [hx]

set_option maxHeartbeats 1000000 in
set_option maxRecDepth 100000 in
theorem rising_any (l : List (K × K)) (v : Value) (w : World) (hv : RdS w w.heap.size v l) (hl : l.length ≤ 2000000) : Calls Tryz.prog 84 #[v] w fun e w' =>
    ∃ v' l', e = .returned v' ∧ OwnS w' w.heap.size v' l' ∧ Below w.heap.size w w' ∧ l'.Perm (l.filter full) ∧ l'.Pairwise (fun a b => a.1 ≤ b.1) := by
  obtain ⟨A, c, rfl, hc, hi⟩ := hv
  have HI := Lib.hid hi; clear hi
  obtain ⟨B, hB⟩ : ∃ B, B = w.heap.size := ⟨_, rfl⟩
  rw [← hB] at HI
  have hb0 : Below B w w := Below.refl _ _
  have hB' : B ≤ w.heap.size := by omega
  rw [← hB]
  clear hB
  go_enter Tryz.func84, Tryz.ntmps84
  go_wp2
  go_loopw [3, 8] (fun ov i wr => ∃ j : Nat, j ≤ l.length ∧ i = .int .i64 j ∧ Below B w wr ∧ OwnS wr B ov ((l.take j).filter full)) (fun _ i _ => l.length - (intOf i).toNat)
  case atStart => exact ⟨0, Nat.zero_le _, rfl, hb0, OwnS.nil _ _⟩
  case round =>
    obtain ⟨j, hj, rfl, hb, ho⟩ := hrel
    by_cases hlt : j < l.length
    · obtain ⟨b, o, rfl, hbB, h1, h2⟩ := HI.out j l[j] (List.getElem?_eq_getElem hlt)
      have g1 := hb.cell (p := ⟨b, o + j * 2, none⟩) hbB
      have g2 := hb.cell (p := ⟨b, o + j * 2 + 1, none⟩) hbB
      rw [h1] at g1; rw [h2] at g2
      clear h1 h2
      have hst := full_step l j hlt
      have HO := Lib.hid ho; clear ho
      by_cases hx : l[j].2 ≤ l[j].1
      · have hf : full l[j] = false := by simp [full]; grind
        rw [hf, if_neg (by simp), List.append_nil] at hst
        have HS := Lib.hid hst; clear hst hf
        go_wp2_with (go_at_call 43; refine (empty_exact l[j] _).mono ?_; rintro e w1 ⟨rfl, rfl⟩)
        have hz := hb.size
        go_roundw
        case rel => exact ⟨j + 1, by omega, by go_num, (hb.alloc (by omega) _).alloc (by rw [World.size_alloc]; omega) _, by rw [HS.out]; exact (HO.out.alloc _).alloc _⟩
        case measure => simp [intOf]; omega
      · have hf : full l[j] = true := by simp [full]; grind
        rw [hf, if_pos rfl] at hst
        have HS := Lib.hid hst; clear hst hf
        have hz := hb.size
        have hlen : ((l.take j).filter full).length ≤ 2000000 := Nat.le_trans (List.length_filter_le _ _) (by rw [List.length_take]; omega)
        have HL := Lib.hid hlen; clear hlen
        go_wp2_with (first | (go_at_call 43; refine (empty_exact l[j] _).mono ?_; rintro e w1 ⟨rfl, rfl⟩) | (at_builtin; go_must (refine wpList_addS rfl _ _ rfl B u3 _ rfl (((HO.out.alloc _).alloc _).alloc _) ⟨wr.heap.size + 1 + 1, 0, none⟩ 1 [l[j]] rfl ?c1 ?c2 ?c3 ?_); rotate_right; intro A' c' w1 ho1 hg1))
        case c1 => simpa using new_cells ((wr.alloc (.cells #[.string l[j].1, .string l[j].2] 52)).alloc (.cells #[.string l[j].1, .string l[j].2] 52)) l[j] 52
        case c2 => have := HL.out; simp only [List.length_singleton]; omega
        case c3 => simp only [World.size_alloc]; omega
        have hb3 := (((hb.alloc (Nat.le_trans hB' hz) _).alloc (by rw [World.size_alloc]; omega) _).alloc (by simp only [World.size_alloc]; omega) _).grown hg1 (by simp only [World.size_alloc]; omega) (fun k hk => (HO.out.lt k hk).1)
        go_roundw
        case rel => exact ⟨j + 1, by omega, by go_num, hb3, by rw [HS.out]; simpa only [List.length_append, List.length_singleton] using ho1⟩
        case measure => simp [intOf]; omega
    · obtain rfl : j = l.length := by omega
      rw [List.take_length] at ho
      have hlen : (l.filter full).length ≤ 2000000 := Nat.le_trans (List.length_filter_le _ _) hl
      have HO := Lib.hid ho; clear ho
      have hs := sort_any wr B _ _ HO.out hlen
      clear hlen
      go_wp2_with fail
      refine hs.mono ?_
      rintro e w1 ⟨rfl, l', ho1, hg1, hp, hq⟩
      have hb1 := hb.grown hg1 (Nat.le_trans hB' hb.size) (fun k hk => (HO.out.lt k hk).1)
      go_wp2_with fail
      refine bodyPost_ret (v := _) ?_ rfl ⟨_, l', rfl, ho1, hb1, hp, hq⟩
      simp [results, Tryz.results84, go_sem]
end Go.Proofs.YtgppgecglkellaaGreat
namespace Go.Proofs.YtgppgecglkellaaGreat
open Go.RowKit Go.Sort
attribute [local go_sem] less_eq same_eq le_eq ge_eq gt_eq

theorem flatKW_eq (d : Array Wr) : flatK encW 3 d = (flatG encW d.toList).toArray := by
  apply Array.ext_getElem?
  intro t
  refine Eq.trans ?_ (show (flatG encW d.toList)[t]? = (flatG encW d.toList).toArray[t]? by simp)
  by_cases ht : t < d.size * 3
  · have hi : t / 3 < d.size := by omega
    have hf := flatG_get encW_len d.toList (t / 3) (by simpa using hi) (t % 3) (by omega)
    rw [show t / 3 * 3 + t % 3 = t by omega] at hf
    have hz : t < (flatK encW 3 d).size := by rw [size_flatK]; exact ht
    rw [Array.getElem?_eq_getElem hz]
    have hg := get_flatK encW 3 d t ht
    rw [getElem!_pos _ t hz] at hg
    rw [hg, hf, getElem!_pos d _ hi]
    have h3 : t % 3 < (encW d[t / 3]).length := by rw [encW_len]; omega
    simp only [Array.getElem_toList]
    rw [List.getElem?_eq_getElem h3, getElem!_pos (encW d[t / 3]) (t % 3) h3]
  · rw [Array.getElem?_eq_none (by rw [size_flatK]; omega), List.getElem?_eq_none (by rw [flatG_length encW_len, Array.length_toList]; omega)]

section
variable {w : World} {base g cap : Nat} {l : List Wr}
theorem OwnMk.holds (h : OwnMk w base (.slice (some ⟨g, 0, none⟩) l.length cap) l) : HoldsK encW 3 w g 0 l.toArray := by
  unfold HoldsK
  rw [flatKW_eq]
  intro j hj
  have hj' : j < l.length * 3 := by simpa [flatG_length encW_len] using hj
  unfold OwnMk Own at h
  rw [Nat.zero_add, h.cellAt j hj', h.frozenAt]
  refine ⟨?_, rfl⟩
  rw [getElem!_pos _ j hj, List.getElem_toArray, List.getElem?_eq_getElem (by rw [flatG_length encW_len]; exact hj')]
  rfl

theorem OwnMk.sorted (h : OwnMk w base (.slice (some ⟨g, 0, none⟩) l.length cap) l) (d : Array Wr) (hd : d.size = l.length) (n : Nat) (os : Array Obj) :
    OwnMk (grow (putRowK encW 3 (Sort.ahead w n) g 0 d) os) base (.slice (some ⟨g, 0, none⟩) l.length cap) d.toList ∧ w.grownBy (grow (putRowK encW 3 (Sort.ahead w n) g 0 d) os) (some g) := by
  rcases h.2 with ⟨h', _⟩ | ⟨g', cap', cur, h', hb, hg, hnc, hcm, hcs, htake⟩
  · simp at h'
  · simp only [Value.slice.injEq, Option.some.injEq, Addr.mk.injEq, and_true, true_and] at h'
    obtain ⟨rfl, rfl⟩ := h'
    have hlt : g < w.heap.size := (Array.getElem?_eq_some_iff.1 hg).1
    have hl : d.toList.length = l.length := by simpa using hd
    refine ⟨?_, ⟨rfl, rfl, rfl, by simp [putRowK, putRow, mapBlock, Sort.ahead], fun k hk hne => ?_⟩⟩
    · unfold OwnMk Own
      rw [hl]
      refine ⟨by rw [flatG_length encW_len, hl], .inr ⟨g, cap, putCells id 0 (flatK encW 3 d) cur, rfl, hb, ?_, hnc, hcm, by simpa [putCells] using hcs, ?_⟩⟩
      · rw [heap_grow_old _ _ (by simpa [putRowK, putRow, mapBlock, Sort.ahead] using hlt)]
        simp [putRowK, putRow, mapBlock, Sort.ahead, Array.getElem?_modify, hg, onCells]
      · have hfl : (flatG encW d.toList).length = l.length * 3 := by rw [flatG_length encW_len, hl]
        apply List.ext_getElem?
        intro j
        have hcur : l.length * 3 ≤ cur.size := by rw [hcs]; exact Nat.mul_le_mul_right _ hnc
        by_cases hj : j < l.length * 3
        · rw [List.getElem?_take_of_lt hj, Array.getElem?_toList, putCells, Array.getElem?_mapIdx, Array.getElem?_eq_getElem (by omega), Option.map_some, size_flatK,
            if_pos ⟨Nat.zero_le _, by omega⟩, flatKW_eq, Nat.sub_zero, getElem!_pos _ j (by simpa [hfl] using hj), List.getElem_toArray, List.getElem?_eq_getElem (by omega)]
          rfl
        · rw [List.getElem?_take_eq_none (by omega), List.getElem?_eq_none (by omega)]
    · rw [heap_grow_old _ _ (by simpa [putRowK, putRow, mapBlock, Sort.ahead] using hk)]
      have : g ≠ k := fun e => hne (by rw [e])
      simp [putRowK, putRow, mapBlock, Sort.ahead, Array.getElem?_modify, this]
end

def cmpM (x y : Wr) : Int := cmpKey x.s.1 y.s.1
theorem ltM (x y : Wr) : ltOf cmpM x y = decide (x.s.1 < y.s.1) := by
  unfold ltOf cmpM cmpKey
  by_cases h1 : x.s.1 < y.s.1
  · simp [h1]
  · by_cases h2 : y.s.1 < x.s.1 <;> simp [h1, h2]
theorem swoM : SWO (ltOf cmpM) where
  irrefl x := by rw [ltM]; simp; grind
  trans x y z h1 h2 := by rw [ltM] at *; simp at *; grind
  ntrans x y z h1 h2 := by rw [ltM] at *; simp at *; grind

set_option maxHeartbeats 400000 in
theorem lessM_any (x y : Wr) (W : World) : Calls Tryz.prog 50 #[.agg #[.string x.s.1, .string x.s.2, .int .i64 x.v], .agg #[.string y.s.1, .string y.s.2, .int .i64 y.v]] W fun e w' => e = .returned (.int .i64 (cmpM x y)) ∧ ∃ q os', w' = grow (W.drewN q) os' := by
  have hcon := fun W' => compare_any x.s.1 y.s.1 W'
  unfold cmpM
  generalize cmpKey x.s.1 y.s.1 = r at hcon ⊢
  go_enter Tryz.func50, Tryz.ntmps50
  go_wp2_with (go_at_call 51; refine (hcon _).mono ?_; rintro e w' ⟨rfl, rfl⟩)
  go_ret
  exact ⟨rfl, 0, _, by rw [alloc_eq_grow, alloc_eq_grow, grow_grow]; rfl⟩

/-- the sort of marks of the call's own -/
theorem sortM_any (w : World) (base : Nat) (v : Value) (l : List Wr) (h : OwnMk w base v l) (hl : l.length ≤ 2000000) :
    Calls Tryz.prog 49 #[v, .func (.func 50) #[] #[]] w fun e w' => e = .returned (.tuple #[]) ∧
      ∃ l', OwnMk w' base v l' ∧ w.grownBy w' v.ownBlock ∧ l.Perm l' ∧ l'.Pairwise (fun a c => ¬ c.s.1 < a.s.1) := by
  rcases h.form with ⟨rfl, rfl⟩ | ⟨g, cap, rfl, hg, hlt, hc⟩
  · refine (AnyF.slices_SortFunc_none (P := Tryz.prog) Tryz.sortMk none 0 _ w).mono ?_
    rintro e w' ⟨he, rfl⟩
    exact ⟨he, [], Own.nil _ _, ⟨rfl, rfl, rfl, Nat.le_refl _, fun _ _ _ => rfl⟩, .refl _, .nil⟩
  · have eg : ∀ args w, (callFunc 50 args).run Tryz.prog w = .ok (.enter 50 args) w := enters_of Tryz.func50 (by kernel_rfl) rfl
    have hcon := AnyQ.slices_SortFunc (P := Tryz.prog) Tryz.sortMk 3 Tryz.isAgg77 Tryz.sizeOf77 encW (fun _ => rfl) (fun x v hv => by simp [encW] at hv; rcases hv with rfl | rfl | rfl <;> rfl) cmpM swoM 50 #[] g 0 cap l.toArray w eg
      (fun _ _ _ _ x y => lessM_any x y _) h.holds hlt (by simp; omega)
    refine hcon.mono ?_
    rintro e w' ⟨he, d', n, os, hp, hs, rfl⟩
    have hd : d'.size = l.length := by simpa using hp.1
    obtain ⟨h1, h2⟩ := h.sorted d' hd n os
    refine ⟨he, d'.toList, h1, h2, ?_, ?_⟩
    · have := hp.2.2
      exact (show d'.toList.Perm l by simpa [hd, Array.extract_eq_self_of_le] using this).symm
    · rw [List.pairwise_iff_getElem]
      intro i j hi hj hij
      have hq := hs i j (Nat.zero_le _) hij (by simpa [hd] using hj)
      rw [ltM, getElem!_pos d' i (by simpa using hi), getElem!_pos d' j (by simpa using hj)] at hq
      have hn : ¬ d'[j].s.1 < d'[i].s.1 := by simpa using hq
      simpa using hn
end Go.Proofs.YtgppgecglkellaaGreat
namespace Go.Proofs.YtgppgecglkellaaGreat
open Go.RowKit

theorem insert_cells {cur A B X Y : List Value} (h : cur.take (A.length + B.length) = A ++ B) (hl : A.length + X.length + B.length ≤ cur.length) (hY : Y = splice cur (A.length + X.length) B) :
    (splice Y A.length X).take (A.length + X.length + B.length) = A ++ X ++ B := by
  have hA : cur.take A.length = A := by
    have := congrArg (List.take A.length) h
    rw [List.take_take, List.take_left, Nat.min_eq_left (by omega)] at this
    exact this
  have hYl : Y.length = cur.length := by rw [hY, length_splice _ _ _ (by omega)]
  have h1 : (splice Y A.length X).take (A.length + X.length) = A ++ X := by
    rw [take_splice_end Y X A.length _ (by omega) rfl, hY, take_splice_lt cur B _ _ (by omega) (by omega), hA]
  have h2 : (splice Y A.length X).drop (A.length + X.length) = B ++ cur.drop (A.length + X.length + B.length) := by
    rw [drop_splice_ge Y X A.length _ (Nat.le_refl _) (by omega), hY]
    unfold splice
    rw [List.drop_append, List.drop_eq_nil_of_le (by simp; omega), List.nil_append, show A.length + X.length - (cur.take (A.length + X.length)).length = 0 by simp; omega, List.drop_zero]
  have h3 : splice Y A.length X = (A ++ X ++ B) ++ cur.drop (A.length + X.length + B.length) := by
    rw [← List.take_append_drop (A.length + X.length) (splice Y A.length X), h1, h2, List.append_assoc (A ++ X)]
  rw [h3]
  exact List.take_left' (by simp only [List.length_append])

theorem overlaps_apart {w : World} {g vb : Nat} {cur cs : List Value} {o la ca lb cb : Nat} (hg : Whole w g 77 cur) (hv : Whole w vb 77 cs) (hne : vb ≠ g) (hc : cur.length ≠ 0) :
    (callFunc 72 #[.slice (some ⟨vb, 0, none⟩) la ca, .slice (some ⟨g, o, none⟩) lb cb]).run Tryz.prog w = .ok (.value (.bool false)) w := by
  rw [run_callFunc_extern Tryz.func72 (by kernel_rfl) (by kernel_rfl) (by kernel_rfl) (e := Extern.SlicesOverlaps.overlaps #[68, 68] #[4]) (by kernel_rfl),
    Lib.run_overlaps_apart w 68 4 77 Tryz.underlying68 3 Tryz.sizeOf77 ⟨vb, 0, none⟩ ⟨g, o, none⟩ la ca lb cb hne _ _ _ _ hv.shape hg.shape hc (hv.frozen 0) (hv.frozen _)]
  rfl

set_option maxHeartbeats 4000000 in
set_option maxRecDepth 100000 in
theorem insert_shift (l : List Wr) (i : Nat) (x : Wr) (w : World) (g cap vb : Nat) (cur vcur : List Value) (vc : Nat) (hg : Whole w g 77 cur) (hv : Whole w vb 77 vcur) (hvx : ∀ (j : Nat) (v : Value), (encW x)[j]? = some v → vcur[j]? = some v) (hne : vb ≠ g) (hi : i < l.length) (hroom : l.length + 1 ≤ cap)
    (hcap : cap ≤ maxLen) (hcl : cur.length = cap * 3) (htk : cur.take (l.length * 3) = flatG encW l) :
    Calls Tryz.prog 71 #[.slice (some ⟨g, 0, none⟩) l.length cap, .int .i64 i, .slice (some ⟨vb, 0, none⟩) 1 vc] w fun e w' =>
      e = .returned (.slice (some ⟨g, 0, none⟩) (l.length + 1) cap) ∧ ∃ cur', Whole w' g 77 cur' ∧ cur'.length = cap * 3 ∧ cur'.take ((l.length + 1) * 3) = flatG encW (l.take i ++ [x] ++ l.drop i) ∧ w.grownBy w' (some g) := by
  have hov := fun lb cb => overlaps_apart (o := (i + 1) * 3) (la := 1) (ca := vc) (lb := lb) (cb := cb) hg hv hne (by omega)
  generalize hn : l.length = n at *
  unfold maxLen at hcap
  have hw1 : IntKind.i64.wrap ((i : Int) + 1) = (i : Int) + 1 := by rw [IntKind.wrap_i64]; omega
  have hw2 : IntKind.i64.wrap ((n : Int) + 1) = (n : Int) + 1 := by rw [IntKind.wrap_i64]; omega
  have hb1 : ¬ ((i : Int) = (n : Int)) := by omega
  have hb2 : ¬ ((cap : Int) < (n : Int) + 1) := by omega
  have hb3 : (i : Int) ≤ (n : Int) := by omega
  have hb4 : (i : Int) + 1 ≤ (n : Int) + 1 := by omega
  have hb5 : (n : Int) + 1 ≤ (cap : Int) := by omega
  have hb6 : (0 : Int) ≤ (i : Int) + 1 := by omega
  have hb7 : ¬ (cap = i) := by omega
  have hb8 : ¬ (cap = i + 1) := by omega
  have hb9 : (i : Int) ≤ (n : Int) + 1 := by omega
  have HG := Lib.hid hg; clear hg
  have HV := Lib.hid hv; clear hv
  have HVX := Lib.hid hvx; clear hvx
  have HN := Lib.hid hn; clear hn
  have HT := Lib.hid htk; clear htk
  have HL := Lib.hid hcl; clear hcl
  go_enter Tryz.func71, Tryz.ntmps71
  go_wp2_with fail
  refine wp_region_plan (S := fun _ => True) [(true, 0), (true, 1), (true, 2), (true, 3), (true, 4), (true, 5), (true, 6), (true, 7), (false, 8)] (by kernel_rfl) (by kernel_rfl) (fun _ _ d _ _ h => by cases d <;> exact h) trivial ?_
  repeat (refine Plan.take (v := ?_) rfl rfl ?_ ?_; rotate_left; (focus (intro W hW; go_simp; (try with_reducible rfl); done)); (try simp only [Act.put, List.setIfInBounds_toArray, List.set_cons_zero, List.set_cons_succ]))
  have eA : (l.take i).length = i := by rw [List.length_take, HN.out]; omega
  have eB : (l.drop i).length = n - i := by rw [List.length_drop, HN.out]
  have eX : (encW x).length = 3 := rfl
  have fA : (flatG encW (l.take i)).length = i * 3 := by rw [flatG_length encW_len, eA]
  have fB : (flatG encW (l.drop i)).length = (n - i) * 3 := by rw [flatG_length encW_len, eB]
  have hcut : flatG encW l = flatG encW (l.take i) ++ flatG encW (l.drop i) := by rw [← flatG_append, List.take_append_drop]
  have HA := Lib.hid fA; clear fA
  have HB := Lib.hid fB; clear fB
  have HC := Lib.hid hcut; clear hcut
  clear eA eB eX
  refine Plan.step rfl rfl fun K2 hK => ?_
  refine wp_copyP _ _ rfl g ((i + 1) * 3) cur (flatG encW (l.drop i)) _ _ _ _ _ _ rfl rfl HG.out.drew ?_ (fun _ => rfl) (Srcs.of (HG.out.drew.srcs (i * 3) _ ?_)) ?_ (encW_one' _) ?_
  · rw [HB.out, show (n + 1 - i).min (n - i) = n - i from Nat.min_eq_right (by omega)]
  · rw [← HA.out]
    exact cells_at (n := n * 3) (by rw [HT.out, HC.out])
  · rw [HB.out, HL.out]; omega
  intro w2 hm2
  refine hK _ _ trivial ?_
  simp only [Plan]
  clear hK
  have hv2 : Whole w2 vb 77 vcur := hm2.out.away HV.out.drew hne
  have HV2 := Lib.hid hv2; clear hv2
  obtain ⟨Y, hY⟩ : ∃ Y, Y = splice cur ((i + 1) * 3) (flatG encW (l.drop i)) := ⟨_, rfl⟩
  rw [← hY] at hm2
  have hYl : Y.length = cap * 3 := by rw [hY, length_splice _ _ _ (by rw [HB.out, HL.out]; omega), HL.out]
  have HY := Lib.hid hY; clear hY
  have HYL := Lib.hid hYl; clear hYl
  go_wp2_with (with_reducible show wpList _ _ _ (⟨some 82, _, _, _, _, _⟩ :: _) _ _; go_must (refine wpList_copyP rfl _ _ rfl g (i * 3) Y (encW x) _ _ _ _ _ _ rfl rfl hm2.out.whole ?c1 (fun _ => rfl) (Srcs.of ?c2) ?c3 (encW_one x) ?_))
  case c1 => rw [show Nat.min 1 (n + 1 - i) = 1 from Nat.min_eq_left (by omega)]; rfl
  case c2 => exact HV2.out.srcs 0 _ (fun j v hj => by rw [Nat.zero_add]; exact HVX.out j v hj)
  case c3 => rw [HYL.out]; show i * 3 + 3 ≤ _; omega
  intro w3 hm3
  go_wp2_with fail
  go_ret
  refine ⟨rfl, _, hm3.out.whole, ?_, ?_, ?_⟩
  · rw [length_splice _ _ _ (by rw [HYL.out]; show i * 3 + 3 ≤ _; omega), HYL.out]
  · have h := insert_cells (cur := cur) (A := flatG encW (l.take i)) (B := flatG encW (l.drop i)) (X := encW x) (Y := Y) (by rw [HA.out, HB.out, show i * 3 + (n - i) * 3 = n * 3 by omega, HT.out, HC.out]) (by rw [HA.out, HB.out, HL.out]; show i * 3 + 3 + _ ≤ _; omega) (by rw [HY.out, HA.out, show (i + 1) * 3 = i * 3 + (encW x).length by show _ = i * 3 + 3; omega])
    rw [HA.out, HB.out, show i * 3 + (encW x).length + (n - i) * 3 = (n + 1) * 3 by show i * 3 + 3 + _ = _; omega] at h
    rw [h, flatG_append, flatG_append]
    simp [flatG]
  · have h1 := hm2.out.grown
    have h2 := hm3.out.grown
    exact ⟨h2.os.trans h1.os, h2.tape.trans h1.tape, h2.output.trans h1.output, Nat.le_trans h1.size h2.size, fun k hk hn => (h2.block k (Nat.lt_of_lt_of_le hk h1.size) hn).trans (h1.block k hk hn)⟩

theorem grown_undrew {w w' : World} {row : Option Nat} (h : w.drew.grownBy w' row) : w.grownBy w' row := ⟨h.os, h.tape, h.output, h.size, h.block⟩
theorem grown_trans {a b c : World} {row : Option Nat} (h1 : a.grownBy b row) (h2 : b.grownBy c row) : a.grownBy c row :=
  ⟨h2.os.trans h1.os, h2.tape.trans h1.tape, h2.output.trans h1.output, Nat.le_trans h1.size h2.size, fun k hk hn => (h2.block k (Nat.lt_of_lt_of_le hk h1.size) hn).trans (h1.block k hk hn)⟩
theorem grown_new {a b c : World} {g : Nat} (h1 : a.grownBy b none) (h2 : b.grownBy c (some g)) (hg : a.heap.size ≤ g) : a.grownBy c none :=
  ⟨h2.os.trans h1.os, h2.tape.trans h1.tape, h2.output.trans h1.output, Nat.le_trans h1.size h2.size, fun k hk _ => (h2.block k (Nat.lt_of_lt_of_le hk h1.size) (by simp; omega)).trans (h1.block k hk (by simp))⟩

set_option maxHeartbeats 4000000 in
set_option maxRecDepth 100000 in
theorem insert_grow (l : List Wr) (i : Nat) (x : Wr) (w : World) (g cap vb : Nat) (cur vcur : List Value) (vc : Nat) (hg : Whole w g 77 cur) (hv : Whole w vb 77 vcur) (hvx : ∀ (j : Nat) (v : Value), (encW x)[j]? = some v → vcur[j]? = some v) (hi : i < l.length) (hroom : cap < l.length + 1)
    (hcap : l.length ≤ cap) (hcl : cur.length = cap * 3) (htk : cur.take (l.length * 3) = flatG encW l) (hlen : l.length + 1 ≤ 2000000) :
    Calls Tryz.prog 71 #[.slice (some ⟨g, 0, none⟩) l.length cap, .int .i64 i, .slice (some ⟨vb, 0, none⟩) 1 vc] w fun e w' =>
      ∃ c, e = .returned (.slice (some ⟨w.heap.size, 0, none⟩) (l.length + 1) c) ∧ ∃ cur', Whole w' w.heap.size 77 cur' ∧ cur'.length = c * 3 ∧ l.length + 1 ≤ c ∧ c ≤ maxLen ∧ cur'.take ((l.length + 1) * 3) = flatG encW (l.take i ++ [x] ++ l.drop i) ∧ w.grownBy w' none := by
  generalize hn : l.length = n at *
  obtain rfl : cap = n := by omega
  obtain ⟨d, hd⟩ : ∃ d, cap + 1 = i + d := ⟨cap + 1 - i, by omega⟩
  have hw1 : IntKind.i64.wrap ((i : Int) + 1) = (i : Int) + 1 := by rw [IntKind.wrap_i64]; omega
  have hw2 : IntKind.i64.wrap ((cap : Int) + 1) = (cap : Int) + 1 := by rw [IntKind.wrap_i64]; omega
  have hw3 : IntKind.i64.wrap ((cap : Int) + 1 - (i : Int)) = (d : Int) := by rw [IntKind.wrap_i64]; omega
  have hb1 : ¬ ((i : Int) = (cap : Int)) := by omega
  have hb2 : ((cap : Int) < (cap : Int) + 1) := by omega
  have hb3 : (i : Int) ≤ (cap : Int) := by omega
  have hb4 : (i : Int) ≤ (i : Int) + (d : Int) := by omega
  have hb5 : (i : Int) + 1 ≤ (i : Int) + (d : Int) := by omega
  have hb6 : (0 : Int) ≤ (i : Int) + 1 := by omega
  have hb7 : ¬ (cap = i) := by omega
  have hvlt := hv.size
  have hglt := hg.size
  have eA : (l.take i).length = i := by rw [List.length_take, hn]; omega
  have eB : (l.drop i).length = cap - i := by rw [List.length_drop, hn]
  have fA : (flatG encW (l.take i)).length = i * 3 := by rw [flatG_length encW_len, eA]
  have fB : (flatG encW (l.drop i)).length = (cap - i) * 3 := by rw [flatG_length encW_len, eB]
  have hcut : cur.take (cap * 3) = flatG encW (l.take i) ++ flatG encW (l.drop i) := by rw [htk, ← flatG_append, List.take_append_drop]
  have HA := Lib.hid fA; clear fA
  have HB := Lib.hid fB; clear fB
  have HC := Lib.hid hcut; clear hcut
  clear eA eB htk
  have HG := Lib.hid hg; clear hg
  have HV := Lib.hid hv; clear hv
  have HVX := Lib.hid hvx; clear hvx
  have HN := Lib.hid hn; clear hn
  have HL := Lib.hid hcl; clear hcl
  have HD := Lib.hid hd; clear hd
  go_enter Tryz.func71, Tryz.ntmps71
  go_wp2_with (with_reducible show wpList _ _ _ (⟨some 40, _, _, _, _, _⟩ :: _) _ _; go_must (refine wpList_zerosP rfl _ _ rfl (some ⟨g, 0, none⟩) i cap d (flatG encW (l.take i)) rfl rfl HA.out (Srcs.of ?c1) ?c2 ?c3 ?c4 ?_))
  case c1 =>
    have h := congrArg (List.take (i * 3)) HC.out
    rw [List.take_take, Nat.min_eq_left (by omega), ← HA.out, List.take_left] at h
    have h2 := cells_at (A := []) (B := flatG encW (l.take i)) (cur := cur) h
    exact HG.out.srcs 0 _ h2
  case c2 => have := HD.out; omega
  case c3 => have := HD.out; omega
  case c4 => have := HD.out; omega
  intro w1 c cur1 hz hc
  have hc1 : ¬ (c = i) := by have := HD.out; omega
  have hc2 : ¬ (c = i + 1) := by have := HD.out; omega
  have hv1 : Whole w1 vb 77 vcur := HV.out.grown hz.out.2.2.2.2.2.1 (by simp)
  have hg1 : Whole w1 g 77 cur := HG.out.grown hz.out.2.2.2.2.2.1 (by simp)
  have HV1 := Lib.hid hv1; clear hv1
  have HG1 := Lib.hid hg1; clear hg1
  clear hc
  go_wp2_with (with_reducible show wpList _ _ _ (⟨some 45, _, _, _, _, _⟩ :: _) _ _; go_must (refine wpList_copyP rfl _ _ rfl w.heap.size (i * 3) cur1 (encW x) _ _ _ _ _ _ rfl rfl hz.out.1 ?d1 (fun _ => rfl) (Srcs.of ?d2) ?d3 (encW_one x) ?_))
  case d1 => rw [show Nat.min 1 d = 1 from Nat.min_eq_left (by have := HD.out; omega)]; rfl
  case d2 => exact HV1.out.srcs 0 _ (fun j v hj => by rw [Nat.zero_add]; exact HVX.out j v hj)
  case d3 => rw [hz.out.2.1]; show i * 3 + 3 ≤ _; have := hz.out.2.2.2.1; have := HD.out; omega
  intro w2 hm2
  obtain ⟨Y, hY⟩ : ∃ Y, Y = splice cur1 (i * 3) (encW x) := ⟨_, rfl⟩
  rw [← hY] at hm2
  have hX2 : (encW x).length = 3 := rfl
  have hYl : Y.length = c * 3 := by rw [hY, length_splice _ _ _ (by rw [hX2, hz.out.2.1]; have := hz.out.2.2.2.1; have := HD.out; omega), hz.out.2.1]
  have hYt : Y.take ((i + 1) * 3) = flatG encW (l.take i) ++ encW x := by
    rw [hY, take_splice_end cur1 _ (i * 3) _ (by rw [hz.out.2.1]; have := hz.out.2.2.2.1; omega) (by rw [hX2]; omega), hz.out.2.2.1]
  have hg2 : Whole w2 g 77 cur := HG1.out.grown hm2.out.grown (by simp; omega)
  have HG2 := Lib.hid hg2; clear hg2
  have HYL := Lib.hid hYl; clear hYl
  have HYT := Lib.hid hYt; clear hYt
  have HX2 := Lib.hid hX2; clear hX2
  clear hY
  go_wp2_with fail
  refine wp_region_plan (S := fun _ => True) [(true, 0), (true, 1), (true, 2), (true, 3), (true, 4), (true, 5), (true, 6), (true, 7), (false, 8)] (by kernel_rfl) (by kernel_rfl) (fun _ _ d _ _ h => by cases d <;> exact h) trivial ?_
  repeat (refine Plan.take (v := ?_) rfl rfl ?_ ?_; rotate_left; (focus (intro W hW; go_simp; (try with_reducible rfl); done)); (try simp only [Act.put, List.setIfInBounds_toArray, List.set_cons_zero, List.set_cons_succ]))
  refine Plan.step rfl rfl fun K2 hK => ?_
  refine wp_copyP _ _ rfl w.heap.size ((i + 1) * 3) Y (flatG encW (l.drop i)) _ _ _ _ _ _ rfl rfl hm2.out.whole.drew ?_ (fun _ => rfl) (Srcs.of (HG2.out.drew.srcs (i * 3) _ ?_)) ?_ (encW_one' _) ?_
  · rw [HB.out, show Nat.min (cap - i) (i + d - (i + 1)) = cap - i from Nat.min_eq_left (by have := HD.out; omega)]
  · rw [← HA.out]
    exact cells_at (n := cap * 3) HC.out
  · rw [HB.out, HYL.out]; have := hz.out.2.2.2.1; have := HD.out; omega
  intro w3 hm3
  refine hK _ _ trivial ?_
  simp only [Plan]
  clear hK
  go_wp2_with fail
  go_ret
  refine ⟨c, ?_, _, hm3.out.whole, ?_, ?_, hz.out.2.2.2.2.1, ?_, ?_⟩
  · rw [HD.out]; rfl
  · rw [length_splice _ _ _ (by rw [HB.out, HYL.out]; have := hz.out.2.2.2.1; have := HD.out; omega), HYL.out]
  · have := hz.out.2.2.2.1; have := HD.out; omega
  · rw [take_splice_end Y _ ((i + 1) * 3) _ (by rw [HYL.out]; have := hz.out.2.2.2.1; have := HD.out; omega) (by rw [HB.out]; omega), HYT.out, flatG_append, flatG_append]
    simp [flatG]
  · exact grown_new (grown_new hz.out.2.2.2.2.2.1 hm2.out.grown (Nat.le_refl _)) (grown_undrew hm3.out.grown) (Nat.le_refl _)

theorem newRow_new (w : World) (o : Option Nat) (n c : Nat) : NewRow w o (Value.ownBlock (.slice (some ⟨w.heap.size, 0, none⟩) n c)) := fun g' hg' => .inr (by
  have e : w.heap.size = g' := by simpa [Value.ownBlock] using hg'
  rw [e]
  exact Nat.le_refl _)
/-- what is put in, in a block of its own -/
def SrcK (w : World) (v : Value) (p : List Wr) (vp : Value) : Prop :=
  ∃ vb vc vcur, vp = .slice (some ⟨vb, 0, none⟩) p.length vc ∧ p.length ≤ vc ∧ Whole w vb 77 vcur ∧ vcur.take (p.length * 3) = flatG encW p ∧ some vb ≠ v.ownBlock
theorem src_cells {vcur : List Value} {p : List Wr} (h : vcur.take (p.length * 3) = flatG encW p) (j : Nat) (v : Value) (hj : (flatG encW p)[j]? = some v) : vcur[j]? = some v := by
  have := cells_at (A := []) (B := flatG encW p) (cur := vcur) h j v hj
  simpa using this

theorem Own.slice {α : Type} {enc : α → List Value} {k : Nat} {e : TypeId} {w : World} {base : Nat} {v : Value} {l : List α} (h : Own enc k e w base v l) : ∃ A c, v = .slice A l.length c ∧ l.length ≤ c ∧ c ≤ maxLen := by
  rcases h.row with ⟨rfl, rfl⟩ | ⟨g, cap, cur, rfl, _, _, h1, h2, _⟩
  · exact ⟨none, 0, rfl, Nat.le_refl _, by simp [maxLen]⟩
  · exact ⟨_, _, rfl, h1, h2⟩
theorem SrcK.rd {w : World} {v vp : Value} {p : List Wr} (h : SrcK w v p vp) : RdW w w.heap.size vp p := by
  obtain ⟨vb, vc, vcur, rfl, h1, h2, h3, h4⟩ := h
  refine ⟨_, vc, rfl, h1, fun i hi => ⟨vb, 0, rfl, h2.size, fun j u hu => ?_⟩⟩
  have hj : j < 3 := by
    rcases Nat.lt_or_ge j 3 with h' | h'
    · exact h'
    · rw [List.getElem?_eq_none (by rw [encW_len]; exact h')] at hu; cases hu
  refine h2.cell _ _ (src_cells h3 _ _ ?_)
  rw [Nat.zero_add, flatG_get encW_len p i hi j hj]
  exact hu

set_option maxHeartbeats 4000000 in
set_option maxRecDepth 100000 in
theorem insert_end (l : List Wr) (x : Wr) (v vp : Value) (w : World) (base : Nat) (hown : OwnMk w base v l) (hbase : base ≤ w.heap.size) (hv : SrcK w v [x] vp) (hlen : l.length + 1 ≤ 1000000) :
    Calls Tryz.prog 71 #[v, .int .i64 l.length, vp] w fun e w' =>
      ∃ A' c', e = .returned (.slice A' (l ++ [x]).length c') ∧ OwnMk w' base (.slice A' (l ++ [x]).length c') (l ++ [x]) ∧ w.grownBy w' v.ownBlock ∧ NewRow w v.ownBlock (Value.ownBlock (.slice A' (l ++ [x]).length c')) := by
  obtain ⟨A, c, rfl, hc, hcm⟩ := hown.slice
  have HR := Lib.hid hv.rd
  obtain ⟨vb, vc, vcur, rfl, _⟩ := hv
  have HO := Lib.hid hown; clear hown
  have hb0 : (0 : Int) ≤ (l.length : Int) := by omega
  go_enter Tryz.func71, Tryz.ntmps71
  obtain ⟨i0, hi, hz0, hz1, hz2⟩ := info_mkE
  simp only [List.length_cons, List.length_nil] at HR ⊢
  go_wp2_with (at_builtin; go_must (refine BigFrame.wpList_want rfl fun K2 hK => ?_; refine wp_addAnyN (enc := encW) (k := 3) 68 77 40 i0 _ Tryz.underlying68 hi hz0 hz1 hz2 rfl (by decide) encW_len encW_one _ _ rfl base _ l rfl HO.out w.heap.size _ [x] rfl HR.out (by unfold maxLen; simp; omega) (by simp; omega) hbase ?_))
  all_goals
    intro A' c' w1 h1 h2 h3
    have HO1 := Lib.hid h1; clear h1
    have HG1 := Lib.hid h2; clear h2
    have HN1 := Lib.hid h3; clear h3
    refine hK _ _ ?_
    clear hK
    go_wp2_with fail
    go_ret
    rw [show (l ++ [x]).length = l.length + 1 by simp]
    exact ⟨A', c', rfl, HO1.out, by cases A <;> exact HG1.out, by cases A <;> exact HN1.out⟩

theorem sinsert_any (l : List Wr) (i : Nat) (hi : i ≤ l.length) (x : Wr) (v vp : Value) (w : World) (base : Nat) (hown : OwnMk w base v l) (hbase : base ≤ w.heap.size) (hp : SrcK w v [x] vp) (hlen : l.length + 1 ≤ 1000000) :
    Calls Tryz.prog 71 #[v, .int .i64 i, vp] w fun e w' =>
      ∃ A' c', e = .returned (.slice A' (l.take i ++ [x] ++ l.drop i).length c') ∧ OwnMk w' base (.slice A' (l.take i ++ [x] ++ l.drop i).length c') (l.take i ++ [x] ++ l.drop i) ∧ w.grownBy w' v.ownBlock ∧ NewRow w v.ownBlock (Value.ownBlock (.slice A' (l.take i ++ [x] ++ l.drop i).length c')) := by
  by_cases he : i = l.length
  · subst he
    rw [List.take_length, List.drop_length, List.append_nil]
    exact insert_end l x v vp w base hown hbase hp hlen
  · have hlt : i < l.length := by omega
    have hL : (l.take i ++ [x] ++ l.drop i).length = l.length + 1 := by simp; omega
    obtain ⟨vb, vc, vcur, rfl, _, hv, hvx, hne⟩ := hp
    have hvx' := src_cells hvx
    rw [show flatG encW [x] = encW x by simp [flatG]] at hvx'
    rcases hown.row with ⟨rfl, rfl⟩ | ⟨g, cap, cur, rfl, hbg, hg, h1, h2, h3, h4⟩
    · simp at hlt
    · have hvg : vb ≠ g := fun e => hne (by rw [e]; rfl)
      by_cases hroom : l.length + 1 ≤ cap
      · refine (insert_shift l i x w g cap vb cur vcur vc hg hv hvx' hvg hlt hroom h2 h3 h4).mono ?_
        rintro e w' ⟨rfl, cur', k1, k2, k3, k4⟩
        exact ⟨some ⟨g, 0, none⟩, cap, by rw [hL], Own.ofRow encW_len _ hbg k1 (by rw [hL]; exact hroom) h2 k2 (by rw [hL]; exact k3), k4, fun g' hg' => .inl hg'⟩
      · refine (insert_grow l i x w g cap vb cur vcur vc hg hv hvx' hlt (by omega) h1 h3 h4 (by omega)).mono ?_
        rintro e w' ⟨c, rfl, cur', k1, k2, k3, k4, k5, k6⟩
        exact ⟨some ⟨w.heap.size, 0, none⟩, c, by rw [hL], Own.ofRow encW_len _ hbase k1 (by rw [hL]; exact k3) k4 k2 (by rw [hL]; exact k5), ⟨k6.os, k6.tape, k6.output, k6.size, fun k hk _ => k6.block k hk (by simp)⟩, newRow_new _ _ _ _⟩
end Go.Proofs.YtgppgecglkellaaGreat
