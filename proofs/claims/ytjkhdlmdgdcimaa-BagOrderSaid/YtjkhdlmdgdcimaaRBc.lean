/- The reference's bag: Take. -/
import Derived.Test.YtjkhdlmdgdcimaaRBb
namespace Go.Proofs.Ytjkhdlmdgdcimaa
open Go.RowKit

theorem RbWent.after {w w' w2 : World} {base r : Nat} {ov ov' : Option Nat} {b : Bg} (h : RbWent w w' base r ov b ov') (hm : Mv (fun i => i = w.heap.size) w' w2) (hr : r < w.heap.size) (hn : ∀ g, ov' = some g → g ≠ w.heap.size) : RbWent w w2 base r ov b ov' :=
  ⟨h.now.mv hm (fun e => by omega) (fun g hg e => hn g hg e), h.moved.trans hm (fun i hi e => by omega), h.new⟩

set_option maxHeartbeats 8000000 in
set_option maxRecDepth 100000 in
theorem rtake_any (base r : Nat) (ov : Option Nat) (b : Bg) (i : Int) (w : World) (h : RbAt w base r ov b) :
    Calls Try.prog 15 #[.pointer (some ⟨r, 0, none⟩), .int .i64 i] w fun e w' => e = .returned (.tuple #[lval (b.look i).1, .int .i64 (b.look i).2]) ∧ ∃ ov', RbWent w w' base r ov (b.take i) ov' := by
  obtain ⟨R, hR⟩ : ∃ R, R = b.take i := ⟨_, rfl⟩
  rw [← hR]
  unfold Bg.take at hR
  have hok := h.ok
  have hbl : b.l.length ≤ 4096 := by obtain ⟨k1, k2, k3⟩ := hok; omega
  have HR := Lib.hid hR
  have HB := Lib.hid h
  have HOK := Lib.hid hok
  obtain ⟨wa, hwa⟩ : ∃ wa, wa = w.alloc (.cells #[.int .i64 0, .string ⟨#[]⟩, .bool false] 36) := ⟨_, rfl⟩
  have hBa : Below w.heap.size w wa := by rw [hwa]; exact (Below.refl _ w).alloc (Nat.le_refl _) _
  have hVa : Whole wa w.heap.size 36 [.int .i64 0, .string ⟨#[]⟩, .bool false] := by rw [hwa]; exact Whole.fresh w _ [_, _, _]
  have hba : RbAt wa base r ov b := h.mv (Mv.of_new hBa (fun _ => False)) (fun h => h) (fun _ _ h => h)
  have hlook := rlook_any base r ov b i wa hba
  obtain ⟨⟨x, ex⟩, hx⟩ : ∃ X, X = b.look i := ⟨_, rfl⟩
  rw [← hx] at hlook ⊢
  have hxv : lval x = .agg #[.int .i64 x.to, .string (strB x.text), .bool x.sp] := rfl
  simp only [hxv] at hlook ⊢
  obtain ⟨S1, hS1⟩ : ∃ S1, S1 = strB x.text := ⟨_, rfl⟩
  rw [← hS1] at hlook ⊢
  have HL := Lib.hid hlook
  have HX := Lib.hid hx
  have HBA := Lib.hid hBa
  have HVA := Lib.hid hVa
  have HWA := Lib.hid hwa
  have hrb : r < w.heap.size := h.low.2.1
  have hzb : base ≤ w.heap.size := h.low.2.2
  clear hR h hok hlook hx hxv hS1 hBa hVa hba hwa
  go_enter Try.func15, Try.ntmps15
  go_wp2_with fail
  rw [← HWA.out]
  refine HL.out.mono ?_
  rintro e w1 ⟨rfl, hb1⟩
  have HB1 := Lib.hid (HBA.out.trans (hb1.mono HBA.out.size))
  have hV1 := HVA.out.below hb1 HVA.out.size
  have HV1 := Lib.hid hV1
  have hs1 := HB1.out.size
  have hs2 := hV1.size
  clear hb1 HL hV1
  obtain ⟨w2, hw2⟩ : ∃ w2, w2 = w1.alloc (.cells #[.int .i64 x.to, .string S1, .bool x.sp] 36) := ⟨_, rfl⟩
  have hW2 : Whole w2 w1.heap.size 36 [.int .i64 x.to, .string S1, .bool x.sp] := by rw [hw2]; exact Whole.fresh w1 _ [_, _, _]
  have hV2 : Whole w2 w.heap.size 36 [.int .i64 0, .string ⟨#[]⟩, .bool false] := by rw [hw2]; exact HV1.out.alloc _
  have hB2 : Below w.heap.size w w2 := by rw [hw2]; exact HB1.out.alloc hs1 _
  have hz2 : w2.heap.size = w1.heap.size + 1 := by rw [hw2]; simp
  have hbw1 : RbAt w1 base r ov b := HB.out.mv (Mv.of_new HB1.out (fun _ => False)) (fun h => h) (fun _ _ h => h)
  by_cases hi : b.has i
  · have he : ex = 0 := by have := HX.out; rw [Bg.look_at hi] at this; exact (Prod.mk.inj this).2
    subst he
    have hr := HR.out
    rw [if_pos hi] at hr
    obtain ⟨h0, h1⟩ := id hi
    obtain ⟨k, rfl⟩ : ∃ k : Nat, i = (k : Int) := ⟨i.toNat, by omega⟩
    rw [Int.toNat_natCast] at hr
    have HR2 := Lib.hid hr; clear hr
    have hk : k < b.l.length := by omega
    obtain ⟨A, c, hb, ho, hv0⟩ := hbw1.whole
    have hrd := Own.rd encL_len ho
    have hcl : b.l.length ≤ c := by
      obtain ⟨A0, c0, e, h, _⟩ := hrd
      injection e with _ _ e
      rw [e]; exact h
    obtain ⟨g, hA⟩ : ∃ g, A = some ⟨g, 0, none⟩ := by
      rcases ho.form with ⟨_, e0⟩ | ⟨g, cap, e, _⟩
      · rw [e0] at hk; simp at hk
      · injection e with e _ _
        exact ⟨g, e⟩
    subst hA
    have c0 := hb.cell 0 _ rfl
    obtain ⟨w3, hw3⟩ : ∃ w3, w3 = w2.alloc (.cells #[] 36) := ⟨_, rfl⟩
    have hB23 : Below w2.heap.size w2 w3 := by rw [hw3]; exact (Below.refl _ w2).alloc (Nat.le_refl _) _
    have hem : OwnL w3 (w1.heap.size + 1) (.slice (some ⟨w1.heap.size + 1, 0, none⟩) 0 0) [] := by
      have := Own.empty (enc := encL) (k := 3) (e := 36) w2 w2.heap.size (Nat.le_refl _)
      rw [hz2] at this
      rw [hw3]; exact this
    have hrd3 : Rd encL 3 w3 w1.heap.size (.slice (some ⟨g, 0, none⟩) b.l.length c) b.l := hrd.below (((Below.refl _ w1).alloc (Nat.le_refl _) _ : Below w1.heap.size w1 (w1.alloc (.cells #[.int .i64 x.to, .string S1, .bool x.sp] 36))).trans (by rw [← hw2]; exact hB23.mono (by omega))) (Nat.le_refl _)
    have HEM := Lib.hid hem
    obtain ⟨L1, hL1⟩ : ∃ L1, L1 = b.l.take k := ⟨_, rfl⟩
    have hp1 := Rd.take hrd3 k (by omega)
    rw [← hL1] at hp1
    have HL1 := Lib.hid hL1
    have HN1 := Lib.hid (show L1.length = k by rw [hL1, List.length_take]; omega)
    have HP1 := Lib.hid hp1
    clear hL1 hp1
    have HRD3 := Lib.hid hrd3
    have HW := Lib.hid hW2
    have HV := Lib.hid hV2
    have HB2 := Lib.hid hB2
    have HB23 := Lib.hid hB23
    have HW3 := Lib.hid (show w3 = (w1.alloc (.cells #[.int .i64 x.to, .string S1, .bool x.sp] 36)).alloc (.cells #[] 36) by rw [hw3, hw2])
    have hz3 : w1.heap.size + 1 ≤ w3.heap.size := by rw [hw3]; simp; omega
    have hkc : (k : Int) ≤ (c : Int) := by omega
    have HZ2 := Lib.hid hz2
    have hr1 : r < w1.heap.size := hb.size
    have HBW := Lib.hid hb
    clear hb hrd hW2 hV2 hB2 hi h0 h1 hv0 ho hw2 hw3 hem hrd3 hB23 hz2 hbw1
    go_wp2_with (at_builtin; go_must (refine wpList_addL rfl _ _ rfl (w1.heap.size + 1) (.slice (some ⟨w1.heap.size + 1, 0, none⟩) 0 0) [] rfl ?x1 w1.heap.size (.slice (some ⟨g, 0, none⟩) k c) L1 rfl ?x2 (by have := HN1.out; simp only [List.length_nil]; omega) ?x3 ?_))
    case x1 => rw [← HW3.out]; exact HEM.out
    case x2 => rw [← HW3.out]; exact HP1.out
    case x3 => rw [← HW3.out]; exact hz3
    rw [← HW3.out]
    intro A4 c4 w4 ho4 hg4 hn4
    have ho5 : OwnL w4 (w1.heap.size + 1) (.slice A4 L1.length c4) L1 := by simpa using ho4.out
    have hB4 : Below (w1.heap.size + 1) w3 w4 := HEM.out.grown (Below.refl _ _) hg4.out (Nat.le_refl _) hz3
    have hB14 : Below (w1.heap.size + 1) w2 w4 := (HB23.out.mono (by rw [HZ2.out]; exact Nat.le_refl _)).trans hB4
    have hr4 : Whole w4 r 31 [.slice (some ⟨g, 0, none⟩) b.l.length c, .int .i64 (b.room : Int)] := by
      have h2 := HBW.out.alloc (.cells #[.int .i64 x.to, .string S1, .bool x.sp] 36)
      have h3 := h2.alloc (.cells #[] 36)
      rw [← HW3.out] at h3
      exact h3.below hB4 (by omega)
    have q0 := hr4.cell 0 _ rfl
    have q0f := hr4.frozen 0
    have HR4 := Lib.hid hr4
    have HW4 := Lib.hid (HW.out.below hB14 (by omega))
    have HV4 := Lib.hid (HV.out.below hB14 (by omega))
    have HO5 := Lib.hid ho5
    have hrd4 := HRD3.out.below hB4 (Nat.le_succ _)
    have HRD4 := Lib.hid hrd4
    have HB4 := Lib.hid (HB2.out.trans (hB14.mono (by omega)))
    have hz4 : w1.heap.size + 1 ≤ w4.heap.size := by have := hB4.size; omega
    have HN4 := hn4
    clear c0 ho4 hg4 hn4 ho5 hB4 hB14 hr4 hrd4
    have hw1 : IntKind.i64.wrap ((k : Int) + 1) = ((k + 1 : Nat) : Int) := by rw [IntKind.wrap_i64]; omega
    have hk1 : ((k + 1 : Nat) : Int) ≤ (b.l.length : Int) := by omega
    have hk0 : (0 : Int) ≤ ((k + 1 : Nat) : Int) := by omega
    have hnl : L1.length + (b.l.length - (k + 1)) ≤ 5000000000000 := by have := HN1.out; omega
    obtain ⟨L2, hL2⟩ : ∃ L2, L2 = b.l.drop (k + 1) := ⟨_, rfl⟩
    have HL2 := Lib.hid hL2
    have HN2 := Lib.hid (show L2.length = b.l.length - (k + 1) by rw [hL2, List.length_drop])
    clear hL2
    by_cases hc : c = k + 1
    · have hlen : b.l.length = k + 1 := by omega
      have hl2 : L2.length = 0 := by have := HN2.out; omega
      have HL0 := Lib.hid hl2; clear hl2
      go_wp2_with (at_builtin; go_must (refine wpList_addL rfl _ _ rfl (w1.heap.size + 1) (.slice A4 L1.length c4) L1 rfl HO5.out w1.heap.size _ L2 rfl ?y1 (by have := HL0.out; omega) hz4 ?_))
      case y1 => rw [List.eq_nil_of_length_eq_zero HL0.out]; exact Rd.none_ _ _ _ _
      intro A6 c6 w6 ho6 hg6 hn6
      have ho7 : OwnL w6 (w1.heap.size + 1) (.slice A6 (L1.length + L2.length) c6) (L1 ++ L2) := by have h := ho6.out; simpa only [List.length_append] using h
      have hB6 : Below (w1.heap.size + 1) w4 w6 := HO5.out.grown (Below.refl _ _) hg6.out (Nat.le_refl _) hz4
      have hr6 := HR4.out.below hB6 (by omega)
      have hW6 := HW4.out.below hB6 (by omega)
      have hV6 := HV4.out.below hB6 (by omega)
      have hB06 : Below w.heap.size w w6 := HB4.out.trans (hB6.mono (by omega))
      have p0 := hr6.cell 0 _ rfl
      have p0f := hr6.frozen 0
      have m0 := hW6.cell 0 _ rfl
      have m1 := hW6.cell 1 _ rfl
      have m2 := hW6.cell 2 _ rfl
      have n0 := hV6.cell 0 _ rfl
      have n1 := hV6.cell 1 _ rfl
      have n2 := hV6.cell 2 _ rfl
      have f0 := hV6.frozen 0
      have f1 := hV6.frozen 1
      have f2 := hV6.frozen 2
      have hl7 : L1 ++ L2 = b.l.eraseIdx k := by rw [HL1.out, HL2.out, List.eraseIdx_eq_take_drop_succ]
      have hok7 : Bg.Ok { b with l := L1 ++ L2 } := by
        have h := HOK.out.take (k : Int)
        unfold Bg.take at h
        rw [if_pos (show b.has (k : Int) from ⟨by omega, by omega⟩), Int.toNat_natCast] at h
        rw [hl7]; exact h
      have hlow7 : ∀ g, Value.ownBlock (.slice A6 (L1.length + L2.length) c6) = some g → w1.heap.size + 1 ≤ g := fun g hg => (ho7.low hg).1
      have hwent := RbAt.relist HB.out hB06 (Mv.refl (fun i => some i = ov) w6) (show L1.length + L2.length = (L1 ++ L2).length by simp) (ho7.lower (by omega)) (fun g hg => .inr (by have := hlow7 g hg; omega)) hok7
      rw [hl7] at hwent
      have HWENT := Lib.hid hwent
      have HV7 := Lib.hid (hV6.away (p := ⟨r, 0, none⟩) (by show w.heap.size ≠ r; omega) (.slice A6 (L1.length + L2.length) c6))
      have HLOW7 := Lib.hid hlow7
      clear ho6 hg6 hn6 ho7 hB6 hr6 hW6 hV6 hB06 hl7 hok7 hwent hlow7 q0 q0f
      go_wp2_with fail
      obtain ⟨w7, hw7⟩ : ∃ w7, w7 = w6.setCell ⟨r, 0, none⟩ (.slice A6 (L1.length + L2.length) c6) := ⟨_, rfl⟩
      rw [← hw7] at HWENT HV7 ⊢
      have hV8 : Whole (((w7.setCell ⟨w.heap.size, 0, none⟩ (.int .i64 x.to)).setCell ⟨w.heap.size, 1, none⟩ (.string S1)).setCell ⟨w.heap.size, 2, none⟩ (.bool x.sp)) w.heap.size 36 [.int .i64 x.to, .string S1, .bool x.sp] := ((HV7.out.put 0 _).put 1 _).put 2 _
      have hm8 : Mv (fun i => i = w.heap.size) w7 (((w7.setCell ⟨w.heap.size, 0, none⟩ (.int .i64 x.to)).setCell ⟨w.heap.size, 1, none⟩ (.string S1)).setCell ⟨w.heap.size, 2, none⟩ (.bool x.sp)) := (((Mv.refl (fun i => i = w.heap.size) w7).setCell (p := ⟨w.heap.size, 0, none⟩) (fun _ => rfl) _).setCell (p := ⟨w.heap.size, 1, none⟩) (fun _ => rfl) _).setCell (p := ⟨w.heap.size, 2, none⟩) (fun _ => rfl) _
      generalize ((w7.setCell ⟨w.heap.size, 0, none⟩ (.int .i64 x.to)).setCell ⟨w.heap.size, 1, none⟩ (.string S1)).setCell ⟨w.heap.size, 2, none⟩ (.bool x.sp) = w8 at hV8 hm8 ⊢
      have j0 := hV8.cell 0 _ rfl
      have j1 := hV8.cell 1 _ rfl
      have j2 := hV8.cell 2 _ rfl
      exact bodyPost_ret (v := .tuple #[.agg #[.int .i64 x.to, .string S1, .bool x.sp], .int .i64 0]) (by simp [results, Try.results15, go_sem, j0, j1, j2]) rfl ⟨rfl, _, by rw [HR2.out]; exact HWENT.out.after hm8 hrb (fun g hg => by have := HLOW7.out g hg; omega)⟩
    · have hy := Rd.drop HRD4.out (k + 1) (c - (k + 1)) (by omega) (by omega) (some ⟨g, (k + 1) * 3, none⟩) (fun _ => by simp [Addr.add])
      rw [← HL2.out] at hy
      have HY := Lib.hid hy; clear hy
      go_wp2_with (at_builtin; go_must (refine wpList_addL rfl _ _ rfl (w1.heap.size + 1) (.slice A4 L1.length c4) L1 rfl HO5.out w1.heap.size _ L2 rfl ?y1 (by have := HN2.out; omega) hz4 ?_))
      case y1 => exact HY.out
      intro A6 c6 w6 ho6 hg6 hn6
      have ho7 : OwnL w6 (w1.heap.size + 1) (.slice A6 (L1.length + L2.length) c6) (L1 ++ L2) := by have h := ho6.out; simpa only [List.length_append] using h
      have hB6 : Below (w1.heap.size + 1) w4 w6 := HO5.out.grown (Below.refl _ _) hg6.out (Nat.le_refl _) hz4
      have hr6 := HR4.out.below hB6 (by omega)
      have hW6 := HW4.out.below hB6 (by omega)
      have hV6 := HV4.out.below hB6 (by omega)
      have hB06 : Below w.heap.size w w6 := HB4.out.trans (hB6.mono (by omega))
      have p0 := hr6.cell 0 _ rfl
      have p0f := hr6.frozen 0
      have m0 := hW6.cell 0 _ rfl
      have m1 := hW6.cell 1 _ rfl
      have m2 := hW6.cell 2 _ rfl
      have n0 := hV6.cell 0 _ rfl
      have n1 := hV6.cell 1 _ rfl
      have n2 := hV6.cell 2 _ rfl
      have f0 := hV6.frozen 0
      have f1 := hV6.frozen 1
      have f2 := hV6.frozen 2
      have hl7 : L1 ++ L2 = b.l.eraseIdx k := by rw [HL1.out, HL2.out, List.eraseIdx_eq_take_drop_succ]
      have hok7 : Bg.Ok { b with l := L1 ++ L2 } := by
        have h := HOK.out.take (k : Int)
        unfold Bg.take at h
        rw [if_pos (show b.has (k : Int) from ⟨by omega, by omega⟩), Int.toNat_natCast] at h
        rw [hl7]; exact h
      have hlow7 : ∀ g, Value.ownBlock (.slice A6 (L1.length + L2.length) c6) = some g → w1.heap.size + 1 ≤ g := fun g hg => (ho7.low hg).1
      have hwent := RbAt.relist HB.out hB06 (Mv.refl (fun i => some i = ov) w6) (show L1.length + L2.length = (L1 ++ L2).length by simp) (ho7.lower (by omega)) (fun g hg => .inr (by have := hlow7 g hg; omega)) hok7
      rw [hl7] at hwent
      have HWENT := Lib.hid hwent
      have HV7 := Lib.hid (hV6.away (p := ⟨r, 0, none⟩) (by show w.heap.size ≠ r; omega) (.slice A6 (L1.length + L2.length) c6))
      have HLOW7 := Lib.hid hlow7
      clear ho6 hg6 hn6 ho7 hB6 hr6 hW6 hV6 hB06 hl7 hok7 hwent hlow7 q0 q0f
      go_wp2_with fail
      obtain ⟨w7, hw7⟩ : ∃ w7, w7 = w6.setCell ⟨r, 0, none⟩ (.slice A6 (L1.length + L2.length) c6) := ⟨_, rfl⟩
      rw [← hw7] at HWENT HV7 ⊢
      have hV8 : Whole (((w7.setCell ⟨w.heap.size, 0, none⟩ (.int .i64 x.to)).setCell ⟨w.heap.size, 1, none⟩ (.string S1)).setCell ⟨w.heap.size, 2, none⟩ (.bool x.sp)) w.heap.size 36 [.int .i64 x.to, .string S1, .bool x.sp] := ((HV7.out.put 0 _).put 1 _).put 2 _
      have hm8 : Mv (fun i => i = w.heap.size) w7 (((w7.setCell ⟨w.heap.size, 0, none⟩ (.int .i64 x.to)).setCell ⟨w.heap.size, 1, none⟩ (.string S1)).setCell ⟨w.heap.size, 2, none⟩ (.bool x.sp)) := (((Mv.refl (fun i => i = w.heap.size) w7).setCell (p := ⟨w.heap.size, 0, none⟩) (fun _ => rfl) _).setCell (p := ⟨w.heap.size, 1, none⟩) (fun _ => rfl) _).setCell (p := ⟨w.heap.size, 2, none⟩) (fun _ => rfl) _
      generalize ((w7.setCell ⟨w.heap.size, 0, none⟩ (.int .i64 x.to)).setCell ⟨w.heap.size, 1, none⟩ (.string S1)).setCell ⟨w.heap.size, 2, none⟩ (.bool x.sp) = w8 at hV8 hm8 ⊢
      have j0 := hV8.cell 0 _ rfl
      have j1 := hV8.cell 1 _ rfl
      have j2 := hV8.cell 2 _ rfl
      exact bodyPost_ret (v := .tuple #[.agg #[.int .i64 x.to, .string S1, .bool x.sp], .int .i64 0]) (by simp [results, Try.results15, go_sem, j0, j1, j2]) rfl ⟨rfl, _, by rw [HR2.out]; exact HWENT.out.after hm8 hrb (fun g hg => by have := HLOW7.out g hg; omega)⟩
  · have he : (x, ex) = (Bg.none_, 4) := by rw [HX.out]; unfold Bg.look; rw [if_neg hi]
    have he1 : ex = 4 := (Prod.mk.inj he).2
    have hr := HR.out
    rw [if_neg hi] at hr
    have HR2 := Lib.hid hr; clear hr he
    subst he1
    have m0 := hW2.cell 0 _ rfl
    have m1 := hW2.cell 1 _ rfl
    have m2 := hW2.cell 2 _ rfl
    have v0 := HV1.out.cell 0 _ rfl
    have v1 := HV1.out.cell 1 _ rfl
    have v2 := HV1.out.cell 2 _ rfl
    have f0 := HV1.out.frozen 0
    have f1 := HV1.out.frozen 1
    have f2 := HV1.out.frozen 2
    have HV2 := Lib.hid hV2
    have HB2 := Lib.hid hB2
    have HW2 := Lib.hid hw2
    clear hW2 hV2 hB2 hw2 hz2 hbw1 m0 m1 m2
    go_wp2_with fail
    obtain ⟨w7, hw7⟩ : ∃ w7, w7 = ((w1.setCell ⟨w.heap.size, 0, none⟩ (.int .i64 x.to)).setCell ⟨w.heap.size, 1, none⟩ (.string S1)).setCell ⟨w.heap.size, 2, none⟩ (.bool x.sp) := ⟨_, rfl⟩
    rw [← hw7]
    have hV8 : Whole w7 w.heap.size 36 [.int .i64 x.to, .string S1, .bool x.sp] := by rw [hw7]; exact ((HV1.out.put 0 _).put 1 _).put 2 _
    have hB7 : Below w.heap.size w w7 := by rw [hw7]; exact ((HB1.out.setCell (p := ⟨w.heap.size, 0, none⟩) (Nat.le_refl _) _).setCell (p := ⟨w.heap.size, 1, none⟩) (Nat.le_refl _) _).setCell (p := ⟨w.heap.size, 2, none⟩) (Nat.le_refl _) _
    have hB8 := hB7.alloc hB7.size (.cells #[.int .i64 x.to, .string S1, .bool x.sp] 36)
    have hV9 := hV8.alloc (.cells #[.int .i64 x.to, .string S1, .bool x.sp] 36)
    generalize w7.alloc (.cells #[.int .i64 x.to, .string S1, .bool x.sp] 36) = w8 at hB8 hV9 ⊢
    have j0 := hV9.cell 0 _ rfl
    have j1 := hV9.cell 1 _ rfl
    have j2 := hV9.cell 2 _ rfl
    exact bodyPost_ret (v := .tuple #[.agg #[.int .i64 x.to, .string S1, .bool x.sp], .int .i64 4]) (by simp [results, Try.results15, go_sem, j0, j1, j2]) rfl ⟨rfl, ov, by rw [HR2.out]; exact RbWent.new' HB.out hB8⟩
end Go.Proofs.Ytjkhdlmdgdcimaa
