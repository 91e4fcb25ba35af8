/- The walk of the law SpanOrder. -/
import Derived.Test.YtmfpidihcjnnkaaLawKeys
namespace Go.Proofs.Ytmfpidihcjnnkaa
open Go.RowKit
attribute [local go_sem] less_eq same_eq le_eq ge_eq gt_eq

theorem RdS.pair (w : World) (s : K × K) : Rd cellsS 2 (w.alloc (.cells #[.string s.1, .string s.2, .string s.1, .string s.2] 23)) (w.heap.size + 1) (.slice (some ⟨w.heap.size, 0, none⟩) 2 2) [s, s] := RdS.gen (rd_two w s s)
theorem mem_pair (l : List (K × K)) (s : K × K) (k : K) : mem (l ++ [s, s]) k ↔ has s k ∨ mem l k := by
  rw [mem_append, mem_cons, mem_cons]; simp only [mem_nil, or_false, or_self]; exact or_comm
/-- what is left of a span that is among others is nothing -/
theorem none_left {l J R : List (K × K)} {s : K × K} (hn : Normal R) (hm : ∀ k, mem J k ↔ mem l k) (hr : ∀ k, mem R k ↔ has s k ∧ ¬ mem J k) (hs : s ∈ l) : R.length = 0 := by
  rw [normal_ext R [] hn trivial fun k => ?_]
  · rfl
  · rw [hr k, hm k]
    exact ⟨fun h => absurd ⟨s, hs, h.1⟩ h.2, fun h => absurd h (mem_nil k)⟩

theorem below_next {a b c : World} (h : Below a.heap.size a b) (h2 : Below b.heap.size b c) : Below a.heap.size a c := h.trans (h2.mono h.size)

set_option maxHeartbeats 4000000 in
set_option maxRecDepth 100000 in
theorem spanOrder_walk (l0 : List (K × K)) (v : Value) (w : World) (hv : RdS w w.heap.size v l0) : Calls Try.prog 10 #[v] w fun e w' => e = .returned (.bool true) ∧ Below w.heap.size w w' := by
  obtain ⟨A, c, rfl, hc⟩ := hv.form
  obtain ⟨i0, hi0, hz0, hz1, hz2⟩ := info_parts info_spans
  have HI0 := Lib.hid hi0; clear hi0
  have HZ0 := Lib.hid hz0; clear hz0
  have HZ1 := Lib.hid hz1; clear hz1
  have HZ2 := Lib.hid hz2; clear hz2
  by_cases hlong : 200 < l0.length
  · obtain ⟨l, hl⟩ : ∃ l, l = l0.take 200 := ⟨_, rfl⟩
    have hn : l.length = 200 := by rw [hl]; simp; omega
    have hv2 : RdS w w.heap.size (.slice A l.length c) l := by rw [hn, hl]; exact hv.take 200 (by omega)
    have hll : l.length ≤ 200 := by omega
    clear hl hv
    have HV := Lib.hid hv2; clear hv2
    go_enter Try.func10, Try.ntmps10
    go_wp2_with fail
    rw [show (Value.slice A 200 c) = .slice A l.length c by rw [hn]]
    clear hlong hc hn
    refine (join_any l _ w HV.out (by omega)).mono ?_
    rintro e w1 ⟨v1, J, rfl, ho1, hb1, hn1, hm1, hl1⟩
    have HV1 := Lib.hid (HV.out.next hb1)
    have hr1 := ho1.rd
    obtain ⟨A1, c1, rfl, _⟩ := hr1.form
    have HR1 := Lib.hid hr1; clear hr1 ho1
    have HB1 := Lib.hid hb1; clear hb1 HV
    have HN1 := Lib.hid hn1; clear hn1
    have HM1 := Lib.hid hm1; clear hm1
    go_wp2_with fail
    go_loopw [4, 5] (fun bv i wr => ∃ (j : Nat) (bk : List (K × K)) (A2 : Option Addr) (c2 : Nat), j ≤ l.length ∧ i = .int .i64 ((j : Int) - 1) ∧ bv = .slice A2 bk.length c2 ∧ Below w1.heap.size w1 wr ∧ Own cellsS 2 23 wr w1.heap.size (.slice A2 bk.length c2) bk ∧ (∀ k, mem bk k ↔ mem (l.drop j) k) ∧ bk.length ≤ 2 * (l.length - j)) (fun _ i _ => (intOf i + 1).toNat)
    case atStart => exact ⟨l.length, [], _, _, Nat.le_refl _, by go_num, rfl, (Below.refl _ _).alloc (Nat.le_refl _) _, Own.empty _ _ (Nat.le_refl _), by simp, by simp⟩
    case round =>
      obtain ⟨j, bk, A2, c2, hj, rfl, rfl, hb, ho, hm, hlen⟩ := hrel
      have HO := Lib.hid ho; clear ho
      have HM := Lib.hid hm; clear hm
      by_cases hj0 : 1 ≤ j
      · obtain ⟨m, rfl⟩ : ∃ m, j = m + 1 := ⟨j - 1, by omega⟩
        obtain ⟨z, hz⟩ : ∃ z : Int, z = ((m + 1 : Nat) : Int) - 1 := ⟨_, rfl⟩
        rw [← hz]
        obtain rfl : z = (m : Int) := by omega
        clear hz
        have hlt : m < l.length := by omega
        obtain ⟨b, o, rfl, hbB, h1, h2⟩ := HV1.out.at m hlt
        have g1 := (hb.cell (p := ⟨b, o + m * 2, none⟩) hbB).trans h1
        have g2 := (hb.cell (p := ⟨b, o + m * 2 + 1, none⟩) hbB).trans h2
        clear h1 h2
        have wr1 : IntKind.i64.wrap (m : Int) = (m : Int) := by rw [IntKind.wrap_i64]; omega
        have wr2 : (0 : Int) ≤ (m : Int) := by omega
        have wr3 : (m : Int) < (l.length : Int) := by omega
        have hmm := List.getElem_mem hlt
        have hmem : ∀ k, mem (bk ++ [l[m], l[m]]) k ↔ mem (l.drop m) k := fun k => by
          rw [mem_pair, HM.out k, List.drop_eq_getElem_cons hlt, mem_cons]
        have HMM := Lib.hid hmem; clear hmem
        have HS := Lib.hid hmm; clear hmm
        have HB := Lib.hid hb
        have hold : HeldB w1 b (o + m * 2) (o + m * 2 + 1) l[m].1 l[m].2 wr.drew := ⟨g1, g2, hb.drew, hbB⟩
        clear g1 g2 hb
        go_wp2_with fail
        refine wp_region_plan (S := HeldB w1 b (o + m * 2) (o + m * 2 + 1) l[m].1 l[m].2) [(true, 0), (true, 1), (true, 2), (true, 3), (true, 4), (true, 5), (true, 6), (true, 7), (true, 8), (false, 9), (false, 10), (true, 11)] (by kernel_rfl) (by kernel_rfl) (fun _ _ d _ _ h => by cases d <;> exact h) hold ?_
        repeat (refine Plan.take (v := ?_) rfl rfl ?_ ?_; rotate_left; (focus (intro W hW; obtain ⟨c1, c2, _, _⟩ := hW; go_simp; (try with_reducible rfl); done)); (try simp only [Act.put, List.setIfInBounds_toArray, List.set_cons_zero, List.set_cons_succ]))
        refine Plan.step rfl rfl (fun Kk hK => ?_)
        go_simp
        refine hK.out _ _ (hold.alloc _) ?_
        clear hK Kk
        refine Plan.step rfl rfl (fun Kk hK => ?_)
        refine wp_addAny (enc := cellsS) (k := 2) 36 23 32 i0 _ Try.underlying36 HI0.out HZ0.out HZ1.out HZ2.out rfl (by decide) cellsS_len cellsS_one _ _ rfl w1.heap.size (.slice A2 bk.length c2) bk rfl (Own.alloc HO.out _) _ _ [l[m], l[m]] rfl (RdS.pair _ l[m]) (by simp only [List.length_cons, List.length_nil]; unfold maxLen; omega) (by simp only [List.length_cons, List.length_nil]; omega) (by simp; have := HB.out.size; omega) ?_
        intro A6 c6 w6 ho6 hg6
        have hlow : ∀ i, (Value.slice A2 bk.length c2).ownBlock = some i → w1.heap.size ≤ i := fun i hi => (HO.out.low hi).1
        have hold2 := (hold.alloc (.cells #[.string l[m].1, .string l[m].2, .string l[m].1, .string l[m].2] 23)).grown hg6 hlow
        (try simp only [Act.put, List.setIfInBounds_toArray, List.set_cons_zero, List.set_cons_succ])
        refine hK.out _ _ hold2 ?_
        clear hK Kk hold
        have HO7 := Lib.hid ho6; clear ho6 hg6 hlow HO
        have hold := hold2
        clear hold2
        repeat (refine Plan.take (v := ?_) rfl rfl ?_ ?_; rotate_left; (focus (intro W hW; obtain ⟨c1, c2, _, _⟩ := hW; go_simp; (try with_reducible rfl); done)); (try simp only [Act.put, List.setIfInBounds_toArray, List.set_cons_zero, List.set_cons_succ]))
        simp only [Plan]
        obtain ⟨d1, d2, hb6, _⟩ := hold
        have hz6 := hb6.size
        have hw := without_any l[m] J _ w6 (HR1.out.below hb6 (Nat.le_refl _) |>.mono hz6) hl1
        have HW := Lib.hid hw; clear hw
        have HB6 := Lib.hid hb6; clear hb6
        go_wp2_with fail
        refine HW.out.mono ?_
        rintro e w7 ⟨v7, R, rfl, ho7, hb7, hn7, hm7, hl7⟩
        obtain ⟨A7, c7, rfl, _⟩ := ho7.rd.form
        rw [none_left hn7 HM1.out hm7 HS.out]
        have HO8 := Lib.hid (HO7.out.below hb7 (Nat.le_refl _)); clear HO7
        have HB8 := Lib.hid (HB6.out.trans (hb7.mono hz6)); clear HB6 hb7 hn7 hm7 ho7 HW
        go_wp2_with fail
        go_roundw
        case rel => exact ⟨m, bk ++ [l[m], l[m]], A6, c6, by omega, by go_num, by simp, HB8.out, HO8.out, HMM.out, by simp; omega⟩
        case measure => simp [intOf]
      · obtain rfl : j = 0 := by omega
        clear hj hj0
        have hm0 : ∀ k, mem bk k ↔ mem l k := fun k => by rw [HM.out k, List.drop_zero]
        have HM0 := Lib.hid hm0; clear hm0 HM
        have hz := hb.size
        have HB := Lib.hid hb; clear hb
        have hr1 := HR1.out.next HB.out
        have hr2 : RdS wr wr.heap.size (.slice A2 bk.length c2) bk := OwnS.rd (base := w1.heap.size) HO.out
        have HRa := Lib.hid hr1; clear hr1 HR1
        have HRb := Lib.hid hr2; clear hr2 HO
        have HJ := Lib.hid (show Fits J (fun k => mem l k) from ⟨HN1.out, HM1.out⟩)
        go_wp2_with fail
        refine (awake_any _).mono ?_
        rintro e w4 ⟨rfl, hb4⟩
        have HB4 := Lib.hid hb4; clear hb4
        go_wp2_with fail
        refine (join_any bk _ w4 (HRb.out.next HB4.out) (by omega)).mono ?_
        rintro e w5 ⟨v5, J5, rfl, ho5, hb5, hn5, hm5, hl5⟩
        have HO5 := Lib.hid ho5; clear ho5
        have HB5 := Lib.hid hb5; clear hb5
        have hs := same_any J J5 _ v5 w5 ((HRa.out.next HB4.out).next HB5.out) HO5.out.rd (by omega) (by omega)
        rw [show decide (J = J5) = true from decide_eq_true (HJ.out.eq ⟨hn5, fun k => (hm5 k).trans (HM0.out k)⟩)] at hs
        have HS := Lib.hid hs; clear hs hn5 hm5
        go_wp2_with fail
        refine HS.out.mono ?_
        rintro e w6 ⟨rfl, hb6⟩
        have HB6 := Lib.hid hb6; clear hb6 HS
        go_wp2_with fail
        refine (join_any J _ w6 (((HRa.out.next HB4.out).next HB5.out).next HB6.out) (by omega)).mono ?_
        rintro e w7 ⟨v7, J7, rfl, ho7, hb7, hn7, hm7, hl7⟩
        have HO7 := Lib.hid ho7; clear ho7
        have HB7 := Lib.hid hb7; clear hb7
        have hs := same_any J J7 _ v7 w7 ((((HRa.out.next HB4.out).next HB5.out).next HB6.out).next HB7.out) HO7.out.rd (by omega) (by omega)
        rw [show decide (J = J7) = true from decide_eq_true (HJ.out.eq ⟨hn7, fun k => (hm7 k).trans (HM1.out k)⟩)] at hs
        have HS := Lib.hid hs; clear hs hn7 hm7
        go_wp2_with fail
        refine HS.out.mono ?_
        rintro e w8 ⟨rfl, hb8⟩
        have HB8 := Lib.hid hb8; clear hb8 HS
        go_wp2_with fail
        go_ret
        exact ⟨rfl, below_next HB1.out (below_next HB.out (below_next HB4.out (below_next HB5.out (below_next HB6.out (below_next HB7.out HB8.out)))))⟩
  · obtain ⟨l, hl⟩ : ∃ l, l = l0 := ⟨_, rfl⟩
    subst hl
    have hll : l.length ≤ 200 := by omega
    have HV := Lib.hid hv; clear hv
    go_enter Try.func10, Try.ntmps10
    go_wp2_with fail
    clear hlong hc
    refine (join_any l _ w HV.out (by omega)).mono ?_
    rintro e w1 ⟨v1, J, rfl, ho1, hb1, hn1, hm1, hl1⟩
    have HV1 := Lib.hid (HV.out.next hb1)
    have hr1 := ho1.rd
    obtain ⟨A1, c1, rfl, _⟩ := hr1.form
    have HR1 := Lib.hid hr1; clear hr1 ho1
    have HB1 := Lib.hid hb1; clear hb1 HV
    have HN1 := Lib.hid hn1; clear hn1
    have HM1 := Lib.hid hm1; clear hm1
    go_wp2_with fail
    go_loopw [4, 5] (fun bv i wr => ∃ (j : Nat) (bk : List (K × K)) (A2 : Option Addr) (c2 : Nat), j ≤ l.length ∧ i = .int .i64 ((j : Int) - 1) ∧ bv = .slice A2 bk.length c2 ∧ Below w1.heap.size w1 wr ∧ Own cellsS 2 23 wr w1.heap.size (.slice A2 bk.length c2) bk ∧ (∀ k, mem bk k ↔ mem (l.drop j) k) ∧ bk.length ≤ 2 * (l.length - j)) (fun _ i _ => (intOf i + 1).toNat)
    case atStart => exact ⟨l.length, [], _, _, Nat.le_refl _, by go_num, rfl, (Below.refl _ _).alloc (Nat.le_refl _) _, Own.empty _ _ (Nat.le_refl _), by simp, by simp⟩
    case round =>
      obtain ⟨j, bk, A2, c2, hj, rfl, rfl, hb, ho, hm, hlen⟩ := hrel
      have HO := Lib.hid ho; clear ho
      have HM := Lib.hid hm; clear hm
      by_cases hj0 : 1 ≤ j
      · obtain ⟨m, rfl⟩ : ∃ m, j = m + 1 := ⟨j - 1, by omega⟩
        obtain ⟨z, hz⟩ : ∃ z : Int, z = ((m + 1 : Nat) : Int) - 1 := ⟨_, rfl⟩
        rw [← hz]
        obtain rfl : z = (m : Int) := by omega
        clear hz
        have hlt : m < l.length := by omega
        obtain ⟨b, o, rfl, hbB, h1, h2⟩ := HV1.out.at m hlt
        have g1 := (hb.cell (p := ⟨b, o + m * 2, none⟩) hbB).trans h1
        have g2 := (hb.cell (p := ⟨b, o + m * 2 + 1, none⟩) hbB).trans h2
        clear h1 h2
        have wr1 : IntKind.i64.wrap (m : Int) = (m : Int) := by rw [IntKind.wrap_i64]; omega
        have wr2 : (0 : Int) ≤ (m : Int) := by omega
        have wr3 : (m : Int) < (l.length : Int) := by omega
        have hmm := List.getElem_mem hlt
        have hmem : ∀ k, mem (bk ++ [l[m], l[m]]) k ↔ mem (l.drop m) k := fun k => by
          rw [mem_pair, HM.out k, List.drop_eq_getElem_cons hlt, mem_cons]
        have HMM := Lib.hid hmem; clear hmem
        have HS := Lib.hid hmm; clear hmm
        have HB := Lib.hid hb
        have hold : HeldB w1 b (o + m * 2) (o + m * 2 + 1) l[m].1 l[m].2 wr.drew := ⟨g1, g2, hb.drew, hbB⟩
        clear g1 g2 hb
        go_wp2_with fail
        refine wp_region_plan (S := HeldB w1 b (o + m * 2) (o + m * 2 + 1) l[m].1 l[m].2) [(true, 0), (true, 1), (true, 2), (true, 3), (true, 4), (true, 5), (true, 6), (true, 7), (true, 8), (false, 9), (false, 10), (true, 11)] (by kernel_rfl) (by kernel_rfl) (fun _ _ d _ _ h => by cases d <;> exact h) hold ?_
        repeat (refine Plan.take (v := ?_) rfl rfl ?_ ?_; rotate_left; (focus (intro W hW; obtain ⟨c1, c2, _, _⟩ := hW; go_simp; (try with_reducible rfl); done)); (try simp only [Act.put, List.setIfInBounds_toArray, List.set_cons_zero, List.set_cons_succ]))
        refine Plan.step rfl rfl (fun Kk hK => ?_)
        go_simp
        refine hK.out _ _ (hold.alloc _) ?_
        clear hK Kk
        refine Plan.step rfl rfl (fun Kk hK => ?_)
        refine wp_addAny (enc := cellsS) (k := 2) 36 23 32 i0 _ Try.underlying36 HI0.out HZ0.out HZ1.out HZ2.out rfl (by decide) cellsS_len cellsS_one _ _ rfl w1.heap.size (.slice A2 bk.length c2) bk rfl (Own.alloc HO.out _) _ _ [l[m], l[m]] rfl (RdS.pair _ l[m]) (by simp only [List.length_cons, List.length_nil]; unfold maxLen; omega) (by simp only [List.length_cons, List.length_nil]; omega) (by simp; have := HB.out.size; omega) ?_
        intro A6 c6 w6 ho6 hg6
        have hlow : ∀ i, (Value.slice A2 bk.length c2).ownBlock = some i → w1.heap.size ≤ i := fun i hi => (HO.out.low hi).1
        have hold2 := (hold.alloc (.cells #[.string l[m].1, .string l[m].2, .string l[m].1, .string l[m].2] 23)).grown hg6 hlow
        (try simp only [Act.put, List.setIfInBounds_toArray, List.set_cons_zero, List.set_cons_succ])
        refine hK.out _ _ hold2 ?_
        clear hK Kk hold
        have HO7 := Lib.hid ho6; clear ho6 hg6 hlow HO
        have hold := hold2
        clear hold2
        repeat (refine Plan.take (v := ?_) rfl rfl ?_ ?_; rotate_left; (focus (intro W hW; obtain ⟨c1, c2, _, _⟩ := hW; go_simp; (try with_reducible rfl); done)); (try simp only [Act.put, List.setIfInBounds_toArray, List.set_cons_zero, List.set_cons_succ]))
        simp only [Plan]
        obtain ⟨d1, d2, hb6, _⟩ := hold
        have hz6 := hb6.size
        have hw := without_any l[m] J _ w6 (HR1.out.below hb6 (Nat.le_refl _) |>.mono hz6) hl1
        have HW := Lib.hid hw; clear hw
        have HB6 := Lib.hid hb6; clear hb6
        go_wp2_with fail
        refine HW.out.mono ?_
        rintro e w7 ⟨v7, R, rfl, ho7, hb7, hn7, hm7, hl7⟩
        obtain ⟨A7, c7, rfl, _⟩ := ho7.rd.form
        rw [none_left hn7 HM1.out hm7 HS.out]
        have HO8 := Lib.hid (HO7.out.below hb7 (Nat.le_refl _)); clear HO7
        have HB8 := Lib.hid (HB6.out.trans (hb7.mono hz6)); clear HB6 hb7 hn7 hm7 ho7 HW
        go_wp2_with fail
        go_roundw
        case rel => exact ⟨m, bk ++ [l[m], l[m]], A6, c6, by omega, by go_num, by simp, HB8.out, HO8.out, HMM.out, by simp; omega⟩
        case measure => simp [intOf]
      · obtain rfl : j = 0 := by omega
        clear hj hj0
        have hm0 : ∀ k, mem bk k ↔ mem l k := fun k => by rw [HM.out k, List.drop_zero]
        have HM0 := Lib.hid hm0; clear hm0 HM
        have hz := hb.size
        have HB := Lib.hid hb; clear hb
        have hr1 := HR1.out.next HB.out
        have hr2 : RdS wr wr.heap.size (.slice A2 bk.length c2) bk := OwnS.rd (base := w1.heap.size) HO.out
        have HRa := Lib.hid hr1; clear hr1 HR1
        have HRb := Lib.hid hr2; clear hr2 HO
        have HJ := Lib.hid (show Fits J (fun k => mem l k) from ⟨HN1.out, HM1.out⟩)
        go_wp2_with fail
        refine (awake_any _).mono ?_
        rintro e w4 ⟨rfl, hb4⟩
        have HB4 := Lib.hid hb4; clear hb4
        go_wp2_with fail
        refine (join_any bk _ w4 (HRb.out.next HB4.out) (by omega)).mono ?_
        rintro e w5 ⟨v5, J5, rfl, ho5, hb5, hn5, hm5, hl5⟩
        have HO5 := Lib.hid ho5; clear ho5
        have HB5 := Lib.hid hb5; clear hb5
        have hs := same_any J J5 _ v5 w5 ((HRa.out.next HB4.out).next HB5.out) HO5.out.rd (by omega) (by omega)
        rw [show decide (J = J5) = true from decide_eq_true (HJ.out.eq ⟨hn5, fun k => (hm5 k).trans (HM0.out k)⟩)] at hs
        have HS := Lib.hid hs; clear hs hn5 hm5
        go_wp2_with fail
        refine HS.out.mono ?_
        rintro e w6 ⟨rfl, hb6⟩
        have HB6 := Lib.hid hb6; clear hb6 HS
        go_wp2_with fail
        refine (join_any J _ w6 (((HRa.out.next HB4.out).next HB5.out).next HB6.out) (by omega)).mono ?_
        rintro e w7 ⟨v7, J7, rfl, ho7, hb7, hn7, hm7, hl7⟩
        have HO7 := Lib.hid ho7; clear ho7
        have HB7 := Lib.hid hb7; clear hb7
        have hs := same_any J J7 _ v7 w7 ((((HRa.out.next HB4.out).next HB5.out).next HB6.out).next HB7.out) HO7.out.rd (by omega) (by omega)
        rw [show decide (J = J7) = true from decide_eq_true (HJ.out.eq ⟨hn7, fun k => (hm7 k).trans (HM1.out k)⟩)] at hs
        have HS := Lib.hid hs; clear hs hn7 hm7
        go_wp2_with fail
        refine HS.out.mono ?_
        rintro e w8 ⟨rfl, hb8⟩
        have HB8 := Lib.hid hb8; clear hb8 HS
        go_wp2_with fail
        go_ret
        exact ⟨rfl, below_next HB1.out (below_next HB.out (below_next HB4.out (below_next HB5.out (below_next HB6.out (below_next HB7.out HB8.out)))))⟩
end Go.Proofs.Ytmfpidihcjnnkaa
