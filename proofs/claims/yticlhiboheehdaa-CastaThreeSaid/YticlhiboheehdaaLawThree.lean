/- The walk of the law CastaThree. -/
import Derived.Test.YticlhiboheehdaaAwk
import Derived.Test.YticlhiboheehdaaOpenB
namespace Go.Proofs.Yticlhiboheehdaa
open Go.RowKit

theorem three_get (a b c : List UInt8) (n k : Nat) (h : k < (addB (addB (a.take n) (b.take n)) (c.take n)).length) (ha : k < a.length) (hb : k < b.length) (hc : k < c.length) :
    a[k] ^^^ b[k] ^^^ c[k] = (addB (addB (a.take n) (b.take n)) (c.take n))[k] := by simp [addB]
theorem three_len (a b c : List UInt8) (n : Nat) (ha : n ≤ a.length) (hb : n ≤ b.length) (hc : n ≤ c.length) : (addB (addB (a.take n) (b.take n)) (c.take n)).length = n := by simp [addB]; omega

set_option maxHeartbeats 4000000 in
set_option maxRecDepth 100000 in
theorem castaThree_walk (a b c : List UInt8) (va vb vc : Value) (w : World) (hva : RdB w w.heap.size va a) (hvb : RdB w w.heap.size vb b) (hvc : RdB w w.heap.size vc c)
    (hla : a.length ≤ 140737488351232) (hlb : b.length ≤ 140737488351232) (hlc : c.length ≤ 140737488351232) :
    Calls Try.prog 7 #[va, vb, vc] w fun e w' => e = .returned (.bool true) ∧ Below w.heap.size w w' := by
  obtain ⟨n, hn⟩ : ∃ n, n = min (min a.length b.length) c.length := ⟨_, rfl⟩
  have hna : n ≤ a.length := by omega
  have hnb : n ≤ b.length := by omega
  have hnc : n ≤ c.length := by omega
  have htl := three_len a b c n hna hnb hnc
  have htx := three_get a b c n
  have hth := sum_three (a.take n) (b.take n) (c.take n) (by simp; omega) (by simp; omega)
  generalize hT : addB (addB (a.take n) (b.take n)) (c.take n) = T at htl htx hth
  clear hT
  obtain ⟨A1, c1, rfl, hc1, hia⟩ := hva.at
  obtain ⟨A2, c2, rfl, hc2, hib⟩ := hvb.at
  obtain ⟨A3, c3, rfl, hc3, hic⟩ := hvc.at
  have hsa := fun W (hW : Below w.heap.size w W) => sum_any (a.take n) (.slice A1 n c1) W _ ((hva.take n hna).below hW (Nat.le_refl _)) (by simp; omega)
  have hsb := fun W (hW : Below w.heap.size w W) => sum_any (b.take n) (.slice A2 n c2) W _ ((hvb.take n hnb).below hW (Nat.le_refl _)) (by simp; omega)
  have hsc := fun W (hW : Below w.heap.size w W) => sum_any (c.take n) (.slice A3 n c3) W _ ((hvc.take n hnc).below hW (Nat.le_refl _)) (by simp; omega)
  have hxl := sum_lt (a.take n)
  have hyl := sum_lt (b.take n)
  have hzl := sum_lt (c.take n)
  generalize sum (a.take n) = x at hsa hxl hth
  generalize sum (b.take n) = y at hsb hyl hth
  generalize sum (c.take n) = z at hsc hzl hth
  have hxy : bits .xor .u32 (x : Int) (y : Int) = ((x ^^^ y : Nat) : Int) := xor32 hxl hyl
  have hxyz : bits .xor .u32 ((x ^^^ y : Nat) : Int) (z : Int) = ((x ^^^ y ^^^ z : Nat) : Int) := xor32 (Nat.xor_lt_two_pow hxl hyl) hzl
  obtain ⟨g, hg⟩ : ∃ g, g = w.heap.size := ⟨_, rfl⟩
  have HG := Lib.hid hg; clear hg
  have HA := Lib.hid (show ∀ i (_ : i < a.length), ∃ b1 o1, A1 = some ⟨b1, o1, none⟩ ∧ ∀ W, Below w.heap.size w W → W.cell? ⟨b1, o1 + i, none⟩ = some (.int .u8 (a[i].toNat : Int)) from fun i hi => by
    obtain ⟨b1, o1, h1, h2, h3⟩ := hia i hi
    exact ⟨b1, o1, h1, fun W hW => (hW.cell (p := ⟨b1, _, none⟩) h2).trans h3⟩)
  have HB := Lib.hid (show ∀ i (_ : i < b.length), ∃ b1 o1, A2 = some ⟨b1, o1, none⟩ ∧ ∀ W, Below w.heap.size w W → W.cell? ⟨b1, o1 + i, none⟩ = some (.int .u8 (b[i].toNat : Int)) from fun i hi => by
    obtain ⟨b1, o1, h1, h2, h3⟩ := hib i hi
    exact ⟨b1, o1, h1, fun W hW => (hW.cell (p := ⟨b1, _, none⟩) h2).trans h3⟩)
  have HC := Lib.hid (show ∀ i (_ : i < c.length), ∃ b1 o1, A3 = some ⟨b1, o1, none⟩ ∧ ∀ W, Below w.heap.size w W → W.cell? ⟨b1, o1 + i, none⟩ = some (.int .u8 (c[i].toNat : Int)) from fun i hi => by
    obtain ⟨b1, o1, h1, h2, h3⟩ := hic i hi
    exact ⟨b1, o1, h1, fun W hW => (hW.cell (p := ⟨b1, _, none⟩) h2).trans h3⟩)
  have HSA := Lib.hid hsa
  have HSB := Lib.hid hsb
  have HSC := Lib.hid hsc
  have HXY := Lib.hid hxy
  have HXYZ := Lib.hid hxyz
  have HTH := Lib.hid hth
  have HTL := Lib.hid htl
  have HTX := Lib.hid htx
  clear hsa hsb hsc hxy hxyz hth htl htx hia hib hic hva hvb hvc hxl hyl hzl
  by_cases h1 : b.length < a.length
  · by_cases h2 : c.length < b.length
    · obtain rfl : n = c.length := by omega
      clear hn
      go_enter Try.func7, Try.ntmps7
      go_wp2_with (refine wpList_makeB rfl _ _ rfl c.length ?ca1 ?cb1 (by omega) ?cd1)
      case ca1 => rfl
      case cb1 => rfl
      intro w2 hr2 hb2
      rw [← HG.out] at hr2
      rw [show w.heap.size = g from HG.out.symm]
      have HR2 := Lib.hid hr2; clear hr2
      have HB2 := Lib.hid hb2; clear hb2
      go_wp2_with fail
      go_loopw [9] (fun kv wr => ∃ k : Nat, k ≤ c.length ∧ kv = .int .i64 k ∧ RowB wr g (T.take k ++ List.replicate (c.length - k) 0) ∧ Below g w wr) (fun kv _ => c.length - (intOf kv).toNat)
      case atStart => exact ⟨0, Nat.zero_le _, rfl, HR2.out, by rw [HG.out]; exact HB2.out⟩
      case round =>
        obtain ⟨k, hk, rfl, hr, hb⟩ := hrel
        by_cases hlt : k < c.length
        · obtain ⟨b1, o1, rfl, hca⟩ := HA.out k (by omega)
          obtain ⟨b2, o2, rfl, hcb⟩ := HB.out k (by omega)
          obtain ⟨b3, o3, rfl, hcc⟩ := HC.out k (by omega)
          have hTl := HTL.out
          have hfl : k < T.length := by omega
          have hcl : k < (T.take k ++ List.replicate (c.length - k) (0 : UInt8)).length := by simp; omega
          have hc0 := hr.cell k hcl
          generalize (T.take k ++ List.replicate (c.length - k) (0 : UInt8))[k].toNat = u0 at hc0
          have hf0 := hr.frozen k
          have hset := hr.set k T[k]
          rw [show c.length - k = (c.length - (k + 1)) + 1 by omega, fill_set _ _ _ hfl] at hset
          have hx := HTX.out k hfl (by omega) (by omega) (by omega)
          rw [← hx] at hset
          have hbs := hb.setCell (p := ⟨g, k, none⟩) (Nat.le_refl _) (.int .u8 ((a[k] ^^^ b[k] ^^^ c[k]).toNat : Int))
          have hx1 : bits .xor .u8 (a[k].toNat : Int) (b[k].toNat : Int) = ((a[k] ^^^ b[k]).toNat : Int) := by rw [toNat_xor]; exact xor8 (byte_lt _) (byte_lt _)
          have hx2 : bits .xor .u8 ((a[k] ^^^ b[k]).toNat : Int) (c[k].toNat : Int) = ((a[k] ^^^ b[k] ^^^ c[k]).toNat : Int) := (xor8 (byte_lt (a[k] ^^^ b[k])) (byte_lt c[k])).trans (by rw [toNat_xor (a[k] ^^^ b[k])])
          rw [← hx2, ← hx1] at hset hbs
          have HS := Lib.hid hset
          have HBS := Lib.hid hbs
          have HHB := Lib.hid (show Below w.heap.size w wr.drew by rw [← HG.out]; exact hb.drew)
          have HCA := Lib.hid hca
          have HCB := Lib.hid hcb
          have HCC := Lib.hid hcc
          clear hr hb hset hbs hcl hx hx1 hx2 hca hcb hcc
          have hk1 : (k : Int) < (a.length : Int) := by omega
          have hk2 : (k : Int) < (b.length : Int) := by omega
          have hk3 : (k : Int) < (c.length : Int) := by omega
          have hk0 : (0 : Int) ≤ (k : Int) := by omega
          go_wp2_with fail
          refine wp_region_plan (S := fun W => Below w.heap.size w W) [(true, 0), (true, 1), (true, 2), (true, 3), (true, 4), (true, 5), (true, 6), (true, 7), (true, 8), (true, 9), (true, 10), (true, 11), (true, 12), (true, 13), (true, 14), (true, 15), (true, 16), (false, 17)] (by kernel_rfl) (by kernel_rfl) (fun _ _ d _ _ h => by cases d <;> exact h) HHB.out ?_
          repeat (refine Plan.take (v := ?_) rfl rfl ?_ ?_; rotate_left; (focus (intro W hW; have k1 := HCA.out W hW; have k2 := HCB.out W hW; have k3 := HCC.out W hW; go_simp; (try with_reducible rfl); done)); (try simp only [Act.put, List.setIfInBounds_toArray, List.set_cons_zero, List.set_cons_succ]))
          refine Plan.step rfl rfl (fun Kk hK => ?_)
          go_simp
          refine hK.out _ _ ?_ ?_
          · exact HHB.out.setCell (p := ⟨g, k, none⟩) (by rw [← HG.out]; exact Nat.le_refl _) _
          clear hK Kk
          (try simp only [Act.put, List.setIfInBounds_toArray, List.set_cons_zero, List.set_cons_succ])
          simp only [Plan]
          go_wp2_with fail
          go_roundw
          case rel => exact ⟨k + 1, by omega, by go_num, HS.out, HBS.out.drew⟩
          case measure => simp [intOf]; omega
        · obtain rfl : k = c.length := by omega
          rw [Nat.sub_self, List.replicate_zero, List.append_nil, List.take_of_length_le (by rw [HTL.out]; exact Nat.le_refl _)] at hr
          have hrd : RdB wr wr.heap.size (.slice (some ⟨g, 0, none⟩) c.length c.length) T := by
            have := hr.whole
            rwa [HTL.out] at this
          have hbw : Below w.heap.size w wr := by rw [← HG.out]; exact hb
          have HRD := Lib.hid hrd
          have HBW := Lib.hid hbw
          clear hr hb hrd hbw
          have hn1 : (c.length : Int) ≤ (c1 : Int) := by omega
          have hn2 : (c.length : Int) ≤ (c2 : Int) := by omega
          have hn3 : (c.length : Int) ≤ (c3 : Int) := by omega
          have hn0 : (0 : Int) ≤ (c.length : Int) := by omega
          go_wp2_with fail
          refine wp_region_planB [(false, 0), (true, 1), (true, 2), (true, 4), (true, 5), (true, 6), (true, 8), (true, 9), (true, 10), (true, 13), (true, 14), (true, 15), (false, 3), (false, 7), (false, 11), (true, 12), (false, 16), (true, 17), (true, 18), (true, 19), (true, 20)] (by kernel_rfl) (by kernel_rfl) (fun _ _ d _ _ h => by cases d <;> exact h) ?_
          refine PlanB.step rfl rfl (fun Kk hK => ?_)
          go_simp
          go_at_call 8
          refine (awake_any _).mono ?_
          rintro e w4 ⟨rfl, hb4⟩
          refine hK.out _ _ hb4 ?_
          clear hK Kk
          have HB4 := Lib.hid (show Below w.heap.size w w4 from HBW.out.trans ((((Below.refl _ wr).drew).trans hb4).mono HBW.out.size))
          have hrd4 : RdB w4 w4.heap.size (.slice (some ⟨g, 0, none⟩) c.length c.length) T := HRD.out.next (((Below.refl _ wr).drew).trans hb4)
          have hst := sum_any T _ w4 _ hrd4 (by rw [HTL.out]; omega)
          rw [HTH.out] at hst
          have HST := Lib.hid hst
          clear hb4 HBW HRD hrd4 hst
          (try simp only [Act.put, List.setIfInBounds_toArray, List.set_cons_zero, List.set_cons_succ])
          repeat (refine PlanB.take (v := ?_) rfl rfl ?_ ?_; rotate_left; (focus (intro W hW; go_simp; (try with_reducible rfl); done)); (try simp only [Act.put, List.setIfInBounds_toArray, List.set_cons_zero, List.set_cons_succ]))
          refine PlanB.step rfl rfl (fun Kk hK => ?_)
          go_simp
          go_at_call 9
          refine HST.out.mono ?_
          rintro e w5 ⟨rfl, rfl⟩
          refine hK.out _ _ (Below.refl _ _) ?_
          clear hK Kk HST
          (try simp only [Act.put, List.setIfInBounds_toArray, List.set_cons_zero, List.set_cons_succ])
          refine PlanB.step rfl rfl (fun Kk hK => ?_)
          go_simp
          go_at_call 9
          refine (HSA.out _ HB4.out).mono ?_
          rintro e w6 ⟨rfl, rfl⟩
          refine hK.out _ _ (Below.refl _ _) ?_
          clear hK Kk HSA
          (try simp only [Act.put, List.setIfInBounds_toArray, List.set_cons_zero, List.set_cons_succ])
          refine PlanB.step rfl rfl (fun Kk hK => ?_)
          go_simp
          go_at_call 9
          refine (HSB.out _ HB4.out).mono ?_
          rintro e w7 ⟨rfl, rfl⟩
          refine hK.out _ _ (Below.refl _ _) ?_
          clear hK Kk HSB
          (try simp only [Act.put, List.setIfInBounds_toArray, List.set_cons_zero, List.set_cons_succ])
          have hxy := HXY.out
          repeat (refine PlanB.take (v := ?_) rfl rfl ?_ ?_; rotate_left; (focus (intro W hW; go_simp; (try with_reducible rfl); done)); (try simp only [Act.put, List.setIfInBounds_toArray, List.set_cons_zero, List.set_cons_succ]))
          refine PlanB.step rfl rfl (fun Kk hK => ?_)
          go_simp
          go_at_call 9
          refine (HSC.out _ HB4.out).mono ?_
          rintro e w8 ⟨rfl, rfl⟩
          refine hK.out _ _ (Below.refl _ _) ?_
          clear hK Kk HSC
          (try simp only [Act.put, List.setIfInBounds_toArray, List.set_cons_zero, List.set_cons_succ])
          have hxyz := HXYZ.out
          repeat (refine PlanB.take (v := ?_) rfl rfl ?_ ?_; rotate_left; (focus (intro W hW; go_simp; (try with_reducible rfl); done)); (try simp only [Act.put, List.setIfInBounds_toArray, List.set_cons_zero, List.set_cons_succ]))
          simp only [PlanB]
          go_wp2_with fail
          go_ret
          exact ⟨rfl, HB4.out⟩
    · obtain rfl : n = b.length := by omega
      clear hn
      go_enter Try.func7, Try.ntmps7
      go_wp2_with (refine wpList_makeB rfl _ _ rfl b.length ?ca2 ?cb2 (by omega) ?cd2)
      case ca2 => rfl
      case cb2 => rfl
      intro w2 hr2 hb2
      rw [← HG.out] at hr2
      rw [show w.heap.size = g from HG.out.symm]
      have HR2 := Lib.hid hr2; clear hr2
      have HB2 := Lib.hid hb2; clear hb2
      go_wp2_with fail
      go_loopw [9] (fun kv wr => ∃ k : Nat, k ≤ b.length ∧ kv = .int .i64 k ∧ RowB wr g (T.take k ++ List.replicate (b.length - k) 0) ∧ Below g w wr) (fun kv _ => b.length - (intOf kv).toNat)
      case atStart => exact ⟨0, Nat.zero_le _, rfl, HR2.out, by rw [HG.out]; exact HB2.out⟩
      case round =>
        obtain ⟨k, hk, rfl, hr, hb⟩ := hrel
        by_cases hlt : k < b.length
        · obtain ⟨b1, o1, rfl, hca⟩ := HA.out k (by omega)
          obtain ⟨b2, o2, rfl, hcb⟩ := HB.out k (by omega)
          obtain ⟨b3, o3, rfl, hcc⟩ := HC.out k (by omega)
          have hTl := HTL.out
          have hfl : k < T.length := by omega
          have hcl : k < (T.take k ++ List.replicate (b.length - k) (0 : UInt8)).length := by simp; omega
          have hc0 := hr.cell k hcl
          generalize (T.take k ++ List.replicate (b.length - k) (0 : UInt8))[k].toNat = u0 at hc0
          have hf0 := hr.frozen k
          have hset := hr.set k T[k]
          rw [show b.length - k = (b.length - (k + 1)) + 1 by omega, fill_set _ _ _ hfl] at hset
          have hx := HTX.out k hfl (by omega) (by omega) (by omega)
          rw [← hx] at hset
          have hbs := hb.setCell (p := ⟨g, k, none⟩) (Nat.le_refl _) (.int .u8 ((a[k] ^^^ b[k] ^^^ c[k]).toNat : Int))
          have hx1 : bits .xor .u8 (a[k].toNat : Int) (b[k].toNat : Int) = ((a[k] ^^^ b[k]).toNat : Int) := by rw [toNat_xor]; exact xor8 (byte_lt _) (byte_lt _)
          have hx2 : bits .xor .u8 ((a[k] ^^^ b[k]).toNat : Int) (c[k].toNat : Int) = ((a[k] ^^^ b[k] ^^^ c[k]).toNat : Int) := (xor8 (byte_lt (a[k] ^^^ b[k])) (byte_lt c[k])).trans (by rw [toNat_xor (a[k] ^^^ b[k])])
          rw [← hx2, ← hx1] at hset hbs
          have HS := Lib.hid hset
          have HBS := Lib.hid hbs
          have HHB := Lib.hid (show Below w.heap.size w wr.drew by rw [← HG.out]; exact hb.drew)
          have HCA := Lib.hid hca
          have HCB := Lib.hid hcb
          have HCC := Lib.hid hcc
          clear hr hb hset hbs hcl hx hx1 hx2 hca hcb hcc
          have hk1 : (k : Int) < (a.length : Int) := by omega
          have hk2 : (k : Int) < (b.length : Int) := by omega
          have hk3 : (k : Int) < (c.length : Int) := by omega
          have hk0 : (0 : Int) ≤ (k : Int) := by omega
          go_wp2_with fail
          refine wp_region_plan (S := fun W => Below w.heap.size w W) [(true, 0), (true, 1), (true, 2), (true, 3), (true, 4), (true, 5), (true, 6), (true, 7), (true, 8), (true, 9), (true, 10), (true, 11), (true, 12), (true, 13), (true, 14), (true, 15), (true, 16), (false, 17)] (by kernel_rfl) (by kernel_rfl) (fun _ _ d _ _ h => by cases d <;> exact h) HHB.out ?_
          repeat (refine Plan.take (v := ?_) rfl rfl ?_ ?_; rotate_left; (focus (intro W hW; have k1 := HCA.out W hW; have k2 := HCB.out W hW; have k3 := HCC.out W hW; go_simp; (try with_reducible rfl); done)); (try simp only [Act.put, List.setIfInBounds_toArray, List.set_cons_zero, List.set_cons_succ]))
          refine Plan.step rfl rfl (fun Kk hK => ?_)
          go_simp
          refine hK.out _ _ ?_ ?_
          · exact HHB.out.setCell (p := ⟨g, k, none⟩) (by rw [← HG.out]; exact Nat.le_refl _) _
          clear hK Kk
          (try simp only [Act.put, List.setIfInBounds_toArray, List.set_cons_zero, List.set_cons_succ])
          simp only [Plan]
          go_wp2_with fail
          go_roundw
          case rel => exact ⟨k + 1, by omega, by go_num, HS.out, HBS.out.drew⟩
          case measure => simp [intOf]; omega
        · obtain rfl : k = b.length := by omega
          rw [Nat.sub_self, List.replicate_zero, List.append_nil, List.take_of_length_le (by rw [HTL.out]; exact Nat.le_refl _)] at hr
          have hrd : RdB wr wr.heap.size (.slice (some ⟨g, 0, none⟩) b.length b.length) T := by
            have := hr.whole
            rwa [HTL.out] at this
          have hbw : Below w.heap.size w wr := by rw [← HG.out]; exact hb
          have HRD := Lib.hid hrd
          have HBW := Lib.hid hbw
          clear hr hb hrd hbw
          have hn1 : (b.length : Int) ≤ (c1 : Int) := by omega
          have hn2 : (b.length : Int) ≤ (c2 : Int) := by omega
          have hn3 : (b.length : Int) ≤ (c3 : Int) := by omega
          have hn0 : (0 : Int) ≤ (b.length : Int) := by omega
          go_wp2_with fail
          refine wp_region_planB [(false, 0), (true, 1), (true, 2), (true, 4), (true, 5), (true, 6), (true, 8), (true, 9), (true, 10), (true, 13), (true, 14), (true, 15), (false, 3), (false, 7), (false, 11), (true, 12), (false, 16), (true, 17), (true, 18), (true, 19), (true, 20)] (by kernel_rfl) (by kernel_rfl) (fun _ _ d _ _ h => by cases d <;> exact h) ?_
          refine PlanB.step rfl rfl (fun Kk hK => ?_)
          go_simp
          go_at_call 8
          refine (awake_any _).mono ?_
          rintro e w4 ⟨rfl, hb4⟩
          refine hK.out _ _ hb4 ?_
          clear hK Kk
          have HB4 := Lib.hid (show Below w.heap.size w w4 from HBW.out.trans ((((Below.refl _ wr).drew).trans hb4).mono HBW.out.size))
          have hrd4 : RdB w4 w4.heap.size (.slice (some ⟨g, 0, none⟩) b.length b.length) T := HRD.out.next (((Below.refl _ wr).drew).trans hb4)
          have hst := sum_any T _ w4 _ hrd4 (by rw [HTL.out]; omega)
          rw [HTH.out] at hst
          have HST := Lib.hid hst
          clear hb4 HBW HRD hrd4 hst
          (try simp only [Act.put, List.setIfInBounds_toArray, List.set_cons_zero, List.set_cons_succ])
          repeat (refine PlanB.take (v := ?_) rfl rfl ?_ ?_; rotate_left; (focus (intro W hW; go_simp; (try with_reducible rfl); done)); (try simp only [Act.put, List.setIfInBounds_toArray, List.set_cons_zero, List.set_cons_succ]))
          refine PlanB.step rfl rfl (fun Kk hK => ?_)
          go_simp
          go_at_call 9
          refine HST.out.mono ?_
          rintro e w5 ⟨rfl, rfl⟩
          refine hK.out _ _ (Below.refl _ _) ?_
          clear hK Kk HST
          (try simp only [Act.put, List.setIfInBounds_toArray, List.set_cons_zero, List.set_cons_succ])
          refine PlanB.step rfl rfl (fun Kk hK => ?_)
          go_simp
          go_at_call 9
          refine (HSA.out _ HB4.out).mono ?_
          rintro e w6 ⟨rfl, rfl⟩
          refine hK.out _ _ (Below.refl _ _) ?_
          clear hK Kk HSA
          (try simp only [Act.put, List.setIfInBounds_toArray, List.set_cons_zero, List.set_cons_succ])
          refine PlanB.step rfl rfl (fun Kk hK => ?_)
          go_simp
          go_at_call 9
          refine (HSB.out _ HB4.out).mono ?_
          rintro e w7 ⟨rfl, rfl⟩
          refine hK.out _ _ (Below.refl _ _) ?_
          clear hK Kk HSB
          (try simp only [Act.put, List.setIfInBounds_toArray, List.set_cons_zero, List.set_cons_succ])
          have hxy := HXY.out
          repeat (refine PlanB.take (v := ?_) rfl rfl ?_ ?_; rotate_left; (focus (intro W hW; go_simp; (try with_reducible rfl); done)); (try simp only [Act.put, List.setIfInBounds_toArray, List.set_cons_zero, List.set_cons_succ]))
          refine PlanB.step rfl rfl (fun Kk hK => ?_)
          go_simp
          go_at_call 9
          refine (HSC.out _ HB4.out).mono ?_
          rintro e w8 ⟨rfl, rfl⟩
          refine hK.out _ _ (Below.refl _ _) ?_
          clear hK Kk HSC
          (try simp only [Act.put, List.setIfInBounds_toArray, List.set_cons_zero, List.set_cons_succ])
          have hxyz := HXYZ.out
          repeat (refine PlanB.take (v := ?_) rfl rfl ?_ ?_; rotate_left; (focus (intro W hW; go_simp; (try with_reducible rfl); done)); (try simp only [Act.put, List.setIfInBounds_toArray, List.set_cons_zero, List.set_cons_succ]))
          simp only [PlanB]
          go_wp2_with fail
          go_ret
          exact ⟨rfl, HB4.out⟩
  · by_cases h2 : c.length < a.length
    · obtain rfl : n = c.length := by omega
      clear hn
      go_enter Try.func7, Try.ntmps7
      go_wp2_with (refine wpList_makeB rfl _ _ rfl c.length ?ca3 ?cb3 (by omega) ?cd3)
      case ca3 => rfl
      case cb3 => rfl
      intro w2 hr2 hb2
      rw [← HG.out] at hr2
      rw [show w.heap.size = g from HG.out.symm]
      have HR2 := Lib.hid hr2; clear hr2
      have HB2 := Lib.hid hb2; clear hb2
      go_wp2_with fail
      go_loopw [9] (fun kv wr => ∃ k : Nat, k ≤ c.length ∧ kv = .int .i64 k ∧ RowB wr g (T.take k ++ List.replicate (c.length - k) 0) ∧ Below g w wr) (fun kv _ => c.length - (intOf kv).toNat)
      case atStart => exact ⟨0, Nat.zero_le _, rfl, HR2.out, by rw [HG.out]; exact HB2.out⟩
      case round =>
        obtain ⟨k, hk, rfl, hr, hb⟩ := hrel
        by_cases hlt : k < c.length
        · obtain ⟨b1, o1, rfl, hca⟩ := HA.out k (by omega)
          obtain ⟨b2, o2, rfl, hcb⟩ := HB.out k (by omega)
          obtain ⟨b3, o3, rfl, hcc⟩ := HC.out k (by omega)
          have hTl := HTL.out
          have hfl : k < T.length := by omega
          have hcl : k < (T.take k ++ List.replicate (c.length - k) (0 : UInt8)).length := by simp; omega
          have hc0 := hr.cell k hcl
          generalize (T.take k ++ List.replicate (c.length - k) (0 : UInt8))[k].toNat = u0 at hc0
          have hf0 := hr.frozen k
          have hset := hr.set k T[k]
          rw [show c.length - k = (c.length - (k + 1)) + 1 by omega, fill_set _ _ _ hfl] at hset
          have hx := HTX.out k hfl (by omega) (by omega) (by omega)
          rw [← hx] at hset
          have hbs := hb.setCell (p := ⟨g, k, none⟩) (Nat.le_refl _) (.int .u8 ((a[k] ^^^ b[k] ^^^ c[k]).toNat : Int))
          have hx1 : bits .xor .u8 (a[k].toNat : Int) (b[k].toNat : Int) = ((a[k] ^^^ b[k]).toNat : Int) := by rw [toNat_xor]; exact xor8 (byte_lt _) (byte_lt _)
          have hx2 : bits .xor .u8 ((a[k] ^^^ b[k]).toNat : Int) (c[k].toNat : Int) = ((a[k] ^^^ b[k] ^^^ c[k]).toNat : Int) := (xor8 (byte_lt (a[k] ^^^ b[k])) (byte_lt c[k])).trans (by rw [toNat_xor (a[k] ^^^ b[k])])
          rw [← hx2, ← hx1] at hset hbs
          have HS := Lib.hid hset
          have HBS := Lib.hid hbs
          have HHB := Lib.hid (show Below w.heap.size w wr.drew by rw [← HG.out]; exact hb.drew)
          have HCA := Lib.hid hca
          have HCB := Lib.hid hcb
          have HCC := Lib.hid hcc
          clear hr hb hset hbs hcl hx hx1 hx2 hca hcb hcc
          have hk1 : (k : Int) < (a.length : Int) := by omega
          have hk2 : (k : Int) < (b.length : Int) := by omega
          have hk3 : (k : Int) < (c.length : Int) := by omega
          have hk0 : (0 : Int) ≤ (k : Int) := by omega
          go_wp2_with fail
          refine wp_region_plan (S := fun W => Below w.heap.size w W) [(true, 0), (true, 1), (true, 2), (true, 3), (true, 4), (true, 5), (true, 6), (true, 7), (true, 8), (true, 9), (true, 10), (true, 11), (true, 12), (true, 13), (true, 14), (true, 15), (true, 16), (false, 17)] (by kernel_rfl) (by kernel_rfl) (fun _ _ d _ _ h => by cases d <;> exact h) HHB.out ?_
          repeat (refine Plan.take (v := ?_) rfl rfl ?_ ?_; rotate_left; (focus (intro W hW; have k1 := HCA.out W hW; have k2 := HCB.out W hW; have k3 := HCC.out W hW; go_simp; (try with_reducible rfl); done)); (try simp only [Act.put, List.setIfInBounds_toArray, List.set_cons_zero, List.set_cons_succ]))
          refine Plan.step rfl rfl (fun Kk hK => ?_)
          go_simp
          refine hK.out _ _ ?_ ?_
          · exact HHB.out.setCell (p := ⟨g, k, none⟩) (by rw [← HG.out]; exact Nat.le_refl _) _
          clear hK Kk
          (try simp only [Act.put, List.setIfInBounds_toArray, List.set_cons_zero, List.set_cons_succ])
          simp only [Plan]
          go_wp2_with fail
          go_roundw
          case rel => exact ⟨k + 1, by omega, by go_num, HS.out, HBS.out.drew⟩
          case measure => simp [intOf]; omega
        · obtain rfl : k = c.length := by omega
          rw [Nat.sub_self, List.replicate_zero, List.append_nil, List.take_of_length_le (by rw [HTL.out]; exact Nat.le_refl _)] at hr
          have hrd : RdB wr wr.heap.size (.slice (some ⟨g, 0, none⟩) c.length c.length) T := by
            have := hr.whole
            rwa [HTL.out] at this
          have hbw : Below w.heap.size w wr := by rw [← HG.out]; exact hb
          have HRD := Lib.hid hrd
          have HBW := Lib.hid hbw
          clear hr hb hrd hbw
          have hn1 : (c.length : Int) ≤ (c1 : Int) := by omega
          have hn2 : (c.length : Int) ≤ (c2 : Int) := by omega
          have hn3 : (c.length : Int) ≤ (c3 : Int) := by omega
          have hn0 : (0 : Int) ≤ (c.length : Int) := by omega
          go_wp2_with fail
          refine wp_region_planB [(false, 0), (true, 1), (true, 2), (true, 4), (true, 5), (true, 6), (true, 8), (true, 9), (true, 10), (true, 13), (true, 14), (true, 15), (false, 3), (false, 7), (false, 11), (true, 12), (false, 16), (true, 17), (true, 18), (true, 19), (true, 20)] (by kernel_rfl) (by kernel_rfl) (fun _ _ d _ _ h => by cases d <;> exact h) ?_
          refine PlanB.step rfl rfl (fun Kk hK => ?_)
          go_simp
          go_at_call 8
          refine (awake_any _).mono ?_
          rintro e w4 ⟨rfl, hb4⟩
          refine hK.out _ _ hb4 ?_
          clear hK Kk
          have HB4 := Lib.hid (show Below w.heap.size w w4 from HBW.out.trans ((((Below.refl _ wr).drew).trans hb4).mono HBW.out.size))
          have hrd4 : RdB w4 w4.heap.size (.slice (some ⟨g, 0, none⟩) c.length c.length) T := HRD.out.next (((Below.refl _ wr).drew).trans hb4)
          have hst := sum_any T _ w4 _ hrd4 (by rw [HTL.out]; omega)
          rw [HTH.out] at hst
          have HST := Lib.hid hst
          clear hb4 HBW HRD hrd4 hst
          (try simp only [Act.put, List.setIfInBounds_toArray, List.set_cons_zero, List.set_cons_succ])
          repeat (refine PlanB.take (v := ?_) rfl rfl ?_ ?_; rotate_left; (focus (intro W hW; go_simp; (try with_reducible rfl); done)); (try simp only [Act.put, List.setIfInBounds_toArray, List.set_cons_zero, List.set_cons_succ]))
          refine PlanB.step rfl rfl (fun Kk hK => ?_)
          go_simp
          go_at_call 9
          refine HST.out.mono ?_
          rintro e w5 ⟨rfl, rfl⟩
          refine hK.out _ _ (Below.refl _ _) ?_
          clear hK Kk HST
          (try simp only [Act.put, List.setIfInBounds_toArray, List.set_cons_zero, List.set_cons_succ])
          refine PlanB.step rfl rfl (fun Kk hK => ?_)
          go_simp
          go_at_call 9
          refine (HSA.out _ HB4.out).mono ?_
          rintro e w6 ⟨rfl, rfl⟩
          refine hK.out _ _ (Below.refl _ _) ?_
          clear hK Kk HSA
          (try simp only [Act.put, List.setIfInBounds_toArray, List.set_cons_zero, List.set_cons_succ])
          refine PlanB.step rfl rfl (fun Kk hK => ?_)
          go_simp
          go_at_call 9
          refine (HSB.out _ HB4.out).mono ?_
          rintro e w7 ⟨rfl, rfl⟩
          refine hK.out _ _ (Below.refl _ _) ?_
          clear hK Kk HSB
          (try simp only [Act.put, List.setIfInBounds_toArray, List.set_cons_zero, List.set_cons_succ])
          have hxy := HXY.out
          repeat (refine PlanB.take (v := ?_) rfl rfl ?_ ?_; rotate_left; (focus (intro W hW; go_simp; (try with_reducible rfl); done)); (try simp only [Act.put, List.setIfInBounds_toArray, List.set_cons_zero, List.set_cons_succ]))
          refine PlanB.step rfl rfl (fun Kk hK => ?_)
          go_simp
          go_at_call 9
          refine (HSC.out _ HB4.out).mono ?_
          rintro e w8 ⟨rfl, rfl⟩
          refine hK.out _ _ (Below.refl _ _) ?_
          clear hK Kk HSC
          (try simp only [Act.put, List.setIfInBounds_toArray, List.set_cons_zero, List.set_cons_succ])
          have hxyz := HXYZ.out
          repeat (refine PlanB.take (v := ?_) rfl rfl ?_ ?_; rotate_left; (focus (intro W hW; go_simp; (try with_reducible rfl); done)); (try simp only [Act.put, List.setIfInBounds_toArray, List.set_cons_zero, List.set_cons_succ]))
          simp only [PlanB]
          go_wp2_with fail
          go_ret
          exact ⟨rfl, HB4.out⟩
    · obtain rfl : n = a.length := by omega
      clear hn
      go_enter Try.func7, Try.ntmps7
      go_wp2_with (refine wpList_makeB rfl _ _ rfl a.length ?ca4 ?cb4 (by omega) ?cd4)
      case ca4 => rfl
      case cb4 => rfl
      intro w2 hr2 hb2
      rw [← HG.out] at hr2
      rw [show w.heap.size = g from HG.out.symm]
      have HR2 := Lib.hid hr2; clear hr2
      have HB2 := Lib.hid hb2; clear hb2
      go_wp2_with fail
      go_loopw [9] (fun kv wr => ∃ k : Nat, k ≤ a.length ∧ kv = .int .i64 k ∧ RowB wr g (T.take k ++ List.replicate (a.length - k) 0) ∧ Below g w wr) (fun kv _ => a.length - (intOf kv).toNat)
      case atStart => exact ⟨0, Nat.zero_le _, rfl, HR2.out, by rw [HG.out]; exact HB2.out⟩
      case round =>
        obtain ⟨k, hk, rfl, hr, hb⟩ := hrel
        by_cases hlt : k < a.length
        · obtain ⟨b1, o1, rfl, hca⟩ := HA.out k (by omega)
          obtain ⟨b2, o2, rfl, hcb⟩ := HB.out k (by omega)
          obtain ⟨b3, o3, rfl, hcc⟩ := HC.out k (by omega)
          have hTl := HTL.out
          have hfl : k < T.length := by omega
          have hcl : k < (T.take k ++ List.replicate (a.length - k) (0 : UInt8)).length := by simp; omega
          have hc0 := hr.cell k hcl
          generalize (T.take k ++ List.replicate (a.length - k) (0 : UInt8))[k].toNat = u0 at hc0
          have hf0 := hr.frozen k
          have hset := hr.set k T[k]
          rw [show a.length - k = (a.length - (k + 1)) + 1 by omega, fill_set _ _ _ hfl] at hset
          have hx := HTX.out k hfl (by omega) (by omega) (by omega)
          rw [← hx] at hset
          have hbs := hb.setCell (p := ⟨g, k, none⟩) (Nat.le_refl _) (.int .u8 ((a[k] ^^^ b[k] ^^^ c[k]).toNat : Int))
          have hx1 : bits .xor .u8 (a[k].toNat : Int) (b[k].toNat : Int) = ((a[k] ^^^ b[k]).toNat : Int) := by rw [toNat_xor]; exact xor8 (byte_lt _) (byte_lt _)
          have hx2 : bits .xor .u8 ((a[k] ^^^ b[k]).toNat : Int) (c[k].toNat : Int) = ((a[k] ^^^ b[k] ^^^ c[k]).toNat : Int) := (xor8 (byte_lt (a[k] ^^^ b[k])) (byte_lt c[k])).trans (by rw [toNat_xor (a[k] ^^^ b[k])])
          rw [← hx2, ← hx1] at hset hbs
          have HS := Lib.hid hset
          have HBS := Lib.hid hbs
          have HHB := Lib.hid (show Below w.heap.size w wr.drew by rw [← HG.out]; exact hb.drew)
          have HCA := Lib.hid hca
          have HCB := Lib.hid hcb
          have HCC := Lib.hid hcc
          clear hr hb hset hbs hcl hx hx1 hx2 hca hcb hcc
          have hk1 : (k : Int) < (a.length : Int) := by omega
          have hk2 : (k : Int) < (b.length : Int) := by omega
          have hk3 : (k : Int) < (c.length : Int) := by omega
          have hk0 : (0 : Int) ≤ (k : Int) := by omega
          go_wp2_with fail
          refine wp_region_plan (S := fun W => Below w.heap.size w W) [(true, 0), (true, 1), (true, 2), (true, 3), (true, 4), (true, 5), (true, 6), (true, 7), (true, 8), (true, 9), (true, 10), (true, 11), (true, 12), (true, 13), (true, 14), (true, 15), (true, 16), (false, 17)] (by kernel_rfl) (by kernel_rfl) (fun _ _ d _ _ h => by cases d <;> exact h) HHB.out ?_
          repeat (refine Plan.take (v := ?_) rfl rfl ?_ ?_; rotate_left; (focus (intro W hW; have k1 := HCA.out W hW; have k2 := HCB.out W hW; have k3 := HCC.out W hW; go_simp; (try with_reducible rfl); done)); (try simp only [Act.put, List.setIfInBounds_toArray, List.set_cons_zero, List.set_cons_succ]))
          refine Plan.step rfl rfl (fun Kk hK => ?_)
          go_simp
          refine hK.out _ _ ?_ ?_
          · exact HHB.out.setCell (p := ⟨g, k, none⟩) (by rw [← HG.out]; exact Nat.le_refl _) _
          clear hK Kk
          (try simp only [Act.put, List.setIfInBounds_toArray, List.set_cons_zero, List.set_cons_succ])
          simp only [Plan]
          go_wp2_with fail
          go_roundw
          case rel => exact ⟨k + 1, by omega, by go_num, HS.out, HBS.out.drew⟩
          case measure => simp [intOf]; omega
        · obtain rfl : k = a.length := by omega
          rw [Nat.sub_self, List.replicate_zero, List.append_nil, List.take_of_length_le (by rw [HTL.out]; exact Nat.le_refl _)] at hr
          have hrd : RdB wr wr.heap.size (.slice (some ⟨g, 0, none⟩) a.length a.length) T := by
            have := hr.whole
            rwa [HTL.out] at this
          have hbw : Below w.heap.size w wr := by rw [← HG.out]; exact hb
          have HRD := Lib.hid hrd
          have HBW := Lib.hid hbw
          clear hr hb hrd hbw
          have hn1 : (a.length : Int) ≤ (c1 : Int) := by omega
          have hn2 : (a.length : Int) ≤ (c2 : Int) := by omega
          have hn3 : (a.length : Int) ≤ (c3 : Int) := by omega
          have hn0 : (0 : Int) ≤ (a.length : Int) := by omega
          go_wp2_with fail
          refine wp_region_planB [(false, 0), (true, 1), (true, 2), (true, 4), (true, 5), (true, 6), (true, 8), (true, 9), (true, 10), (true, 13), (true, 14), (true, 15), (false, 3), (false, 7), (false, 11), (true, 12), (false, 16), (true, 17), (true, 18), (true, 19), (true, 20)] (by kernel_rfl) (by kernel_rfl) (fun _ _ d _ _ h => by cases d <;> exact h) ?_
          refine PlanB.step rfl rfl (fun Kk hK => ?_)
          go_simp
          go_at_call 8
          refine (awake_any _).mono ?_
          rintro e w4 ⟨rfl, hb4⟩
          refine hK.out _ _ hb4 ?_
          clear hK Kk
          have HB4 := Lib.hid (show Below w.heap.size w w4 from HBW.out.trans ((((Below.refl _ wr).drew).trans hb4).mono HBW.out.size))
          have hrd4 : RdB w4 w4.heap.size (.slice (some ⟨g, 0, none⟩) a.length a.length) T := HRD.out.next (((Below.refl _ wr).drew).trans hb4)
          have hst := sum_any T _ w4 _ hrd4 (by rw [HTL.out]; omega)
          rw [HTH.out] at hst
          have HST := Lib.hid hst
          clear hb4 HBW HRD hrd4 hst
          (try simp only [Act.put, List.setIfInBounds_toArray, List.set_cons_zero, List.set_cons_succ])
          repeat (refine PlanB.take (v := ?_) rfl rfl ?_ ?_; rotate_left; (focus (intro W hW; go_simp; (try with_reducible rfl); done)); (try simp only [Act.put, List.setIfInBounds_toArray, List.set_cons_zero, List.set_cons_succ]))
          refine PlanB.step rfl rfl (fun Kk hK => ?_)
          go_simp
          go_at_call 9
          refine HST.out.mono ?_
          rintro e w5 ⟨rfl, rfl⟩
          refine hK.out _ _ (Below.refl _ _) ?_
          clear hK Kk HST
          (try simp only [Act.put, List.setIfInBounds_toArray, List.set_cons_zero, List.set_cons_succ])
          refine PlanB.step rfl rfl (fun Kk hK => ?_)
          go_simp
          go_at_call 9
          refine (HSA.out _ HB4.out).mono ?_
          rintro e w6 ⟨rfl, rfl⟩
          refine hK.out _ _ (Below.refl _ _) ?_
          clear hK Kk HSA
          (try simp only [Act.put, List.setIfInBounds_toArray, List.set_cons_zero, List.set_cons_succ])
          refine PlanB.step rfl rfl (fun Kk hK => ?_)
          go_simp
          go_at_call 9
          refine (HSB.out _ HB4.out).mono ?_
          rintro e w7 ⟨rfl, rfl⟩
          refine hK.out _ _ (Below.refl _ _) ?_
          clear hK Kk HSB
          (try simp only [Act.put, List.setIfInBounds_toArray, List.set_cons_zero, List.set_cons_succ])
          have hxy := HXY.out
          repeat (refine PlanB.take (v := ?_) rfl rfl ?_ ?_; rotate_left; (focus (intro W hW; go_simp; (try with_reducible rfl); done)); (try simp only [Act.put, List.setIfInBounds_toArray, List.set_cons_zero, List.set_cons_succ]))
          refine PlanB.step rfl rfl (fun Kk hK => ?_)
          go_simp
          go_at_call 9
          refine (HSC.out _ HB4.out).mono ?_
          rintro e w8 ⟨rfl, rfl⟩
          refine hK.out _ _ (Below.refl _ _) ?_
          clear hK Kk HSC
          (try simp only [Act.put, List.setIfInBounds_toArray, List.set_cons_zero, List.set_cons_succ])
          have hxyz := HXYZ.out
          repeat (refine PlanB.take (v := ?_) rfl rfl ?_ ?_; rotate_left; (focus (intro W hW; go_simp; (try with_reducible rfl); done)); (try simp only [Act.put, List.setIfInBounds_toArray, List.set_cons_zero, List.set_cons_succ]))
          simp only [PlanB]
          go_wp2_with fail
          go_ret
          exact ⟨rfl, HB4.out⟩
end Go.Proofs.Yticlhiboheehdaa
