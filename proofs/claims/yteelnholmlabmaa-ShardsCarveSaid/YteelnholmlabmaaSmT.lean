/- A transaction held against itself. -/
import Derived.Test.YteelnholmlabmaaEqS
import Derived.Test.YteelnholmlabmaaRSame
import Derived.Test.YteelnholmlabmaaTx
namespace Go.Proofs.Yteelnholmlabmaa
open Go.RowKit
attribute [local go_sem] less_eq same_eq le_eq ge_eq gt_eq

set_option maxHeartbeats 4000000 in
set_option maxRecDepth 100000 in
theorem sameT_eq (t : Txn) (h1 : t.reads.length < 4611686018427387904) (h3 : t.chgs.length < 4611686018427387904) (v1 v2 u1 u2 : Value) (w : World) (hv1 : RdP w w.heap.size v1 t.reads) (hv2 : RdC w w.heap.size v2 t.chgs) (hu1 : RdP w w.heap.size u1 t.reads) (hu2 : RdC w w.heap.size u2 t.chgs) :
    Calls Try.prog 21 #[tval t v1 v2, tval t u1 u2] w fun e w' => e = .returned (.bool true) ∧ Below w.heap.size w w' := by
  obtain ⟨read, reads, chgs⟩ := t
  unfold tval
  simp only at h1 h3 hv1 hv2 hu1 hu2 ⊢
  obtain ⟨A1, c1, rfl, _, hi1⟩ := hv1.at
  obtain ⟨A2, c2, rfl, _, _⟩ := hv2.at
  obtain ⟨A3, c3, rfl, _, hi3⟩ := hu1.at
  obtain ⟨A4, c4, rfl, _, _⟩ := hu2.at
  obtain ⟨w1, hw1⟩ : ∃ w1, w1 = (w.alloc (.cells #[.int .i64 read, .slice A1 reads.length c1, .slice A2 chgs.length c2] 45)).alloc (.cells #[.int .i64 read, .slice A3 reads.length c3, .slice A4 chgs.length c4] 45) := ⟨_, rfl⟩
  have hb1 : Below w.heap.size w w1 := by rw [hw1]; exact ((Below.refl _ _).alloc (Nat.le_refl _) _).alloc (by simp) _
  have hV1 : Whole w1 w.heap.size 45 [.int .i64 read, .slice A1 reads.length c1, .slice A2 chgs.length c2] := by rw [hw1]; exact (Whole.fresh _ _ _).alloc _
  have hV2 : Whole w1 (w.heap.size + 1) 45 [.int .i64 read, .slice A3 reads.length c3, .slice A4 chgs.length c4] := by
    have h := Whole.fresh (w.alloc (.cells #[.int .i64 read, .slice A1 reads.length c1, .slice A2 chgs.length c2] 45)) 45 [.int .i64 read, .slice A3 reads.length c3, .slice A4 chgs.length c4]
    rw [World.size_alloc] at h
    rw [hw1]; exact h
  have hsz : w1.heap.size = w.heap.size + 2 := by rw [hw1]; simp
  have hs := fun W (h : Below w.heap.size w W) => chgs_any chgs chgs _ _ W (hv2.next h) (hu2.next h) h3 h3
  rw [decide_eq_true rfl] at hs
  have q1 := hV1.cell 1 _ rfl
  have r1 := hV2.cell 1 _ rfl
  have q0 := hV1.cell 0 _ rfl
  have r0 := hV2.cell 0 _ rfl
  have HS := Lib.hid hs; clear hs
  have HB1 := Lib.hid hb1; clear hb1
  have HV1 := Lib.hid hV1; clear hV1
  have HV2 := Lib.hid hV2; clear hV2
  have HW1 := Lib.hid hw1; clear hw1
  have HI1 := Lib.hid hi1; clear hi1
  have HI3 := Lib.hid hi3; clear hi3
  have HSZ := Lib.hid hsz; clear hsz
  clear hv1 hv2 hu1 hu2
  go_enter Try.func21, Try.ntmps21
  go_wp2_with fail
  (try rw [← HW1.out])
  go_loopw [5] (fun iv wr => ∃ i : Nat, i ≤ reads.length ∧ iv = .int .i64 i ∧ Below w1.heap.size w1 wr) (fun iv _ => reads.length - (intOf iv).toNat)
  case atStart => exact ⟨0, Nat.zero_le _, rfl, by first | exact Below.refl _ _ | (rw [HW1.out]; exact Below.refl _ _)⟩
  case round =>
    obtain ⟨i, hil, rfl, hbr⟩ := hrel
    have hg1 : w.heap.size < w1.heap.size := HV1.out.size
    have p1 := (HV1.out.below hbr HV1.out.size).cell 1 _ rfl
    have s1 := (HV2.out.below hbr HV2.out.size).cell 1 _ rfl
    have p2 := (HV1.out.below hbr HV1.out.size).cell 2 _ rfl
    have s2 := (HV2.out.below hbr HV2.out.size).cell 2 _ rfl
    have hbw : Below w.heap.size w wr := HB1.out.trans (hbr.mono (by omega))
    have HBR := Lib.hid hbr
    have HBW := Lib.hid hbw
    clear q1 r1 q0 r0
    by_cases hlt : i < reads.length
    · obtain ⟨b1, o1, rfl, hbB1, x0, x1⟩ := HI1.out i hlt
      obtain ⟨b3, o3, rfl, hbB3, y0, y1⟩ := HI3.out i hlt
      generalize reads[i] = z at x0 x1 y0 y1
      obtain ⟨sx, sy⟩ := z
      simp only at x0 x1 y0 y1
      rw [← hbw.cell (p := ⟨b1, _, none⟩) hbB1] at x0 x1
      rw [← hbw.cell (p := ⟨b3, _, none⟩) hbB3] at y0 y1
      have hz : w1.heap.size ≤ wr.heap.size := hbr.size
      have hz2 := HSZ.out
      have HK0 := Lib.hid (fun W (hW : Below wr.heap.size wr W) => (hW.cell (p := ⟨b1, o1 + i * 2, none⟩) (by show b1 < _; omega)).trans x0)
      have HK1 := Lib.hid (fun W (hW : Below wr.heap.size wr W) => (hW.cell (p := ⟨b1, o1 + i * 2 + 1, none⟩) (by show b1 < _; omega)).trans x1)
      have HK2 := Lib.hid (fun W (hW : Below wr.heap.size wr W) => (hW.cell (p := ⟨b3, o3 + i * 2, none⟩) (by show b3 < _; omega)).trans y0)
      have HK3 := Lib.hid (fun W (hW : Below wr.heap.size wr W) => (hW.cell (p := ⟨b3, o3 + i * 2 + 1, none⟩) (by show b3 < _; omega)).trans y1)
      have HK4 := Lib.hid (fun W (hW : Below wr.heap.size wr W) => (hW.cell (p := ⟨w.heap.size, 1, none⟩) (by show w.heap.size < _; omega)).trans p1)
      have HK5 := Lib.hid (fun W (hW : Below wr.heap.size wr W) => (hW.cell (p := ⟨w.heap.size + 1, 1, none⟩) (by show w.heap.size + 1 < _; omega)).trans s1)
      have HN := Lib.hid (show ∀ W : World, (binOp .neq 31 (.agg #[.string sx, .string sy]) (.agg #[.string sx, .string sy])).run Try.prog W = .ok (.bool false) W from fun W => by rw [neq_span]; simp)
      have hi1 : (i : Int) < (reads.length : Int) := by omega
      have hi0 : (0 : Int) ≤ (i : Int) := by omega
      clear x0 x1 y0 y1 p2 s2 hbw hbr hz hz2 hg1
      go_wp2_with fail
      clear p1 s1
      refine wp_region_planT (fun W => Below wr.heap.size wr W) (.take 0 (.take 1 (.take 2 (.take 3 (.take 4 (.take 5 (.take 6 (.take 7 (.take 8 (.take 9 (.take 10 .done))))))))))) (by kernel_rfl) (by kernel_rfl) (fun _ _ d _ _ h => by cases d <;> exact h) ((Below.refl _ _).drew) ?_
      repeat (refine PlanT.takeI (v := ?_) rfl rfl ?_ ?_; rotate_left; (focus (intro W hW; have k0 := HK0.out W hW; have k1 := HK1.out W hW; have k2 := HK2.out W hW; have k3 := HK3.out W hW; have k4 := HK4.out W hW; have k5 := HK5.out W hW; have kn := HN.out W; have kg := span_guard; go_simp; (try with_reducible rfl); done)); (try simp only [Act.put, List.setIfInBounds_toArray, List.set_cons_zero, List.set_cons_succ]))
      simp only [PlanT]
      go_wp2_with fail
      go_roundw
      case rel => exact ⟨i + 1, by omega, by go_num, HBR.out.drew⟩
      case measure => simp [intOf]; omega
    · have HC := Lib.hid (HS.out wr hbw)
      clear hbw hbr
      go_wp2_with fail
      refine HC.out.mono ?_
      rintro e w5 ⟨rfl, hb5⟩
      have HB5 := Lib.hid (HBW.out.trans (hb5.mono HBW.out.size)); clear hb5
      go_wp2_with fail
      go_ret
      exact ⟨rfl, HB5.out⟩
end Go.Proofs.Yteelnholmlabmaa
