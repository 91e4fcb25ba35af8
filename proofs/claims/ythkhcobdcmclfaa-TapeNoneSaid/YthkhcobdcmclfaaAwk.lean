/- The simplest facts, which each statement asks first; and what no tape answers. -/
import Derived.Test.YthkhcobdcmclfaaPC
namespace Go.Proofs.Ythkhcobdcmclfaa
open Go.RowKit

/-- new bytes read alike whatever the tape moves -/
theorem lit_rd {w w' : World} {p : Nat} {ov : Option Nat} (l : List UInt8) (fr : Nat × Nat) (hp : p < w.heap.size) (hov : ∀ g, ov = some g → g < w.heap.size) (hm : Mv (TapeD p ov) (w.alloc (.cells (cellsB l).toArray 5 fr)) w') :
    RdB w' w'.heap.size (.slice (some ⟨w.heap.size, 0, none⟩) l.length l.length) l := by
  have h0 := RdB.lit w l fr
  have hsz : (w.alloc (.cells (cellsB l).toArray 5 fr)).heap.size = w.heap.size + 1 := by simp
  obtain ⟨A, c, hv, hc, hi⟩ := h0
  injection hv with e1 e2 e3
  subst e1
  refine ⟨_, _, rfl, Nat.le_refl _, fun i hs => ⟨w.heap.size, 0, rfl, by have := hm.size; omega, fun j u hu => ?_⟩⟩
  obtain ⟨b, o, hA, hB, h1⟩ := hi i hs
  injection hA with hA
  injection hA with e4 e5 _
  subst e4 e5
  rw [World.cell?_of_block (w := w.alloc (.cells (cellsB l).toArray 5 fr)) (hm.block _ (by show w.heap.size < _; omega) ?_)]
  · exact h1 j u hu
  · rintro (h | h)
    · simp only at h; omega
    · have := hov _ h.symm; simp only at this; omega

set_option maxHeartbeats 4000000 in
set_option maxRecDepth 100000 in
theorem awake_any (w : World) : Calls Try.prog 8 #[] w fun e w' => e = .returned (.bool true) ∧ Below w.heap.size w w' := by
  have kc := fun (w : World) (C : Array Value) (n c : Nat) => Lib.run_convert_bytes_const (P := Try.prog) w 31 5 C n c Try.underlying31 Try.underlying5
  have HN := Lib.hid (new_any 10 (by decide) (by decide) w)
  go_enter Try.func8, Try.ntmps8
  go_wp2_with fail
  refine HN.out.mono ?_
  rintro e w1 ⟨p, rfl, ht, hb⟩
  have H1 := Lib.hid ht; clear ht
  have HB := Lib.hid hb; clear hb HN
  have HA := Lib.hid (add_any w.heap.size p none _ (.slice (some ⟨w1.heap.size, 0, none⟩) 2 2) [97, 98] (w1.alloc (.cells #[.int .u8 97, .int .u8 98] 5 (2, 3))) (H1.out.mv ((Mv.refl (fun _ => False) w1).alloc _) (fun h => h) (fun _ h => by cases h)) (fun w' hm => lit_rd [97, 98] (2, 3) H1.out.low.2.1 (fun g hg => by cases hg) hm) (by decide))
  have ea : Tp.add ⟨[], [], 10, -1, false⟩ [97, 98] = (0, ⟨[], [97, 98], 10, -1, false⟩) := by rfl
  rw [ea] at HA
  clear ea
  have hb1 : Below w.heap.size w (w1.alloc (.cells #[.int .u8 97, .int .u8 98] 5 (2, 3))) := HB.out.alloc HB.out.size _
  have HB1 := Lib.hid hb1; clear hb1
  have ht1 := H1.out.mv ((Mv.refl (fun _ => False) w1).alloc (.cells #[.int .u8 97, .int .u8 98] 5 (2, 3))) (fun h => h) (fun _ h => by cases h)
  have HT1 := Lib.hid ht1; clear ht1
  go_wp2_with fail
  refine HA.out.mono ?_
  rintro e w2 ⟨rfl, ov, hw2⟩
  have HT2 := Lib.hid hw2.now
  have HB2 := Lib.hid (HB1.out.trans (hw2.below HT1.out))
  clear hw2 HA
  have hby := bytes_any w.heap.size p ov ⟨[], [97, 98], 10, -1, false⟩ w2 HT2.out
  rw [if_neg (by simp), if_neg (by simp)] at hby
  simp only [List.nil_append, List.length_cons, List.length_nil, Nat.zero_add] at hby
  have HBY := Lib.hid hby; clear hby
  go_wp2_with fail
  refine HBY.out.mono ?_
  rintro e w3 ⟨A, c, rfl, ho, hb3⟩
  have hcv := run_convB ho.rdB
  try simp only [List.length_cons, List.length_nil, Nat.zero_add] at hcv
  have HT3 := Lib.hid (HT2.out.mv (Mv.of_new hb3 (fun _ => False)) (fun h => h) (fun _ _ h => h))
  have HB3 := Lib.hid (HB2.out.trans (hb3.mono HB2.out.size))
  clear ho hb3 HBY
  have e1 : (strB [97, 98]).toList = [97, 98] := by rw [Lib.toList_data]; rfl
  have HLO := Lib.hid (loose_any w.heap.size p ov ⟨[], [97, 98], 10, -1, false⟩ w3 HT3.out)
  go_wp2_with fail
  refine HLO.out.mono ?_
  rintro e w4 ⟨rfl, hb4⟩
  have HT4 := Lib.hid (HT3.out.mv (Mv.of_new hb4 (fun _ => False)) (fun h => h) (fun _ _ h => h))
  have HB4 := Lib.hid (HB3.out.trans (hb4.mono HB3.out.size))
  clear hb4 HLO hcv
  have hsy := sync_any w.heap.size p ov ⟨[], [97, 98], 10, -1, false⟩ w4 HT4.out
  have ea : Tp.sync ⟨[], [97, 98], 10, -1, false⟩ = (0, ⟨[97, 98], [], 10, -1, false⟩) := by rfl
  rw [ea] at hsy
  have HSY := Lib.hid hsy; clear hsy ea
  go_wp2_with fail
  refine HSY.out.mono ?_
  rintro e w5 ⟨rfl, hw5⟩
  have HT5 := Lib.hid hw5.now
  have HB5 := Lib.hid (HB4.out.trans (hw5.below HT4.out))
  clear hw5 HSY
  have HLO := Lib.hid (loose_any w.heap.size p ov ⟨[97, 98], [], 10, -1, false⟩ w5 HT5.out)
  go_wp2_with fail
  refine HLO.out.mono ?_
  rintro e w6 ⟨rfl, hb6⟩
  have HB6 := Lib.hid (HB5.out.trans (hb6.mono HB5.out.size))
  clear hb6 HLO
  go_wp2_with fail
  go_ret
  exact ⟨rfl, HB6.out⟩

set_option maxHeartbeats 1000000 in
set_option maxRecDepth 100000 in
theorem none_Bytes (w : World) : Calls Try.prog 18 #[.pointer none] w fun e w' => e = .returned (.tuple #[.slice none 0 0, .int .i64 1]) ∧ w' = w := by
  go_enter Try.func18, Try.ntmps18
  go_wp2_with fail
  go_ret2
  exact ⟨rfl, rfl⟩

set_option maxHeartbeats 1000000 in
set_option maxRecDepth 100000 in
theorem none_Add (v : Value) (w : World) : Calls Try.prog 9 #[.pointer none, v] w fun e w' => e = .returned (.int .i64 1) ∧ w' = w := by
  go_enter Try.func9, Try.ntmps9
  go_wp2_with fail
  go_ret
  exact ⟨rfl, rfl⟩

set_option maxHeartbeats 1000000 in
set_option maxRecDepth 100000 in
theorem none_Sync (w : World) : Calls Try.prog 11 #[.pointer none] w fun e w' => e = .returned (.int .i64 1) ∧ w' = w := by
  go_enter Try.func11, Try.ntmps11
  go_wp2_with fail
  go_ret
  exact ⟨rfl, rfl⟩

set_option maxHeartbeats 1000000 in
set_option maxRecDepth 100000 in
theorem none_Replace (v : Value) (w : World) : Calls Try.prog 13 #[.pointer none, v] w fun e w' => e = .returned (.int .i64 1) ∧ w' = w := by
  go_enter Try.func13, Try.ntmps13
  go_wp2_with fail
  go_ret
  exact ⟨rfl, rfl⟩

set_option maxHeartbeats 1000000 in
set_option maxRecDepth 100000 in
theorem none_Loose (w : World) : Calls Try.prog 19 #[.pointer none] w fun e w' => e = .returned (.int .i64 0) ∧ w' = w := by
  go_enter Try.func19, Try.ntmps19
  go_wp2_with fail
  go_ret
  exact ⟨rfl, rfl⟩

set_option maxHeartbeats 1000000 in
set_option maxRecDepth 100000 in
theorem none_Fail (n : Int) (w : World) : Calls Try.prog 15 #[.pointer none, .int .i64 n] w fun e w' => e = .returned (.tuple #[]) ∧ w' = w := by
  go_enter Try.func15, Try.ntmps15
  go_wp2_with fail
  (first | go_end0 | ((try simp only [Exit.inBlock, Exit.then]); refine bodyPost_ret (results_none rfl _ _ _) rfl ?_))
  exact ⟨rfl, rfl⟩

set_option maxHeartbeats 1000000 in
set_option maxRecDepth 100000 in
theorem none_Crash (n x : Int) (w : World) : Calls Try.prog 16 #[.pointer none, .int .i64 n, .int .u8 x] w fun e w' => e = .returned (.tuple #[]) ∧ w' = w := by
  go_enter Try.func16, Try.ntmps16
  go_wp2_with fail
  (first | go_end0 | ((try simp only [Exit.inBlock, Exit.then]); refine bodyPost_ret (results_none rfl _ _ _) rfl ?_))
  exact ⟨rfl, rfl⟩
end Go.Proofs.Ythkhcobdcmclfaa
