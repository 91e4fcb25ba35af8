/- The simplest facts, which each statement of the book layer asks first. -/
import Derived.Test.YtaenlkopjmgniaaBook
import Derived.Test.YtaenlkopjmgniaaStep
namespace Go.Proofs.Ytaenlkopjmgniaa
open Go.RowKit

def awkL : List (List UInt8) := [[97, 98], []]
theorem awk_fits : fits awkL := by
  intro r hr
  simp only [awkL, List.mem_cons, List.not_mem_nil, or_false] at hr
  rcases hr with rfl | rfl <;> simp [fitR]
theorem awk_lay : (lay awkL).length ≤ 40 := by
  have h1 := enc_len9 (n := ([97, 98] : List UInt8).length + 4) (by decide)
  have h2 := enc_len9 (n := ([] : List UInt8).length + 4) (by decide)
  rw [awkL, lay_cons, lay_cons, lay_nil, List.length_append, List.length_append, recB_len, recB_len]
  have h3 : ([97, 98] : List UInt8).length = 2 := rfl
  have h4 : ([] : List UInt8).length = 0 := rfl
  omega
def awkB : Bks := ⟨[], false, ⟨[], [], 1000, -1, false⟩⟩
theorem awk_open : (Bks.opens ⟨[], [], 1000, -1, false⟩) = (0, awkB) := by
  have hr : readAns (Bks.all ⟨[], [], 1000, -1, false⟩) = ([], 0) := rfl
  unfold Bks.opens
  rw [hr]
  simp only
  rw [if_neg (by decide), if_neg (by simp [Bks.all])]
  rfl
theorem awk_add : awkB.add awkL = (0, ⟨awkL, false, ⟨lay awkL, [], 1000, -1, false⟩⟩) := by
  have hl := awk_lay
  have h1 : (⟨[], [], 1000, -1, false⟩ : Tp).add (lay awkL) = (0, ⟨[], lay awkL, 1000, -1, false⟩) := by
    have := Tp.add_live (t := ⟨[], [], 1000, -1, false⟩) rfl (by show (-1 : Int) < 0; omega) (lay awkL) (by show (((0 : Nat) + 0 + (lay awkL).length : Nat) : Int) ≤ 1000; omega)
    simpa using this
  have h2 : (⟨[], lay awkL, 1000, -1, false⟩ : Tp).sync = (0, ⟨lay awkL, [], 1000, -1, false⟩) := by
    have := Tp.sync_live (t := ⟨[], lay awkL, 1000, -1, false⟩) rfl (by show (-1 : Int) < 0; omega) (by show (0 : Int) ≤ 1000; omega)
    simpa using this
  unfold Bks.add
  rw [show awkB.t = ⟨[], [], 1000, -1, false⟩ from rfl, h1]
  simp only [h2]
  rw [if_neg (by decide), if_neg (by have := awk_fits; simpa using this), if_neg (by decide), if_neg (by decide)]
  rfl

set_option maxHeartbeats 4000000 in
set_option maxRecDepth 100000 in
theorem awake_any (w : World) : Calls Try.prog 8 #[] w fun e w' => e = .returned (.bool true) ∧ Below w.heap.size w w' := by
  have kc := fun (w : World) (C : Array Value) (n c : Nat) => Lib.run_convert_bytes_const (P := Try.prog) w 36 5 C n c Try.underlying36 Try.underlying5
  have KC := Lib.hid kc; clear kc
  have HN := Lib.hid (new_any 1000 (by decide) (by decide) w)
  go_enter Try.func8, Try.ntmps8
  go_wp2_with fail
  refine HN.out.mono ?_
  rintro e w1 ⟨p, rfl, ht, hb⟩
  have hop := bopen_any w.heap.size p none _ w1 ht (by rw [awk_open])
  rw [awk_open] at hop
  have HO := Lib.hid hop
  have H1 := Lib.hid ht
  have HB := Lib.hid hb
  clear hop ht hb HN
  go_wp2_with fail
  refine HO.out.mono ?_
  rintro e w2 ⟨q, G, rfl, hbk, -, hm⟩
  have hb2 : Below w.heap.size w w2 := HB.out.trans (hm.below H1.out.low.2.2 (by rintro i (rfl | h); exact H1.out.low.1; cases h))
  have hbs := hbk.low.1
  obtain ⟨w3, hw3⟩ : ∃ w3, w3 = w2.alloc (.cells #[.int .u8 97, .int .u8 98] 5 (2, 3)) := ⟨_, rfl⟩
  obtain ⟨w4, hw4⟩ : ∃ w4, w4 = w3.alloc (.cells #[.slice (some ⟨w2.heap.size, 0, none⟩) 2 2, .slice none 0 0] 36) := ⟨_, rfl⟩
  have hz3 : w3.heap.size = w2.heap.size + 1 := by rw [hw3]; simp
  have hz4 : w4.heap.size = w2.heap.size + 2 := by rw [hw4]; simp [hz3]
  have hm4 : Mv (fun _ => False) w2 w4 := by rw [hw4, hw3]; exact ((Mv.refl _ w2).alloc _).alloc _
  have hlit : RdB w3 (w2.heap.size + 1) (.slice (some ⟨w2.heap.size, 0, none⟩) 2 2) [97, 98] := by rw [hw3]; exact RdB.lit w2 [97, 98] (2, 3)
  have hlit4 : RdB w4 (w2.heap.size + 1) (.slice (some ⟨w2.heap.size, 0, none⟩) 2 2) [97, 98] := by rw [hw4]; exact hlit.below ((Below.refl _ w3).alloc (Nat.le_refl _) _) (by omega)
  have hGlow := hbk.low.2
  have hrows : RdRs w4 w4.heap.size G (.slice (some ⟨w3.heap.size, 0, none⟩) 2 2) [⟨some ⟨w2.heap.size, 0, none⟩, 2, [97, 98]⟩, ⟨none, 0, []⟩] := by
    have hW : Whole w4 w3.heap.size 36 [.slice (some ⟨w2.heap.size, 0, none⟩) 2 2, .slice none 0 0] := by rw [hw4]; exact Whole.fresh w3 _ [_, _]
    refine ⟨⟨_, 2, rfl, Nat.le_refl _, fun i hi => ⟨w3.heap.size, 0, rfl, by omega, fun hg => by have := (hGlow _ hg).2; omega, ?_⟩⟩, ?_⟩
    · match i, hi with
      | 0, _ => exact hW.cell 0 _ rfl
      | 1, _ => exact hW.cell 1 _ rfl
    · intro r hr
      simp only [List.mem_cons, List.not_mem_nil, or_false] at hr
      rcases hr with rfl | rfl
      · obtain ⟨A, c, e, hc, hi⟩ := hlit4.at
        injection e with e1 e2 e3
        subst e1 e3
        refine ⟨_, _, rfl, hc, fun i hs => ?_⟩
        obtain ⟨b, o, hA, hb, h1⟩ := hi i hs
        injection hA with hA
        injection hA with e4 e5 _
        subst e4 e5
        exact ⟨_, _, rfl, by omega, fun hg => by have := (hGlow _ hg).2; omega, h1⟩
      · exact ⟨none, 0, rfl, Nat.le_refl _, fun i hi => by simp at hi⟩
  have hbk4 := hbk.mv hm4 (fun _ _ h => h)
  have hadd := badd_any w.heap.size q p G awkB _ _ w4 hbk4 hrows (by simp) (by simp) (by simp [awkB])
  rw [show texts [⟨some ⟨w2.heap.size, 0, none⟩, 2, [97, 98]⟩, ⟨none, 0, []⟩] = awkL from rfl, awk_add] at hadd
  have HADD := Lib.hid hadd
  have hb4 : Below w.heap.size w w4 := hb2.trans ((hm4.below (B := w.heap.size) hbs (fun _ h => h.elim)))
  have HB4 := Lib.hid hb4
  have HBK4 := Lib.hid hbk4
  have HW3 := Lib.hid hw3
  have HW4 := Lib.hid hw4
  clear hbk hm hb2 hlit hlit4 hrows hbk4 hadd hb4 hm4 hGlow hz3 hz4 hw3 hw4 HO H1 HB
  have kc := KC.out
  go_wp2_with fail
  rw [← HW3.out]
  (try rw [show w2.heap.size + 1 = w3.heap.size by rw [HW3.out]; simp])
  rw [← HW4.out]
  refine HADD.out.mono ?_
  rintro e w5 ⟨rfl, G', hbk5, hG5, hm5⟩
  have HBK5 := Lib.hid hbk5
  have HB5 := Lib.hid (HB4.out.trans (hm5.below HBK4.out.low.1 (fun i hi => (HBK4.out.low.2 i hi).1)))
  have HR := Lib.hid (brec_any w.heap.size q p G' _ w5 hbk5 (by simp [awkL]))
  clear hbk5 hG5 hm5 kc HADD
  go_wp2_with fail
  refine HR.out.mono ?_
  rintro e w6 ⟨A6, c6, rows6, rfl, _, ht6, hb6⟩
  have hl6 : rows6.length = 2 := by have := congrArg List.length ht6; simpa [texts, awkL] using this
  have hl7 : (rows6.length : Int) = 2 := by omega
  have HBK6 := Lib.hid (HBK5.out.mv (Mv.of_new hb6 (fun _ => False)) (fun _ _ h => h))
  have HB6 := Lib.hid (HB5.out.trans (hb6.mono HBK5.out.low.1))
  have HR2 := Lib.hid (brec_any w.heap.size q p G' _ w6 HBK6.out (by simp [awkL]))
  clear hb6 HR ht6 hl6
  go_wp2_with fail
  refine HR2.out.mono ?_
  rintro e w7 ⟨A7, c7, rows7, rfl, hr7, ht7, hb7⟩
  have HB7 := Lib.hid (HB6.out.trans (hb7.mono HBK6.out.low.1))
  obtain ⟨r0, r1, hrr⟩ : ∃ r0 r1, rows7 = [r0, r1] := by
    have : rows7.length = 2 := by have := congrArg List.length ht7; simpa [texts, awkL] using this
    match rows7, this with
    | [r0, r1], _ => exact ⟨r0, r1, rfl⟩
  subst hrr
  have ht0 : r0.l = [97, 98] := by
    simp only [texts, List.map_cons, List.map_nil, awkL, List.cons.injEq] at ht7
    exact ht7.1
  obtain ⟨⟨A8, c8, e8, _, hcell⟩, hrow⟩ := hr7
  injection e8 with e1 e2 e3
  subst e1 e3
  obtain ⟨b8, o8, rfl, _, _, k8⟩ := hcell 0 (by simp)
  have hcv := run_convB (hrow r0 (by simp)).rdB
  obtain ⟨ra, rc, rl⟩ := r0
  simp only at ht0
  subst ht0
  simp only [Row.v, List.getElem_cons_zero, Nat.add_zero] at k8 hcv
  rw [show ([97, 98] : List UInt8).length = 2 from rfl] at hcv k8
  have e1 : (strB [97, 98]).toList = [97, 98] := by rw [Lib.toList_data]; rfl
  clear hcell hrow ht7 hb7 HR2
  go_wp2_with fail
  go_ret
  exact ⟨rfl, HB7.out⟩
end Go.Proofs.Ytaenlkopjmgniaa
