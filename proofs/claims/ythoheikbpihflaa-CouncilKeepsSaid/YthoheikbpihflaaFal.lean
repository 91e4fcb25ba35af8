/- The program's ballots: getBallots. The reference of ballots: Decode. The program's ballots: Decode. The program's ballots: Promise. -/
import Derived.Test.YthoheikbpihflaaFak
import Derived.Test.YthoheikbpihflaaFah
import Derived.Test.YthoheikbpihflaaFaj
namespace Go.Proofs.Ythoheikbpihflaa
open Go.RowKit
attribute [local go_sem] less_eq same_eq le_eq ge_eq gt_eq

set_option maxHeartbeats 8000000 in
set_option maxRecDepth 100000 in
theorem getBallots_any (l : List UInt8) (g : Nat) (A0 : Option Addr) (c0 : Nat) (w : World) (h0 : GbAt l g w 0 w l A0 c0) :
    Calls Try.prog 37 #[.slice A0 l.length c0, .slice (some ⟨g + 2, 0, none⟩) 2 2] w fun e w' => Mv (fun b => b = g ∨ b = g + 1) w w' ∧ g + 3 ≤ w'.heap.size ∧
      ((stg l 4 = none ∧ ∃ x : Int, x ≠ 0 ∧ e = .returned (.tuple #[.slice none 0 0, .int .i64 x])) ∨ ∃ r A c, e = .returned (.tuple #[.slice A r.length c, .int .i64 0]) ∧ GbAt l g w 4 w' r A c) := by
  have HG0 := Lib.hid h0
  clear h0
  go_enter Try.func37, Try.ntmps37
  go_wp2_with fail
  go_loopw [0, 15] (fun bv iv wr => ∃ (i : Nat) (r : List UInt8) (A : Option Addr) (c : Nat), i ≤ 2 ∧ iv = .int .i64 i ∧ bv = .slice A r.length c ∧ Hid (GbAt l g w (2 * i) wr r A c)) (fun _ iv _ => 2 - (intOf iv).toNat)
  case atStart => exact ⟨0, l, A0, c0, by omega, rfl, rfl, HG0⟩
  case round =>
    obtain ⟨i, r, A, c, hil, rfl, rfl, HI⟩ := hrel
    clear HG0
    by_cases hlt : i < 2
    · have hp := HI.out.ptr hlt
      have hI0 : (0 : Int) ≤ (i : Int) := by omega
      have hI1 : (i : Int) < 2 := by omega
      obtain ⟨t, ht⟩ : ∃ t, t = wr.heap.size := ⟨_, rfl⟩
      have HT := Lib.hid ht
      clear ht
      go_wp2_with fail
      refine wp_region_planB [(true, 0), (true, 1), (true, 2), (true, 3), (true, 4), (true, 5), (true, 8), (false, 6), (true, 7)] (by kernel_rfl) (by kernel_rfl) (fun _ _ d _ _ h => by cases d <;> exact h) ?_
      iterate 7 (refine PlanB.take (v := ?_) rfl rfl ?_ ?_; rotate_left; (focus (intro W hW; go_simp; (try with_reducible rfl); done)); (try simp only [Act.put, List.setIfInBounds_toArray, List.set_cons_zero, List.set_cons_succ]))
      refine PlanB.step rfl rfl (fun Kk hK => ?_)
      go_simp
      refine hK.out _ _ ((Below.refl _ wr.drew).alloc (Nat.le_refl _) (.cells #[.pointer (some ⟨g + i, 0, none⟩), .pointer (some ⟨g + i, 1, none⟩)] 99)) ?_
      clear hK Kk hp
      (try simp only [Act.put, List.setIfInBounds_toArray, List.set_cons_zero, List.set_cons_succ])
      refine PlanB.take (v := ?_) rfl rfl ?_ ?_; rotate_left; (focus (intro W hW; go_simp; (try with_reducible rfl); done)); (try simp only [Act.put, List.setIfInBounds_toArray, List.set_cons_zero, List.set_cons_succ])
      simp only [PlanB]
      obtain ⟨w1, hw1⟩ : ∃ w1, w1 = (wr.alloc (.cells #[.pointer (some ⟨g + i, 0, none⟩), .pointer (some ⟨g + i, 1, none⟩)] 99)).drew := ⟨_, rfl⟩
      have hI1 : GbAt l g w (2 * i + 0) w1 r A c := by rw [hw1]; exact (HI.out.more ((Below.refl _ wr).alloc (Nat.le_refl _) _)).drew
      have hT1 : Whole w1 t 99 [.pointer (some ⟨g + i, 0, none⟩), .pointer (some ⟨g + i, 1, none⟩)] := by rw [hw1, HT.out]; exact (Whole.fresh wr _ [_, _]).drew
      have hgt : g + 3 ≤ t := by rw [HT.out]; exact HI.out.sz
      rw [← hw1, ← HT.out]
      have HJ := Lib.hid hI1
      have HT1 := Lib.hid hT1
      have HGT := Lib.hid hgt
      clear hw1 hI1 hT1 hgt HI HT
      go_wp2_with fail
      go_loopw [0, 27] (fun bv jv wr => ∃ (j : Nat) (r : List UInt8) (A : Option Addr) (c : Nat), j ≤ 2 ∧ jv = .int .i64 j ∧ bv = .slice A r.length c ∧ Hid (GbAt l g w (2 * i + j) wr r A c) ∧ Hid (Whole wr t 99 [.pointer (some ⟨g + i, 0, none⟩), .pointer (some ⟨g + i, 1, none⟩)])) (fun _ jv _ => 2 - (intOf jv).toNat)
      case atStart => exact ⟨0, r, A, c, by omega, rfl, rfl, HJ, HT1⟩
      case round =>
        obtain ⟨j, r, A, c, hjl, rfl, rfl, HK, HTK⟩ := hrel
        clear HJ HT1
        by_cases hjt : j < 2
        · have hJ0 : (0 : Int) ≤ (j : Int) := by omega
          have hJ1 : (j : Int) < 2 := by omega
          have hq : wr.cell? ⟨t, j, none⟩ = some (.pointer (some ⟨g + i, j, none⟩)) := by
            match j, hjt with
            | 0, _ => exact HTK.out.cell 0 _ rfl
            | 1, _ => exact HTK.out.cell 1 _ rfl
          have hN := num_any r (.slice A r.length c) wr (HK.out.rd.mono (by have := HK.out.sz; omega)) HK.out.len
          have herr := numAns_err r
          have hus := @numAns_used r
          have hst := fun n u (hn : numAns r = (n, u, 0)) W (hW : GbAt l g w (2 * i + j) W r A c) => @GbAt.step l r g w W A c i j n u hW hlt hjt hn
          have hbd := fun h => HK.out.bad hlt hjt h
          obtain ⟨⟨n, u, e⟩, hR⟩ : ∃ R, R = numAns r := ⟨_, rfl⟩
          rw [← hR] at hN herr hus hst hbd
          unfold numVal at hN
          simp only at hN herr hus hst hbd
          have HN := Lib.hid hN
          have HST := Lib.hid hst
          clear hN hst hR
          by_cases he : e = 0
          · subst he
            obtain ⟨hu1, hu2⟩ := hus rfl
            have HST2 := Lib.hid (HST.out n u rfl)
            clear hus herr hbd HST
            obtain ⟨A2, c2, hve, hcap, hi⟩ := RdB.at HK.out.rd
            injection hve with e1 _ e3
            subst e1 e3
            obtain ⟨b, o, hA⟩ : ∃ b o, A = some ⟨b, o, none⟩ := by obtain ⟨b, o, h, _⟩ := hi 0 (by omega); exact ⟨b, o, h⟩
            subst hA
            have HDL := Lib.hid (show (r.drop u).length = r.length - u from by simp)
            have HWI := Lib.hid (fun W A' (hr : RdB W g (.slice (some ⟨b, o, none⟩) r.length c) r) (hA : 0 < r.length - u → A' = some ⟨b, o + u, none⟩) => (show RdB W g (.slice A' (r.length - u) (c - u)) (r.drop u) from by
              have h := hr.window u (r.length - u) (by omega) (c - u) (by omega) A' hA
              rwa [List.take_of_length_le (by simp)] at h))
            have hu3 : (u : Int) ≤ (r.length : Int) := by omega
            have hu4 : (0 : Int) ≤ (u : Int) := by omega
            have hcu : (u : Int) ≤ (c : Int) := by omega
            clear hi
            by_cases hcz : c = u
            · subst hcz
              go_wp2_with fail
              refine HN.out.mono ?_
              rintro x w2 ⟨rfl, hb2⟩
              have hM := HK.out.more hb2
              have hTM := HTK.out.below hb2 HTK.out.size
              obtain ⟨z, hz, hf⟩ := hM.cell hlt hjt
              have HM := Lib.hid hM
              have HTM := Lib.hid hTM
              have HZ := Lib.hid hz
              have HF := Lib.hid hf
              clear hb2 hM hTM hz hf
              go_wp2_with fail
              refine wp_region_plan (S := fun _ => True) [(true, 0), (true, 1), (true, 2), (true, 3), (true, 4), (true, 5), (false, 6), (true, 7)] (by kernel_rfl) (by kernel_rfl) (fun _ _ d _ _ h => by cases d <;> exact h) trivial ?_
              have HM := Lib.hid HM.out.drew
              have HTM := Lib.hid HTM.out.drew
              have hz := (show w2.drew.cell? ⟨g + i, j, none⟩ = _ from HZ.out)
              have hf := (show w2.drew.frozen? ⟨g + i, j, none⟩ = _ from HF.out)
              clear HZ HF
              generalize w2.drew = w3 at HM HTM hz hf ⊢
              have HZ := Lib.hid hz
              have HF := Lib.hid hf
              clear hz hf
              iterate 6 (refine Plan.take (v := ?_) rfl rfl ?_ ?_; rotate_left; (focus (intro W hW; go_simp; (try with_reducible rfl); done)); (try simp only [Act.put, List.setIfInBounds_toArray, List.set_cons_zero, List.set_cons_succ]))
              have hz := HZ.out
              have hf := HF.out
              refine Plan.step rfl rfl (fun Kk hK => ?_)
              go_simp
              refine hK.out _ _ trivial ?_
              clear hK Kk hz hf
              (try simp only [Act.put, List.setIfInBounds_toArray, List.set_cons_zero, List.set_cons_succ])
              refine Plan.take (v := ?_) rfl rfl ?_ ?_; rotate_left; (focus (intro W hW; go_simp; (try with_reducible rfl); done)); (try simp only [Act.put, List.setIfInBounds_toArray, List.set_cons_zero])
              simp only [Plan]
              have hT2 := HTM.out.away (p := ⟨g + i, j, none⟩) (by have := HGT.out; show t ≠ g + i; omega) (.int .i64 (n : Int))
              have hG2 := HST2.out _ HM.out (some ⟨b, o, none⟩) (c - c) (by rw [HDL.out]; exact (HWI.out _ (some ⟨b, o, none⟩) HM.out.rd (by first | exact fun h => absurd h (by omega) | exact fun _ => rfl)))
              generalize w3.setCell ⟨g + i, j, none⟩ (.int .i64 (n : Int)) = w4 at hT2 hG2 ⊢
              have HT2 := Lib.hid hT2
              have HG2 := Lib.hid hG2
              clear hT2 hG2
              go_wp2_with fail
              go_roundw
              case rel => exact ⟨j + 1, r.drop c, (some ⟨b, o, none⟩), (c - c), by omega, by go_num, by rw [HDL.out, show r.length - c = 0 by omega, Nat.sub_self], HG2, HT2⟩
              case measure => simp [intOf]; omega
            · have hcz2 : ¬ (c : Int) = (u : Int) := by omega
              go_wp2_with fail
              refine HN.out.mono ?_
              rintro x w2 ⟨rfl, hb2⟩
              have hM := HK.out.more hb2
              have hTM := HTK.out.below hb2 HTK.out.size
              obtain ⟨z, hz, hf⟩ := hM.cell hlt hjt
              have HM := Lib.hid hM
              have HTM := Lib.hid hTM
              have HZ := Lib.hid hz
              have HF := Lib.hid hf
              clear hb2 hM hTM hz hf
              go_wp2_with fail
              refine wp_region_plan (S := fun _ => True) [(true, 0), (true, 1), (true, 2), (true, 3), (true, 4), (true, 5), (false, 6), (true, 7)] (by kernel_rfl) (by kernel_rfl) (fun _ _ d _ _ h => by cases d <;> exact h) trivial ?_
              have HM := Lib.hid HM.out.drew
              have HTM := Lib.hid HTM.out.drew
              have hz := (show w2.drew.cell? ⟨g + i, j, none⟩ = _ from HZ.out)
              have hf := (show w2.drew.frozen? ⟨g + i, j, none⟩ = _ from HF.out)
              clear HZ HF
              generalize w2.drew = w3 at HM HTM hz hf ⊢
              have HZ := Lib.hid hz
              have HF := Lib.hid hf
              clear hz hf
              iterate 6 (refine Plan.take (v := ?_) rfl rfl ?_ ?_; rotate_left; (focus (intro W hW; go_simp; (try with_reducible rfl); done)); (try simp only [Act.put, List.setIfInBounds_toArray, List.set_cons_zero, List.set_cons_succ]))
              have hz := HZ.out
              have hf := HF.out
              refine Plan.step rfl rfl (fun Kk hK => ?_)
              go_simp
              refine hK.out _ _ trivial ?_
              clear hK Kk hz hf
              (try simp only [Act.put, List.setIfInBounds_toArray, List.set_cons_zero, List.set_cons_succ])
              refine Plan.take (v := ?_) rfl rfl ?_ ?_; rotate_left; (focus (intro W hW; go_simp; (try with_reducible rfl); done)); (try simp only [Act.put, List.setIfInBounds_toArray, List.set_cons_zero])
              simp only [Plan]
              have hT2 := HTM.out.away (p := ⟨g + i, j, none⟩) (by have := HGT.out; show t ≠ g + i; omega) (.int .i64 (n : Int))
              have hG2 := HST2.out _ HM.out (some ⟨b, o + u, none⟩) (c - u) (by rw [HDL.out]; exact (HWI.out _ (some ⟨b, o + u, none⟩) HM.out.rd (by first | exact fun h => absurd h (by omega) | exact fun _ => rfl)))
              generalize w3.setCell ⟨g + i, j, none⟩ (.int .i64 (n : Int)) = w4 at hT2 hG2 ⊢
              have HT2 := Lib.hid hT2
              have HG2 := Lib.hid hG2
              clear hT2 hG2
              go_wp2_with fail
              go_roundw
              case rel => exact ⟨j + 1, r.drop u, (some ⟨b, o + u, none⟩), (c - u), by omega, by go_num, by rw [HDL.out], HG2, HT2⟩
              case measure => simp [intOf]; omega
          · have hnone := hbd he
            have HNO := Lib.hid hnone
            clear herr hus hbd HST
            go_wp2_with fail
            refine HN.out.mono ?_
            rintro x w2 ⟨rfl, hb2⟩
            have hM := HK.out.more hb2
            have HM := Lib.hid hM
            clear hb2 hM
            go_wp2_with fail
            go_ret2
            exact ⟨HM.out.mv, HM.out.sz, .inl ⟨HNO.out, _, by omega, rfl⟩⟩
        · obtain rfl : j = 2 := by omega
          go_wp2_with fail
          go_roundw
          case rel => exact ⟨i + 1, r, A, c, by omega, by go_num, rfl, HK⟩
          case measure => simp [intOf]; omega
    · obtain rfl : i = 2 := by omega
      go_wp2_with fail
      go_ret2
      exact ⟨HI.out.mv, HI.out.sz, .inr ⟨r, A, c, rfl, HI.out⟩⟩
end Go.Proofs.Ythoheikbpihflaa
namespace Go.Proofs.Ythoheikbpihflaa
open Go.RowKit
attribute [local go_sem] less_eq same_eq le_eq ge_eq gt_eq

theorem getSta_fit (l : List UInt8) : (getSta l).1.chests.length < 4611686018427387904 := by
  unfold getSta
  split
  · have := rdList_len rdN 16 (rdN (rdN (rdN (some l)).2).2).2
    unfold rdSta; simp only; omega
  · simp [zeroS]

end Go.Proofs.Ythoheikbpihflaa
namespace Go.Proofs.Ythoheikbpihflaa
open Go.RowKit
attribute [local go_sem] less_eq same_eq le_eq ge_eq gt_eq

theorem stn_lt (l : List UInt8) (k : Nat) : 0 ≤ stn l k ∧ stn l k < 9223372036854775808 := rdN_lt _
theorem getSta_sound {r : List UInt8} (h : (getSta r).2 = 0) : soundS (getSta r).1 := by
  unfold getSta at h ⊢
  split at h
  · rename_i hs
    rw [if_pos hs]
    exact hs.2
  · exact absurd h (by decide)
theorem stc_zero (l : List UInt8) (j : Nat) : stc l 0 j = .int .i64 0 := by unfold stc; rw [if_neg (by omega)]
theorem stc_four (l : List UInt8) (j : Nat) (h : j < 4) : stc l 4 j = .int .i64 (stn l j) := by unfold stc; rw [if_pos h]
/-- what Decode answers, by what it finds -/
theorem decV_none {l : List UInt8} (h : stg l 4 = none) : decV l = (zeroV, 2) := decV_bad (by rw [rd4_stg]; exact h)
theorem decV_got {l r : List UInt8} (h : stg l 4 = some r) : ((getSta r).2 ≠ 0 ∧ decV l = (zeroV, 2)) ∨ ((getSta r).2 = 0 ∧ lessB (stn l 0, stn l 1) (stn l 2, stn l 3) = true ∧ decV l = (zeroV, 2)) ∨
    ((getSta r).2 = 0 ∧ lessB (stn l 0, stn l 1) (stn l 2, stn l 3) = false ∧ decV l = (⟨(stn l 0, stn l 1), (stn l 2, stn l 3), (getSta r).1⟩, 0)) := by
  have hd := decV_some (l := l) (r := r) (a := stn l 0) (b := stn l 1) (c := stn l 2) (d := stn l 3) (by rw [rd4_stg, h])
  rw [hd]
  by_cases h2 : (getSta r).2 = 0
  · cases hL : lessB (stn l 0, stn l 1) (stn l 2, stn l 3) with
    | true =>
      refine .inr (.inl ⟨h2, rfl, ?_⟩)
      rw [if_neg]
      rintro ⟨_, _, _, h⟩
      simp only at h
      rw [h] at hL
      cases hL
    | false =>
      refine .inr (.inr ⟨h2, rfl, ?_⟩)
      rw [if_pos ⟨h2, ⟨(stn_lt l 0).1, (stn_lt l 1).1, (stn_lt l 2).1, (stn_lt l 3).1⟩, getSta_sound h2, hL⟩]
  · exact .inl ⟨h2, by rw [if_neg fun h => h2 h.1]⟩

set_option maxHeartbeats 8000000 in
set_option maxRecDepth 100000 in
theorem vdecodeO_any (l : List UInt8) (v : Value) (w : World) (hv : RdB w w.heap.size v l) (hl : l.length < 4611686018427387904) :
    Calls Try.prog 21 #[v] w fun e w' => ∃ v', e = .returned (.tuple #[vwv (decV l).1 v', .int .i64 (decV l).2]) ∧ OwnI w' w.heap.size v' (decV l).1.took.chests ∧ Below w.heap.size w w' := by
  obtain ⟨A0, c0, rfl, -, -⟩ := hv.at
  obtain ⟨D, hD⟩ : ∃ D, D = decV l := ⟨_, rfl⟩
  have hnn := fun h => hD.trans (decV_none (l := l) h)
  have hgt := fun r h => decV_got (l := l) (r := r) h
  rw [← hD] at hgt ⊢
  have HNN := Lib.hid hnn
  have HGT := Lib.hid hgt
  clear hnn hgt hD
  have HL := Lib.hid (fun a b W => pless_any a b W)
  obtain ⟨g, hg⟩ : ∃ g, g = w.heap.size := ⟨_, rfl⟩
  obtain ⟨w1, hw1⟩ : ∃ w1, w1 = w.alloc (.cells #[.int .i64 0, .int .i64 0, .int .i64 0, .int .i64 0, .int .i64 0, .int .i64 0, .int .i64 0, .slice none 0 0] 37) := ⟨_, rfl⟩
  obtain ⟨w2, hw2⟩ : ∃ w2, w2 = w1.alloc (.cells #[.int .i64 0, .int .i64 0] 32) := ⟨_, rfl⟩
  obtain ⟨w3, hw3⟩ : ∃ w3, w3 = w2.alloc (.cells #[.int .i64 0, .int .i64 0] 32) := ⟨_, rfl⟩
  obtain ⟨w4, hw4⟩ : ∃ w4, w4 = w3.alloc (.cells #[.pointer (some ⟨g + 1, 0, none⟩), .pointer (some ⟨g + 1 + 1, 0, none⟩)] 86) := ⟨_, rfl⟩
  have hs1 : w1.heap.size = g + 1 := by rw [hw1, hg]; simp
  have hs2 : w2.heap.size = g + 1 + 1 := by rw [hw2, World.size_alloc, hs1]
  have hs3 : w3.heap.size = g + 1 + 2 := by rw [hw3, World.size_alloc, hs2]
  have hs4 : w4.heap.size = g + 1 + 3 := by rw [hw4, World.size_alloc, hs3]
  have hZ : Whole w4 g 37 [.int .i64 0, .int .i64 0, .int .i64 0, .int .i64 0, .int .i64 0, .int .i64 0, .int .i64 0, .slice none 0 0] := by
    rw [hw4, hw3, hw2, hw1, hg]; exact (((Whole.fresh w _ [.int .i64 0, .int .i64 0, .int .i64 0, .int .i64 0, .int .i64 0, .int .i64 0, .int .i64 0, .slice none 0 0]).alloc _).alloc _).alloc _
  have hb4 : Below g w w4 := by
    rw [hw4]; refine Below.alloc ?_ (by omega) _; rw [hw3]; refine Below.alloc ?_ (by omega) _; rw [hw2]; refine Below.alloc ?_ (by omega) _; rw [hw1]; exact (Below.refl _ w).alloc (by omega) _
  have hG : GbAt l (g + 1) w4 0 w4 l A0 c0 := by
    refine ⟨rfl, (hv.below (by rw [← hg]; exact hb4) (Nat.le_refl _)).mono (by omega), hl, ?_, ?_, ?_, Mv.refl _ _, by omega⟩
    · rw [stc_zero, stc_zero, hw4, hw3, hw2, ← hs1]; exact ((Whole.fresh w1 _ [_, _]).alloc _).alloc _
    · rw [stc_zero, stc_zero, hw4, hw3, ← hs2]; exact (Whole.fresh w2 _ [_, _]).alloc _
    · rw [hw4, ← hs3]; exact Whole.fresh w3 _ [_, _]
  have HC := Lib.hid (getBallots_any l (g + 1) A0 c0 w4 hG)
  have HZ := Lib.hid hZ
  have HB4 := Lib.hid hb4
  have HS4 := Lib.hid hs4
  have HG := Lib.hid hg
  clear hZ hb4 hG hs1 hs2 hs3 hs4 hv
  go_enter Try.func21, Try.ntmps21
  go_wp2_with fail
  rw [← hg, ← hw1, ← hw2, ← hw3, ← hw4]
  clear hw1 hw2 hw3 hw4 hg
  refine HC.out.mono ?_
  rintro e w5 ⟨hm5, hz5, hcase⟩
  have hZ5 := hm5.whole HZ.out (by omega)
  have HB5 := Lib.hid (show Below g w w5 from HB4.out.trans (hm5.below (by have := HS4.out; omega) (by intro i hi; omega)))
  clear HC HB4
  rcases hcase with ⟨hn, x, hx, rfl⟩ | ⟨r, A, c, rfl, hA⟩
  · have HE := Lib.hid (HNN.out hn)
    have z0 := hZ5.cell 0 _ rfl
    have f0 := hZ5.frozen 0
    have z1 := hZ5.cell 1 _ rfl
    have f1 := hZ5.frozen 1
    have z2 := hZ5.cell 2 _ rfl
    have f2 := hZ5.frozen 2
    have z3 := hZ5.cell 3 _ rfl
    have f3 := hZ5.frozen 3
    have z4 := hZ5.cell 4 _ rfl
    have f4 := hZ5.frozen 4
    have z5 := hZ5.cell 5 _ rfl
    have f5 := hZ5.frozen 5
    have z6 := hZ5.cell 6 _ rfl
    have f6 := hZ5.frozen 6
    have z7 := hZ5.cell 7 _ rfl
    have f7 := hZ5.frozen 7
    have HZ5 := Lib.hid hZ5
    clear hZ5 hm5
    go_wp2_with fail
    have hZ8 := ((((((((HZ5.out.put 0 (.int .i64 0)).put 1 (.int .i64 0)).put 2 (.int .i64 0)).put 3 (.int .i64 0)).put 4 (.int .i64 0)).put 5 (.int .i64 0)).put 6 (.int .i64 0)).put 7 (.slice none 0 0))
    simp only [List.set] at hZ8
    have R0 := hZ8.cell 0 _ rfl
    have R1 := hZ8.cell 1 _ rfl
    have R2 := hZ8.cell 2 _ rfl
    have R3 := hZ8.cell 3 _ rfl
    have R4 := hZ8.cell 4 _ rfl
    have R5 := hZ8.cell 5 _ rfl
    have R6 := hZ8.cell 6 _ rfl
    have R7 := hZ8.cell 7 _ rfl
    have hb8 := ((((((((HB5.out.setCell (p := ⟨g, 0, none⟩) (Nat.le_refl _) (.int .i64 0)).setCell (p := ⟨g, 1, none⟩) (Nat.le_refl _) (.int .i64 0)).setCell (p := ⟨g, 2, none⟩) (Nat.le_refl _) (.int .i64 0)).setCell (p := ⟨g, 3, none⟩) (Nat.le_refl _) (.int .i64 0)).setCell (p := ⟨g, 4, none⟩) (Nat.le_refl _) (.int .i64 0)).setCell (p := ⟨g, 5, none⟩) (Nat.le_refl _) (.int .i64 0)).setCell (p := ⟨g, 6, none⟩) (Nat.le_refl _) (.int .i64 0)).setCell (p := ⟨g, 7, none⟩) (Nat.le_refl _) (.slice none 0 0))
    exact bodyPost_ret (v := .tuple #[.agg #[.int .i64 0, .int .i64 0, .int .i64 0, .int .i64 0, .int .i64 0, .int .i64 0, .int .i64 0, .slice none 0 0], .int .i64 2]) (by simp [results, Try.results21, go_sem, R0, R1, R2, R3, R4, R5, R6, R7]) rfl ⟨.slice none 0 0, by rw [HE.out]; rfl, by rw [HE.out]; exact Own.nil _ _, by rw [← HG.out]; exact hb8⟩
  · have HGA := Lib.hid hA
    have HZ5 := Lib.hid hZ5
    have HGS := Lib.hid (pgetSO r (.slice A r.length c) w5 (hA.rd.mono (by have := hA.sz; omega)) hA.len)
    have hcs := HGT.out r hA.st
    have hfit : (getSta r).1.chests.length < 4611686018427387904 := getSta_fit r
    clear hA hZ5 hm5
    generalize getSta r = S at HGS hcs hfit
    obtain ⟨⟨s1, s2, s3, sh⟩, s⟩ := S
    unfold sval at HGS
    simp only at HGS hcs hfit
    have HCS := Lib.hid hcs
    clear hcs
    go_wp2_with fail
    refine HGS.out.mono ?_
    rintro e w6 ⟨v6, rfl, ho6, hb6⟩
    obtain ⟨A6, c6, rfl, -, -⟩ := (OwnI.rdI ho6).at
    obtain ⟨w7, hw7⟩ : ∃ w7, w7 = w6.alloc (.cells #[.int .i64 s1, .int .i64 s2, .int .i64 s3, .slice A6 sh.length c6] 35) := ⟨_, rfl⟩
    have hb7 : Below w5.heap.size w5 w7 := by rw [hw7]; exact hb6.alloc hb6.size _
    have hU7 : Whole w7 w6.heap.size 35 [.int .i64 s1, .int .i64 s2, .int .i64 s3, .slice A6 sh.length c6] := by rw [hw7]; exact Whole.fresh w6 _ [_, _, _, _]
    have HU7 := Lib.hid hU7
    have HZ7 := Lib.hid (HZ5.out.below hb7 HZ5.out.size)
    have HB7 := Lib.hid (HB5.out.trans (hb7.mono (by have := HZ5.out.size; omega)))
    have hP7 := HGA.out.p.below hb7 HGA.out.p.size
    have hQ7 := HGA.out.q.below hb7 HGA.out.q.size
    rw [stc_four l _ (by omega), stc_four l _ (by omega)] at hP7 hQ7
    have hll := HL.out (stn l 0, stn l 1) (stn l 2, stn l 3)
    unfold blv at hll
    simp only at hll
    have HLL := Lib.hid hll
    clear hll
    generalize stn l 0 = n0 at hP7 hQ7 HCS HLL
    generalize stn l 1 = n1 at hP7 hQ7 HCS HLL
    generalize stn l 2 = n2 at hP7 hQ7 HCS HLL
    generalize stn l 3 = n3 at hP7 hQ7 HCS HLL
    generalize lessB (n0, n1) (n2, n3) = q at HCS HLL
    have HP7 := Lib.hid hP7
    have HQ7 := Lib.hid hQ7
    have HSZ := Lib.hid (show w6.heap.size < w7.heap.size from hU7.size)
    have HG5 := Lib.hid (HZ5.out.size)
    have HS56 := Lib.hid hb6.size
    clear hP7 hQ7
    have HO7 := Lib.hid (show OwnI w7 w5.heap.size (.slice A6 sh.length c6) sh from by rw [hw7]; exact ho6.alloc _)
    have HG5 := Lib.hid HZ5.out.size
    obtain ⟨t, ht⟩ : ∃ t, t = w6.heap.size := ⟨_, rfl⟩
    have HT := Lib.hid ht
    have hw7' := hw7.symm
    clear hb7 hU7 ho6 hb6 hw7
    rcases HCS.out with ⟨hs, hE⟩ | ⟨hs, hlt, hE⟩ | ⟨hs, hlt, hE⟩
    · have HE := Lib.hid hE
      clear hE HCS
      have z0 := HZ7.out.cell 0 _ rfl
      have f0 := HZ7.out.frozen 0
      have z1 := HZ7.out.cell 1 _ rfl
      have f1 := HZ7.out.frozen 1
      have z2 := HZ7.out.cell 2 _ rfl
      have f2 := HZ7.out.frozen 2
      have z3 := HZ7.out.cell 3 _ rfl
      have f3 := HZ7.out.frozen 3
      have z4 := HZ7.out.cell 4 _ rfl
      have f4 := HZ7.out.frozen 4
      have z5 := HZ7.out.cell 5 _ rfl
      have f5 := HZ7.out.frozen 5
      have z6 := HZ7.out.cell 6 _ rfl
      have f6 := HZ7.out.frozen 6
      have z7 := HZ7.out.cell 7 _ rfl
      have f7 := HZ7.out.frozen 7
      go_wp2_with fail
      have hZ8 := ((((((((HZ7.out.put 0 (.int .i64 0)).put 1 (.int .i64 0)).put 2 (.int .i64 0)).put 3 (.int .i64 0)).put 4 (.int .i64 0)).put 5 (.int .i64 0)).put 6 (.int .i64 0)).put 7 (.slice none 0 0))
      simp only [List.set] at hZ8
      have R0 := hZ8.cell 0 _ rfl
      have R1 := hZ8.cell 1 _ rfl
      have R2 := hZ8.cell 2 _ rfl
      have R3 := hZ8.cell 3 _ rfl
      have R4 := hZ8.cell 4 _ rfl
      have R5 := hZ8.cell 5 _ rfl
      have R6 := hZ8.cell 6 _ rfl
      have R7 := hZ8.cell 7 _ rfl
      have hb8 := ((((((((HB7.out.setCell (p := ⟨g, 0, none⟩) (Nat.le_refl _) (.int .i64 0)).setCell (p := ⟨g, 1, none⟩) (Nat.le_refl _) (.int .i64 0)).setCell (p := ⟨g, 2, none⟩) (Nat.le_refl _) (.int .i64 0)).setCell (p := ⟨g, 3, none⟩) (Nat.le_refl _) (.int .i64 0)).setCell (p := ⟨g, 4, none⟩) (Nat.le_refl _) (.int .i64 0)).setCell (p := ⟨g, 5, none⟩) (Nat.le_refl _) (.int .i64 0)).setCell (p := ⟨g, 6, none⟩) (Nat.le_refl _) (.int .i64 0)).setCell (p := ⟨g, 7, none⟩) (Nat.le_refl _) (.slice none 0 0))
      exact bodyPost_ret (v := .tuple #[.agg #[.int .i64 0, .int .i64 0, .int .i64 0, .int .i64 0, .int .i64 0, .int .i64 0, .int .i64 0, .slice none 0 0], .int .i64 2]) (by simp [results, Try.results21, go_sem, R0, R1, R2, R3, R4, R5, R6, R7]) rfl ⟨.slice none 0 0, by rw [HE.out]; rfl, by rw [HE.out]; exact Own.nil _ _, by rw [← HG.out]; exact hb8⟩
    · have HE := Lib.hid hE
      subst hs hlt
      clear hE HCS
      have p0 := HP7.out.cell 0 _ rfl
      have p1 := HP7.out.cell 1 _ rfl
      have q0 := HQ7.out.cell 0 _ rfl
      have q1 := HQ7.out.cell 1 _ rfl
      go_wp2_with fail
      refine (HLL.out w7).mono ?_
      rintro e w8 ⟨rfl, hb8⟩
      have hsz := HSZ.out
      have hg5 := HG5.out
      have hs56 := HS56.out
      have HZ8 := Lib.hid (HZ7.out.below hb8 (by omega))
      have HB8 := Lib.hid (HB7.out.trans (hb8.mono (by omega)))
      clear hb8 p0 p1 q0 q1 hsz hg5 hs56
      have z0 := HZ8.out.cell 0 _ rfl
      have f0 := HZ8.out.frozen 0
      have z1 := HZ8.out.cell 1 _ rfl
      have f1 := HZ8.out.frozen 1
      have z2 := HZ8.out.cell 2 _ rfl
      have f2 := HZ8.out.frozen 2
      have z3 := HZ8.out.cell 3 _ rfl
      have f3 := HZ8.out.frozen 3
      have z4 := HZ8.out.cell 4 _ rfl
      have f4 := HZ8.out.frozen 4
      have z5 := HZ8.out.cell 5 _ rfl
      have f5 := HZ8.out.frozen 5
      have z6 := HZ8.out.cell 6 _ rfl
      have f6 := HZ8.out.frozen 6
      have z7 := HZ8.out.cell 7 _ rfl
      have f7 := HZ8.out.frozen 7
      go_wp2_with fail
      have hZ8 := ((((((((HZ8.out.put 0 (.int .i64 0)).put 1 (.int .i64 0)).put 2 (.int .i64 0)).put 3 (.int .i64 0)).put 4 (.int .i64 0)).put 5 (.int .i64 0)).put 6 (.int .i64 0)).put 7 (.slice none 0 0))
      simp only [List.set] at hZ8
      have R0 := hZ8.cell 0 _ rfl
      have R1 := hZ8.cell 1 _ rfl
      have R2 := hZ8.cell 2 _ rfl
      have R3 := hZ8.cell 3 _ rfl
      have R4 := hZ8.cell 4 _ rfl
      have R5 := hZ8.cell 5 _ rfl
      have R6 := hZ8.cell 6 _ rfl
      have R7 := hZ8.cell 7 _ rfl
      have hb8 := ((((((((HB8.out.setCell (p := ⟨g, 0, none⟩) (Nat.le_refl _) (.int .i64 0)).setCell (p := ⟨g, 1, none⟩) (Nat.le_refl _) (.int .i64 0)).setCell (p := ⟨g, 2, none⟩) (Nat.le_refl _) (.int .i64 0)).setCell (p := ⟨g, 3, none⟩) (Nat.le_refl _) (.int .i64 0)).setCell (p := ⟨g, 4, none⟩) (Nat.le_refl _) (.int .i64 0)).setCell (p := ⟨g, 5, none⟩) (Nat.le_refl _) (.int .i64 0)).setCell (p := ⟨g, 6, none⟩) (Nat.le_refl _) (.int .i64 0)).setCell (p := ⟨g, 7, none⟩) (Nat.le_refl _) (.slice none 0 0))
      exact bodyPost_ret (v := .tuple #[.agg #[.int .i64 0, .int .i64 0, .int .i64 0, .int .i64 0, .int .i64 0, .int .i64 0, .int .i64 0, .slice none 0 0], .int .i64 2]) (by simp [results, Try.results21, go_sem, R0, R1, R2, R3, R4, R5, R6, R7]) rfl ⟨.slice none 0 0, by rw [HE.out]; rfl, by rw [HE.out]; exact Own.nil _ _, by rw [← HG.out]; exact hb8⟩
    · have HE := Lib.hid hE
      subst hs hlt
      clear hE HCS
      have p0 := HP7.out.cell 0 _ rfl
      have p1 := HP7.out.cell 1 _ rfl
      have q0 := HQ7.out.cell 0 _ rfl
      have q1 := HQ7.out.cell 1 _ rfl
      go_wp2_with fail
      refine (HLL.out w7).mono ?_
      rintro e w8 ⟨rfl, hb8⟩
      have hsz := HSZ.out
      have hg5 := HG5.out
      have hs56 := HS56.out
      have HZ8 := Lib.hid (HZ7.out.below hb8 (by omega))
      have HB8 := Lib.hid (HB7.out.trans (hb8.mono (by omega)))
      have hP8 := HP7.out.below hb8 HP7.out.size
      have hQ8 := HQ7.out.below hb8 HQ7.out.size
      have hU8 := HU7.out.below hb8 HU7.out.size
      have HO8 := Lib.hid (HO7.out.below hb8 (Nat.le_refl _))
      clear hb8 p0 p1 q0 q1 hsz hg5 hs56
      have p0 := hP8.cell 0 _ rfl
      have p1 := hP8.cell 1 _ rfl
      have q0 := hQ8.cell 0 _ rfl
      have q1 := hQ8.cell 1 _ rfl
      have u0 := hU8.cell 0 _ rfl
      have u1 := hU8.cell 1 _ rfl
      have u2 := hU8.cell 2 _ rfl
      have u3 := hU8.cell 3 _ rfl
      clear hP8 hQ8 hU8
      have z0 := HZ8.out.cell 0 _ rfl
      have f0 := HZ8.out.frozen 0
      have z1 := HZ8.out.cell 1 _ rfl
      have f1 := HZ8.out.frozen 1
      have z2 := HZ8.out.cell 2 _ rfl
      have f2 := HZ8.out.frozen 2
      have z3 := HZ8.out.cell 3 _ rfl
      have f3 := HZ8.out.frozen 3
      have z4 := HZ8.out.cell 4 _ rfl
      have f4 := HZ8.out.frozen 4
      have z5 := HZ8.out.cell 5 _ rfl
      have f5 := HZ8.out.frozen 5
      have z6 := HZ8.out.cell 6 _ rfl
      have f6 := HZ8.out.frozen 6
      have z7 := HZ8.out.cell 7 _ rfl
      have f7 := HZ8.out.frozen 7
      go_wp2_with fail
      have hZ8 := ((((((((HZ8.out.put 0 (.int .i64 n0)).put 1 (.int .i64 n1)).put 2 (.int .i64 n2)).put 3 (.int .i64 n3)).put 4 (.int .i64 s1)).put 5 (.int .i64 s2)).put 6 (.int .i64 s3)).put 7 (.slice A6 sh.length c6))
      simp only [List.set] at hZ8
      have R0 := hZ8.cell 0 _ rfl
      have R1 := hZ8.cell 1 _ rfl
      have R2 := hZ8.cell 2 _ rfl
      have R3 := hZ8.cell 3 _ rfl
      have R4 := hZ8.cell 4 _ rfl
      have R5 := hZ8.cell 5 _ rfl
      have R6 := hZ8.cell 6 _ rfl
      have R7 := hZ8.cell 7 _ rfl
      have hb8 := ((((((((HB8.out.setCell (p := ⟨g, 0, none⟩) (Nat.le_refl _) (.int .i64 n0)).setCell (p := ⟨g, 1, none⟩) (Nat.le_refl _) (.int .i64 n1)).setCell (p := ⟨g, 2, none⟩) (Nat.le_refl _) (.int .i64 n2)).setCell (p := ⟨g, 3, none⟩) (Nat.le_refl _) (.int .i64 n3)).setCell (p := ⟨g, 4, none⟩) (Nat.le_refl _) (.int .i64 s1)).setCell (p := ⟨g, 5, none⟩) (Nat.le_refl _) (.int .i64 s2)).setCell (p := ⟨g, 6, none⟩) (Nat.le_refl _) (.int .i64 s3)).setCell (p := ⟨g, 7, none⟩) (Nat.le_refl _) (.slice A6 sh.length c6))
      exact bodyPost_ret (v := .tuple #[.agg #[.int .i64 n0, .int .i64 n1, .int .i64 n2, .int .i64 n3, .int .i64 s1, .int .i64 s2, .int .i64 s3, .slice A6 sh.length c6], .int .i64 0]) (by simp [results, Try.results21, go_sem, R0, R1, R2, R3, R4, R5, R6, R7]) rfl ⟨.slice A6 sh.length c6, by rw [HE.out]; rfl, by rw [HE.out]; exact Own.lower ((((((((HO8.out.off (p := ⟨g, 0, none⟩) (by have := HG5.out; show g < w5.heap.size; omega) (.int .i64 n0)).off (p := ⟨g, 1, none⟩) (by have := HG5.out; show g < w5.heap.size; omega) (.int .i64 n1)).off (p := ⟨g, 2, none⟩) (by have := HG5.out; show g < w5.heap.size; omega) (.int .i64 n2)).off (p := ⟨g, 3, none⟩) (by have := HG5.out; show g < w5.heap.size; omega) (.int .i64 n3)).off (p := ⟨g, 4, none⟩) (by have := HG5.out; show g < w5.heap.size; omega) (.int .i64 s1)).off (p := ⟨g, 5, none⟩) (by have := HG5.out; show g < w5.heap.size; omega) (.int .i64 s2)).off (p := ⟨g, 6, none⟩) (by have := HG5.out; show g < w5.heap.size; omega) (.int .i64 s3)).off (p := ⟨g, 7, none⟩) (by have := HG5.out; show g < w5.heap.size; omega) (.slice A6 sh.length c6)) (by rw [← HG.out]; exact Nat.le_of_lt HG5.out), by rw [← HG.out]; exact hb8⟩
set_option maxRecDepth 100000 in
theorem vdecode_any (l : List UInt8) (v : Value) (w : World) (hv : RdB w w.heap.size v l) (hl : l.length < 4611686018427387904) :
    Calls Try.prog 21 #[v] w fun e w' => ∃ v', e = .returned (.tuple #[vwv (decV l).1 v', .int .i64 (decV l).2]) ∧ RdI w' w'.heap.size v' (decV l).1.took.chests ∧ Below w.heap.size w w' := by
  refine (vdecodeO_any l v w hv hl).mono ?_
  rintro e w' ⟨v', rfl, ho, hb⟩
  exact ⟨v', rfl, OwnI.rdI ho, hb⟩
end Go.Proofs.Ythoheikbpihflaa
namespace Go.Proofs.Ythoheikbpihflaa
open Go.RowKit

set_option maxHeartbeats 4000000 in
set_option maxRecDepth 100000 in
theorem ppromiseO_any (x : Vw) (b : Bal) (v : Value) (w : World) (hv : RdI w w.heap.size v x.took.chests) (hl : x.took.chests.length ≤ 17592186043904) :
    Calls Try.prog 27 #[vwv x v, blv b] w fun e w' => ∃ v', e = .returned (.tuple #[vwv (promV x b) v', .bool (lessB x.prom b)]) ∧ OwnI w' w.heap.size v' (promV x b).took.chests ∧ Below w.heap.size w w' := by
  obtain ⟨A0, c0, rfl, _, _⟩ := hv.at
  obtain ⟨⟨p1, p2⟩, ⟨a1, a2⟩, ⟨g, ep, rc, ch⟩⟩ := x
  obtain ⟨b1, b2⟩ := b
  have hl0 := fun W => pless_any (p1, p2) (b1, b2) W
  have hown := fun W h => own_any ⟨g, ep, rc, ch⟩ (.slice A0 ch.length c0) W h hl
  unfold blv at hl0
  unfold sval at hown
  simp only at hl0 hown hv
  have HL := Lib.hid hl0; clear hl0
  have HN := Lib.hid hown; clear hown
  have htook : (promV ⟨(p1, p2), (a1, a2), ⟨g, ep, rc, ch⟩⟩ (b1, b2)).took.chests = ch := by unfold promV; split <;> rfl
  rw [htook]
  unfold vwv blv promV
  simp only
  generalize lessB (p1, p2) (b1, b2) = r at HL ⊢
  obtain ⟨w1, hw1⟩ : ∃ w1, w1 = w.alloc (.cells #[.int .i64 p1, .int .i64 p2, .int .i64 a1, .int .i64 a2, .int .i64 g, .int .i64 ep, .int .i64 rc, .slice A0 ch.length c0] 37) := ⟨_, rfl⟩
  obtain ⟨w2, hw2⟩ : ∃ w2, w2 = w1.alloc (.cells #[.int .i64 b1, .int .i64 b2] 32) := ⟨_, rfl⟩
  obtain ⟨w3, hw3⟩ : ∃ w3, w3 = w2.alloc (.cells #[.int .i64 0, .int .i64 0, .int .i64 0, .int .i64 0, .int .i64 0, .int .i64 0, .int .i64 0, .slice none 0 0] 37) := ⟨_, rfl⟩
  have hs1 : w1.heap.size = w.heap.size + 1 := by rw [hw1]; simp
  have hs2 : w2.heap.size = w.heap.size + 1 + 1 := by rw [hw2, World.size_alloc, hs1]
  have hs3 : w3.heap.size = w.heap.size + 1 + 1 + 1 := by rw [hw3, World.size_alloc, hs2]
  have hX : Whole w3 w.heap.size 37 [.int .i64 p1, .int .i64 p2, .int .i64 a1, .int .i64 a2, .int .i64 g, .int .i64 ep, .int .i64 rc, .slice A0 ch.length c0] := by
    rw [hw3, hw2, hw1]; exact ((Whole.fresh w _ [.int .i64 p1, .int .i64 p2, .int .i64 a1, .int .i64 a2, .int .i64 g, .int .i64 ep, .int .i64 rc, .slice A0 ch.length c0]).alloc _).alloc _
  have hY : Whole w3 (w.heap.size + 1) 32 [.int .i64 b1, .int .i64 b2] := by
    rw [hw3, hw2, ← hs1]; exact (Whole.fresh w1 _ [_, _]).alloc _
  have hZ : Whole w3 (w.heap.size + 1 + 1) 37 [.int .i64 0, .int .i64 0, .int .i64 0, .int .i64 0, .int .i64 0, .int .i64 0, .int .i64 0, .slice none 0 0] := by
    rw [hw3, ← hs2]; exact Whole.fresh w2 _ [.int .i64 0, .int .i64 0, .int .i64 0, .int .i64 0, .int .i64 0, .int .i64 0, .int .i64 0, .slice none 0 0]
  have hb3 : Below w.heap.size w w3 := by
    rw [hw3, hw2, hw1]; exact (((Below.refl _ w).alloc (Nat.le_refl _) _).alloc (by simp) _).alloc (by simp; omega) _
  have HC := Lib.hid (HN.out w3 (hv.next hb3))
  have x4 := hX.cell 4 _ rfl
  have x5 := hX.cell 5 _ rfl
  have x6 := hX.cell 6 _ rfl
  have x7 := hX.cell 7 _ rfl
  have HX := Lib.hid hX; clear hX
  have HY := Lib.hid hY; clear hY
  have HZ := Lib.hid hZ; clear hZ
  have HB3 := Lib.hid hb3; clear hb3
  have HS3 := Lib.hid hs3; clear hs3 hs1 hs2 hv HN
  go_enter Try.func27, Try.ntmps27
  go_wp2_with fail
  rw [← hw1, ← hw2, ← hw3]
  clear hw1 hw2 hw3
  refine HC.out.mono ?_
  rintro e w4 ⟨A, c, rfl, ho, hb4⟩
  have hs3 := HS3.out
  have hX4 := HX.out.below hb4 (by omega)
  have hY4 := HY.out.below hb4 (by omega)
  have hZ4 := HZ.out.below hb4 (by omega)
  have HB4 := Lib.hid (HB3.out.trans (hb4.mono (by omega)))
  have HO := Lib.hid ho
  have hsz : w3.heap.size ≤ w4.heap.size := hb4.size
  have k4 := hX4.frozen 4
  have k5 := hX4.frozen 5
  have k6 := hX4.frozen 6
  have k7 := hX4.frozen 7
  have x0 := hX4.cell 0 _ rfl
  have x1 := hX4.cell 1 _ rfl
  have y0 := hY4.cell 0 _ rfl
  have y1 := hY4.cell 1 _ rfl
  have X0 := hX4.cell 4 _ rfl
  have X1 := hX4.cell 5 _ rfl
  have X2 := hX4.cell 6 _ rfl
  have X3 := hX4.cell 7 _ rfl
  have HX4 := Lib.hid hX4
  have HY4 := Lib.hid hY4
  have HZ4 := Lib.hid hZ4
  clear hX4 hY4 hZ4 ho hb4 x4 x5 x6 x7 hs3
  go_wp2_with fail
  have hX5 := (((HX4.out.put 4 (.int .i64 g)).put 5 (.int .i64 ep)).put 6 (.int .i64 rc)).put 7 (.slice A ch.length c)
  simp only [List.set] at hX5
  have hY5 := (((HY4.out.away (p := ⟨w.heap.size, 4, none⟩) (by simp) (.int .i64 g)).away (p := ⟨w.heap.size, 5, none⟩) (by simp) (.int .i64 ep)).away (p := ⟨w.heap.size, 6, none⟩) (by simp) (.int .i64 rc)).away (p := ⟨w.heap.size, 7, none⟩) (by simp) (.slice A ch.length c)
  have hZ5 := (((HZ4.out.away (p := ⟨w.heap.size, 4, none⟩) (by simp; omega) (.int .i64 g)).away (p := ⟨w.heap.size, 5, none⟩) (by simp; omega) (.int .i64 ep)).away (p := ⟨w.heap.size, 6, none⟩) (by simp; omega) (.int .i64 rc)).away (p := ⟨w.heap.size, 7, none⟩) (by simp; omega) (.slice A ch.length c)
  have hs3 := HS3.out
  have ho5 := (((HO.out.off (p := ⟨w.heap.size, 4, none⟩) (by simp; omega) (.int .i64 g)).off (p := ⟨w.heap.size, 5, none⟩) (by simp; omega) (.int .i64 ep)).off (p := ⟨w.heap.size, 6, none⟩) (by simp; omega) (.int .i64 rc)).off (p := ⟨w.heap.size, 7, none⟩) (by simp; omega) (.slice A ch.length c)
  have hb5 : Below w.heap.size w ((((w4.setCell ⟨w.heap.size, 4, none⟩ (.int .i64 g)).setCell ⟨w.heap.size, 5, none⟩ (.int .i64 ep)).setCell ⟨w.heap.size, 6, none⟩ (.int .i64 rc)).setCell ⟨w.heap.size, 7, none⟩ (.slice A ch.length c)) := by (repeat (refine Below.setCell ?_ (by simp; try omega) _)); exact HB4.out
  have hz5 : w4.heap.size ≤ ((((w4.setCell ⟨w.heap.size, 4, none⟩ (.int .i64 g)).setCell ⟨w.heap.size, 5, none⟩ (.int .i64 ep)).setCell ⟨w.heap.size, 6, none⟩ (.int .i64 rc)).setCell ⟨w.heap.size, 7, none⟩ (.slice A ch.length c)).heap.size := by simp
  clear x0 x1 X0 X1 X2 X3 k4 k5 k6 k7 y0 y1 HX4 HY4 HZ4 HO HB4
  generalize (((w4.setCell ⟨w.heap.size, 4, none⟩ (.int .i64 g)).setCell ⟨w.heap.size, 5, none⟩ (.int .i64 ep)).setCell ⟨w.heap.size, 6, none⟩ (.int .i64 rc)).setCell ⟨w.heap.size, 7, none⟩ (.slice A ch.length c) = w5 at hX5 hY5 hZ5 ho5 hb5 hz5 ⊢
  have HB5 := Lib.hid hb5
  have HX5 := Lib.hid hX5
  have HY5 := Lib.hid hY5
  have HZ5 := Lib.hid hZ5
  have HO5 := Lib.hid ho5
  clear hX5 hY5 hZ5 ho5 hb5
  refine (HL.out w5).mono ?_
  rintro e w6 ⟨rfl, hb6⟩
  have hX6 := HX5.out.below hb6 (by omega)
  have HY6 := Lib.hid (HY5.out.below hb6 (by omega))
  have hZ6 := HZ5.out.below hb6 (by omega)
  have HO6 := Lib.hid (HO5.out.below hb6 (Nat.le_refl _))
  have HB6 := Lib.hid (HB5.out.trans (hb6.mono (by omega)))
  clear hb6
  cases r with
  | false =>
    have x0 := hX6.cell 0 _ rfl
    have x1 := hX6.cell 1 _ rfl
    have x2 := hX6.cell 2 _ rfl
    have x3 := hX6.cell 3 _ rfl
    have x4 := hX6.cell 4 _ rfl
    have x5 := hX6.cell 5 _ rfl
    have x6 := hX6.cell 6 _ rfl
    have x7 := hX6.cell 7 _ rfl
    have z0 := hZ6.cell 0 _ rfl
    have f0 := hZ6.frozen 0
    have z1 := hZ6.cell 1 _ rfl
    have f1 := hZ6.frozen 1
    have z2 := hZ6.cell 2 _ rfl
    have f2 := hZ6.frozen 2
    have z3 := hZ6.cell 3 _ rfl
    have f3 := hZ6.frozen 3
    have z4 := hZ6.cell 4 _ rfl
    have f4 := hZ6.frozen 4
    have z5 := hZ6.cell 5 _ rfl
    have f5 := hZ6.frozen 5
    have z6 := hZ6.cell 6 _ rfl
    have f6 := hZ6.frozen 6
    have z7 := hZ6.cell 7 _ rfl
    have f7 := hZ6.frozen 7
    have HZ6 := Lib.hid hZ6
    clear hX6 hZ6 hz5 hsz hs3
    go_wp2_with fail
    have hZ8 := ((((((((HZ6.out.put 0 (.int .i64 p1)).put 1 (.int .i64 p2)).put 2 (.int .i64 a1)).put 3 (.int .i64 a2)).put 4 (.int .i64 g)).put 5 (.int .i64 ep)).put 6 (.int .i64 rc)).put 7 (.slice A ch.length c))
    simp only [List.set] at hZ8
    have R0 := hZ8.cell 0 _ rfl
    have R1 := hZ8.cell 1 _ rfl
    have R2 := hZ8.cell 2 _ rfl
    have R3 := hZ8.cell 3 _ rfl
    have R4 := hZ8.cell 4 _ rfl
    have R5 := hZ8.cell 5 _ rfl
    have R6 := hZ8.cell 6 _ rfl
    have R7 := hZ8.cell 7 _ rfl
    have hs3 := HS3.out
    have ho := ((((((((HO6.out.off (p := ⟨w.heap.size + 1 + 1, 0, none⟩) (by simp; omega) (.int .i64 p1)).off (p := ⟨w.heap.size + 1 + 1, 1, none⟩) (by simp; omega) (.int .i64 p2)).off (p := ⟨w.heap.size + 1 + 1, 2, none⟩) (by simp; omega) (.int .i64 a1)).off (p := ⟨w.heap.size + 1 + 1, 3, none⟩) (by simp; omega) (.int .i64 a2)).off (p := ⟨w.heap.size + 1 + 1, 4, none⟩) (by simp; omega) (.int .i64 g)).off (p := ⟨w.heap.size + 1 + 1, 5, none⟩) (by simp; omega) (.int .i64 ep)).off (p := ⟨w.heap.size + 1 + 1, 6, none⟩) (by simp; omega) (.int .i64 rc)).off (p := ⟨w.heap.size + 1 + 1, 7, none⟩) (by simp; omega) (.slice A ch.length c))
    exact bodyPost_ret (v := .tuple #[.agg #[.int .i64 p1, .int .i64 p2, .int .i64 a1, .int .i64 a2, .int .i64 g, .int .i64 ep, .int .i64 rc, .slice A ch.length c], .bool false]) (by simp [results, Try.results27, go_sem, R0, R1, R2, R3, R4, R5, R6, R7]) rfl ⟨.slice A ch.length c, rfl, Own.lower ho (by omega), by (repeat (refine Below.setCell ?_ (by simp; try omega) _)); exact HB6.out⟩
  | true =>
    have x0 := hX6.cell 0 _ rfl
    have x1 := hX6.cell 1 _ rfl
    have x2 := hX6.cell 2 _ rfl
    have x3 := hX6.cell 3 _ rfl
    have x4 := hX6.cell 4 _ rfl
    have x5 := hX6.cell 5 _ rfl
    have x6 := hX6.cell 6 _ rfl
    have x7 := hX6.cell 7 _ rfl
    have z0 := hZ6.cell 0 _ rfl
    have f0 := hZ6.frozen 0
    have z1 := hZ6.cell 1 _ rfl
    have f1 := hZ6.frozen 1
    have z2 := hZ6.cell 2 _ rfl
    have f2 := hZ6.frozen 2
    have z3 := hZ6.cell 3 _ rfl
    have f3 := hZ6.frozen 3
    have z4 := hZ6.cell 4 _ rfl
    have f4 := hZ6.frozen 4
    have z5 := hZ6.cell 5 _ rfl
    have f5 := hZ6.frozen 5
    have z6 := hZ6.cell 6 _ rfl
    have f6 := hZ6.frozen 6
    have z7 := hZ6.cell 7 _ rfl
    have f7 := hZ6.frozen 7
    have k0 := hX6.frozen 0
    have k1 := hX6.frozen 1
    have y0 := HY6.out.cell 0 _ rfl
    have y1 := HY6.out.cell 1 _ rfl
    have HZ6 := Lib.hid hZ6
    clear hX6 hZ6 hz5 hsz hs3
    go_wp2_with fail
    have hZ8 := ((((((((((HZ6.out.away (p := ⟨w.heap.size, 0, none⟩) (by simp; omega) (.int .i64 b1)).away (p := ⟨w.heap.size, 1, none⟩) (by simp; omega) (.int .i64 b2)).put 0 (.int .i64 b1)).put 1 (.int .i64 b2)).put 2 (.int .i64 a1)).put 3 (.int .i64 a2)).put 4 (.int .i64 g)).put 5 (.int .i64 ep)).put 6 (.int .i64 rc)).put 7 (.slice A ch.length c))
    simp only [List.set] at hZ8
    have R0 := hZ8.cell 0 _ rfl
    have R1 := hZ8.cell 1 _ rfl
    have R2 := hZ8.cell 2 _ rfl
    have R3 := hZ8.cell 3 _ rfl
    have R4 := hZ8.cell 4 _ rfl
    have R5 := hZ8.cell 5 _ rfl
    have R6 := hZ8.cell 6 _ rfl
    have R7 := hZ8.cell 7 _ rfl
    have hs3 := HS3.out
    have ho := ((((((((((HO6.out.off (p := ⟨w.heap.size, 0, none⟩) (by simp; omega) (.int .i64 b1)).off (p := ⟨w.heap.size, 1, none⟩) (by simp; omega) (.int .i64 b2)).off (p := ⟨w.heap.size + 1 + 1, 0, none⟩) (by simp; omega) (.int .i64 b1)).off (p := ⟨w.heap.size + 1 + 1, 1, none⟩) (by simp; omega) (.int .i64 b2)).off (p := ⟨w.heap.size + 1 + 1, 2, none⟩) (by simp; omega) (.int .i64 a1)).off (p := ⟨w.heap.size + 1 + 1, 3, none⟩) (by simp; omega) (.int .i64 a2)).off (p := ⟨w.heap.size + 1 + 1, 4, none⟩) (by simp; omega) (.int .i64 g)).off (p := ⟨w.heap.size + 1 + 1, 5, none⟩) (by simp; omega) (.int .i64 ep)).off (p := ⟨w.heap.size + 1 + 1, 6, none⟩) (by simp; omega) (.int .i64 rc)).off (p := ⟨w.heap.size + 1 + 1, 7, none⟩) (by simp; omega) (.slice A ch.length c))
    exact bodyPost_ret (v := .tuple #[.agg #[.int .i64 b1, .int .i64 b2, .int .i64 a1, .int .i64 a2, .int .i64 g, .int .i64 ep, .int .i64 rc, .slice A ch.length c], .bool true]) (by simp [results, Try.results27, go_sem, R0, R1, R2, R3, R4, R5, R6, R7]) rfl ⟨.slice A ch.length c, rfl, Own.lower ho (by omega), by (repeat (refine Below.setCell ?_ (by simp; try omega) _)); exact HB6.out⟩
set_option maxRecDepth 100000 in
theorem ppromise_any (x : Vw) (b : Bal) (v : Value) (w : World) (hv : RdI w w.heap.size v x.took.chests) (hl : x.took.chests.length ≤ 17592186043904) :
    Calls Try.prog 27 #[vwv x v, blv b] w fun e w' => ∃ v', e = .returned (.tuple #[vwv (promV x b) v', .bool (lessB x.prom b)]) ∧ RdI w' w'.heap.size v' (promV x b).took.chests ∧ Below w.heap.size w w' := by
  refine (ppromiseO_any x b v w hv hl).mono ?_
  rintro e w' ⟨v', rfl, ho, hb⟩
  exact ⟨v', rfl, OwnI.rdI ho, hb⟩
end Go.Proofs.Ythoheikbpihflaa
