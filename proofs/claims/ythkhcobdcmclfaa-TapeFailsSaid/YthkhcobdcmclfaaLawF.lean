/- TapeFails's walk. -/
import Derived.Test.YthkhcobdcmclfaaAwk
namespace Go.Proofs.Ythkhcobdcmclfaa
open Go.RowKit

set_option maxHeartbeats 4000000 in
set_option maxRecDepth 100000 in
theorem tapeFails_walk (n : Nat) (hn : n < 256) (l : List UInt8) (v : Value) (w : World) (hv : RdB w w.heap.size v l) (hl : l.length ≤ 140737488351232) : Calls Try.prog 5 #[.int .u8 (n : Int), v] w fun e w' => e = .returned (.bool true) ∧ Below w.heap.size w w' := by
  obtain ⟨A, c, rfl, hc, hi⟩ := hv.at
  have kc := fun (w : World) (C : Array Value) (n c : Nat) => Lib.run_convert_bytes_const (P := Try.prog) w 31 5 C n c Try.underlying31 Try.underlying5
  have KC := Lib.hid kc; clear kc
  have HV := Lib.hid hv; clear hv hi
  have HN := Lib.hid (new_any 1000 (by decide) (by decide) w)
  go_enter Try.func5, Try.ntmps5
  go_wp2_with fail
  refine HN.out.mono ?_
  rintro e w1 ⟨p, rfl, ht, hb⟩
  have HA := Lib.hid (awake_any w1)
  have H1 := Lib.hid ht; clear ht HN
  have HB := Lib.hid hb; clear hb
  go_wp2_with fail
  refine HA.out.mono ?_
  rintro e w2 ⟨rfl, hb⟩
  have H2 := Lib.hid (H1.out.mv (Mv.of_new hb (fun _ => False)) (fun h => h) (fun _ _ h => h))
  have HB2 := Lib.hid (HB.out.trans (hb.mono HB.out.size))
  clear hb HA H1 HB
  have hf := fail_any w.heap.size p none ⟨[], [], 1000, -1, false⟩ (n : Int) (by omega) w2 H2.out
  have HF := Lib.hid hf; clear hf
  go_wp2_with fail
  refine HF.out.mono ?_
  rintro e w3 ⟨rfl, hw⟩
  have HB3 := Lib.hid (HB2.out.trans (hw.below H2.out))
  have HT3 := Lib.hid hw.now
  clear hw HF
  go_wp2_with fail
  go_loopw [7] (fun iv wr => ∃ (i : Nat) (ov : Option Nat) (t : Tp), i ≤ 300 ∧ iv = .int .i64 (i : Int) ∧ TapeAt wr w.heap.size p ov t ∧ t.FailInv n i ∧ Below w.heap.size w wr) (fun iv _ => 300 - (intOf iv).toNat)
  case atStart => exact ⟨0, none, _, by omega, rfl, HT3.out, Tp.FailInv.start n, HB3.out⟩
  case round =>
    obtain ⟨i, ov, t, hi3, rfl, ht, hinv, hb⟩ := hrel
    have HT := Lib.hid ht
    have HI := Lib.hid hinv
    have HB := Lib.hid hb
    have hps := ht.low.2.1
    have hbs := ht.low.2.2
    clear ht hinv hb HT3 HB3 H2 HB2
    by_cases hgo : i < l.length ∧ i < 300
    · obtain ⟨hil, hi4⟩ := hgo
      have h1 : (i : Int) < (l.length : Int) := by omega
      have h2 : (i : Int) < 300 := by omega
      obtain ⟨A', c', e, _, hcell⟩ := RdB.at (HV.out.below HB.out (Nat.le_refl _))
      injection e with e1 e2 e3
      subst e1 e3
      obtain ⟨b, o, rfl, hbl, hcl⟩ := hcell i hil
      clear hcell
      obtain ⟨m, hm⟩ : ∃ m, m = l[i].toNat % 3 := ⟨_, rfl⟩
      have hrem : (l[i].toNat : Int).tmod 3 = (m : Int) := by rw [Int.tmod_eq_emod_of_nonneg (by omega), hm]; simp
      have hm3 : m < 3 := by omega
      generalize (l[i].toNat : Int) = Y at hcl hrem
      have hin : (i < n ∧ (i : Int) < (n : Int)) ∨ (¬ i < n ∧ ¬ (i : Int) < (n : Int)) := by omega
      have HIN := Lib.hid hin
      clear hm hin
      have hcases : m = 0 ∨ m = 1 ∨ m = 2 := by omega
      clear hm3
      rcases hcases with rfl | rfl | rfl
      · have hc := add_any w.heap.size p ov t (.slice none 0 0) [] wr HT.out (fun _ _ => Rd.nil _ _) (by decide)
        have HC := Lib.hid hc; clear hc
        go_wp2_with fail
        refine HC.out.mono ?_
        rintro e w4 ⟨rfl, ov', hw⟩
        have HT2 := Lib.hid hw.now
        have HB2 := Lib.hid (HB.out.trans (hw.below HT.out))
        have HI2 := Lib.hid (HI.out.add).2
        rw [(HI.out.add).1]
        clear hw HC HT HB HI
        clear h1 h2 hcl hrem
        rcases HIN.out with ⟨hin1, hin2⟩ | ⟨hin1, hin2⟩
        · rw [if_pos hin1]
          clear hin1
          go_wp2_with fail
          go_roundw
          case rel => exact ⟨i + 1, _, _, by omega, by go_num, HT2.out, HI2.out, HB2.out⟩
          case measure => simp [intOf]; omega
        · rw [if_neg hin1]
          clear hin1
          go_wp2_with fail
          go_roundw
          case rel => exact ⟨i + 1, _, _, by omega, by go_num, HT2.out, HI2.out, HB2.out⟩
          case measure => simp [intOf]; omega
      · have hc := sync_any w.heap.size p ov t wr HT.out
        have HC := Lib.hid hc; clear hc
        go_wp2_with fail
        refine HC.out.mono ?_
        rintro e w4 ⟨rfl, hw⟩
        have HT2 := Lib.hid hw.now
        have HB2 := Lib.hid (HB.out.trans (hw.below HT.out))
        have HI2 := Lib.hid (HI.out.sync).2
        rw [(HI.out.sync).1]
        clear hw HC HT HB HI
        clear h1 h2 hcl hrem
        rcases HIN.out with ⟨hin1, hin2⟩ | ⟨hin1, hin2⟩
        · rw [if_pos hin1]
          clear hin1
          go_wp2_with fail
          go_roundw
          case rel => exact ⟨i + 1, _, _, by omega, by go_num, HT2.out, HI2.out, HB2.out⟩
          case measure => simp [intOf]; omega
        · rw [if_neg hin1]
          clear hin1
          go_wp2_with fail
          go_roundw
          case rel => exact ⟨i + 1, _, _, by omega, by go_num, HT2.out, HI2.out, HB2.out⟩
          case measure => simp [intOf]; omega
      · have kc := KC.out
        have hmv : Mv (fun _ => False) wr (wr.alloc (.cells #[.int .u8 120] 5 (1, 2))) := (Mv.refl _ wr).alloc _
        have HTa := Lib.hid (HT.out.mv hmv (fun h => h) (fun _ _ h => h))
        have HBa := Lib.hid (HB.out.alloc hbs (.cells #[.int .u8 120] 5 (1, 2)))
        have hc := repl_any w.heap.size p ov t (.slice (some ⟨wr.heap.size, 0, none⟩) 1 1) [120] (wr.alloc (.cells #[.int .u8 120] 5 (1, 2))) HTa.out (fun w' hm => lit_rd [120] (1, 2) hps (fun g hg => (HT.out.row hg).2) hm) (by decide)
        have HC := Lib.hid hc; clear hc hmv
        go_wp2_with fail
        refine HC.out.mono ?_
        rintro e w4 ⟨rfl, ov', hw⟩
        have HT2 := Lib.hid hw.now
        have HB2 := Lib.hid (HBa.out.trans (hw.below HTa.out))
        have HI2 := Lib.hid (HI.out.repl 120).2
        rw [(HI.out.repl 120).1]
        clear hw HC HT HB HI HTa HBa kc
        clear h1 h2 hcl hrem
        rcases HIN.out with ⟨hin1, hin2⟩ | ⟨hin1, hin2⟩
        · rw [if_pos hin1]
          clear hin1
          go_wp2_with fail
          go_roundw
          case rel => exact ⟨i + 1, _, _, by omega, by go_num, HT2.out, HI2.out, HB2.out⟩
          case measure => simp [intOf]; omega
        · rw [if_neg hin1]
          clear hin1
          go_wp2_with fail
          go_roundw
          case rel => exact ⟨i + 1, _, _, by omega, by go_num, HT2.out, HI2.out, HB2.out⟩
          case measure => simp [intOf]; omega
    · have hex : ¬ ((i : Int) < (l.length : Int)) ∨ ((i : Int) < (l.length : Int) ∧ ¬ ((i : Int) < 300)) := by omega
      have hroom : 0 ≤ t.room := HT.out.ok.1
      have hcr := crash_any w.heap.size p ov t 0 0 wr HT.out
      rw [show (((0 : UInt8).toNat : Nat) : Int) = 0 from rfl] at hcr
      have HC := Lib.hid hcr; clear hcr hgo
      rcases hex with h1 | ⟨h1, h2⟩
      · go_wp2_with fail
        refine HC.out.mono ?_
        rintro e w4 ⟨rfl, hw⟩
        have HT2 := Lib.hid hw.now
        have HB2 := Lib.hid (HB.out.trans (hw.below HT.out))
        have hs := sync_any w.heap.size p ov _ w4 hw.now
        rw [Tp.crash_sync hroom] at hs
        have HS := Lib.hid hs
        clear hw hs HC h1
        go_wp2_with fail
        refine HS.out.mono ?_
        rintro e w5 ⟨rfl, hw⟩
        have HB3 := Lib.hid (HB2.out.trans (hw.below HT2.out))
        clear hw HS
        go_wp2_with fail
        go_ret
        exact ⟨rfl, HB3.out⟩
      · go_wp2_with fail
        refine HC.out.mono ?_
        rintro e w4 ⟨rfl, hw⟩
        have HT2 := Lib.hid hw.now
        have HB2 := Lib.hid (HB.out.trans (hw.below HT.out))
        have hs := sync_any w.heap.size p ov _ w4 hw.now
        rw [Tp.crash_sync hroom] at hs
        have HS := Lib.hid hs
        clear hw hs HC h1 h2
        go_wp2_with fail
        refine HS.out.mono ?_
        rintro e w5 ⟨rfl, hw⟩
        have HB3 := Lib.hid (HB2.out.trans (hw.below HT2.out))
        clear hw HS
        go_wp2_with fail
        go_ret
        exact ⟨rfl, HB3.out⟩
end Go.Proofs.Ythkhcobdcmclfaa
