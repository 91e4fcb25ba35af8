/- What the reference's Put and Num answer. -/
import Derived.Test.YtaenlkopjmgniaaByte
import Derived.Test.YtaenlkopjmgniaaNum
namespace Go.Proofs.Ytaenlkopjmgniaa
open Go.RowKit

set_option maxHeartbeats 1000000 in
set_option maxRecDepth 100000 in
theorem rput_any (n : Nat) (hn : n < 9223372036854775808) (l : List UInt8) (A : Option Addr) (c : Nat) (w : World) (base : Nat) (ho : OwnB w base (.slice A l.length c) l) (hb : base ≤ w.heap.size) (hl : l.length ≤ 225179981367000) :
    Calls Try.prog 38 #[.slice A l.length c, .int .i64 (n : Int)] w fun e w' => ∃ A' c', e = .returned (.slice A' (l ++ enc n).length c') ∧ OwnB w' base (.slice A' (l ++ enc n).length c') (l ++ enc n) ∧ Below base w w' ∧ base ≤ w'.heap.size := by
  have h9 := enc_len9 hn
  obtain ⟨R, hR⟩ : ∃ R, R = l ++ enc n := ⟨_, rfl⟩
  rw [← hR]
  have hRl : R.length ≤ 225179981367009 := by rw [hR, List.length_append]; omega
  have HO := Lib.hid ho; clear ho
  have HR := Lib.hid hR; clear hR h9
  go_enter Try.func38, Try.ntmps38
  go_wp2
  go_loopw [0, 1] (fun bv nv wr => ∃ (m : Nat) (l' : List UInt8) (A' : Option Addr) (c' : Nat), m ≤ n ∧ nv = .int .i64 m ∧ bv = .slice A' l'.length c' ∧ OwnB wr base (.slice A' l'.length c') l' ∧ R = l' ++ enc m ∧ Below base w wr ∧ base ≤ wr.heap.size) (fun _ nv _ => (intOf nv).toNat)
  case atStart => exact ⟨n, l, A, c, Nat.le_refl _, rfl, rfl, HO.out, HR.out, Below.refl _ _, hb⟩
  case round =>
    obtain ⟨m, l', A', c', hm, rfl, rfl, ho, he, hbw, hbs⟩ := hrel
    have hlen : l'.length + (enc m).length = R.length := by rw [he, List.length_append]
    have hep := enc_pos m
    have HE := Lib.hid he; clear he
    have HO := Lib.hid ho; clear ho
    have HB := Lib.hid hbw; clear hbw
    have HL := Lib.hid hlen
    have hl' : l'.length + 1 ≤ 225179981368000 := by omega
    clear hlen hep
    by_cases hlt : m > 127
    · obtain ⟨bt, hbt⟩ : ∃ bt, bt = UInt8.ofNat (128 + m % 128) := ⟨_, rfl⟩
      have h1 : (128 + (m : Int) % 128) = (bt.toNat : Int) := by rw [hbt, u8_ofNat (by omega)]; omega
      have HBT := Lib.hid hbt; clear hbt
      have h2 : (m : Int).tdiv 128 = ((m / 128 : Nat) : Int) := by rw [Int.tdiv_eq_ediv_of_nonneg (by omega)]; simp
      go_wp2_with (at_builtin; go_must (refine wpList_addB rfl _ _ rfl base (.slice A' l'.length c') l' rfl ?x1 (wr.heap.size + 1) _ [bt] rfl (RdB.one wr _) hl' ?x2 base w ?x3 (Nat.le_refl _) ?x4))
      case x1 => exact HO.out.alloc _
      case x2 => simp; omega
      case x3 => exact HB.out.alloc hbs _
      intro A2 c2 w2 ho2 hb2 hz2
      have hre : R = (l' ++ [bt]) ++ enc (m / 128) := by rw [HE.out, enc_big hlt, HBT.out]; simp
      have HRE := Lib.hid hre; clear hre
      go_wp2_with fail
      go_roundw
      case rel => exact ⟨m / 128, l' ++ [bt], A2, c2, by omega, by go_num, by simp, by simpa using ho2.out, HRE.out, hb2.out, hz2.out⟩
      case measure => simp [intOf]; omega
    · obtain ⟨bt, hbt⟩ : ∃ bt, bt = UInt8.ofNat m := ⟨_, rfl⟩
      have h1 : (m : Int) = (bt.toNat : Int) := by rw [hbt, u8_ofNat (by omega)]
      have hm7 : (m : Int) ≤ 127 := by omega
      have HBT := Lib.hid hbt; clear hbt
      have H1 := Lib.hid h1; clear h1
      go_wp2_with (at_builtin; go_must (refine wpList_addB rfl _ _ rfl base (.slice A' l'.length c') l' rfl ?y1 (wr.heap.size + 1) _ [bt] rfl ?y5 hl' ?y2 base w ?y3 (Nat.le_refl _) ?y4))
      case y1 => exact HO.out.alloc _
      case y5 => rw [H1.out]; exact RdB.one wr _
      case y2 => simp; omega
      case y3 => exact HB.out.alloc hbs _
      intro A2 c2 w2 ho2 hb2 hz2
      have hre : R = l' ++ [bt] := by rw [HE.out, enc_small (by omega), HBT.out]
      have HRE := Lib.hid hre; clear hre
      go_wp2_with fail
      go_ret
      have hrl : R.length = l'.length + 1 := by rw [HRE.out]; simp
      have ho3 : OwnB w2 base (.slice A2 (l'.length + 1) c2) R := by rw [HRE.out]; exact ho2.out
      exact ⟨A2, c2, by rw [hrl]; rfl, by rw [hrl]; exact ho3, hb2.out, hz2.out⟩
end Go.Proofs.Ytaenlkopjmgniaa
