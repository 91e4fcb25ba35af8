/- What the reference's PutText answers. -/
import Derived.Test.YtaenlkopjmgniaaRPut
import Derived.Test.YtaenlkopjmgniaaStr
namespace Go.Proofs.Ytaenlkopjmgniaa
open Go.RowKit

/-- a text's bytes -/
def encT (s : List UInt8) : List UInt8 := enc s.length ++ s

/-- what PutNum and PutText answer: the bytes, and the error -/
def putAns (l : List UInt8) (n : Int) : List UInt8 × Int := if n < 0 then ([], 5) else (l ++ enc n.toNat, 0)
def putTAns (l : List UInt8) (s : ByteArray) : List UInt8 × Int := if s.size > 65536 then ([], 6) else (l ++ encT s.data.toList, 0)

set_option maxHeartbeats 1000000 in
set_option maxRecDepth 100000 in
theorem rputText_any (s : ByteArray) (hs : s.size ≤ 140737488351232) (l : List UInt8) (A : Option Addr) (c : Nat) (w : World) (base : Nat) (ho : OwnB w base (.slice A l.length c) l) (hb : base ≤ w.heap.size) (hl : l.length + s.size ≤ 225179981366000) :
    Calls Try.prog 27 #[.slice A l.length c, .string s] w fun e w' => ∃ A' c', e = .returned (.slice A' (l ++ encT s.data.toList).length c') ∧ OwnB w' base (.slice A' (l ++ encT s.data.toList).length c') (l ++ encT s.data.toList) ∧ Below base w w' ∧ base ≤ w'.heap.size := by
  have hput := rput_any s.size (by omega) l A c w base ho hb (by omega)
  obtain ⟨R, hR⟩ : ∃ R, R = l ++ enc s.size := ⟨_, rfl⟩
  have hRl : R.length ≤ l.length + 9 := by rw [hR, List.length_append]; have := enc_len9 (n := s.size) (by omega); omega
  have hF : l ++ encT s.data.toList = R ++ s.data.toList := by rw [hR, encT, data_len, List.append_assoc]
  rw [← hR] at hput
  rw [hF]
  have HP := Lib.hid hput; clear hput
  clear ho hR hF
  go_enter Try.func27, Try.ntmps27
  go_wp2_with fail
  refine HP.out.mono ?_
  rintro e w1 ⟨A1, c1, rfl, ho1, hb1, hz1⟩
  have HO1 := Lib.hid ho1; clear ho1
  have HB1 := Lib.hid hb1; clear hb1
  go_wp2_with (at_builtin; go_must (refine wpList_addStr rfl _ _ rfl base (.slice A1 R.length c1) R rfl HO1.out s rfl (by omega) (by omega) hz1 base w HB1.out (Nat.le_refl _) ?x4))
  intro A2 c2 w2 ho2 hb2 hz2
  go_wp2_with fail
  go_ret
  have e : (R ++ s.data.toList).length = R.length + s.size := by rw [List.length_append, data_len]
  rw [e]
  exact ⟨A2, c2, rfl, ho2.out, hb2.out, hz2.out⟩
end Go.Proofs.Ytaenlkopjmgniaa
