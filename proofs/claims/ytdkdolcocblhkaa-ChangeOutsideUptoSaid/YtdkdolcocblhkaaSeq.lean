/- Slices of spans and of keys in memory; what the reference's functions over them answer. -/
import Derived.Test.YtdkdolcocblhkaaSmall
import Derived.BigQuiet
import Derived.Deep.QuietTactic
namespace Go.Proofs.Ytdkdolcocblhkaa
open Go.RowKit
attribute [local go_sem] less_eq same_eq le_eq ge_eq gt_eq

/-- a slice value reads as a list of spans; its cells lie below block B -/
def RdS (w : World) (B : Nat) (v : Value) (l : List (K × K)) : Prop :=
  ∃ A c, v = .slice A l.length c ∧ l.length ≤ c ∧ ∀ i s, l[i]? = some s → ∃ b o, A = some ⟨b, o, none⟩ ∧ b < B ∧ w.cell? ⟨b, o + i * 2, none⟩ = some (.string s.1) ∧ w.cell? ⟨b, o + i * 2 + 1, none⟩ = some (.string s.2)
theorem RdS.below {w w' : World} {B C : Nat} {v : Value} {l : List (K × K)} (h : RdS w B v l) (hb : Below C w w') (hC : B ≤ C) : RdS w' B v l := by
  obtain ⟨A, c, hv, hc, hi⟩ := h
  refine ⟨A, c, hv, hc, fun i s hs => ?_⟩
  obtain ⟨b, o, hA, hB, h1, h2⟩ := hi i s hs
  exact ⟨b, o, hA, hB, by rw [hb.cell (p := ⟨b, _, none⟩) (Nat.lt_of_lt_of_le hB hC)]; exact h1, by rw [hb.cell (p := ⟨b, _, none⟩) (Nat.lt_of_lt_of_le hB hC)]; exact h2⟩

def hasB (s : K × K) (k : K) : Bool := decide (s.1 ≤ k) && decide (k < s.2)

set_option maxHeartbeats 400000 in
set_option maxRecDepth 100000 in
theorem in_any (l : List (K × K)) (v : Value) (k : K) (w : World) (hv : RdS w w.heap.size v l) (hl : l.length < 4611686018427387904) : Calls Try.prog 65 #[v, .string k] w fun e w' => e = .returned (.bool (l.any fun s => hasB s k)) ∧ Below w.heap.size w w' := by
  have hv0 := hv
  obtain ⟨A, c, rfl, hc, hi⟩ := hv
  generalize hR : (l.any fun s => hasB s k) = R
  have HR := Lib.hid hR; clear hR
  have HI := Lib.hid hi; clear hi
  have HV := Lib.hid hv0; clear hv0
  obtain ⟨B, hB⟩ : ∃ B, B = w.heap.size := ⟨_, rfl⟩
  rw [← hB] at HI HV
  have hb0 : Below B w w := Below.refl _ _
  have hB' : B ≤ w.heap.size := by omega
  rw [← hB]
  clear hB
  go_enter Try.func65, Try.ntmps65
  go_wp2
  go_loopw [5] (fun i wr => ∃ j : Nat, j ≤ l.length ∧ i = .int .i64 j ∧ Below B w wr ∧ (l.any fun s => hasB s k) = ((l.drop j).any fun s => hasB s k)) (fun i _ => l.length - (intOf i).toNat)
  case atStart => exact ⟨0, Nat.zero_le _, rfl, hb0, rfl⟩
  case round =>
    obtain ⟨j, hj, rfl, hb, he⟩ := hrel
    have HE := Lib.hid he; clear he
    by_cases hlt : j < l.length
    · obtain ⟨b, o, rfl, hbB, h1, h2⟩ := HI.out j l[j] (List.getElem?_eq_getElem hlt)
      have g1 := hb.cell (p := ⟨b, o + j * 2, none⟩) hbB
      have g2 := hb.cell (p := ⟨b, o + j * 2 + 1, none⟩) hbB
      rw [h1] at g1; rw [h2] at g2
      clear h1 h2
      have hd : l.drop j = l[j] :: l.drop (j + 1) := List.drop_eq_getElem_cons hlt
      have HD := Lib.hid hd; clear hd
      cases hx : hasB l[j] k
      all_goals
        have HX := Lib.hid hx
        have hc1 := rhas_any l[j] k wr
        rw [show (decide (l[j].1 ≤ k) && decide (k < l[j].2)) = hasB l[j] k from rfl, hx] at hc1
        clear hx
        go_wp2_with fail
        refine hc1.mono ?_
        rintro e w1 ⟨rfl, hb1⟩
        have hb2 : Below B w w1 := hb.trans (hb1.mono (Nat.le_trans hB' hb.size))
        go_wp2_with fail
      · go_roundw
        case rel => exact ⟨j + 1, by omega, by go_num, hb2, by rw [HE.out, HD.out, List.any_cons, HX.out, Bool.false_or]⟩
        case measure => simp [intOf]; omega
      · go_ret
        exact ⟨by rw [← HR.out, HE.out, HD.out, List.any_cons, HX.out, Bool.true_or]; rfl, hb2⟩
    · go_wp2_with fail
      go_ret
      exact ⟨by rw [← HR.out, HE.out, List.drop_eq_nil_of_le (by omega)]; rfl, hb⟩
end Go.Proofs.Ytdkdolcocblhkaa
