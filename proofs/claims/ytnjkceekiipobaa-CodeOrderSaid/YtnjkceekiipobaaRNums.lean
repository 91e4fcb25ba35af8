/- What the reference's Nums, Split and Ints answer. -/
import Derived.Test.YtnjkceekiipobaaRPut
import Derived.Test.YtnjkceekiipobaaRNum
import Derived.Test.YtnjkceekiipobaaInts
import Derived.Test.YtnjkceekiipobaaPlanB
namespace Go.Proofs.Ytnjkceekiipobaa
open Go.RowKit

/-- numbers' bytes, one behind the other -/
def encs (l : List Int) : List UInt8 := l.flatMap fun n => enc n.toNat
theorem encs_append (a b : List Int) : encs (a ++ b) = encs a ++ encs b := by simp [encs]
theorem encs_len (l : List Int) (h : ∀ n ∈ l, n < 9223372036854775808) : (encs l).length ≤ l.length * 9 := by
  induction l with
  | nil => simp [encs]
  | cons x r ih =>
    have h1 := ih (fun n hn => h n (by simp [hn]))
    have h2 := enc_len9 (n := x.toNat) (by have := h x (by simp); omega)
    have : encs (x :: r) = enc x.toNat ++ encs r := rfl
    rw [this, List.length_append, List.length_cons]
    omega
/-- what Nums answers -/
def numsAns (l : List Int) : List UInt8 × Int := if l.length > 4096 then ([], 6) else if l.any (· < 0) then ([], 5) else (encs l, 0)

set_option maxHeartbeats 2000000 in
set_option maxRecDepth 100000 in
theorem rnums_any (l : List Int) (hr : ∀ n ∈ l, n < 9223372036854775808) (v : Value) (w : World) (hv : RdI w w.heap.size v l) (hl : l.length < 4611686018427387904) :
    Calls Try.prog 20 #[v] w fun e w' => ∃ v', e = .returned (.tuple #[v', .int .i64 (numsAns l).2]) ∧ RdB w' w'.heap.size v' (numsAns l).1 ∧ Below w.heap.size w w' := by
  obtain ⟨A, c, rfl, hc, hi⟩ := hv.at
  by_cases hbig : l.length > 4096
  · rw [numsAns, if_pos hbig]
    have hb : (4096 : Int) < (l.length : Int) := by omega
    clear hi hv
    go_enter Try.func20, Try.ntmps20
    go_wp2_with fail
    go_ret2
    exact ⟨_, rfl, Rd.nil _ _, Below.refl _ _⟩
  · obtain ⟨R, hR⟩ : ∃ R, R = numsAns l := ⟨_, rfl⟩
    rw [← hR]
    rw [numsAns, if_neg hbig] at hR
    have hb : ¬ (4096 : Int) < (l.length : Int) := by omega
    have HR := Lib.hid hR; clear hR
    have HI := Lib.hid hi; clear hi
    have HV := Lib.hid hv; clear hv
    have HH := Lib.hid hr; clear hr
    obtain ⟨g, hg⟩ : ∃ g, g = w.heap.size := ⟨_, rfl⟩
    have HG := Lib.hid hg; clear hg
    go_enter Try.func20, Try.ntmps20
    go_wp2_with fail
    go_loopw [4, 5] (fun ov iv wr => ∃ (i : Nat) (A' : Option Addr) (c' : Nat), i ≤ l.length ∧ iv = .int .i64 i ∧ ov = .slice A' (encs (l.take i)).length c' ∧ OwnB wr g (.slice A' (encs (l.take i)).length c') (encs (l.take i)) ∧ Below g w wr ∧ g ≤ wr.heap.size ∧ (l.take i).any (· < 0) = false) (fun _ iv _ => l.length - (intOf iv).toNat)
    case atStart => exact ⟨0, _, _, Nat.zero_le _, rfl, rfl, by rw [HG.out]; exact Own.empty _ _ (Nat.le_refl _), by rw [HG.out]; exact (Below.refl _ _).alloc (Nat.le_refl _) _, by rw [HG.out]; simp, rfl⟩
    case round =>
      obtain ⟨i, A', c', hil, rfl, rfl, ho, hbw, hgs, han⟩ := hrel
      have hel := encs_len (l.take i) (fun n hn => HH.out n (List.mem_of_mem_take hn))
      have hti : (l.take i).length ≤ i := by simp; omega
      have hel2 : (encs (l.take i)).length ≤ 36864 := by omega
      clear hti
      have HO := Lib.hid ho; clear ho
      have HB := Lib.hid hbw; clear hbw
      have HA := Lib.hid han; clear han
      clear hel
      by_cases hlt : i < l.length
      · obtain ⟨b, o, rfl, hbB, h1⟩ := HI.out i hlt
        have hx := HB.out.cell (p := ⟨b, o + i, none⟩) (by rw [HG.out]; exact hbB)
        rw [h1] at hx
        have hmem := HH.out l[i] (List.getElem_mem hlt)
        have htk : l.take (i + 1) = l.take i ++ [l[i]] := by rw [List.take_add_one, List.getElem?_eq_getElem hlt]; rfl
        have hany : l[i] < 0 → l.any (· < 0) = true := fun h => List.any_eq_true.2 ⟨l[i], List.getElem_mem hlt, by simpa using h⟩
        generalize l[i] = z at h1 hx hmem htk hany
        clear h1
        by_cases hz : z < 0
        · have hr := HR.out
          rw [if_pos (hany hz)] at hr
          have HR2 := Lib.hid hr; clear hr hany htk
          go_wp2_with fail
          go_ret2
          exact ⟨_, by rw [HR2.out]; rfl, by rw [HR2.out]; exact Rd.nil _ _, by have h := HB.out; rw [HG.out] at h; exact h⟩
        · obtain ⟨n, rfl⟩ : ∃ n : Nat, z = (n : Int) := ⟨z.toNat, by omega⟩
          have hput := rput_any n (by omega) (encs (l.take i)) A' c' wr g HO.out hgs (by omega)
          have he : encs (l.take (i + 1)) = encs (l.take i) ++ enc n := by rw [htk, encs_append]; simp [encs]
          have ha : (l.take (i + 1)).any (· < 0) = false := by rw [htk, List.any_append, HA.out]; simp
          have HP := Lib.hid hput; clear hput
          have HE := Lib.hid he
          have HAA := Lib.hid ha
          clear he ha hany htk hz hmem
          go_wp2_with fail
          refine HP.out.mono ?_
          rintro e w2 ⟨A2, c2, rfl, ho2, hb2, hz2⟩
          have ho3 := ho2
          rw [← HE.out] at ho3
          have hln : (encs (l.take i) ++ enc n).length = (encs (l.take (i + 1))).length := by rw [HE.out]
          have HO2 := Lib.hid ho3
          have HB2 := Lib.hid (HB.out.trans hb2)
          have HLN := Lib.hid hln
          clear ho2 hb2 ho3 hln
          go_wp2_with fail
          go_roundw
          case rel => exact ⟨i + 1, A2, c2, by omega, by go_num, by rw [← HLN.out, List.length_append], HO2.out, HB2.out, hz2, HAA.out⟩
          case measure => simp [intOf]; omega
      · obtain rfl : i = l.length := by omega
        rw [List.take_length] at HO HA
        have hr := HR.out
        rw [HA.out, if_neg (by simp)] at hr
        have HR2 := Lib.hid hr; clear hr
        go_wp2_with fail
        go_ret2
        exact ⟨.slice A' (encs l).length c', by rw [HR2.out, List.take_length]; rfl, by rw [HR2.out]; exact HO.out.rdB, by have h := HB.out; rw [HG.out] at h; exact h⟩
end Go.Proofs.Ytnjkceekiipobaa
