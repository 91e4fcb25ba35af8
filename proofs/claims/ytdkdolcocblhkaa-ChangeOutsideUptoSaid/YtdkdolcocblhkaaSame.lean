/- Same, Join and Without of the reference. -/
import Derived.Test.YtdkdolcocblhkaaRef
namespace Go.Proofs.Ytdkdolcocblhkaa
open Go.RowKit
attribute [local go_sem] less_eq same_eq le_eq ge_eq gt_eq

set_option maxHeartbeats 1000000 in
set_option maxRecDepth 100000 in
theorem same_any (a b : List (K × K)) (va vb : Value) (w : World) (ha : RdS w w.heap.size va a) (hb : RdS w w.heap.size vb b) (hl : a.length ≤ 2000) (hl2 : b.length ≤ 2000) : Calls Try.prog 21 #[va, vb] w fun e w' => e = .returned (.bool (decide (a = b))) ∧ Below w.heap.size w w' := by
  obtain ⟨A, c, rfl, hc, hi⟩ := ha
  obtain ⟨A', c', rfl, hc', hi'⟩ := hb
  have HI := Lib.hid hi; clear hi
  have HI' := Lib.hid hi'; clear hi'
  obtain ⟨R, hR⟩ : ∃ R, R = decide (a = b) := ⟨_, rfl⟩
  rw [← hR]
  have HR := Lib.hid hR; clear hR
  have hne := neq_span
  have hgd := span_guard
  by_cases hlen : a.length = b.length
  · go_enter Try.func21, Try.ntmps21
    rw [← hlen]
    have HLN := Lib.hid hlen; clear hlen
    go_wp2_with fail
    go_loopw [5] (fun i wr => ∃ j : Nat, j ≤ a.length ∧ i = .int .i64 j ∧ Below w.heap.size w wr ∧ ∀ k (h1 : k < a.length) (h2 : k < b.length), k < j → a[k] = b[k]) (fun i _ => a.length - (intOf i).toNat)
    case atStart => exact ⟨0, Nat.zero_le _, rfl, Below.refl _ _, fun k _ _ h => by omega⟩
    case round =>
      obtain ⟨j, hj, rfl, hbw, hall⟩ := hrel
      have HA := Lib.hid hall; clear hall
      by_cases hlt : j < a.length
      · have hlt2 : j < b.length := by have := HLN.out; omega
        obtain ⟨g, o, rfl, hgB, h1, h2⟩ := HI.out j a[j] (List.getElem?_eq_getElem hlt)
        obtain ⟨g', o', rfl, hgB', h1', h2'⟩ := HI'.out j b[j] (List.getElem?_eq_getElem hlt2)
        have c1 := (hbw.cell (p := ⟨g, o + j * 2, none⟩) hgB).trans h1
        have c2 := (hbw.cell (p := ⟨g, o + j * 2 + 1, none⟩) hgB).trans h2
        have c3 := (hbw.cell (p := ⟨g', o' + j * 2, none⟩) hgB').trans h1'
        have c4 := (hbw.cell (p := ⟨g', o' + j * 2 + 1, none⟩) hgB').trans h2'
        clear h1 h2 h1' h2'
        obtain ⟨x, hx⟩ : ∃ x, x = (decide (a[j].1 = b[j].1) && decide (a[j].2 = b[j].2)) := ⟨_, rfl⟩
        have hxe : x = true ↔ a[j] = b[j] := by rw [hx, Bool.and_eq_true, decide_eq_true_iff, decide_eq_true_iff]; exact ⟨fun h => Prod.ext h.1 h.2, fun h => by rw [h]; exact ⟨rfl, rfl⟩⟩
        have hne1 : ∀ W : World, (binOp .neq 48 (.agg #[.string a[j].1, .string a[j].2]) (.agg #[.string b[j].1, .string b[j].2])).run Try.prog W = .ok (.bool (!x)) W := fun W => by rw [hx]; exact neq_span _ _ _ _ W
        clear hne hx
        have HXE := Lib.hid hxe; clear hxe
        cases x
        · go_wp2_with fail
          go_quiet (fail)
          go_wp2_with fail
          go_ret
          have : R = false := by
            rw [HR.out, decide_eq_false_iff_not]
            intro he
            have h := HXE.out.2 (by subst he; rfl)
            cases h
          rw [this]
          exact ⟨rfl, hbw.trans ⟨rfl, rfl, rfl, Nat.le_refl _, fun _ _ => rfl⟩⟩
        · go_wp2_with fail
          go_quiet (fail)
          go_wp2_with fail
          go_roundw
          case rel => exact ⟨j + 1, by omega, by go_num, hbw.trans ⟨rfl, rfl, rfl, Nat.le_refl _, fun _ _ => rfl⟩, fun k h1 h2 hk => by
            rcases Nat.lt_or_ge k j with h' | h'
            · exact HA.out k h1 h2 h'
            · obtain rfl : k = j := by omega
              exact (by simpa using HXE.out)⟩
          case measure => simp [intOf]; omega
      · go_wp2_with fail
        go_ret
        have : R = true := by
          rw [HR.out, decide_eq_true_iff]
          exact List.ext_getElem HLN.out fun k h1 h2 => HA.out k h1 h2 (by omega)
        rw [this]
        exact ⟨rfl, hbw⟩
  · have hd : R = false := by rw [HR.out, decide_eq_false_iff_not]; intro he; exact hlen (by rw [he])
    have HD := Lib.hid hd; clear hd
    go_enter Try.func21, Try.ntmps21
    go_wp2_with fail
    go_ret
    rw [HD.out]
    exact ⟨rfl, Below.refl _ _⟩

/-- a list of the fewest spans of some keys -/
def Fits (l : List (K × K)) (P : K → Prop) : Prop := Normal l ∧ ∀ k, mem l k ↔ P k
theorem Fits.eq {a b : List (K × K)} {P : K → Prop} (h1 : Fits a P) (h2 : Fits b P) : a = b := normal_ext a b h1.1 h2.1 fun k => (h1.2 k).trans (h2.2 k).symm

set_option maxHeartbeats 400000 in
theorem rjoin_any (l : List (K × K)) (v : Value) (w : World) (hv : RdS w w.heap.size v l) (hl : l.length ≤ 100) : Calls Try.prog 39 #[v] w fun e w' =>
    ∃ v' R, e = .returned v' ∧ OwnS w' w.heap.size v' R ∧ Below w.heap.size w w' ∧ Fits R (fun k => mem l k) ∧ R.length ≤ 200 := by
  have hb := build_any l [] v (.slice none 0 0) w hv ⟨none, 0, rfl, Nat.le_refl _, fun i s hs => by simp at hs⟩ (by simpa using hl)
  have hf := build_ok l []
  generalize bgo l [] [] ((l ++ []).foldl ends2 []) = R at hb hf
  have HB := Lib.hid hb; clear hb
  have HF := Lib.hid hf; clear hf
  go_enter Try.func39, Try.ntmps39
  go_wp2_with fail
  refine HB.out.mono ?_
  rintro e w1 ⟨v1, rfl, ho, hb, hlen⟩
  have HO := Lib.hid ho; clear ho
  have HB1 := Lib.hid hb; clear hb
  go_wp2_with fail
  go_ret
  exact ⟨v1, R, rfl, HO.out, HB1.out, ⟨HF.out.1, fun k => by rw [HF.out.2 k]; simp [mem_nil]⟩, hlen⟩

set_option maxHeartbeats 400000 in
theorem rwithout_any (s : K × K) (l : List (K × K)) (v : Value) (w : World) (hv : RdS w w.heap.size v l) (hl : l.length ≤ 90) : Calls Try.prog 43 #[.agg #[.string s.1, .string s.2], v] w fun e w' =>
    ∃ v' R, e = .returned v' ∧ OwnS w' w.heap.size v' R ∧ Below w.heap.size w w' ∧ Fits R (fun k => has s k ∧ ¬ mem l k) ∧ R.length ≤ 200 := by
  have hb2 : Below w.heap.size w ((w.alloc (.cells #[.string s.1, .string s.2] 48)).alloc (.cells #[.string s.1, .string s.2] 48)) := ((Below.refl _ w).alloc (Nat.le_refl _) _).alloc (by simp) _
  have h1 : RdS ((w.alloc (.cells #[.string s.1, .string s.2] 48)).alloc (.cells #[.string s.1, .string s.2] 48)) (w.heap.size + 2) (.slice (some ⟨w.heap.size + 1, 0, none⟩) 1 1) [s] := by
    refine ⟨_, 1, rfl, Nat.le_refl _, fun i t ht => ⟨w.heap.size + 1, 0, rfl, by omega, ?_, ?_⟩⟩
    all_goals
      rw [World.cell?_alloc_at _ _ _ _ (by simp)]
      match i, ht with
      | 0, ht => simp at ht; subst ht; rfl
  have hb := build_any [s] l (.slice (some ⟨w.heap.size + 1, 0, none⟩) 1 1) v _ (by simpa using h1) ((hv.below hb2 (Nat.le_refl _)).mono hb2.size) (by simp; omega)
  have hf := build_ok [s] l
  generalize bgo [s] l [] (([s] ++ l).foldl ends2 []) = R at hb hf
  have HB := Lib.hid hb; clear hb
  have HF := Lib.hid hf; clear hf
  have HB2 := Lib.hid hb2; clear hb2 h1
  go_enter Try.func43, Try.ntmps43
  go_wp2_with fail
  refine HB.out.mono ?_
  rintro e w1 ⟨v1, rfl, ho, hb, hlen⟩
  have HO := Lib.hid ho; clear ho
  have HB1 := Lib.hid hb; clear hb
  go_wp2_with fail
  go_ret
  exact ⟨v1, R, rfl, HO.out.lower (by simp; omega), HB2.out.trans (HB1.out.mono (by simp; omega)), ⟨HF.out.1, fun k => by rw [HF.out.2 k]; simp [mem]⟩, hlen⟩
end Go.Proofs.Ytdkdolcocblhkaa
