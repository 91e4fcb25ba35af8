/- slices.Replace: a part of a slice of the own call, by at most one pair. -/
import Derived.Test.YtdkdolcocblhkaaRep2
import Derived.Test.YtdkdolcocblhkaaRep3
import Derived.Test.YtdkdolcocblhkaaRep4
namespace Go.Proofs.Ytdkdolcocblhkaa
open Go.RowKit

set_option maxRecDepth 100000 in
/-- a part of the slice, by at most one pair -/
theorem sreplace_any (l : List (K × K)) (i j : Nat) (hij : i ≤ j) (hj : j ≤ l.length) (p : List (K × K)) (v vp : Value) (w : World) (base : Nat) (hown : OwnP w base v l) (hbase : base ≤ w.heap.size) (hp : OneAt w v p vp) (hlen : l.length + 1 ≤ 7036874417000) :
    Calls Try.prog 49 #[v, .int .i64 i, .int .i64 j, vp] w fun e w' =>
      ∃ A' c', e = .returned (.slice A' (l.take i ++ p ++ l.drop j).length c') ∧ OwnP w' base (.slice A' (l.take i ++ p ++ l.drop j).length c') (l.take i ++ p ++ l.drop j) ∧ w.grownBy w' v.ownBlock := by
  by_cases he : i = j
  · subst he
    exact replace_same l i hj p v vp w base hown hbase hp hlen
  rcases hown.row with ⟨rfl, rfl⟩ | ⟨g, cap, cur, rfl, hbg, hg, h1, h2, h3, h4⟩
  · simp at hj; omega
  obtain ⟨sp, mc, rfl, hm, hs⟩ := hp.form
  have hs' := hs w g rfl (grown_same _ _)
  have fA : (flatG cellsS (l.take i)) = cur.take (i * 2) := by rw [flatG_take cellsS_len, ← h4, List.take_take, Nat.min_eq_left (by omega)]
  have hcs : (flatG cellsS p).length = p.length * 2 := flatG_length cellsS_len p
  by_cases hjn : j = l.length
  · subst hjn
    rw [List.drop_length, List.append_nil]
    have hL : (l.take i ++ p).length = i + p.length := by rw [List.length_append, List.length_take, Nat.min_eq_left hij]
    have fin : ∀ cur' w', Whole w' g 57 cur' → cur'.length = cap * 2 → cur'.take ((i + p.length) * 2) = cur.take (i * 2) ++ flatG cellsS p → w.grownBy w' (some g) →
        ∃ A' c', Ending.returned (Value.slice (some ⟨g, 0, none⟩) (i + p.length) cap) = .returned (.slice A' (l.take i ++ p).length c') ∧ OwnP w' base (.slice A' (l.take i ++ p).length c') (l.take i ++ p) ∧ w.grownBy w' (Value.slice (some ⟨g, 0, none⟩) l.length cap).ownBlock := fun cur' w' k1 k2 k3 k4 =>
      ⟨some ⟨g, 0, none⟩, cap, by rw [hL], Own.ofRow cellsS_len _ hbg k1 (by rw [hL]; omega) h2 k2 (by rw [hL, k3, flatG_append, fA]), k4⟩
    by_cases hlt : i + p.length < l.length
    · refine (replace_endLt i l.length p.length cap mc g sp cur (flatG cellsS p) w hg hcs hs' (cellsS_one' _) (by omega) h1 h2 hm h3 hlt).mono ?_
      rintro e w' ⟨rfl, cur', k1, k2, k3, k4⟩
      exact fin cur' w' k1 k2 k3 k4
    · refine (replace_endEq i l.length p.length cap mc g sp cur (flatG cellsS p) w hg hcs hs' (cellsS_one' _) (by omega) h1 h2 hm h3 (by omega)).mono ?_
      rintro e w' ⟨rfl, cur', k1, k2, k3, k4⟩
      exact fin cur' w' k1 k2 k3 k4
  · have hd : (l.drop j).length = l.length - j := List.length_drop
    have hds : (flatG cellsS (l.drop j)).length = (l.length - j) * 2 := by rw [flatG_length cellsS_len, hd]
    have hdc : ∀ t v, (flatG cellsS (l.drop j))[t]? = some v → cur[j * 2 + t]? = some v := by
      have h5 : cur.take (l.length * 2) = flatG cellsS (l.take j) ++ flatG cellsS (l.drop j) := by rw [h4, ← flatG_append, List.take_append_drop]
      have h6 := cells_at h5
      rw [flatG_length cellsS_len, List.length_take, Nat.min_eq_left hj] at h6
      exact h6
    have hL : (l.take i ++ p ++ l.drop j).length = i + p.length + (l.length - j) := by rw [List.length_append, List.length_append, List.length_take, Nat.min_eq_left (by omega), hd]
    have fin : ∀ cur' w', Whole w' g 57 cur' → cur'.length = cap * 2 → cur'.take ((i + p.length + (l.length - j)) * 2) = cur.take (i * 2) ++ flatG cellsS p ++ flatG cellsS (l.drop j) → w.grownBy w' (some g) →
        ∃ A' c', Ending.returned (Value.slice (some ⟨g, 0, none⟩) (i + p.length + (l.length - j)) cap) = .returned (.slice A' (l.take i ++ p ++ l.drop j).length c') ∧ OwnP w' base (.slice A' (l.take i ++ p ++ l.drop j).length c') (l.take i ++ p ++ l.drop j) ∧ w.grownBy w' (Value.slice (some ⟨g, 0, none⟩) l.length cap).ownBlock := fun cur' w' k1 k2 k3 k4 =>
      ⟨some ⟨g, 0, none⟩, cap, by rw [hL], Own.ofRow cellsS_len _ hbg k1 (by rw [hL]; omega) h2 k2 (by rw [hL, k3, flatG_append, flatG_append, fA]), k4⟩
    by_cases hc : cap = i + p.length + (l.length - j)
    · refine (replace_midEq i j l.length p.length (l.length - j) cap mc g sp cur (flatG cellsS p) (flatG cellsS (l.drop j)) w hg hcs (fun w' h => hs w' g rfl h) (cellsS_one' _) (by omega) (by omega) (by omega) h1 h2 hm h3 hds hdc (cellsS_one' _) _ _ rfl rfl hc).mono ?_
      rintro e w' ⟨rfl, cur', k1, k2, k3, k4⟩
      exact fin cur' w' k1 k2 k3 k4
    · refine (replace_midLt i j l.length p.length (l.length - j) cap mc g sp cur (flatG cellsS p) (flatG cellsS (l.drop j)) w hg hcs (fun w' h => hs w' g rfl h) (cellsS_one' _) (by omega) (by omega) (by omega) h1 h2 hm h3 hds hdc (cellsS_one' _) _ _ rfl rfl hc).mono ?_
      rintro e w' ⟨rfl, cur', k1, k2, k3, k4⟩
      exact fin cur' w' k1 k2 k3 k4
end Go.Proofs.Ytdkdolcocblhkaa
