/- slices.Replace: a part of a slice of the call's own, by at most one pair. -/
import Derived.Test.YtdkdolcocblhkaaInsert
namespace Go.Proofs.Ytdkdolcocblhkaa
open Go.RowKit

theorem grown_drew (w : World) (row : Option Nat) : w.grownBy w.drew row := ⟨rfl, rfl, rfl, Nat.le_refl _, fun _ _ _ => rfl⟩
theorem grown_same (w : World) (row : Option Nat) : w.grownBy w row := ⟨rfl, rfl, rfl, Nat.le_refl _, fun _ _ _ => rfl⟩
/-- what is put in, for a walk -/
theorem OneAt.form {w : World} {v vp : Value} {p : List (K × K)} (h : OneAt w v p vp) : ∃ sp mc, vp = .slice sp p.length mc ∧ p.length ≤ 1 ∧ ∀ w' g, v.ownBlock = some g → w.grownBy w' (some g) → Srcs w' sp (flatG cellsS p) := by
  rcases h with ⟨rfl, rfl⟩ | ⟨x, vb, rfl, rfl, hv, hne⟩
  · exact ⟨none, 0, rfl, by simp, fun w' g _ _ => Srcs.nil _ _⟩
  · refine ⟨some ⟨vb, 0, none⟩, 1, rfl, by simp, fun w' g hg hw => ?_⟩
    have hv' : Whole w' vb 57 (cellsS x) := hv.grown hw (by rw [← hg]; exact hne)
    rw [show flatG cellsS [x] = cellsS x by simp [flatG]]
    exact Srcs.of (hv'.srcs 0 _ (fun j v hj => by rwa [Nat.zero_add]))

set_option maxHeartbeats 8000000 in
set_option maxRecDepth 100000 in
theorem replace_same (l : List (K × K)) (i : Nat) (hi : i ≤ l.length) (p : List (K × K)) (v vp : Value) (w : World) (base : Nat) (hown : OwnP w base v l) (hbase : base ≤ w.heap.size) (hp : OneAt w v p vp) (hlen : l.length + 1 ≤ 7036874417000) :
    Calls Try.prog 49 #[v, .int .i64 i, .int .i64 i, vp] w fun e w' =>
      ∃ A' c', e = .returned (.slice A' (l.take i ++ p ++ l.drop i).length c') ∧ OwnP w' base (.slice A' (l.take i ++ p ++ l.drop i).length c') (l.take i ++ p ++ l.drop i) ∧ w.grownBy w' v.ownBlock := by
  have hcon := sinsert_any l i hi p v vp w base hown hbase hp hlen
  obtain ⟨A, c, rfl, hc, hcm⟩ := hown.slice
  obtain ⟨L, hL⟩ : ∃ L, L = l.take i ++ p ++ l.drop i := ⟨_, rfl⟩
  rw [← hL] at hcon ⊢
  generalize L.length = z at hcon ⊢
  generalize (Value.slice A l.length c).ownBlock = row at hcon ⊢
  obtain ⟨sp, mc, rfl, hm, hs⟩ := hp.form
  clear hs hp hown hL
  have HC := Lib.hid hcon; clear hcon
  have hb0 : (i : Int) ≤ (c : Int) := by omega
  generalize l.length = n at *
  generalize p.length = m at *
  by_cases hci : c = i
  · subst hci
    go_enter Try.func49, Try.ntmps49
    go_wp2_with fail
    refine HC.out.mono ?_
    rintro e w1 ⟨A', c', rfl, h1, h2⟩
    have HO1 := Lib.hid h1; clear h1
    have HG1 := Lib.hid h2; clear h2
    go_wp2_with fail
    go_ret
    exact ⟨A', c', rfl, HO1.out, HG1.out⟩
  · go_enter Try.func49, Try.ntmps49
    go_wp2_with fail
    refine HC.out.mono ?_
    rintro e w1 ⟨A', c', rfl, h1, h2⟩
    have HO1 := Lib.hid h1; clear h1
    have HG1 := Lib.hid h2; clear h2
    go_wp2_with fail
    go_ret
    exact ⟨A', c', rfl, HO1.out, HG1.out⟩
end Go.Proofs.Ytdkdolcocblhkaa
